import PyProof.Rows.All
import Wide.All
import OpenK.AllK
import Wide.FinOn
import Lean
import PyProof.EqAt
import PyProof.EqKinds
import PyProof.TupleCall
import PyProof.NeKinds
import PyProof.ZipIter
import PyProof.EnumMake
import PyProof.InstStoreFacts
import Open.Row
import KE.KDictOf
import PyProof.AttrMissHeap
import PyProof.Rows.MinMaxN
import PySem.Challenge.RW_wallplan_k26_long_moves
set_option Elab.async false
set_option linter.all false
set_option maxRecDepth 100000
set_option maxHeartbeats 0
local macro_rules | `(tactic| omega) => `(tactic| lia)
set_option hygiene false
local macro_rules|`(↥$x)=>`(RM (.d (.int $x)))|`(⇑$x)=>`(RM (.d $x))|`($x∘$y)=>`(.cons $x $y)|`(↑$x)=>`(.var $x)|`($x⁻¹)=>`(($x).heap.objs.size)|`('0')=>`((by omega))|`('1')=>`((by decide))|`('2')=>`((by simp))|`('3')=>`((λ_ z=>nomatch z))|`('4')=>`((λz=>nomatch z))|`('5')=>`((.refl _))
set_option hygiene true
abbrev Ω3:=@List.mem_map
abbrev Ω2:=@List.mem_cons
abbrev Ω1:=@List.mem_singleton
abbrev Ω0:=@List.getElem?_eq_some_iff
abbrev Ω:=@List.mem_append
abbrev Ψ3:=@Array.getElem?_eq_some_iff
abbrev Ψ2:=@List.mem_iff_getElem?
abbrev Ψ1:=@Option.map_eq_some_iff
abbrev Ψ0:=@List.all_eq_true
abbrev Ψ:=@List.mem_filter
abbrev Φ3:=@List.nodup_cons
abbrev Φ2:=@decide_eq_true
abbrev Φ1:=@decide_eq_false
abbrev Φ0:=@of_decide_eq_true
abbrev Φ:=@decide_eq_true_eq
abbrev Ξ3:=@if_neg
abbrev Ξ2:=@if_pos
abbrev Ξ1:=@absurd
abbrev Ξ0:=@congrArg
abbrev Ξ:=@beq_eq_false_iff_ne
abbrev Θ3:=@beq_iff_eq
abbrev Θ2:=@decide_eq_false_iff_not
abbrev Θ1:=@Option.isSome_iff_exists
abbrev Θ0:=@List.pairwise_cons

open Option renaming some->RM,none->RP,map_some->U7,getD_none->Wb,map_eq_some_iff->WZ,getD_some->YD,isSome_some->aae
open PySem.Str renaming ofString->RN
open PySem renaming wpAny_bind->RO,Value->RR,wpAny_pure->RS,Shared->RU,Addr->RW,sizeLine->R1,model->Sb,Program->Sf,Expr->Sj,starEach->Sq,tupleKeyHash->Sw,World->Sx,Str->Sy,Around->SF,Heap->SJ,wpAny_holding->SS,SetTable->SV,compareOp->Tb,mainGlobals->Ti,Obj->Tn,intKind->To,wpAny_call_entry->Tq,sizeLine_eq->TH,wpAny_loadPart_at->TJ,cLine->TL,wpAny_mono->TM,wpAny_truthy_bool->T9,wpAny_newObj_type->T_,FuncData->Ua,bootBuiltins->Uh,mem_of_lookup->Ul,wpAny_setState_of->Um,Pos->Uq,wpAny_standAt->Ut,eval->Ux,wpAny_forIn_list->Uz,sysModules->UC,assignEach->UD,Stmt->UL,Scope->UM,backTo->UP,wpAny_askSetting->UT,swappedStores->UU,wpAny_typeNameOfWhole_keyiter->U0,swapsWith->U2,foldedSetIterable->U3,cellsFrom->Vc,binaryOp->Ve,NameKind->Vf,wpAny_setField->Vg,wpAny_passesOwn->Vl,wpAny_specialOf->Vm,codeAny_builtin->Vn,wpAny_typeNameOf_keyiter->Vs,wpAny_isInstance->Vv,wpAny_callSpecial?_slot->Vy,codeAny_mono->VC,letOwnedTupleGo->VN,KeyKind->VS,behindInMarks->VT,rawInt->VZ,wpAny_pyIter_list->V1,wpAny_seqItems->V3,intKind_is->V6,codeAny_call_builtin->V7,Keyword->Wc,pushCells->Wd,CmpOp->Wg,attributeBase->Wn,standAt->Wx,wpAny_Call_Name_kw->WC,call->WD,sliceBounds->WH,DictEntry->WI,pyNext->WL,wpAny_storeSet_of->WV,wpAny_pyIter_slot->WX,sizeLine->W7,Model->W8,isSubtype_tuple_tuple->W9,builtinLookup_eq_fast->W_,wpAny_rule->Xd,noteFrame->Xf,putSet_of->Xg,valueAt->Xj,wpAny_attempt->Xl,keywordEach->Xm,hashByValue->Xo,wpAny_of_eq->Xr,wpAny_execs_nil->Xx,Params->Xy,codeAny_of_tree->XB,wpAny_setEntries_of->XG,Sem->XH,wpAny_typeOf->XJ,PassesOwn->XQ,setFlight->XR,Env->XS,typeLookup->XX,wpAny_tupleItemsOf->X1,wpAny_eqBool_tuple->X2,isInstance->X3,wpAny_fieldsOf->X5,firstArgMember->X6,holding->Ye,ofAClassStatement->Yi,wpAny_dictEntries->Yk,wpAny_field->Yl,unsupported->Ym,assign->Yn,swapsWithSole->Yo,wpAny_newList->Yt,Comprehension->Yu,Arguments->Yw,noFill_tuple_add->Yx,checkBuiltinCall->YC,builtinsNs->YN,rule->YQ,wpAny_pyNext_list_item->YR,wpAny_call->YS,wpAny_Call_method_late->YV,call_meetsIn->Y6,Tok->Y7,wpAny_loadPart'->Y_,pushCells_keeps->Zb,wpAny_dictEpoch->Zc,typeLookup_type->Zd,wpAny_pyNext_list_end->Zg,wpAny_eqIsQuiet_tuple->Zi,wpAny_notOrdered_dict->Zj,wpAny_isOneOf_keyiter->Zl,GenState->Zr,isTrue->Zt,bindName->Zu,Operator->Zv,typeOf->Zx,backToKw->Zy,carriedByValue->ZE,setAddHashedIn->ZK,setField->ZL,wpAny_pyIter_keyiter->ZM,isSubtype_type->ZN,excClassObj->ZQ,unbindBehindTheSuite->ZR,boot_len->ZS,lastMarks->ZT,callerA->ZU,pickOrder->ZV,wpAny_isSubtype_exc->ZY,assignInOrder->Z1,seq_tuple_add->Z2,pyIter->Z8,PlainAttrs->aad,bindArgs->aar,concat_meets->aat,seqIndex_neg->aau,compTurn->aaw,setAddHashed->aaC,collect->aaD,atKey->aaG,getAttr?->aaH,eqIsQuiet->aaO,setAdd->aaQ,seqIndex_of->aaR,subscripted->aaS,wpAny_alloc->aaU,storedH->aaV
open Bool renaming true->RQ,false->RT,and_eq_true->R4,false_eq_true->Sg,not_true->Tv,false_ne_true->Tw,not_eq_true'->TK,or_eq_true->Ue,eq_iff_iff->UO,or_eq_false_iff->Xw
open List renaming length_map->RV,mem_cons_self->RX,mem_cons_of_mem->RZ,getElem?_eq_getElem->R_,size_toArray->Se,mem_append_right->Sk,getElem?_map->Sn,map_cons->Sr,length_cons->Ss,map_append->SA,mem_of_getElem?->SE,range->SQ,length_append->SR,mem_append_left->SX,getElem?_append_right->SY,map_map->S7,append_assoc->Ta,length_nil->Td,lookup_cons->Th,all_eq_true->Tj,mem_cons->Ts,replicate->Tu,toArray->Tz,getElem?_append_left->TB,append_nil->TF,filterMap_cons->TQ,getD_eq_getElem?_getD->TY,not_mem_nil->T5,length->T6,getElem?_set->Ub,nodup_append->Uc,take_append_drop->Ur,zip_cons_cons->Uy,extract_eq_drop_take->UR,length_replicate->US,all_cons->UW,getElem?_replicate->U4,getElem?_cons_succ->U6,map_congr_left->Va,any_cons->Vb,length_singleton->Vi,perm_append_comm->Vk,mem_map_of_mem->Vt,isEmpty_nil->Vz,getElem?_cons_zero->VA,map_nil->VD,take_of_length_le->VF,mem_singleton->VI,find?_cons->VO,perm_ext_iff_of_nodup->V5,length_take->Wa,any_eq_true->Wf,getElem?_zip_eq_some->Wh,getElem?_take_of_lt->Wl,length_erase_of_mem->Wr,getElem?_set_self->WK,forIn_nil->WT,length_pos_of_mem->WU,length_range->WW,reverse_perm->W5,length_filter_le->Xb,length_drop->Xe,forIn_cons->XD,getElem?_drop->X4,perm_append_singleton->X9,mem_of_find?_eq_some->X_,drop_eq_getElem_cons->Yb,map_take->Yr,map_drop->Ys,eraseIdx_cons_succ->Yy,ext_getElem->YA,drop_length->YE,filter_cons_of_pos->YK,filter_cons_of_neg->YL,of_mem_zip->Y9,length_set->Za,mem_append->Zf,getElem?_set_ne->Zs,pairwise_append->ZF,mem_of_mem_take->ZG,mem_of_mem_drop->ZH,mem_erase_of_ne->ZI,zip_nil_right->aac,take_sublist->aas,mem_map->aaB,ext_getElem?->aaE,any_map->aaL,lookup->aaT,map->aba
open PySem.Heap renaming get?_push_of_some->RY,lt_size->Sa,get?_push_size->Sl,get?_update_self->Te,get?_update_other->Tp,SameBut->TR,size_push->UX
open PySem.W renaming Frag->R0,kia_one->TC,kitOne->TZ,codeIn->UG,nsIn->UI,kit_cls->VR,Looks->VW,mg_of->VX,keepIn->V2,kitCls->V8,findIn->WM,cellsFrom_some->WN,looks_findIn->Xt,methodObj->Yd,kitx_list->Yf,kas_rev->Yj,next->YO,fnOf->YT,hashAt->Y0,kas_descPart->Y2,instObj->Y8,lookIn->Zw,kitx_tuple->Z9,callWith_K->Z_,codeRec_of->aaa,mg_none_of->aal,kitx_dict->aaq,kas_tail3->aaP
open Option.some renaming inj->R3,injEq->UH
open Nat renaming le_refl->R5,lt_of_lt_of_le->Su,ne_of_lt->SD,zero_le->SH,le_trans->SO,exists_eq_add_of_le'->Tf,lt_irrefl->Tr,eq_of_beq_eq_true->TN,ne_of_gt->UE,not_lt_zero->UN,lt_trichotomy->U5,lt_succ_self->Vd,lt_succ_of_lt->Vo,beq->Vu,reduceAdd->VY,le_of_lt->V_,le_add_right->We,add_assoc->Wo,reduceSub->Ww,lt_of_le_of_lt->WE,succ_pos->XI,add_sub_cancel_left->YH,lt_trans->YW,le_of_eq->YX,div_div_eq_div_mul->YY,mod_lt->YZ,le_succ->ZO,add_zero->aax,le_of_lt_succ->aay
open PySem.SetTable renaming bits->R6,below->Sh,insertAt->SU,runEnd->SW,turns->TX,Probe->UY,grown->Vw,leap->VV,fill->Xk,layClean->Yh,fits->Yq,sizeAbove->aah
open PyProof.Rows renaming wpS_bind->R8,wpS_pure->Si,pendingOf->Sv,Keyed->Sz,SortSt->SK,seqObj->Uu,SortKind->UA,elem'->UJ,IntsAre->UQ,arrOf->UZ,wpS_modify->VL,get?_update_seq->VQ,callWith_type1->V0,listUpdate_at->Wu,wpS_get->W0,AllBare->Xi,seqEpoch_at->Xp,wpS_mono->Xu,assignInOrder_cons->XU,envOfC->Yp,failedOf->YB,subscriptTail_builtinR->YU,wpS->Zq,subscriptTail->Z3,IsTup->aao
open Array renaming getElem?_eq_getElem->R9,length_toList->SN,getD_eq_getD_getElem?->Tc,toList_append->TU,getElem?_toList->T7,getElem?_eq_none->Ui,toList_push->Uo,perm_iff_toList_perm->UK,size_push->U9,toList_extract->Vq,toList_map->Vx,forIn_toList->VE,mem_toList_iff->V4,toList_reverse->V9,size_append->W4,getElem?_setIfInBounds->Xz,toList_setIfInBounds->X8,toList_filterMap->Y1,toList_modify->Z0,getD->aag,size_extract->aaj
open PySem.Value renaming ref->Sm,none->SG,int->U1,builtin->Wq,bool->Z6,type->Z7,str->aaM
open PySem.Heap.SameBut renaming update->S_
open List.Perm renaming append_left->Tt,trans->Uw,append_right->VM,of_eq->WB
open PySem.Obj renaming data_mapFields->Tx,mapSeq->TV,isFreed_of_fields->Us,mapFields->UB,cls_mapFields->WY,putSet->aai
open PySem.NameKind renaming cell->T4,free->Ud
open Ne renaming symm->T8
open List.cons renaming inj->Ug,injEq->VP
open PySem.Builtin.Tuple renaming tupleHashOf->Uj,tupleItemsOf->XZ
open False renaming elim->Uk
open ForInStep renaming yield->Uv,done->W3
open PySem.F renaming slot_dict_keyiterator_next->U8,slot_dict_get->Vj,entry_dict_get->VJ,args_tuple_add_2->Wm,entry_tuple_add->WG,slot_tuple_add->WO,typeOf_object_class->Xa,args_dict_keyiterator_next_1->Xh,entry_dict_keyiterator_next->Xq,slot_set_add->Xs,slot_enumerate_iter->XO,slot_tuple_index->Yv,slot_tuple_hash->Yz,plainAttrs_list->YF,args_dict_get_2->YG,args_dict_get_3->YI,args_set_add_2->Y4,slot_tuple_eq->Zh,slot_set_iter->Zm,entry_set_add->Zn,plain_set_new->Zo
open PyProof.Rows.F renaming plain_set_update_loop->U_,entry_set_update_loop->Wj
open PySem.Code renaming quiet_builtin->Vh
open PySem.Around renaming under_plainId->Vp
open PySem.SeqAt renaming EqAt->Vr,RcNeAt->XN,RcAt->Y5
open PySem.Challenge renaming rw_wallplan_k26_long_moves->VB
open Int renaming emod_lt_of_pos->VG,emod_nonneg->Wz,toNat_natCast->WQ,le_trans->W6,le_refl->Xv,le_antisymm->Ze,lt_of_lt_of_le->aan
open PySem.SetTable.layClean renaming free->VH
open Prod.mk renaming injEq->VU
open List.Pairwise renaming imp_of_mem->Ws
open PySem.Builtin.Frozenset renaming addrOf->Wv,oneOther->X7
open PySem.W.KasT renaming kasWp_bind->WA,ret->aa2
open Sum renaming inl->WJ,inr->Yc
open PySem.Calls renaming callWith_builtin->WR,evalArgs_plain->Xn,Name_function_global->XT,call_function_entry->Ya,call_len_list->ZW
open Or renaming inl->WS,inr->XY
open PySem.Builtin.Dict_items renaming ownsTuple->XA
open PySem.W.Frag renaming In->XF
open PySem.Builtin.List renaming listLengthHint->XM
open True renaming intro->XW
open PySem.SetTable.probe renaming go->Yg
open PySem.Builtin.Dict renaming updateFrom->YJ,showsAll->Zk
open PySem.PyData renaming weightAll->YM,leavesShortAll->Zp,showableAll->aam,hasDictAll->aaI
open PyProof.Rows.SortSt renaming mk'->Y3
open PySem.SeqAt.EqAt renaming int_tuple->Zz,str_tuple->ZA,tuple_int->ZC,tuple_str->ZD,int_str->Z4,str_int->Z5,int_int->aab
open Prod renaming ext->ZJ
open PySem.EntryCells renaming newEntry->ZX
open Function renaming comp_apply->ZZ
open PySem.SetTable.below renaming go->aaz
open PySem.pickOrder renaming go->aaF
open PySem.PassesOwn renaming leaving->aaJ
open Eq renaming trans->aaK
open PySem.Walks renaming list->aa6
open PySem.Env renaming kindOf->aa_
section
namespace PySem.W.Fast
noncomputable def te13052408679150730464:=0
noncomputable def te16555476440528808052:=0
noncomputable def te5452508617037859911:=0
noncomputable def te4868988410673395695:=0
end PySem.W.Fast
open PySem PySem.W PyProof.Rows
open_top head for PySem.Challenge.rw_wallplan_k26_long_moves
end
set_option tactic.hygienic false
section
namespace L2
open PySem PySem.Spec PyProof.Rows
abbrev Key:=Sum Int Sy
noncomputable def ph:Key->RR->Bool
 |.inl k,v=>Value.isInt k v|.inr x,v=>Value.isStrOf x v
noncomputable def OP(w:Sx):Key->Int
 |.inl k=>hashInt k|.inr x=>hashStr w x
def aV:∀{k}{v},ph k v=RQ->(∃i t,k=WJ i/\v=U1 i t)\/(∃x t,k=Yc x/\v=aaM x t)
 |.inl i,v,h=>by
  obtain⟨t,e⟩:=Value.isInt_shape h;exact .inl ⟨i,t,rfl,e⟩|.inr x,v,h=>by
  obtain⟨t,e⟩:=Value.isStrOf_shape h;exact .inr ⟨x,t,rfl,e⟩
def yM(i)(t):ph (.inl i) (.int i t)=RQ:=by simp[ph,Value.isInt]
def yN(x)(t):ph (.inr x) (.str x t)=RQ:=by simp[ph,Value.isStrOf]
def HL(a b):decide ((WJ a:Key)=WJ b)=(a==b):=by
 by_cases e:a=b;.subst e;simp
 .have h:¬(WJ a:Key)=WJ b:=λq=>e (Sum.inl.inj q);rw[Φ1 h];exact(Ξ.mpr e).symm
def HM(a b):decide ((Yc a:Key)=Yc b)=decide (a=b):=by
 by_cases e:a=b;.simp
 .have h:¬(Yc a:Key)=Yc b:=λq=>e (Sum.inr.inj q);rw[Φ1 h,Φ1 e]
def HN(a)(b):decide ((WJ a:Key)=Yc b)=RT:=Φ1 (λq=>nomatch q)
def HP(a)(b):decide ((Yc a:Key)=WJ b)=RT:=Φ1 (λq=>nomatch q)
noncomputable def aw(prog:Sf)(w:Sx):VS prog w Key where
 is:=ph;hash:=OP w;inj:=λv a b ha hb=>by
  rcases aV ha with⟨i,t,rfl,rfl⟩|⟨x,t,rfl,rfl⟩
  .rcases aV hb with⟨j,u,rfl,e⟩|⟨y,u,rfl,e⟩;.injection e with c _;rw[c]
   .exact nomatch e
  .rcases aV hb with⟨j,u,rfl,e⟩|⟨y,u,rfl,e⟩;.exact nomatch e
   .injection e with c _;rw[c]
 byValue:=λk v h=>by rcases aV h with⟨i,t,rfl,rfl⟩|⟨x,t,rfl,rfl⟩<;>rfl
 pyHash:=λd h=>by
  rcases aV d with⟨i,t,rfl,rfl⟩|⟨x,t,rfl,rfl⟩;.exact wpAny_pyHash_int h
  .exact wpAny_pyHash_str h
 eqBool:=λhu d h=>by
  rcases aV hu with⟨i,t,rfl,rfl⟩|⟨x,t,rfl,rfl⟩
  .rcases aV d with⟨j,u,rfl,rfl⟩|⟨y,u,rfl,rfl⟩;.rw[HL]at h;exact wpAny_eqBool_int h
   .rw[HN]at h;exact Z4 i t y u _ _ _ _ h
  .rcases aV d with⟨j,u,rfl,rfl⟩|⟨y,u,rfl,rfl⟩;.rw[HP]at h;exact Z5 x t j u _ _ _ _ h
   .rw[HM]at h;exact wpAny_eqBool_str h
 «strs»:=λk x t v h=>by
  rcases aV h with⟨i,u,rfl,e⟩|⟨y,u,rfl,e⟩;.exact nomatch e
  .injection e with c _;subst c;cases v<;>rfl
def kT(prog)(w)(i)(t):(aw prog w).is (.inl i) (.int i t)=RQ:=yM i t
def sC(prog)(w)(x)(t):(aw prog w).is (.inr x) (.str x t)=RQ:=yN x t
end L2
namespace L2
open PySem PySem.Spec PyProof.Rows
inductive V where|br|bl(b:Bool)|int(i:Int)|str(x:Sy)|HQ(b:Array UInt8)|Lk(b:UInt64)|ref(a:RW)|ty(n:String)deriving DecidableEq
def RelV:V->RR->Prop
 |.br,u=>u=SG|.bl b,u=>u=Z6 b|.int i,u=>∃t,u=U1 i t|.str x,u=>∃t,u=aaM x t|.HQ b,u=>∃t,u=Value.bytes b t|.Lk b,u=>∃t,u=Value.float b t|.ref a,u=>u=Sm a|.ty n,u=>u=Z7 n
noncomputable abbrev ax:List V->List RR->Prop:=Paired RelV
def ax.length(r:ax xs us):xs.length=us.length:=Paired.length r
theorem ax.get:∀{xs:List V}{us:List RR}{i:Nat}{x:V},ax xs us->xs[i]?=RM x->∃u,us[i]?=RM u/\RelV x u
 |_,_,_,_,.nil,e=>by simp at e|_,_,0,_,.cons r _,e=>by simp at e;subst e;exact⟨_,rfl,r⟩|_,_,i+1,x,.cons _ t,e=>by
  obtain⟨u,b,a⟩:=ax.get (i:=i) (x:=x) t (by simpa using e);exact⟨u,by simpa using b,a⟩
theorem ax.set(r:RelV x u):∀{xs:List V}{us:List RR}(i:Nat),ax xs us->ax (xs.set i x) (us.set i u)
 |_,_,_,.nil=>.nil|_,_,0,.cons _ t=>.cons r t|_,_,i+1,.cons q t=>.cons q (ax.set r i t)
theorem ax.append:∀{xs a:List V}{us ws:List RR},ax xs us->ax a ws->ax (xs++a) (us++ws)
 |_,_,_,_,.nil,s=>s|_,_,_,_,.cons r t,s=>.cons r (ax.append t s)
theorem ax.take:∀{xs:List V}{us:List RR}(n:Nat),ax xs us->ax (xs.take n) (us.take n)
 |_,_,0,_=>.nil|_,_,_+1,.nil=>.nil|_,_,n+1,.cons r t=>.cons r (ax.take n t)
theorem ax.drop:∀{xs:List V}{us:List RR}(n:Nat),ax xs us->ax (xs.drop n) (us.drop n)
 |_,_,0,r=>r|_,_,_+1,.nil=>.nil|_,_,n+1,.cons _ t=>ax.drop n t
def iQ:Option V->Option RR->Prop
 |some v,RM u=>RelV v u|none,RP=>True|_,_=>False
def KV{a:Type}:List (a×V)->List (a×RR)->Prop:=Paired λ(p:a×V)(q:a×RR)=>p.1=q.1/\RelV p.2 q.2
noncomputable def kV:Key->V
 |.inl i=>.int i|.inr x=>.str x
inductive HO where|lst(xs:List V)|tup(xs:List V)|dK(kvs:List (Key×V))|dT(kvs:List (List Key×V))|set(S:Int->Bool)(n:Nat)|ins(C dx:RW)(fs:List (Sy×V))|own(x:RW)|xd(fs:List (Sy×V))|met(f x:RW)|yO(lo hi:Int)|cz(o:Tn)(u:HO)|Aa(ps:Array RR)|ext(φ:SJ->Prop)
abbrev Hp:=RW->Option HO
noncomputable def upd(H:Hp)(a:RW)(o:HO):Hp:=λb=>if b=a then RM o else H b
def aq:upd H a o a=RM o:=by unfold upd;rw[Ξ2 rfl]
def ar(h:b≠a):upd H a o b=H b:=by unfold upd;rw[Ξ3 h]
def bZ:upd (upd H a o) a u=upd H a u:=by funext b;unfold upd;split<;>rfl
def aH{H:Hp}(h:H a=RM o)(h':H b=RP):a≠b:=by intro e;subst e;rw[h]at h';cases h'
section
variable(P:Sf)(w:Sx)
def bF(H:Hp)(h:SJ)(a:RW):HO->Prop
 |.lst d=>d.length<=R1/\∃(c:List RR)(n:Nat),ax d c/\h.get? a=RM {cls:=.type "list",data:=.seq c.toArray n}|.tup d=>d.length<=R1/\∃c:List RR,ax d c/\aao h a c.toArray|.dK b=>b.length<=R1/\(a==UC)=RT/\∃j,KV b j/\h.DictOf (aw P w) a j|.dT b=>b.length<=R1/\(a==UC)=RT/\∃d:List (List Key×RW×RR),Paired (λ(p:List Key×V)(q:List Key×RW×RR)=>p.1=q.1/\H q.2.1=RM (.tup (p.1.map kV))/\RelV p.2 q.2.2) b d/\∃o m s,h.get? a=RM o/\o.ExactDict/\o.data=.dict m s/\m.toList=d.map (entryOfKey (tupleKind (aw P w)))/\(d.map (·.1)).Nodup|.set S n=>h.SetOf (To P w) a S n|.ins C g fs=>H g=RM (.own a)/\fs.length<=1000/\g≠a/\h.get? a=RM (Y8 C g)/\∃e,h.Ns1 g e/\(∀f,iQ (fs.lookup f) (e f))/\PySem.Within e (fs.map (·.1))|.own _=>∃o,h.get? a=RM o|.xd fs=>∃e,h.Ns1 a e/\∀f,iQ (fs.lookup f) (e f)|.yO lo r=>∃t u v,h.get? a=RM {cls:=.type "range",data:=.fields #[.int lo t,.int r u,.int 1 v]}|.cz o u=>h.get? a=RM o/\bF H h a u|.Aa ps=>h.get? a=RM {cls:=.none,data:=.fields ps}|.met f x=>h.get? a=RM (Yd (.ref f) (.ref x))|.ext i=>i h/\(∃o,h.get? a=RM o)/\∀l k:SJ,i l->(∀o,l.get? a=RM o->k.get? a=RM o)->i k
def jq(H:Hp)(h:SJ):Prop:=∀a o,H a=RM o->bF P w H h a o
end
section
variable{h h':SJ}{a:RW}
theorem bF.lt(x:bF P w H h a o):a<h.objs.size:=by cases o with
 |lst c=>obtain⟨_,_,_,_,e⟩:=x;exact Sa e|tup c=>obtain⟨_,_,_,p⟩:=x;exact p.lt|dK b=>obtain⟨_,_,_,_,o,_,_,e,_⟩:=x;exact Sa e|dT b=>obtain⟨_,_,_,_,o,_,_,e,_⟩:=x;exact Sa e|set S n=>obtain⟨o,_,_,_,e,_⟩:=x;exact Sa e|ins C i fs=>obtain⟨_,_,_,e,_⟩:=x;exact Sa e|own y=>obtain⟨_,e⟩:=x;exact Sa e|xd fs=>obtain⟨_,⟨_,_,_,e,_⟩,_⟩:=x;exact Sa e|yO lo g=>obtain⟨_,_,_,e⟩:=x;exact Sa e|cz ob u=>obtain⟨e,_⟩:=x;exact Sa e|Aa ps=>exact Sa (show h.get? a=RM _ from x)|met f y=>exact Sa (show h.get? a=RM _ from x)|ext d=>obtain⟨_,⟨_,e⟩,_⟩:=x;exact Sa e
theorem Paired.HR:∀{l₁:List d}{l₂:List c},Paired F l₁ l₂->(∀a b,F a b->G a b)->Paired G l₁ l₂
 |_,_,.nil,_=>.nil|_,_,.cons r t,f=>.cons (f _ _ r) (Paired.HR t f)
def bF.fN(x:bF P w H h a o)(k:∀b u,(b=a\/H b=RM (.own a))->h.get? b=RM u->h'.get? b=RM u)(E:∀b,H b=RM (.own a)->H' b=RM (.own a))(D:∀b xs,H b=RM (.tup xs)->H' b=RM (.tup xs)):bF P w H' h' a o:=by induction o with
 |lst xs=>obtain⟨z,j,n,r,e⟩:=x;exact⟨z,j,n,r,k _ _ (.inl rfl) e⟩|tup xs=>obtain⟨z,j,r,ob,e,c⟩:=x;exact⟨z,j,r,ob,k _ _ (.inl rfl) e,c⟩|dK s=>obtain⟨z,y,A,r,ob,g,i,e,c⟩:=x;exact⟨z,y,A,r,ob,g,i,k _ _ (.inl rfl) e,c⟩|dT s=>
  obtain⟨z,y,xs,r,ob,g,i,e,c⟩:=x;exact⟨z,y,xs,Paired.HR r λp q z=>⟨z.1,D _ _ z.2.1,z.2.2⟩,ob,g,i,k _ _ (.inl rfl) e,c⟩|set S n=>obtain⟨ob,g,i,t,e,c⟩:=x;exact⟨ob,g,i,t,k _ _ (.inl rfl) e,c⟩|ins C J fs=>
  obtain⟨d,z,ne,e,m,⟨l,g,i,F,c⟩,r⟩:=x;exact⟨E _ d,z,ne,k _ _ (.inl rfl) e,m,⟨l,g,i,k _ _ (.inr d) F,c⟩,r⟩|own y=>obtain⟨ob,e⟩:=x;exact⟨ob,k _ _ (.inl rfl) e⟩|xd fs=>obtain⟨m,⟨l,g,i,e,c⟩,r⟩:=x;exact⟨m,⟨l,g,i,k _ _ (.inl rfl) e,c⟩,r⟩|yO lo I=>obtain⟨t,u,v,e⟩:=x;exact⟨t,u,v,k _ _ (.inl rfl) e⟩|cz ob u B=>obtain⟨e,q⟩:=x;exact⟨k _ _ (.inl rfl) e,B q⟩|Aa ps=>
  have e:=x;exact k a _ (.inl rfl) e|met f y=>
  have e:=x;exact k a _ (.inl rfl) e|ext G=>obtain⟨p,⟨o,e⟩,st⟩:=x;exact⟨st _ _ p λo q=>k _ _ (.inl rfl) q,⟨o,k _ _ (.inl rfl) e⟩,st⟩
def jq.lt(x:jq P w H h)(e:H a=RM o):a<h.objs.size:=(x a o e).lt
def jq.fresh(x:jq P w H h)(e:h.objs.size<=a):H a=RP:=by cases q:H a with
 |none=>rfl|some u=>exact Ξ1 (Su (x.lt q) e) (Tr _)
theorem jq.kept(x:jq P w H h)(k:∀b u,h.get? b=RM u->h'.get? b=RM u):jq P w H h':=λa o e=>(x a o e).fN (λb u _ q=>k b u q) (λ_ q=>q) λ_ _ q=>q
def jq.laid(x:jq P w H h)(k:∀b u,h.get? b=RM u->h'.get? b=RM u)(f:h.objs.size<=a)(new:bF P w (upd H a o) h' a o):jq P w (upd H a o) h':=λb u e=>by
 have d:=x.fresh f;by_cases hb:b=a;.subst hb;rw[aq]at e;cases e;exact new
 .rw[ar hb]at e;exact(x b u e).fN (λc v _ q=>k c v q) (λc q=>by rw[ar (aH q d)];exact q) λc g q=>by rw[ar (aH q d)];exact q
end
def Rd(H:Hp)(a:RW)(u:HO):Prop:=H a=RM u\/∃o,H a=RM (.cz o u)
def Rd.ok(r:Rd H a u)(x:jq P w H h):bF P w H h a u:=by
 rcases r with r|⟨o,r⟩;.exact x a u r
 .obtain⟨_,q⟩:=x a _ r;exact q
def Ou:Option HO->Prop
 |some (.lst _)=>True|some (.dK _)=>True|some (.dT _)=>True|some (.set _ _)=>True|some (.ins _ _ _)=>True|some (.ext _)=>True|_=>False
section
def jq.write(ok:jq P w H h)(i:Ou (H x))(n:e=x\/H e=RM (.own x))(k:∀b u,b≠e->h.get? b=RM u->h'.get? b=RM u)(l:∃u,h'.get? e=RM u)(new:bF P w (upd H x o') h' x o'):jq P w (upd H x o') h':=λb u q=>by
 have d:∀c y,H c=RM (.own y)->c≠x:=λc y r z=>by subst z;rw[r]at i;exact i
 have f:∀c g,H c=RM (.tup g)->c≠x:=λc g r z=>by subst z;rw[r]at i;exact i
 by_cases hb:b=x;.subst hb;rw[aq]at q;cases q;exact new
 .rw[ar hb]at q;by_cases a:b=e
  .have m:H b=RM (.own x):=by
    rcases n with z|z;.exact Ξ1 (a.trans z) hb
    .rw[a];exact z
   rw[q]at m;cases m;obtain⟨v,o⟩:=l;exact⟨v,by rw[a];exact o⟩
  .refine(ok b u q).fN (λc v j r=>k c v ?_ r) (λc r=>by rw[ar (d c b r)];exact r) λc g r=>by rw[ar (f c g r)];exact r
   rcases j with rfl|j;.exact a
   .rintro rfl;rcases n with z|z;.exact d c b j z
    .rw[j]at z;cases z;exact hb rfl
end
structure Un(fs ex:List RW)(H H':Hp)(h h':SJ):Prop where
 keep:∀b o,h.get? b=RM o->H b=RP->b∉fs->b∉ex->h'.get? b=RM o
 slot:∀b o,h.get? b=RM o->H b=RP->b∈fs->b∉ex->∃sl,h'.get? b=RM {o with slots:=sl}free:∀b o,h.get? b=RM o->H b=RP->b∉ex->H' b=RP
 there:∀b o,h.get? b=RM o->b∉ex->∃o',h'.get? b=RM o'
 jt:∀b xs,H b=RM (.tup xs)->H' b=RM (.tup xs)iR:∀b o u,H b=RM (.cz o u)->H' b=RM (.cz o u)ju:∀b ps,H b=RM (.Aa ps)->∃more,H' b=RM (.Aa (ps++more))
section
variable{h h1 h2 h':SJ}{a x e:RW}
def Un.any(u:Un fs ex H H1 h h1)(q:h.get? b=RM ob)(n:H b=RP)(c:b∉ex):∃d,h1.get? b=RM {ob with slots:=d}:=by
 by_cases hb:b∈fs;.exact u.slot b ob q n hb c
 .exact⟨ob.slots,u.keep b ob q n hb c⟩
def Un.kept(k:∀b u,h.get? b=RM u->h'.get? b=RM u):Un fs ex H H h h':=⟨λb ob q _ _ _=>k b ob q,λb ob q _ _ _=>⟨ob.slots,k b ob q⟩,λ_ _ _ n _=>n,λb ob q _=>⟨ob,k b ob q⟩,λ_ _ q=>q,λ_ _ _ q=>q,λ_ ps q=>⟨#[],by rw[q];simp⟩⟩
def Un.refl:Un fs ex H H h h:=Un.kept λ_ _ q=>q
def Un.laid(k:∀b u,h.get? b=RM u->h'.get? b=RM u)(f:h.objs.size<=a)(c:H a=RP):Un fs ex H (upd H a o) h h' where
 keep:=λb u q _ _ _=>k b u q;slot:=λb u q _ _ _=>⟨u.slots,k b u q⟩;free:=λb u q n _=>by rw[ar (SD (Su (Sa q) f))];exact n
 there:=λb u q _=>⟨u,k b u q⟩;jt:=λb d q=>by rw[ar (aH q c)];exact q
 iR:=λb u d q=>by rw[ar (aH q c)];exact q
 ju:=λb ps q=>⟨#[],by rw[ar (aH q c),q];simp⟩
def Un.write(d:Ou (H x))(l:e=x\/H e=RM (.own x))(k:∀b u,b≠e->h.get? b=RM u->h'.get? b=RM u)(g:∃u,h'.get? e=RM u):Un fs ex H (upd H x o) h h':=by
 have i:∀b,H b=RP->b≠x:=λb n z=>by subst z;rw[n]at d;exact d
 have hb:∀b,H b=RP->b≠e:=λb n z=>by
  subst z;rcases l with r|r;.exact i b n r
  .rw[n]at r;cases r
 have f:∀b u,H b=RM u->¬Ou (RM u)->b≠x:=λb u q nm z=>by subst z;rw[q]at d;exact nm d
 refine⟨λb u q n _ _=>k b u (hb b n) q,λb u q n _ _=>⟨u.slots,k b u (hb b n) q⟩,λb u q n _=>by rw[ar (i b n)];exact n,λb u q _=>?_,λb j q=>by rw[ar (f b _ q λz=>z)];exact q,λb u j q=>by rw[ar (f b _ q λz=>z)];exact q,λb ps q=>⟨#[],by rw[ar (f b _ q λz=>z),q];simp⟩⟩;by_cases c:b=e;.subst c;exact g
 .exact⟨u,k b u c q⟩
end
noncomputable def Ov(h:SJ)(H:Hp):List RW:=(SQ h.objs.size).filter λa=>(H a).isSome
noncomputable def qy(h:SJ)(H:Hp):SJ:=PySem.W.hideAll h (Ov h H)
def yP(h)(H):(qy h H).objs.size=h.objs.size:=PySem.W.hideAll_size _ _
def Ae(e:h.get? b=RM o)(n:H b=RP):(qy h H).get? b=RM o:=PySem.W.hideAll_get _ e λa=>by
  have q:=(Ψ.mp a).2;rw[n]at q;simp at q
def D8(e:(qy h H).get? b=RM o):h.get? b=RM o/\H b=RP:=by
 have a:=PySem.W.of_hideAll (Ov h H) e;refine⟨a,?_⟩;cases q:H b with
 |none=>rfl|some x=>
  have c:b∈Ov h H:=Ψ.mpr ⟨List.mem_range.mpr (Sa a),by simp[q]⟩;have z:(qy h H).get? b=RP:=PySem.W.hideAll_none (Ov h H) c;rw[z]at e;cases e
end L2
namespace L2
open PySem PySem.Spec PyProof.Rows
structure Mod(K:R0)(mg:Sy->Option RR)(base:SJ):Prop where
 HS:K.In base
 glob:base.Ns Ti mg
 blt:∃mb,base.Ns YN mb/\∀x:Sy,x≠"__name__"->mb x=Uh x
 nolimit:base.NoLimit
structure Cx where
 prog:Sf
 w:Sx
 K:R0
 mg:Sy->Option RR
 base:SJ
 A:SF
 N:List Sy
 bR:RU
 iS:Hp
 env:XS
 outer:List XS
 stack:List XS
 ex:List RW
 fn:Sy->Bool
 calm:Bool
 pn:List (RW×Tn)xe:RR->RU->Prop
noncomputable def iB(l:List XS):List RW:=l.filterMap (·.frame)
noncomputable abbrev Cx.fs(X:Cx):List RW:=iB X.outer
def wG(sc:UM)(x:Sy):Prop:=sc.names.lookup x=RM .local\/sc.names.lookup x=RM .cell\/sc.names.lookup x=RM .free
def Loc(sc:UM)(x:Sy):Prop:=sc.names.lookup x=RM .local\/sc.names.lookup x=RM .cell
def Look(env:XS)(h:SJ)(m:Sy->Option RR)(x:Sy)(u:RR):Prop:=(env.kindOf x=RM .local/\m x=RM u)\/((env.kindOf x=RM .cell\/env.kindOf x=RM .free)/\∃c,env.cells.lookup x=RM c/\h.IsCell c (RM u))
structure Cx.Ok(X:Cx):Prop where
 mod:Mod X.K X.mg X.base
 kind:X.env.scope.kind=.function
 glob:X.env.globals=Ti
 blt:X.env.builtins=YN
 above:X.bR.heap.objs.size<=X.env.locals
 inj:∀x y c,X.env.cells.lookup x=RM c->X.env.cells.lookup y=RM c->x=y
 has:∀x,(X.env.kindOf x=RM .cell\/X.env.kindOf x=RM .free)->∃c,X.env.cells.lookup x=RM c
 HU:∀x c,X.fn x=RQ->X.env.cells.lookup x=RM c->X.bR.heap.objs.size<=c
 hd:X.calm=RQ->X.A.handled=RP
 frames:X.A.frames=RM X.stack
 Ll:X.stack=X.outer\/(X.stack=X.env::X.outer/\X.env.frame=RM X.env.locals)Ox:∀b∈X.ex,b≠X.env.locals/\∀x c,X.env.cells.lookup x=RM c->c≠b
 bs:∀b o,X.base.get? b=RM o->X.bR.heap.get? b=RM o/\X.iS b=RP
 D1:X.base.objs.size<=X.bR.heap.objs.size
 uY:∀b o,X.base.get? b=RM o->b∉X.ex
 yQ:∀b∈X.ex,b∉X.fs
 kg:X.bR.heap.FunFrames X.base X.outer
 GZ:∀b∈X.fs,X.iS b=RP
structure Inv(X:Cx)(pins:List (RW×Tn))(σ:List (Option V))(H:Hp)(s:RU):Prop where
 ok:X.Ok
 os:s.os=X.bR.os
 bare:Xi s.gens
 base:Un X.fs X.ex X.iS H X.bR.heap s.heap
 loc:∃m,s.heap.Ns X.env.locals m/\∀(i:Nat)(x:Sy)(v:V),X.N[i]?=RM x->σ[i]?=RM (RM v)->wG X.env.scope x->∃u,RelV v u/\Look X.env s.heap m x u
 cell:∀x c,X.env.cells.lookup x=RM c->∃v,s.heap.IsCell c v
 free:H X.env.locals=RP
 dk:∀x c,X.env.cells.lookup x=RM c->H c=RP
 pin:∀p∈X.pn++pins,s.heap.get? p.1=RM p.2/\H p.1=RP/\p.1≠X.env.locals/\p.1∉X.fs/\∀v,p.2.data≠.cell v
 aM:jq X.prog X.w H s.heap
 len:σ.length=X.N.length
section
variable{X:Cx}{pins:List (RW×Tn)}{σ:List (Option V)}{H H':Hp}{s:RU}{h':SJ}
def Cx.Ok.OQ(ok:X.Ok)(e:X.base.get? b=RM o):b∉X.fs:=λhb=>by
 have:=(ok.kg.mem hb).1;rw[e]at this;cases this
def Inv.bs(I:Inv X pins σ H s):∀b o,X.base.get? b=RM o->s.heap.get? b=RM o/\H b=RP:=λb o e=>⟨I.base.keep b o (I.ok.bs b o e).1 (I.ok.bs b o e).2 (I.ok.OQ e) (I.ok.uY b o e),I.base.free b o (I.ok.bs b o e).1 (I.ok.bs b o e).2 (I.ok.uY b o e)⟩
def Inv.bk(I:Inv X pins σ H s):∀b o,X.base.get? b=RM o->s.heap.get? b=RM o:=λb o e=>(I.bs b o e).1
def Inv.mod(I:Inv X pins σ H s):Mod X.K X.mg X.base:=I.ok.mod
def Inv.kf(I:Inv X pins σ H s):X.K.In s.heap:=I.ok.mod.HS.keeps I.bk
def Inv.lt(I:Inv X pins σ H s):X.env.locals<s⁻¹:=let⟨_,a,_⟩:=I.loc;a.lt
def Inv.sz(I:Inv X pins σ H s):X.bR.heap.objs.size<=s⁻¹:=SO I.ok.above (V_ I.lt)
def Inv.HV(I:Inv X pins σ H s){a:RW}(h:s⁻¹<=a):a∉X.fs:=λhb=>by
 obtain⟨_,o,b,_⟩:=I.ok.kg.mem hb;exact Ξ1 (Su (Sa b) (SO I.sz h)) (Tr _)
def Inv.Af(I:Inv X pins σ H s):∀x c,X.env.cells.lookup x=RM c->c≠X.env.locals:=λx c e z=>by
 obtain⟨v,o,d,hd⟩:=I.cell x c e;obtain⟨m,⟨f,g,h,a,b,_⟩,_⟩:=I.loc;rw[z,a]at d;cases d;rw[b]at hd;cases hd
theorem Inv.kg(I:Inv X pins σ H s):s.heap.FunFrames X.base X.outer:=by
 have all:∀(l:List XS),(∀b∈iB l,b∈X.fs)->X.bR.heap.FunFrames X.base l->s.heap.FunFrames X.base l:=by
  intro l;induction l with
  |nil=>intro _ _;trivial|cons env r f=>
   intro d j;obtain⟨k,⟨L,o,a,i,h,hd⟩,g⟩:=j;have c:L∈X.fs:=d L (by unfold iB;rw[TQ,a];exact RX);obtain⟨m,e⟩:=I.base.slot L o h (I.ok.GZ L c) c λz=>I.ok.yQ L z c;exact⟨k,⟨L,_,a,i,e,hd⟩,f (λb hb=>d b (by unfold iB;rw[TQ,a];exact RZ _ hb)) g⟩
 exact all X.outer (λ_ hb=>hb) I.ok.kg
def Inv.stack(I:Inv X pins σ H s):s.heap.FunFrames X.base X.stack:=by
 rcases I.ok.Ll with e|⟨e,b⟩;.rw[e];exact I.kg
 .rw[e];obtain⟨m,a,_⟩:=I.loc;refine .cons (by rw[I.ok.kind];decide) b a ?_ I.kg;exact Heap.get?_none_of_le (SO I.ok.D1 I.ok.above)
def Inv.kh(I:Inv X pins σ H s):∀b∈iB X.stack,b∈X.env.locals::X.fs:=λb hb=>by
 rcases I.ok.Ll with e|⟨e,a⟩;.rw[e]at hb;exact RZ _ hb
 .rw[e]at hb;unfold iB at hb;rw[TQ,a]at hb;exact hb
def Inv.lK(I:Inv X pins σ H s):∀b∈iB X.stack,H b=RP:=λb hb=>by
 rcases Ω2.mp (I.kh b hb)with e|hb;.rw[e];exact I.free
 .obtain⟨_,o,a,_⟩:=I.ok.kg.mem hb;exact I.base.free b o a (I.ok.GZ b hb) λz=>I.ok.yQ b z hb
def Inv.step{ch:List RW}(I:Inv X pins σ H s)(g:∀b∈ch,(b∈X.ex\/X.bR.heap.objs.size<=b)/\b≠X.env.locals/\(∀x c,X.env.cells.lookup x=RM c->c≠b)/\∀p∈X.pn++pins,p.1≠b)(keep:∀b o,b≠X.env.locals->b∉X.fs->b∉ch->s.heap.get? b=RM o->H b=RP->h'.get? b=RM o)(slot:∀b o,b≠X.env.locals->b∈X.fs->b∉ch->s.heap.get? b=RM o->H b=RP->∃F,h'.get? b=RM {o with slots:=F})(free:∀b o,b∉ch->s.heap.get? b=RM o->H b=RP->H' b=RP)(there:∀b o,b∉ch->s.heap.get? b=RM o->∃o',h'.get? b=RM o')(jt:∀b xs,H b=RM (.tup xs)->H' b=RM (.tup xs))(iR:∀b o u,H b=RM (.cz o u)->H' b=RM (.cz o u))(ju:∀b ps,H b=RM (.Aa ps)->∃B,H' b=RM (.Aa (ps++B)))(ns:∀m,s.heap.Ns X.env.locals m->h'.Ns X.env.locals m)(aM:jq X.prog X.w H' h')(P:Xi g'):Inv X pins σ H' {s with heap:=h',gens:=g',drawn:=d',toks:=t'}:=by
 have A:∀b o,X.bR.heap.get? b=RM o->b≠X.env.locals:=λb o e=>SD (Su (Sa e) I.ok.above);have j:∀b o,X.bR.heap.get? b=RM o->b∉X.ex->b∉ch:=λb o e a hb=>by
  rcases(g b hb).1 with z|z;.exact a z
  .exact Ξ1 (Su (Sa e) z) (Tr _)
 have h:∀x c,X.env.cells.lookup x=RM c->∀v,s.heap.IsCell c v->h'.IsCell c v:=λx c e v D=>by
  obtain⟨o,y,hd⟩:=D;have f:c∉ch:=λz=>(g c z).2.2.1 x c e rfl;by_cases K:c∈X.fs
  .obtain⟨F,q⟩:=slot c o (I.Af x c e) K f y (I.dk x c e);exact⟨_,q,hd⟩
  .exact⟨o,keep c o (I.Af x c e) K f y (I.dk x c e),hd⟩
 refine⟨I.ok,I.os,P,⟨λb o e n hb a=>?_,λb o e n hb a=>?_,λb o e n a=>?_,λb o e a=>?_,λb xs e=>jt b xs (I.base.jt b xs e),λb o xs e=>iR b o xs (I.base.iR b o xs e),λb ps e=>?_⟩,?_,λx c e=>?_,?_,λx c e=>?_,λp J=>?_,aM,I.len⟩;.exact keep b o (A b o e) hb (j b o e a) (I.base.keep b o e n hb a) (I.base.free b o e n a)
 .obtain⟨F,t⟩:=I.base.slot b o e n hb a;obtain⟨E,C⟩:=slot b _ (A b o e) hb (j b o e a) t (I.base.free b o e n a);exact⟨E,C⟩
 .obtain⟨o',t⟩:=I.base.there b o e a;exact free b o' (j b o e a) t (I.base.free b o e n a)
 .obtain⟨o',t⟩:=I.base.there b o e a;exact there b o' (j b o e a) t
 .obtain⟨M,t⟩:=I.base.ju b ps e;obtain⟨L,C⟩:=ju b _ t;exact⟨M++L,by rw[C,Array.append_assoc]⟩
 .obtain⟨m,N,O⟩:=I.loc;refine⟨m,ns m N,λi x v t C Q=>?_⟩;obtain⟨u,r,l⟩:=O i x v t C Q;refine⟨u,r,?_⟩;rcases l with l|⟨k,c,e,z⟩;.exact .inl l
  .exact .inr ⟨k,c,e,h x c e _ z⟩
 .obtain⟨v,z⟩:=I.cell x c e;exact⟨v,h x c e v z⟩
 .obtain⟨m,⟨o,_,_,y,_⟩,_⟩:=I.loc;exact free _ o (λz=>(g _ z).2.1 rfl) y I.free
 .obtain⟨v,o,y,hd⟩:=I.cell x c e;exact free c o (λz=>(g c z).2.2.1 x c e rfl) y (I.dk x c e)
 .obtain⟨e,n,ne,G,d⟩:=I.pin p J;have f:p.1∉ch:=λz=>(g p.1 z).2.2.2 p J rfl;exact⟨keep p.1 p.2 ne G f e n,free p.1 p.2 f e n,ne,G,d⟩
def Inv.un(I:Inv X pins σ H s)(u:Un X.fs [] H H' s.heap h')(aM:jq X.prog X.w H' h'):Inv X pins σ H' {s with heap:=h',toks:=t'}:=by
 obtain⟨m,⟨o,p,q,f,r⟩,_⟩:=id I.loc;obtain⟨j,i⟩:=u.any f I.free '2';exact I.step (ch:=[]) '3' (λb o _ hb _ e n=>u.keep b o e n hb '2') (λb o _ hb _ e n=>u.slot b o e n hb '2') (λb o _ e n=>u.free b o e n '2') (λb o _ e=>u.there b o e '2') u.jt u.iR u.ju (λl h=>by
  obtain⟨k,c,d,a,g⟩:=h;rw[f]at a;cases a;exact⟨_,c,d,i,g⟩) aM I.bare
def Inv.call(I:Inv X pins σ H s)(u:Un (iB X.stack) ch H H' s.heap h')(aM:jq X.prog X.w H' h')(q:Xi g')(f:∀b∈ch,(b∈X.ex\/X.bR.heap.objs.size<=b)/\b≠X.env.locals/\(∀x c,X.env.cells.lookup x=RM c->c≠b)/\∀p∈X.pn++pins,p.1≠b):Inv X pins σ H' {s with heap:=h',gens:=g',drawn:=d',toks:=t'}:=by
 obtain⟨m,⟨o,A,B,j,r⟩,_⟩:=id I.loc;obtain⟨t,g⟩:=u.any j I.free λz=>(f _ z).2.1 rfl;exact I.step f (λb o g hb a e n=>u.keep b o e n (λz=>(Ω2.mp (I.kh b z)).elim g hb) a) (λb o _ _ a e n=>u.any e n a) (λb o a e n=>u.free b o e n a) (λb o a e=>u.there b o e a) u.jt u.iR u.ju (λy l=>by
  obtain⟨v,h,i,d,k⟩:=l;rw[j]at d;cases d;exact⟨_,h,i,g,k⟩) aM q
def Inv.turned(I:Inv X pins σ H s)(k:∀b o,b≠it->s.heap.get? b=RM o->h'.get? b=RM o)(h:H it=RP)(f:it≠X.env.locals)(t:it∈X.ex\/X.bR.heap.objs.size<=it)(l:∀x c,X.env.cells.lookup x=RM c->c≠it)(j:∀p∈X.pn++pins,p.1≠it):Inv X pins σ H {s with heap:=h',toks:=t'}:=by
 have d:∀b u,H b=RM u->b≠it:=λb u e z=>by rw[z,h]at e;cases e
 refine I.step (ch:=[it]) (λb hb=>?_) (λb o _ _ a e _=>k b o (λz=>a (by simp[z])) e) (λb o _ _ a e _=>⟨o.slots,k b o (λz=>a (by simp[z])) e⟩) (λ_ _ _ _ n=>n) (λb o a e=>⟨o,k b o (λz=>a (by simp[z])) e⟩) (λ_ _ e=>e) (λ_ _ _ e=>e) (λb ps e=>⟨#[],by rw[e];simp⟩) (λm i=>?_) (λb u e=>?_) I.bare
 .have e:=by simpa using hb
  subst e;exact⟨t,f,l,j⟩
 .obtain⟨o,w,y,g,r⟩:=i;exact⟨o,w,y,k _ o (T8 f) g,r⟩
 .refine(I.aM b u e).fN (λc v a q=>k c v ?_ q) (λ_ q=>q) λ_ _ q=>q;rcases a with z|z;.rw[z];exact d b u e
  .exact d c _ z
theorem Inv.tok(I:Inv X pins σ H s)(t):Inv X pins σ H {s with toks:=t}:=I.un Un.refl I.aM
def Inv.kept(I:Inv X pins σ H s)(k:∀b u,s.heap.get? b=RM u->h'.get? b=RM u):Inv X pins σ H {s with heap:=h',toks:=t'}:=I.un (Un.kept k) (I.aM.kept k)
def Inv.laid{a:RW}(I:Inv X pins σ H s)(k:∀b u,s.heap.get? b=RM u->h'.get? b=RM u)(c:s⁻¹<=a)(new:bF X.prog X.w (upd H a o) h' a o):Inv X pins σ (upd H a o) {s with heap:=h',toks:=t'}:=I.un (Un.laid k c (I.aM.fresh c)) (I.aM.laid k c new)
def Inv.write(I:Inv X pins σ H s)(c:Ou (H x))(d:e=x\/H e=RM (.own x))(k:∀b u,b≠e->s.heap.get? b=RM u->h'.get? b=RM u)(a:∃u,h'.get? e=RM u)(new:bF X.prog X.w (upd H x o) h' x o):Inv X pins σ (upd H x o) {s with heap:=h',toks:=t'}:=I.un (Un.write c d k a) (I.aM.write c d k a new)
def Inv.fO{pins'}(I:Inv X pins σ H s)(h:∀p∈pins',s.heap.get? p.1=RM p.2/\H p.1=RP/\p.1≠X.env.locals/\p.1∉X.fs/\∀v,p.2.data≠.cell v):Inv X pins' σ H s:=⟨I.ok,I.os,I.bare,I.base,I.loc,I.cell,I.free,I.dk,λp a=>(Ω.mp a).elim (λz=>I.pin p (SX _ z)) (h p),I.aM,I.len⟩
def mq{N:List Sy}(hN:N.Nodup){i j:Nat}(a:N[i]?=RM x)(b:N[j]?=RM x):i=j:=by
 obtain⟨f,d⟩:=Ω0.mp a;obtain⟨e,c⟩:=Ω0.mp b;exact(List.getElem_inj hN).mp (d.trans c.symm)
theorem yR{M:W8}{A:SF}{E:RR->RU->Prop}{i:Nat}{x:Sy}{v:V}{u:RR}{Q:Unit->RU->Prop}(I:Inv X pins σ H s)(hN:X.N.Nodup)(P:X.N[i]?=RM x)(B:Loc X.env.scope x)(r:RelV v u)(h:∀s',Inv X pins (σ.set i (RM v)) H s'->(∃a,TR a s.heap s'.heap/\(a=X.env.locals\/X.env.cells.lookup x=RM a))->Q () s')(hf:X.fn x=RQ\/X.env.scope.names.lookup x=RM .local:=by first|exact .inl rfl|exact .inr rfl|assumption):wpAny M A (storeName X.env x u) Q E s:=by
 obtain⟨m,hn,hl⟩:=id I.loc;have R:(X.env.scope.kind==.class||(X.env.scope.kind==.module&&X.env.locals !=X.env.globals))=RT:=by rw[I.ok.kind];rfl
 have G:i<σ.length:=by rw[I.len];exact(Ω0.mp P).1
 have Af:=I.Af;have g:∀{a:RW}{h':SJ},(∃o,s.heap.get? a=RM o/\H a=RP)->TR a s.heap h'->jq X.prog X.w H h':=λ{a h'}ha f b ob e=>by
  obtain⟨_,_,C⟩:=ha;refine(I.aM b ob e).fN (λc U t q=>(f.2 c ?_).trans q) (λ_ q=>q) λ_ _ q=>q;rintro rfl;rcases t with rfl|t;.rw[C]at e;cases e
  .rw[C]at t;cases t
 rcases B with F|F
 .refine wpAny_storeName_local F hn (λh' a2 f=>?_) R;obtain⟨oL,_,_,a0,_⟩:=id hn;refine h _ ⟨I.ok,I.os,I.bare,⟨λb o e n hb B=>?_,λb o e n hb B=>?_,I.base.free,λb o e B=>?_,I.base.jt,I.base.iR,I.base.ju⟩,⟨_,a2,λj y Y l D e3=>?_⟩,λy c e=>?_,I.free,I.dk,λp hp=>?_,g ⟨oL,a0,I.free⟩ f,by simpa using I.len⟩ ⟨_,f,.inl rfl⟩;.exact(f.2 b (SD (Su (Sa e) I.ok.above))).trans (I.base.keep b o e n hb B)
  .obtain⟨sl,l⟩:=I.base.slot b o e n hb B;exact⟨sl,(f.2 b (SD (Su (Sa e) I.ok.above))).trans l⟩
  .obtain⟨o',l⟩:=I.base.there b o e B;exact⟨o',(f.2 b (SD (Su (Sa e) I.ok.above))).trans l⟩
  .by_cases J:j=i
   .subst J;rw[P]at l;cases l;rw[WK G]at D;cases D;exact⟨u,r,.inl ⟨F,by simp⟩⟩
   .rw[Zs (T8 J)]at D;obtain⟨Z,r',q⟩:=hl j y Y l D e3;refine⟨Z,r',?_⟩;rcases q with⟨k,e⟩|⟨k,c,e,z⟩
    .refine .inl ⟨k,?_⟩;have:y≠x:=λe=>J (mq hN l (e▸P));simp[this,e]
    .exact .inr ⟨k,c,e,z.sameBut f (Af y c e)⟩
  .obtain⟨U,z⟩:=I.cell y c e;exact⟨U,z.sameBut f (Af y c e)⟩
  .obtain⟨e,n,ne,nf,d⟩:=I.pin p hp;exact⟨(f.2 p.1 ne).trans e,n,ne,nf,d⟩
 .have K:X.fn x=RQ:=by
   rcases hf with z|z;.exact z
   .rw[z]at F;cases F
  obtain⟨c,t⟩:=I.ok.has x (.inl F);obtain⟨U,z⟩:=I.cell x c t;refine wpAny_storeName_cell I.ok.kind F t z (λh' T f=>?_);obtain⟨oc,O,L⟩:=id z;refine h {s with heap:=h'} ⟨I.ok,I.os,I.bare,⟨λb o e n hb B=>?_,λb o e n hb B=>?_,I.base.free,λb o e B=>?_,I.base.jt,I.base.iR,I.base.ju⟩,⟨m,hn.sameBut f (T8 (Af x c t)),λj y Y l D e3=>?_⟩,λy W e=>?_,I.free,I.dk,λp hp=>?_,g ⟨oc,O,I.dk x c t⟩ f,by simpa using I.len⟩ ⟨c,f,.inr t⟩;.exact(f.2 b (SD (Su (Sa e) (I.ok.HU x c K t)))).trans (I.base.keep b o e n hb B)
  .obtain⟨sl,l⟩:=I.base.slot b o e n hb B;exact⟨sl,(f.2 b (SD (Su (Sa e) (I.ok.HU x c K t)))).trans l⟩
  .obtain⟨o',l⟩:=I.base.there b o e B;exact⟨o',(f.2 b (SD (Su (Sa e) (I.ok.HU x c K t)))).trans l⟩
  .by_cases J:j=i
   .subst J;rw[P]at l;cases l;rw[WK G]at D;cases D;exact⟨u,r,.inr ⟨.inl F,c,t,T⟩⟩
   .rw[Zs (T8 J)]at D;obtain⟨Z,r',q⟩:=hl j y Y l D e3;refine⟨Z,r',?_⟩;rcases q with q|⟨k,W,e,z'⟩;.exact .inl q
    .refine .inr ⟨k,W,e,z'.sameBut f ?_⟩;rintro rfl;exact J (mq hN l (I.ok.inj _ _ _ e t▸P))
  .by_cases S:W=c;.subst S;exact⟨_,T⟩
   .obtain⟨w2,z2⟩:=I.cell y W e;exact⟨w2,z2.sameBut f S⟩
  .obtain⟨e,n,ne,nf,d⟩:=I.pin p hp;refine⟨(f.2 p.1 ?_).trans e,n,ne,nf,d⟩;intro q;rw[q,O]at e;have q':oc=p.2:=R3 e;exact d U (by rw[<-q'];exact L)
def gy{M:W8}{A:SF}{E:RR->RU->Prop}{i:Nat}{x:Sy}{v:V}{u:RR}{Q:Unit->RU->Prop}(I:Inv X pins σ H s)(hN:X.N.Nodup)(b:X.N[i]?=RM x)(a:Loc X.env.scope x)(r:RelV v u)(h:∀s',Inv X pins (σ.set i (RM v)) H s'->Q () s')(c:X.fn x=RQ\/X.env.scope.names.lookup x=RM .local:=by first|exact .inl rfl|exact .inr rfl|assumption):wpAny M A (storeName X.env x u) Q E s:=yR I hN b a r (λs' d _=>h s' d) c
theorem Inv.Ag(I:Inv X pins σ H s)(f:s'.os=s.os)(u:Un (iB X.stack) ch H H' s.heap s'.heap)(aM:jq X.prog X.w H' s'.heap)(g:Xi s'.gens)(a:∀b∈ch,(b∈X.ex\/X.bR.heap.objs.size<=b)/\b≠X.env.locals/\(∀x c,X.env.cells.lookup x=RM c->c≠b)/\∀p∈X.pn++pins,p.1≠b):Inv X pins σ H' s':=by
 obtain⟨h',g',d',t',d⟩:=s';have e:d=s.os:=f;subst e;exact I.call u aM g a
end
abbrev XK:=RR->Option RW->Hp->Prop
abbrev St:=List (Option V)
abbrev VK:=V->Hp->Prop
abbrev TE:=St->Hp->VK->Prop
abbrev TT:=St->Hp->(Bool->Hp->Prop)->Prop
abbrev TA:=St->Hp->(List V->Hp->Prop)->Prop
structure Ends where
 nx:St->Hp->Prop
 rt:VK
 bk:St->Hp->Prop:=λ_ _=>False
 ct:St->Hp->Prop:=λ_ _=>False
abbrev TS:=Ends->St->Hp->Prop
inductive EP(X:Cx)(pins:List (RW×Tn))(σ:St)(Q:VK)(u:RR)(s':RU):Prop where|mk(v:V)(H':Hp)(I:Inv X pins σ H' s')(r:RelV v u)(q:Q v H')
inductive TP(X:Cx)(pins:List (RW×Tn))(σ:St)(Q:Bool->Hp->Prop)(b:Bool)(s':RU):Prop where|mk(H':Hp)(I:Inv X pins σ H' s')(q:Q b H')
inductive AP(X:Cx)(pins:List (RW×Tn))(σ:St)(Q:List V->Hp->Prop)(us:List RR)(s':RU):Prop where|mk(vs:List V)(H':Hp)(I:Inv X pins σ H' s')(r:ax vs us)(q:Q vs H')
def SP(X:Cx)(pins:List (RW×Tn))(D:Ends)(f:Flow)(s':RU):Prop:=match f with
 |.next=>∃a b,Inv X pins a b s'/\D.nx a b|.brk=>∃a b,Inv X pins a b s'/\D.bk a b|.cont=>∃a b,Inv X pins a b s'/\D.ct a b|.ret u=>∃v a b,Inv X pins a b s'/\RelV v u/\D.rt v b
def PE(X:Cx)(e:Sj)(t:TE):Prop:=∀(a:List (RW×Tn))(s:RU)(b:St)(H:Hp)(Q:VK),Inv X a b H s->t b H Q->wpAny (Sb X.prog X.w) X.A (Ux e X.env) (EP X a b Q) X.xe s
def PT(X:Cx)(e:Sj)(t:TT):Prop:=∀(a:List (RW×Tn))(s:RU)(b:St)(H:Hp)(Q:Bool->Hp->Prop),Inv X a b H s->t b H Q->wpAny (Sb X.prog X.w) X.A (Zt e X.env (Ux e X.env)) (TP X a b Q) X.xe s
def PW(X:Cx)(e:Sj)(t:TT):Prop:=∀(whole:XH RR)(a:List (RW×Tn))(s:RU)(b:St)(H:Hp)(Q:Bool->Hp->Prop),Inv X a b H s->t b H Q->wpAny (Sb X.prog X.w) X.A (Zt e X.env whole) (TP X a b Q) X.xe s
def PW.pt(h:PW X e t):PT X e t:=h _
def PA(X:Cx)(c:List Sj)(t:TA):Prop:=∀(pos:Uq)(a:List (RW×Tn))(s:RU)(b:St)(H:Hp)(Q:List V->Hp->Prop),Inv X a b H s->t b H Q->wpAny (Sb X.prog X.w) X.A (spliced (UP pos (Sq c X.env))) (AP X a b Q) X.xe s
def PS(X:Cx)(st:UL)(t:TS):Prop:=∀(a:List (RW×Tn))(s:RU)(b:St)(H:Hp)(D:Ends),Inv X a b H s->t D b H->wpAny (Sb X.prog X.w) X.A (exec st X.env) (SP X a D) X.xe s
def su(X:Cx)(st:List UL)(t:TS):Prop:=∀(a:List (RW×Tn))(s:RU)(b:St)(H:Hp)(D:Ends),Inv X a b H s->t D b H->wpAny (Sb X.prog X.w) X.A (execs st X.env) (SP X a D) X.xe s
def bE{t:XH b}{Q c:b->RU->Prop}(h:wpAny M A t Q E s)(d:∀a s,Q a s->c a s):wpAny M A t c E s:=TM h d λ_ _ x=>x
end L2
namespace L2
open PySem PySem.Spec PyProof.Rows
section
variable{X:Cx}
noncomputable def LH(i:Nat):TE:=λa H Q=>∃v,a[i]?=RM (RM v)/\Q v H
noncomputable def tC(v:V):TE:=λ_ H Q=>Q v H
def fj{i:Nat}{x:Sy}{pos:Uq}(hN:X.N[i]?=RM x)(n:wG X.env.scope x)(hd:(x==("__debug__":Sy))=RT:=by decide)(g:(x==("__classdict__":Sy))=RT:=by decide):PE X (.Name x pos) (LH i):=by
 intro f s k H Q I h;obtain⟨v,e,h⟩:=h;obtain⟨m,o,q⟩:=I.loc;obtain⟨u,r,l⟩:=q i x v hN e n;have d:EP X f k Q u s:=⟨v,H,I,r,h⟩;rcases l with⟨b,p⟩|⟨b,c,j,a⟩;.exact wpAny_Name (wpAny_loadName_local I.ok.kind b o p d) hd
 .rcases b with b|b;.exact wpAny_Name (wpAny_loadName_cell I.ok.kind b j a d) hd
  .exact wpAny_Name (wpAny_loadName_free I.ok.kind b j a d g) hd
def aI:PE X (.Constant (.int i) j pos) (tC (.int i)):=λ_ _ _ H _ I h=>wpAny_Constant_int ⟨.int i,H,I.tok _,⟨_,rfl⟩,h⟩
def LI:PE X (.Constant (.bool b) j pos) (tC (.bl b)):=λ_ _ _ H _ I h=>Constant_bool ⟨.bl b,H,I,rfl,h⟩
def HW:PE X (.Constant .none j pos) (tC .br):=λ_ _ _ H _ I h=>Constant_none ⟨.br,H,I,rfl,h⟩
def HX:PE X (.Constant (.str x) j pos) (tC (.str x)):=λ_ _ _ H _ I h=>Calls.Constant_str ⟨.str x,H,I.tok _,⟨_,rfl⟩,h⟩
def Gl(X:Cx)(x:Sy):Prop:=X.env.kindOf x=RM .globalImplicit
def jv{E:RR->RU->Prop}{pins:List (RW×Tn)}{s:RU}{σ:St}{H:Hp}{x:Sy}{u:RR}{pos:Uq}{Q:RR->RU->Prop}(I:Inv X pins σ H s)(b:Gl X x)(a:X.mg x=RM u)(h:Q u s)(hd:(x==("__debug__":Sy))=RT:=by decide):wpAny (Sb X.prog X.w) X.A (Ux (.Name x pos) X.env) Q E s:=XT I.ok.kind b (Calls.loadGlobal_global (by rw[I.ok.glob];exact I.mod.glob.keeps I.bk) a h) hd
def mv{E:RR->RU->Prop}{pins:List (RW×Tn)}{s:RU}{σ:St}{H:Hp}{x:Sy}{u:RR}{pos:Uq}{Q:RR->RU->Prop}(I:Inv X pins σ H s)(d:Gl X x)(c:X.mg x=RP)(a:Uh x=RM u)(h:Q u s)(b:x≠"__name__":=by decide)(hd:(x==("__debug__":Sy))=RT:=by decide):wpAny (Sb X.prog X.w) X.A (Ux (.Name x pos) X.env) Q E s:=by
 obtain⟨g,f,e⟩:=I.mod.blt;exact XT I.ok.kind d (Calls.loadGlobal_builtin (by rw[I.ok.glob];exact I.mod.glob.keeps I.bk) c (by rw[I.ok.blt];exact f.keeps I.bk) ((e x b).trans a) h) hd
def qz{x:Sy}{v:V}{u:RR}{pos:Uq}(b:Gl X x)(a:X.mg x=RM u)(r:RelV v u)(hd:(x==("__debug__":Sy))=RT:=by decide):PE X (.Name x pos) (tC v):=λ_ _ _ H _ I h=>jv I b a ⟨v,H,I,r,h⟩ hd
def D9{x:Sy}{v:V}{u:RR}{pos:Uq}(d:Gl X x)(c:X.mg x=RP)(a:Uh x=RM u)(r:RelV v u)(b:x≠"__name__":=by decide)(hd:(x==("__debug__":Sy))=RT:=by decide):PE X (.Name x pos) (tC v):=λ_ _ _ H _ I h=>mv I d c a ⟨v,H,I,r,h⟩ b hd
noncomputable def OR(t u:TT):TT:=λd H Q=>t d H λc e=>if c=RQ then u d e Q else Q RT e
noncomputable def Rc(t u:TT):TT:=λd H Q=>t d H λc e=>if c=RQ then Q RQ e else u d e Q
noncomputable def OS(t:TT):TT:=λd H Q=>t d H λc e=>Q (!c) e
def wH(ha:PT X a tA):PW X (.BoolOp .And [a] pos) tA:=by
 intro g d s f H Q I h;refine isTrue_and (bE (ha d s f H Q I h) λc i e=>?_);cases c with
 |true=>exact isTrue_and_nil e|false=>exact e
def HY(ha:PT X a tA):PW X (.BoolOp .Or [a] pos) tA:=by
 intro g d s f H Q I h;refine isTrue_or (bE (ha d s f H Q I h) λc i e=>?_);cases c with
 |false=>exact isTrue_or_nil e|true=>exact e
def Ah(ha:PT X a tA)(hb:PW X (.BoolOp .And (b::rest) pos) tB'):PW X (.BoolOp .And (a::b::rest) pos) (OR tA tB'):=by
 intro k d s f H Q I h;refine isTrue_and (bE (ha d s f H _ I h) λc l e=>?_);obtain⟨j,i,g⟩:=e;cases c with
 |true=>exact hb k d l f j Q i g|false=>exact⟨j,i,g⟩
def LJ(ha:PT X a tA)(hb:PW X (.BoolOp .Or (b::rest) pos) tB'):PW X (.BoolOp .Or (a::b::rest) pos) (Rc tA tB'):=by
 intro k d s f H Q I h;refine isTrue_or (bE (ha d s f H _ I h) λc l e=>?_);obtain⟨j,i,g⟩:=e;cases c with
 |true=>exact⟨j,i,g⟩|false=>exact hb k d l f j Q i g
def HZ(ha:PT X a tA):PT X (.UnaryOp .Not a pos) (OS tA):=by
 intro d s e H Q I h;exact isTrue_not (bE (ha d s e H (λc g=>Q (!c) g) I h) λc j z=>by obtain⟨i,f,q⟩:=z;exact⟨i,f,q⟩)
noncomputable def LK(ta tb:TE):TE:=λd H Q=>ta d H λx e=>∃c,x=.bl c/\if c=RQ then tb d e Q else Q (.bl RT) e
noncomputable def LL(ta:TE):TE:=λd H Q=>ta d H λx e=>∃c,x=.bl c/\Q (.bl (!c)) e
def H_(h:PE X a t):PE X (.BoolOp op [a] pos) t:=λc s d H Q I hw=>BoolOp_one (h c s d H Q I hw)
def Ia(ha:PE X a ta)(hb:PE X (.BoolOp .And (b::rest) pos) tb):PE X (.BoolOp .And (a::b::rest) pos) (LK ta tb):=by
 intro d s g H Q I h;refine BoolOp_and (bE (ha d s g H _ I h) λv k f=>?_);obtain⟨x,j,i,l,e⟩:=f;obtain⟨c,rfl,e⟩:=e;cases l;refine T9 ?_;cases c with
 |true=>exact hb d k g j Q i e|false=>exact⟨.bl RT,j,i,rfl,e⟩
def Ib(ha:PE X a ta):PE X (.UnaryOp .Not a pos) (LL ta):=by
 intro d s g H Q I h;refine UnaryOp_ (bE (ha d s g H _ I h) λv l e=>?_);obtain⟨x,k,j,i,f⟩:=e;obtain⟨c,rfl,f⟩:=f;cases i;exact not_of (T9 ⟨.bl (!c),k,j,rfl,f⟩)
noncomputable def Rf(t:TT)(ta tb:TE):TE:=λd H Q=>t d H λc e=>if c=RQ then ta d e Q else tb d e Q
def Ai(m:PT X c tA)(ha:PE X a ta)(hb:PE X b tb):PE X (.IfExp c a b pos) (Rf tA ta tb):=by
 intro e s f H Q I h;refine wpAny_IfExp (bE (m e s f H _ I h) λd i g=>?_);obtain⟨l,k,j⟩:=g;cases d with
 |true=>exact ha e i f l Q k j|false=>exact hb e i f l Q k j
end
end L2
namespace L2
open PySem PySem.Spec PyProof.Rows
def dZ(K:R0)(H:Hp)(a:RW)(xs:List V):Prop:=Rd H a (.lst xs)\/∃(o:Tn)(b:Array RR)(n:Nat),K.lookup a=RM o/\o.cls=.type "list"/\o.dict=RP/\o.data=.seq b n/\b.size<=R1/\ax xs b.toList
def ki(K:R0)(H:Hp)(a:RW)(xs:List V):Prop:=Rd H a (.tup xs)\/∃(o:Tn)(b:Array RR)(n:Nat),K.lookup a=RM o/\o.cls=.type "tuple"/\o.data=.seq b n/\b.size<=R1/\ax xs b.toList
noncomputable def OT:RR->Option V
 |.none=>RM .br|.bool b=>RM (.bl b)|.int i _=>RM (.int i)|.str x _=>RM (.str x)|.bytes b _=>RM (.HQ b)|.float b _=>RM (.Lk b)|.ref a=>RM (.ref a)|.type n=>RM (.ty n)|_=>RP
def RelV.abs(r:RelV x u):OT u=RM x:=by cases x with
 |br=>cases r;rfl|bl _=>cases r;rfl|int _=>obtain⟨t,rfl⟩:=r;rfl|str _=>obtain⟨t,rfl⟩:=r;rfl|HQ _=>obtain⟨t,rfl⟩:=r;rfl|Lk _=>obtain⟨t,rfl⟩:=r;rfl|ref _=>cases r;rfl|ty _=>cases r;rfl
def RelV.inj(r:RelV x u)(q:RelV y u):x=y:=R3 (r.abs.symm.trans q.abs)
theorem ax.inj:∀{xs a:List V}{us:List RR},ax xs us->ax a us->xs=a
 |_,_,_,.nil,.nil=>rfl|_,_,_,.cons r t,.cons c b=>by rw[r.inj c,ax.inj t b]
section
variable{σ:St}
def dZ.of{K}(h:H a=RM (.lst xs)):dZ K H a xs:=.inl (.inl h)
def ki.of{K}(h:H a=RM (.tup xs)):ki K H a xs:=.inl (.inl h)
def Inv.list(I:Inv X pins σ H s)(h:dZ X.K H a xs):∃b:List RR,ax xs b/\PlainL s.heap a b.toArray/\xs.length<=R1:=by
 rcases h with h|⟨o,b,n,d,f,hd,c,g,r⟩
 .obtain⟨z,b,n,r,e⟩:=h.ok I.aM;exact⟨b,r,⟨_,n,e,rfl,rfl,rfl⟩,z⟩
 .refine⟨b.toList,r,⟨o,n,I.kf a o d,f,hd,by simpa using c⟩,?_⟩;have e:=r.length;simp only[SN]at e;omega
def Inv.tuple(I:Inv X pins σ H s)(h:ki X.K H a xs):∃b:List RR,ax xs b/\aao s.heap a b.toArray/\xs.length<=R1:=by
 rcases h with h|⟨o,b,n,d,f,c,g,r⟩
 .obtain⟨z,b,r,p⟩:=h.ok I.aM;exact⟨b,r,p,z⟩
 .refine⟨b.toList,r,⟨o,I.kf a o d,f,n,by simpa using c⟩,?_⟩;have e:=r.length;simp only[SN]at e;omega
def Inv.sD(I:Inv X pins σ H s)(h:dZ X.K H a xs)(h':dZ X.K H a ys):xs=ys:=by
 obtain⟨c,r,⟨o,n,e,_,_,d⟩,_⟩:=I.list h;obtain⟨b,i,⟨k,l,f,_,_,g⟩,_⟩:=I.list h';rw[e]at f;cases f;rw[d]at g;injection g with j _;have:=by simpa using Ξ0 Array.toList j
 subst this;exact r.inj i
def Inv.yS(I:Inv X pins σ H s)(h:ki X.K H a xs)(h':ki X.K H a ys):xs=ys:=by
 obtain⟨c,r,⟨o,e,_,n,d⟩,_⟩:=I.tuple h;obtain⟨b,i,⟨k,f,_,l,g⟩,_⟩:=I.tuple h';rw[e]at f;cases f;rw[d]at g;injection g with j _;have:=by simpa using Ξ0 Array.toList j
 subst this;exact r.inj i
end
noncomputable abbrev Cx.oN(X:Cx)(E:RR->RU->Prop):Cx:={X with xe:=E}
noncomputable abbrev Cx.Oy(X:Cx):Cx:=X.oN λ_ _=>False
def Cx.Ok.oN{X:Cx}(ok:X.Ok)(E:RR->RU->Prop):(X.oN E).Ok:=⟨ok.mod,ok.kind,ok.glob,ok.blt,ok.above,ok.inj,ok.has,ok.HU,ok.hd,ok.frames,ok.Ll,ok.Ox,ok.bs,ok.D1,ok.uY,ok.yQ,ok.kg,ok.GZ⟩
def Cx.Ok.gz{X:Cx}(ok:(X.oN E).Ok):X.Ok:=⟨ok.mod,ok.kind,ok.glob,ok.blt,ok.above,ok.inj,ok.has,ok.HU,ok.hd,ok.frames,ok.Ll,ok.Ox,ok.bs,ok.D1,ok.uY,ok.yQ,ok.kg,ok.GZ⟩
section
variable{X:Cx}{pins:List (RW×Tn)}{σ:St}{H:Hp}{s:RU}{E:RR->RU->Prop}
def Inv.oN(I:Inv X pins σ H s)(E):Inv (X.oN E) pins σ H s:=⟨I.ok.oN E,I.os,I.bare,I.base,I.loc,I.cell,I.free,I.dk,I.pin,I.aM,I.len⟩
def Inv.gz(I:Inv (X.oN E) pins σ H s):Inv X pins σ H s:=⟨I.ok.gz,I.os,I.bare,I.base,I.loc,I.cell,I.free,I.dk,I.pin,I.aM,I.len⟩
theorem SP.gz(h:SP (X.oN E) pins D f s'):SP X pins D f s':=by cases f with
 |next=>obtain⟨a,b,I,q⟩:=h;exact⟨a,b,I.gz,q⟩|brk=>obtain⟨a,b,I,q⟩:=h;exact⟨a,b,I.gz,q⟩|cont=>obtain⟨a,b,I,q⟩:=h;exact⟨a,b,I.gz,q⟩|ret u=>obtain⟨v,a,b,I,r,q⟩:=h;exact⟨v,a,b,I.gz,r,q⟩
theorem su.Oy{st}(h:su X.Oy st t):su X st t:=λpins s σ H D I hw=>TM (h pins s σ H D (I.oN _) hw) (λ_ _ q=>q.gz) λ_ _ z=>Uk z
end
section
variable{X:Cx}{st:UL}{rest:List UL}{t u:TS}{e:Sj}{te:TE}{pos:Uq}
noncomputable def LM:TS:=λD a H=>D.nx a H
noncomputable def OU(t u:TS):TS:=λD a H=>t {D with nx:=u D} a H
def lL:su X [] LM:=λ_ _ a H _ I h=>Xx ⟨a,H,I,h⟩
def bG(i:PS X st t)(g:su X rest u):su X (st::rest) (OU t u):=by
 intro a s c H D I h;refine wpAny_execs_cons (bE (i a s c H {D with nx:=u D} I h) λf d q=>?_);cases f with
 |next=>
  obtain⟨b,k,j,q⟩:=q;exact g a d b k D j q|ret v=>exact q|brk=>exact q|cont=>exact q
def jw(c:PS X st t):su X [st] t:=by
 intro a s b H D I h;refine wpAny_execs_cons (bE (c a s b H D I h) λf d q=>?_);cases f with
 |next=>exact Xx q|ret v=>exact q|brk=>exact q|cont=>exact q
def Inv.quiet{σ:St}(I:Inv X pins σ H s):interactive X.env=RT:=by simp[interactive,I.ok.kind]
noncomputable def LN(te:TE):TS:=λD a H=>te a H λ_ b=>D.nx a b
def qB(d:PE X e te)(hs:U2 e RP pos.line X.env=pure RT:=by rfl):PS X (.Expr e pos) (LN te):=by
 intro a s b H D I h;exact wpAny_Expr_any (bE (d a s b H _ I h) λv i⟨x,g,f,j,c⟩=>⟨b,g,f,c⟩) I.quiet hs
noncomputable def OV(te:TE):TS:=λD a H=>te a H D.rt
def mw(f:PE X e te):PS X (.Return (RM e) pos) (OV te):=by
 intro a s b H D I h;exact wpAny_Return_some (bE (f a s b H _ I h) λv j⟨x,i,g,c,d⟩=>⟨x,b,i,g,c,d⟩)
noncomputable def OW(c:TT)(t u:TS):TS:=λD a H=>c a H λb d=>if b=RQ then t D a d else u D a d
def wI(n:PT X c tc)(ha:su X a t)(hb:su X b u):PS X (.If c a b pos) (OW tc t u):=by
 intro f s g H D I h;refine wpAny_If (bE (n f s g H _ I h) λd j i=>?_);obtain⟨m,l,k⟩:=i;cases d with
 |true=>exact ha f j g m D l k|false=>exact hb f j g m D l k
end
abbrev TG:=V->St->Hp->(St->Hp->Prop)->Prop
abbrev D_:=List V->St->Hp->(St->Hp->Prop)->Prop
def PG(X:Cx)(a:Sj)(t:TG):Prop:=∀(b:List (RW×Tn))(s:RU)(d:St)(H:Hp)(v:V)(u:RR)(Q:St->Hp->Prop),Inv X b d H s->RelV v u->t v d H Q->wpAny (Sb X.prog X.w) X.A (Yn a X.env u) (λ_ f=>∃c e,Inv X b c e f/\Q c e) X.xe s
def G2(X:Cx)(g:List Sj)(t:D_):Prop:=∀(a:List (RW×Tn))(s:RU)(c:St)(H:Hp)(d:List V)(e:List RR)(Q:St->Hp->Prop),Inv X a c H s->ax d e->t d c H Q->wpAny (Sb X.prog X.w) X.A (Z1 ((UD g X.env).map (·.2)) e) (λ_ h=>∃b f,Inv X a b f h/\Q b f) X.xe s
abbrev Ic:=V->V->V->Hp->(Hp->Prop)->Prop
def LO(X:Cx)(t:Ic):Prop:=∀(a:List (RW×Tn))(s:RU)(b:St)(H:Hp)(o i v:V)(c d u:RR)(Q:Hp->Prop),Inv X a b H s->RelV o c->RelV i d->RelV v u->t o i v H Q->wpAny (Sb X.prog X.w) X.A (setItem c d u) (λ_ f=>∃e,Inv X a b e f/\Q e) X.xe s
section
variable{X:Cx}{pos:Uq}
noncomputable def Aj(i:Nat):TG:=λv a H Q=>Q (a.set i (RM v)) H
def wJ{i:Nat}{x:Sy}(hN:X.N.Nodup)(c:X.N[i]?=RM x)(b:Loc X.env.scope x)(d:X.fn x=RQ\/X.env.scope.names.lookup x=RM .local:=by first|exact .inl rfl|exact .inr rfl|assumption):PG X (.Name x pos) (Aj i):=by
 intro a s f H v u Q I r h;exact wpAny_assign_Name (gy I hN c b r (λg e=>⟨_,H,e,h⟩) d)
noncomputable def OX:D_:=λb a H Q=>b=[]/\Q a H
noncomputable def LP(t:TG)(u:D_):D_:=λc b H Q=>∃v r,c=v::r/\t v b H λa d=>u r a d Q
def Ea:G2 X [] OX:=by
 intro a s b H c d Q I r h;obtain⟨e,h⟩:=h;subst e;cases r;exact assignInOrder_nil ⟨b,H,I,h⟩
def Ak{e:Sj}{b:List Sj}{t:TG}{u:D_}(l:PG X e t)(k:G2 X b u)(hs:(UD (e::b) X.env).map (·.2)=Yn e X.env::(UD b X.env).map (·.2):=by rfl):G2 X (e::b) (LP t u):=by
 intro a s f H p w Q I r h;obtain⟨v,q,m,h⟩:=h;subst m;cases r with|cons r i=>
  rw[hs];refine XU (bE (l a s f H _ _ _ I r h) λ_ g d=>?_);obtain⟨c,o,n,j⟩:=d;exact k a g c o _ _ Q n i j
noncomputable def OY(K:R0)(n:Nat)(t:D_):TG:=λv c H Q=>∃a b,v=.ref a/\ki K H a b/\b.length=n/\t b c H Q
def Ie{d:List Sj}{k:Nat}{t:D_}{n:Nat}(z:X.calm=RQ)(h:G2 X d t)(x:(UD d X.env).length=n:=by rfl)(f:(UD d X.env).findIdx? (·.1)=RP:=by rfl):PG X (.Tuple d k pos) (OY X.K n t):=by
 intro c s g H v u Q I r hw;obtain⟨a,l,B,w,y,hw⟩:=hw;subst B;cases r;obtain⟨m,i,q,D⟩:=I.tuple w;refine assign_Tuple_tuple (I.ok.hd z) q (by simp[x,<-y,i.length]) f λA p=>?_;have C:Inv X c g H {s with heap:=A}:=I.kept (t':=s.toks) λb o e=>p b o (SD (Sa e)) e;exact h c _ g H l _ Q C (by simpa using i) hw
noncomputable def OZ(b c:TE)(t:Ic):TG:=λv a H Q=>b a H λo f=>c a f λi e=>t o i v e λd=>Q a d
def uZ{o i:Sj}{f g:TE}{t:Ic}(w:PE X o f)(z:PE X i g)(hs:LO X t)(ha:∀v,Yn (.Subscript o i pos) X.env v=(do
   let c<-Ye [v] (Ux o X.env)let d<-Ye [v,c] (Ux i X.env)Wx pos;Ye [v,c,d] (setItem c d v)release [v,c,d] []):=by intro _;rfl):PG X (.Subscript o i pos) (OZ f g t):=by
 intro b s e H v u Q I r h;rw[ha];refine RO (SS (bE (w b s e H _ I h) λc k a=>?_));obtain⟨x,F,C,m,q⟩:=a;refine RO (SS (bE (z b k e F _ C q) λd j a=>?_));obtain⟨y,E,B,l,p⟩:=a;refine RO (Ut (RO (SS (bE (hs b j e E x y v c d u _ B m l r p) λ_ G a=>?_))));obtain⟨D,A,n⟩:=a;exact wpAny_release ⟨e,D,A,n⟩
noncomputable def Ig(te:TE)(g:TG):TS:=λD a H=>te a H λx b=>g x a b D.nx
def qC{tg e:Sj}{te:TE}{g:TG}(j:PE X e te)(i:PG X tg g)(hs:Yo [tg] e pos.line X.env=pure RT:=by rfl)(hw:UU [tg] e X.env=pure RP:=by rfl)(k:(UD [tg] X.env).map (·.2)=[Yn tg X.env]:=by rfl):PS X (.Assign [tg] e pos) (Ig te g):=by
 intro a s b H D I h;refine wpAny_Assign_stores (bE (j a s b H _ I h) λv c⟨x,m,l,d,f⟩=>?_) hs hw;rw[k];exact bE (i a c b m x v _ l d f) λ_ n q=>q
def dP{i:Nat}{x:Sy}{e:Sj}{te:TE}{a:Uq}(hN:X.N.Nodup)(j:X.N[i]?=RM x)(g:Loc X.env.scope x)(l:PE X e te)(hs:U2 e (RM (.Name x a)) pos.line X.env=pure RT:=by rfl)(k:X.fn x=RQ\/X.env.scope.names.lookup x=RM .local:=by first|exact .inl rfl|exact .inr rfl|assumption):PS X (.Assign [.Name x a] e pos) (Ig te (Aj i)):=by
 intro b s c H D I h;refine wpAny_Assign_Name (bE (l b s c H _ I h) λv q⟨y,o,n,d,f⟩=>?_) hs;exact gy n hN j g d (λp m=>⟨_,o,m,f⟩) k
noncomputable def LQ(i j:Nat)(c:TA):TS:=λD a H=>c a H λb d=>∃v w,b=[v,w]/\D.nx ((a.set i (RM v)).set j (RM w)) d
def Ih{i j:Nat}{x y:Sy}{a b:Sj}{z:TA}{n m pt:Uq}{kt k2 pt2}(S:X.calm=RQ)(hN:X.N.Nodup)(R:X.N[i]?=RM x)(Q:X.N[j]?=RM y)(t:i≠j)(C:X.env.scope.names.lookup x=RM .local)(B:X.env.scope.names.lookup y=RM .local)(ha:PA X [a,b] z)(hw:UU [.Tuple [.Name x n,.Name y m] kt pt] (.Tuple [a,b] k2 pt2) X.env=pure (RM [x,y]))(hs:Yo [.Tuple [.Name x n,.Name y m] kt pt] (.Tuple [a,b] k2 pt2) pos.line X.env=pure RT:=by rfl):PS X (.Assign [.Tuple [.Name x n,.Name y m] kt pt] (.Tuple [a,b] k2 pt2) pos) (LQ i j z):=by
 intro c s u H D I h;rw[exec_Assign_arm];refine RO (Ut ?_);rw[hs];refine RO (RS ?_);rw[Ξ3 '1'];refine RO (Tuple_ (bE (ha _ c s u H _ I h) λK f g=>?_));obtain⟨Z,J,Y,M,l⟩:=g;obtain⟨v,w,T,l⟩:=l;subst T;obtain⟨u1,d,rfl,L,k⟩:∃u1 d,K=[u1,d]/\RelV v u1/\RelV w d:=by cases M with|cons p q=>cases q with|cons P O=>
    cases O;exact⟨_,_,rfl,p,P⟩
 refine T_ ?_ (by show 2<=R1;decide);have W:Inv X c u J {f with heap:=f.heap.push {cls:=.type "tuple",data:=.seq [u1,d].toArray}}:=Y.kept (t':=f.toks) λb o e=>RY _ e;rw[hw];refine RO (RS ?_);show wpAny (Sb X.prog X.w) X.A (do YQ "assign.swapped-stores";let items<-unpackItems (.ref f⁻¹) 2 RP;Z1 [λv=>Zu X.env y v,λv=>Zu X.env x v] items.reverse;pure Flow.next) _ _ _;refine RO (Xd (RO (unpackItems_tuple (items:=#[u1,d]) (I.ok.hd S) (IsTup.new f.heap _) λh' r=>?_)));have V:=W.kept (h':=h') (t':=f.toks) λb o e=>r b o (SD (Sa e)) e;show wpAny _ _ (Z1 [λv=>Zu X.env y v,λv=>Zu X.env x v] [d,u1]>>=λ_=>pure Flow.next) _ _ _;refine RO (XU (wpAny_bindName (gy V hN Q (.inl B) k (λs2 U=>?_) (.inr B))));refine XU (wpAny_bindName (gy U hN R (.inl C) L (λs3 G=>assignInOrder_nil (RS ?_)) (.inr C)));rw[List.set_comm _ _ (T8 t)]at G;exact⟨_,J,G,l⟩
end
section
noncomputable def Ii(c:TT)(h:TS):TS:=λD a H=>∃W:Nat->St->Hp->Prop,(∃m,W m a H)/\∀m a H,W m a H->c a H λb f=>if b=RQ then∃N:St->Hp->Prop,(∀d g,N d g->∃e,e<m/\W e d g)/\h {D with nx:=N,ct:=N,bk:=D.nx} a f else D.nx a f
def Al(u:XQ (Sb X.prog X.w) X.A X.env X.xe)(M:PT X c tc)(hb:su X body t):PS X (.While c body [] pos) (Ii tc t):=by
 intro d s C H D I h;obtain⟨W,⟨L,F⟩,i⟩:=h;refine wpAny_While (codeAny_whileLoop (λn K=>∃g B,Inv X d g B K/\W n g B) ?_ L ⟨C,H,I,F⟩);rintro n J⟨e,z,O,E⟩;refine Vl u (bE (M d J e z _ O (i n e z E)) λb G m=>?_);obtain⟨y,x,l⟩:=m;cases b with
 |true=>
  obtain⟨N,hN,l⟩:=l;rw[Ξ2 rfl];refine Vl u (bE (hb d G e y _ x l) λf P k=>?_);cases f with
  |next=>
   obtain⟨a,j,r,n3⟩:=k;obtain⟨p,q,o⟩:=hN a j n3;exact⟨p,q,a,j,r,o⟩|cont=>
   obtain⟨a,j,r,n3⟩:=k;obtain⟨p,q,o⟩:=hN a j n3;exact⟨p,q,a,j,r,o⟩|brk=>exact k|ret v=>exact k
 |false=>
  rw[Ξ3 Tw];exact Xx ⟨e,y,x,l⟩
end
structure It where
 go:Nat->Hp->Prop
 Oz:Nat->Hp->V->Hp->Prop
 stop:Nat->Hp->Prop
def ij(X:Cx)(pins:List (RW×Tn))(H:Hp)(b:RW):Prop:=H b=RP/\b≠X.env.locals/\b∉X.fs/\(b∈X.ex\/X.bR.heap.objs.size<=b)/\(∀x c,X.env.cells.lookup x=RM c->c≠b)/\∀p∈X.pn++pins,p.1≠b
def Inv.Eb{σ:St}{b:RW}(I:Inv X pins σ H s)(hb:s⁻¹<=b)(d:H' b=RP):ij X pins H' b:=by
 refine⟨d,UE (Su I.lt hb),I.HV hb,.inr (SO I.sz hb),λx c e z=>?_,λp a z=>?_⟩
 .obtain⟨v,q⟩:=I.cell x c e;exact Ξ1 (Su q.lt (by rw[z];exact hb)) (Tr _)
 .exact Ξ1 (Su (Sa (I.pin p a).1) (by rw[z];exact hb)) (Tr _)
structure Turn(P:Sf)(w:Sx)(K:R0)(tg:Sj)(J:It)(fp:List RW)(it:RW)(tn:Nat->SJ->Prop):Prop where
 mem:it∈fp
 obj:∀i h,tn i h->∀b∈fp,∃o,h.get? b=RM o/\∀v,o.data≠.cell v
 keep:∀i h h',tn i h->(∀b∈fp,∀o,h.get? b=RM o->h'.get? b=RM o)->tn i h'
 item:∀(X:Cx),X.prog=P->X.w=w->X.K=K->X.calm=RQ->∀(i:Nat)(pins:List (RW×Tn))(s:RU)(σ:St)(H:Hp)(E:RR->RU->Prop),Inv X pins σ H s->(∀b∈fp,ij X pins H b)->tn i s.heap->J.go i H->wpAny (Sb P w) X.A (WL (.ref it)) (λr s1=>∃u,r=RM u/\wpAny (Sb P w) X.A (VN tg (.ref it) u) (λ_ s2=>∃x H',Inv X pins σ H' s2/\RelV x u/\J.Oz i H x H'/\tn (i+1) s2.heap/\∀b∈fp,H' b=RP) E s1) E s
 done:∀(X:Cx),X.prog=P->X.w=w->X.K=K->X.calm=RQ->∀(i:Nat)(pins:List (RW×Tn))(s:RU)(σ:St)(H:Hp)(E:RR->RU->Prop),Inv X pins σ H s->(∀b∈fp,ij X pins H b)->tn i s.heap->J.stop i H->wpAny (Sb P w) X.A (WL (.ref it)) (λr s1=>r=RP/\Inv X pins σ H s1) E s
 self:∀(A:SF)(i:Nat)(s:RU)(Q:RR->RU->Prop)(E:RR->RU->Prop),tn i s.heap->Q (.ref it) s->wpAny (Sb P w) A (Z8 (.ref it)) Q E s
abbrev TI:=St->Hp->(It->Hp->Prop)->Prop
def Qz(X:Cx)(pins:List (RW×Tn))(σ:St)(tg:Sj)(R:It->Hp->Prop)(a:RR)(s2:RU):Prop:=∃(it:RW)(e:List RW)(d:Nat->SJ->Prop)(J:It)(c:Hp),a=.ref it/\Inv X pins σ c s2/\Turn X.prog X.w X.K tg J e it d/\d 0 s2.heap/\(∀b∈e,ij X pins c b)/\R J c
def PI(X:Cx)(tg iter:Sj)(c:TI):Prop:=∀(a:List (RW×Tn))(s:RU)(b:St)(H:Hp)(R:It->Hp->Prop),Inv X a b H s->c b H R->wpAny (Sb X.prog X.w) X.A (Ux iter X.env) (λv d=>wpAny (Sb X.prog X.w) X.A (Z8 v) (Qz X a b tg R) X.xe d) X.xe s
def wK(b:s.heap.get? it=RM o)(d:o.cls=.type n)(hd:o.data=.fields vs)(c:["enumerate","zip","dict_itemiterator","dict_reverseitemiterator","odict_iterator","itertools.zip_longest","itertools.pairwise"].contains n=RT)(a:Q () s):wpAny M A (VN tg (.ref it) u) Q E s:=by
  unfold VN;cases tg<;>first
    |exact RS a|(cases u<;>first
        |exact RS a
        | (refine RO (wpAny_load b ?_);rw[d,hd];show wpAny M A (if(["enumerate","zip","dict_itemiterator","dict_reverseitemiterator","odict_iterator","itertools.zip_longest","itertools.pairwise"].contains n&&vs[0]?==RM (VZ _))=RQ then _ else _) Q E s;rw[Ξ3 (by intro h;rw[c,Bool.false_and]at h;cases h)];exact RS a))
noncomputable def QB(K:R0)(a:RW):It:=⟨λi H=>∃b x,dZ K H a b/\b[i]?=RM x,λi H x c=>c=H/\∀b,dZ K H a b->b[i]?=RM x,λi H=>∃b,dZ K H a b/\b.length<=i⟩
noncomputable def QF(K:R0)(a:RW):It:=⟨λi H=>∃b x,ki K H a b/\b[i]?=RM x,λi H x c=>c=H/\∀b,ki K H a b->b[i]?=RM x,λi H=>∃b,ki K H a b/\b.length<=i⟩
noncomputable def O1(lo:Int)(n:Nat):It:=⟨λi _=>i<n,λi H x a=>a=H/\x=.int (lo+i),λi _=>n<=i⟩
def yT{K}(a it):Turn P w K tg (QB K a) [it] it (λi h=>h.IsListIter it a i)where
 mem:=by simp
 obj:=λi h st b hb=>by
  have e:=by simpa using hb
  subst e;obtain⟨o,e,c,d⟩:=st;exact⟨o,e,λv z=>by rw[d]at z;cases z⟩
 keep:=λi h n st k=>st.at λo e=>k it '2' o e;item:=by
  intro X hP hw hK G i f s F H E I m st y;subst hP hw hK;obtain⟨J,x,l,t⟩:=y;obtain⟨r,q,p,M⟩:=I.list l;obtain⟨u,hu,L⟩:=q.get t;obtain⟨D,C,O,B,A,f5⟩:=m it '2';refine YR st p.isList (by simpa using hu) λn g sb=>?_;have R:Inv X f F H {s with heap:=n}:=I.turned (λb o hb e=>(sb.2 b hb).trans e) D C B A f5;obtain⟨o,e,c,d⟩:=id g;exact⟨u,rfl,wK e c d '1' ⟨x,H,R,L,⟨rfl,λS N=>by rw[I.sD N l];exact t⟩,g,λb hb=>(m b hb).1⟩⟩
 done:=by
  intro X hP hw hK G i f s F H E I m st y;subst hP hw hK;obtain⟨J,l,t⟩:=y;obtain⟨r,q,p,M⟩:=I.list l;obtain⟨D,C,O,B,A,f5⟩:=m it '2';have T:=q.length;exact Zg (I.ok.hd G) st p.isList (by simp;omega) λn Q=>⟨rfl,I.turned (λb o hb e=>Q b o hb e) D C B A f5⟩
 self:=λ_ _ _ _ _ st h=>wpAny_pyIter_listiter st h
def u4{K}(a it):Turn P w K tg (QF K a) [it] it (λi h=>h.IsTupleIter it a i)where
 mem:=by simp
 obj:=λi h st b hb=>by
  have e:=by simpa using hb
  subst e;obtain⟨o,e,c,d⟩:=st;exact⟨o,e,λv z=>by rw[d]at z;cases z⟩
 keep:=λi h q st k=>st.at λo e=>k it '2' o e;item:=by
  intro X hP hw hK G i f s F H E I n st y;subst hP hw hK;obtain⟨J,x,m,t⟩:=y;obtain⟨g,r,p,M⟩:=I.tuple m;obtain⟨u,hu,L⟩:=r.get t;obtain⟨D,C,O,B,A,f5⟩:=n it '2';refine wpAny_pyNext_tuple_item st (show s.heap.IsTuple a g.toArray from p) (by simpa using hu) λq j sb=>?_;have R:Inv X f F H {s with heap:=q}:=I.turned (λb o hb e=>(sb.2 b hb).trans e) D C B A f5;obtain⟨o,e,c,d⟩:=id j;exact⟨u,rfl,wK e c d '1' ⟨x,H,R,L,⟨rfl,λS N=>by rw[I.yS N m];exact t⟩,j,λb hb=>(n b hb).1⟩⟩
 done:=by
  intro X hP hw hK G i f s F H E I n st y;subst hP hw hK;obtain⟨J,m,t⟩:=y;obtain⟨g,r,p,M⟩:=I.tuple m;obtain⟨D,C,O,B,A,f5⟩:=n it '2';have T:=r.length;exact wpAny_pyNext_tuple_end (I.ok.hd G) st (show s.heap.IsTuple a g.toArray from p) (by simp;omega) λq Q=>⟨rfl,I.turned (λb o hb e=>Q b o hb e) D C B A f5⟩
 self:=λ_ _ _ _ _ st h=>wpAny_pyIter_tupleiter st h
def u5{K}(it)(lo)(n):Turn P w K tg (O1 lo n) [it] it (λi h=>IsRangeIter h it (lo+(i)*1) ((n)-(i)) 1)where
 mem:=by simp
 obj:=λi h st b hb=>by
  have e:=by simpa using hb
  subst e;exact⟨_,st,λv z=>by
   have A:Data.fields _=Data.cell v:=z;cases A⟩
 keep:=λi h j st k=>k it '2' _ st;item:=by
  intro X hP hw hK m i a s x H E I g st l;subst hP hw hK;obtain⟨u,r,D,q,p,f5⟩:=g it '2';have W:=Walks.range (prog:=X.prog) (w:=X.w) (I.ok.hd m) it lo 1 n;refine W.item i s _ _ l st λv j y C d B=>?_;obtain⟨t,rfl⟩:=C;have G:Inv X a x H {s with heap:=j,toks:=y}:=I.turned (λb o hb e=>B b o (by simpa using hb) e) u r q p f5;refine⟨_,rfl,wK d rfl rfl '1' ⟨.int (lo+i),H,G,⟨t,?_⟩,⟨rfl,rfl⟩,d,λb hb=>(g b hb).1⟩⟩;rw[Int.mul_one]
 done:=by
  intro X hP hw hK m i a s x H E I g st l;subst hP hw hK;obtain⟨u,r,D,q,p,f5⟩:=g it '2';exact wpAny_pyNext_range_end (I.ok.hd m) st (by have:n<=i:=l;omega) λj F=>⟨rfl,I.turned (λb o hb e=>F b o hb e) u r q p f5⟩
 self:=λ_ _ _ _ _ st h=>wpAny_pyIter_rangeiter st h
end L2
namespace L2
open PySem PySem.Spec PyProof.Rows
section
variable{X:Cx}{tg:Sj}
def Am{σ:St}{lo c}(I:Inv X pins σ H s)(l:-(2^62)<=lo)(k:lo<2^62)(j:-(2^62)<=c)(i:c<2^62)(q:R (O1 lo (c-lo).toNat) H):wpAny (Sb X.prog X.w) X.A (Z8 (.ref s⁻¹)) (Qz X pins σ tg R) E {s with heap:=s.heap.push {cls:=.type "range",data:=.fields #[.int lo t,.int c u,.int 1 v]},toks:=g}:=by
 refine wpAny_pyIter_range (IsRange.new ..) (small_one l k j i) ?_;have h:Inv X pins σ H {s with heap:=s.heap.push {cls:=.type "range",data:=.fields #[.int lo t,.int c u,.int 1 v]},toks:=g}:=I.kept λb o e=>RY _ e;refine⟨(s.heap.push {cls:=.type "range",data:=.fields #[.int lo t,.int c u,.int 1 v]}).objs.size,[(s.heap.push {cls:=.type "range",data:=.fields #[.int lo t,.int c u,.int 1 v]}).objs.size],_,_,H,rfl,h.kept λb o e=>RY _ e,u5 _ lo (c-lo).toNat,?_,λb hb=>?_,q⟩
 .have n:lo+((0:Nat))*1=lo:=by simp
  have m:(((c-lo).toNat:Nat))-((0:Nat))=Builtin.Range.rangeSize lo c 1:=by rw[rangeSize_one];split<;>omega
  rw[n,m];exact Sl _ rfl
 .have e:b=(s.heap.push {cls:=.type "range",data:=.fields #[.int lo t,.int c u,.int 1 v]}).objs.size:=by simpa using hb
  subst e;exact h.Eb (R5 _) (h.aM.fresh (R5 _))
noncomputable def LR(c:TA):TI:=λa H R=>c a H λb d=>∃j:Int,b=[.int j]/\-(2^62)<=j/\j<2^62/\R (O1 0 j.toNat) d
def yU{a:Sj}{d:TA}{p pos:Uq}(m:Gl X "range")(l:X.mg "range"=RP)(ha:PA X [a] d)(hs:Sq [a] X.env=[(RT,Ux a X.env)]:=by rfl):PI X tg (.Call (.Name "range" p) [a] [] pos) (LR d):=by
 intro b s f H R I h;refine Call_ (mv I m l boot_range (V0 (bE (ha pos b s f H _ I h) λu v⟨o,w,n,i,c⟩=>?_) hs rfl));obtain⟨j,e,c,k,q⟩:=c;subst e;cases i with|cons r g=>
  cases g;obtain⟨t,rfl⟩:=r;exact call_range_1 (Am n '0' '0' c k (by simpa using q))
noncomputable def O2(f:TI)(g:TG)(h:TS):TS:=λD a H=>f a H λJ k=>∃W:Nat->Nat->St->Hp->Prop,(∃m,W 0 m a k)/\∀i m a H,W i m a H->(J.stop i H/\D.nx a H)\/(J.go i H/\∃N:St->Hp->Prop,(∀b c,N b c->∃e,e<m/\W (i+1) e b c)/\∀x c,J.Oz i H x c->g x a c λd j=>h {D with nx:=N,ct:=N,bk:=D.nx} d j)
noncomputable def fP(a:List RW)(h:SJ):List (RW×Tn):=a.filterMap λb=>(h.get? b).map λo=>(b,o)
def fQ(hb:b∈a)(e:h.get? b=RM o):(b,o)∈fP a h:=List.mem_filterMap.mpr ⟨b,hb,by rw[e];rfl⟩
def pj(c:p∈fP a h):p.1∈a/\h.get? p.1=RM p.2:=by
 obtain⟨b,hb,e⟩:=List.mem_filterMap.mp c;cases q:h.get? b with
 |none=>rw[q]at e;cases e|some o=>
  rw[q]at e;have d:=R3 e;subst d;exact⟨hb,q⟩
def Inv.pinned{σ:St}(I:Inv X pins σ H s)(h:∀b∈a,ij X pins H b)(g:∀b∈a,∃o,s.heap.get? b=RM o/\∀v,o.data≠.cell v):Inv X (pins++fP a s.heap) σ H s:=I.fO λp f=>(Ω.mp f).elim (λz=>I.pin p (Sk _ z)) λz=>by
  obtain⟨hb,e⟩:=pj z;obtain⟨k,j,i,_⟩:=h p.1 hb;obtain⟨o,c,d⟩:=g p.1 hb;rw[e]at c;cases c;exact⟨e,k,j,i,d⟩
def Inv.jx{σ:St}(I:Inv X (pins++a) σ H s):Inv X pins σ H s:=I.fO λp b=>I.pin p (Sk _ (SX _ b))
def Ij{iter:Sj}{body:List UL}{Y:TI}{g:TG}{tb:TS}{pos:Uq}(G:XQ (Sb X.prog X.w) X.A X.env X.xe)(hc:X.calm=RQ)(hi:PI X tg iter Y)(hg:PG X tg g)(hb:su X body tb)(hs:∀x,U3 iter X.env x=pure x:=by intro _;rfl):PS X (.For tg iter body [] pos) (O2 Y g tb):=by
 intro c s V H D I h;refine wpAny_For (bE (hi c s V H _ I h) λv s1 h1=>bE h1 λa0 s2 h2=>?_) hs;obtain⟨it,L,Z,J,H2,e,I2,T,P,f2,W,⟨m0,w0⟩,C⟩:=h2;subst e;have p:∀{y:Hp},(∀b∈L,y b=RP)->∀b∈L,ij X c y b:=λhn b hb=>⟨hn b hb,(f2 b hb).2⟩;refine codeAny_forLoop_any (λn s'=>∃i l y,Inv X c l y s'/\Z i s'.heap/\(∀b∈L,y b=RP)/\W i n l y) ?_ m0 ⟨0,V,H2,I2,P,λb hb=>(f2 b hb).1,w0⟩;rintro n s3⟨i,k,M,I3,E,K,w3⟩;rcases C i n k M w3 with⟨stop,qn⟩|⟨go,N,hN,step⟩
 .refine Vl G (bE (T.done X rfl rfl rfl hc i c s3 k M X.xe I3 (p K) E stop) λr s4 j=>?_);obtain⟨R,I4⟩:=j;subst R;exact Xx ⟨k,M,I4,qn⟩
 .refine Vl G (bE (T.item X rfl rfl rfl hc i c s3 k M X.xe I3 (p K) E go) λr s4 j=>?_);obtain⟨u,R,h4⟩:=j;subst R;refine Vl G (bE h4 λ_ s5 j=>?_);obtain⟨x,H5,I5,r5,y5,B,S⟩:=j;have U:=I5.pinned (p S) (T.obj _ _ B);refine Vl G (bE (hg _ s5 k H5 x u _ U r5 (step x H5 y5)) λ_ s6 j=>?_);obtain⟨O,H6,I6,q6⟩:=j;refine Vl G (bE (hb _ s6 O H6 _ I6 q6) λf Q z=>?_);have again:∀{a:St}{t:Hp},Inv X (c++fP L s5.heap) a t Q->N a t->∃m,m<n/\∃i l y,Inv X c l y Q/\Z i Q.heap/\(∀b∈L,y b=RP)/\W i m l y:=λ{a t}q F=>by
   obtain⟨m',hm,w7⟩:=hN a t F;refine⟨m',hm,i+1,a,t,q.jx,T.keep _ _ _ B λb hb o e=>(q.pin (b,o) (Sk _ (Sk _ (fQ hb e)))).1,λb hb=>?_,w7⟩;obtain⟨o,e,d⟩:=T.obj _ _ B b hb;exact(q.pin (b,o) (Sk _ (Sk _ (fQ hb e)))).2.1
  cases f with
  |next=>obtain⟨a,t,q,F⟩:=z;exact again q F|cont=>obtain⟨a,t,q,F⟩:=z;exact again q F|brk=>obtain⟨a,t,q,z⟩:=z;exact⟨a,t,q.jx,z⟩|ret v=>obtain⟨x7,a,t,q,r7,z⟩:=z;exact⟨x7,a,t,q.jx,r7,z⟩
end
end L2
namespace L2
open PySem PySem.Spec PyProof.Rows
abbrev R2:=V->V->Hp->VK->Prop
def lD(X:Cx)(f:RR->RR->XH RR)(r:R2):Prop:=∀(a:List (RW×Tn))(s:RU)(b:St)(H:Hp)(x y:V)(v u:RR)(Q:VK),Inv X a b H s->RelV x v->RelV y u->r x y H Q->wpAny (Sb X.prog X.w) X.A (f v u) (EP X a b Q) X.xe s
def O3(X:Cx)(f:RR->XH RR)(r:V->Hp->VK->Prop):Prop:=∀(a:List (RW×Tn))(s:RU)(b:St)(H:Hp)(x:V)(v:RR)(Q:VK),Inv X a b H s->RelV x v->r x H Q->wpAny (Sb X.prog X.w) X.A (f v) (EP X a b Q) X.xe s
def dH(X:Cx)(f:RR)(r:List V->Hp->VK->Prop):Prop:=∀(a:List (RW×Tn))(s:RU)(b:St)(H:Hp)(c:List V)(d:List RR)(Q:VK),Inv X a b H s->ax c d->r c H Q->wpAny (Sb X.prog X.w) X.A (call f d) (EP X a b Q) X.xe s
def O4(X:Cx)(r:V->Hp->(Bool->Hp->Prop)->Prop):Prop:=∀(a:List (RW×Tn))(s:RU)(b:St)(H:Hp)(x:V)(v:RR)(Q:Bool->Hp->Prop),Inv X a b H s->RelV x v->r x H Q->wpAny (Sb X.prog X.w) X.A (truthy v) (TP X a b Q) X.xe s
noncomputable def LS(r:R2)(c b:TE):TE:=λa H Q=>c a H λx e=>b a e λy d=>r x y d Q
noncomputable def Rg(r:V->Hp->VK->Prop)(b:TE):TE:=λa H Q=>b a H λx c=>r x c Q
noncomputable def rI(C:Int->Int->Prop)(g:Int->Int->V):R2:=λx y H Q=>∃i j,x=.int i/\y=.int j/\C i j/\Q (g i j) H
noncomputable def G5(g:Int->Int->V):R2:=λx y H Q=>∃i j,x=.int i/\y=.int j/\Q (g i j) H
def rU(g:Int->V):V->Hp->VK->Prop:=λx H Q=>∃i,x=.int i/\Q (g i) H
section
def Ik(ha:PE X a ta)(hb:PE X b tb){σ:St}{R:V->V->Hp->Prop}(I:Inv X pins σ H s)(h:ta σ H λx j=>tb σ j λy e=>R x y e){f:RR->RR->XH RR}(p:∀v u s2 x y e,Inv X pins σ e s2->RelV x v->RelV y u->R x y e->wpAny (Sb X.prog X.w) X.A (f v u) Q X.xe s2):wpAny (Sb X.prog X.w) X.A (Ux a X.env) (λv i=>wpAny (Sb X.prog X.w) X.A (Ux b X.env) (λu g=>wpAny (Sb X.prog X.w) X.A (f v u) Q X.xe g) X.xe i) X.xe s:=by
 refine bE (ha pins s σ H _ I h) λv k d=>?_;obtain⟨x,j,r,m,o⟩:=d;refine bE (hb pins k σ j _ r o) λu s2 d=>?_;obtain⟨y,e,q,l,n⟩:=d;exact p v u s2 x y e q m l n
def bM(j:lD X (Ve op) r)(ha:PE X a ta)(hb:PE X b tb):PE X (.BinOp a op b pos) (LS r ta tb):=by
 intro d s e H Q I h;exact wpAny_BinOp (Ik ha hb I h λv u f x y l k i g q=>j d f e l x y v u Q k i g q)
def LU(j:O3 X (unaryOp op) r)(ha:PE X a ta):PE X (.UnaryOp op a pos) (Rg r ta):=by
 intro d s e H Q I h;exact UnaryOp_ (bE (ha d s e H _ I h) λv f⟨x,l,k,g,i⟩=>j d f e l x v Q k g i)
def OA{f}{C}{g:Int->Int->Int}(YQ:∀(i j)(t u)(s)(Q)(E),C i j->Q (.int (g i j) s.toks) {s with toks:=s.toks+1}->wpAny (Sb X.prog X.w) X.A (f (.int i t) (.int j u)) Q E s):lD X f (rI C λi j=>.int (g i j)):=by
 intro d s n H x y v u Q I l k h;obtain⟨i,j,rfl,rfl,m,q⟩:=h;obtain⟨t,rfl⟩:=l;obtain⟨e,rfl⟩:=k;exact YQ i j t e s _ _ m ⟨.int (g i j),H,I.tok _,⟨_,rfl⟩,q⟩
def O5{f}{g:Int->Int->Int}(YQ:∀(i j)(t u)(s)(Q)(E),Q (.int (g i j) s.toks) {s with toks:=s.toks+1}->wpAny (Sb X.prog X.w) X.A (f (.int i t) (.int j u)) Q E s):lD X f (G5 λi j=>.int (g i j)):=by
 intro d s m H x y v u Q I l k h;obtain⟨i,j,rfl,rfl,q⟩:=h;obtain⟨t,rfl⟩:=l;obtain⟨e,rfl⟩:=k;exact YQ i j t e s _ _ ⟨.int (g i j),H,I.tok _,⟨_,rfl⟩,q⟩
def Ec{f}{g:Int->Int->Bool}(YQ:∀(i j)(t u)(s)(Q)(E),Q (.bool (g i j)) s->wpAny (Sb X.prog X.w) X.A (f (.int i t) (.int j u)) Q E s):lD X f (G5 λi j=>.bl (g i j)):=by
 intro d s m H x y v u Q I l k h;obtain⟨i,j,rfl,rfl,q⟩:=h;obtain⟨t,rfl⟩:=l;obtain⟨e,rfl⟩:=k;exact YQ i j t e s _ _ ⟨.bl (g i j),H,I,rfl,q⟩
def LV(i j:Int):Prop:=0<j/\j<1073741824
def LW(i j:Int):Prop:=0<=j/\j<=1000000/\i.natAbs<2^64
def Ed(i j:Int):Prop:=(-(2^64)<i/\i<2^64)\/(-(2^64)<j/\j<2^64)
def Ed.ok(h:Ed i j):IntMulOk i j:=by
 rcases h with⟨e,d⟩|⟨e,d⟩;.exact .of_left (intBits_le_64 e d)
 .exact .of_right (intBits_le_64 e d)
def mz:lD X (Ve .Add) (G5 λi j=>.int (i+j)):=O5 λ_ _ _ _ _ _ _ q=>add_int q
def iT:lD X (Ve .Mult) (rI Ed λi j=>.int (i*j)):=OA λ_ _ _ _ _ _ _ d q=>mul_int q d.ok
def lM:lD X (Ve .FloorDiv) (rI LV λi j=>.int (i/j)):=OA λi j _ _ _ _ _ d q=>by
 have f:=d.1;have e:=d.2;exact floordiv_int (by omega+splitNatSub) (by rw[Int.fdiv_eq_ediv_of_nonneg i (by omega+splitNatSub)];exact q) (.inl (PyProof.noPylong_small (by omega+splitNatSub)))
def fk:lD X (Ve .Mod) (rI (λ_ j=>0<j) λi j=>.int (i%j)):=OA λi j _ _ _ _ _ d q=>by
 exact mod_int' '0' (by rw[Int.fmod_eq_emod_of_nonneg i '0'];exact q)
def An:lD X (Ve .Pow) (rI LW λi j=>.int (i^j.toNat)):=OA λ_ _ _ _ _ _ _ d q=>pow_int_small d.1 d.2.1 d.2.2 q
def Rh{f}{g:Int->Int}(YQ:∀(i)(t)(s)(Q)(E),Q (.int (g i) s.toks) {s with toks:=s.toks+1}->wpAny (Sb X.prog X.w) X.A (f (.int i t)) Q E s):O3 X f (rU λi=>.int (g i)):=by
 intro d s j H x v Q I e h;obtain⟨i,rfl,q⟩:=h;obtain⟨t,rfl⟩:=e;exact YQ i t s _ _ ⟨.int (g i),H,I.tok _,⟨_,rfl⟩,q⟩
def Il:O3 X (unaryOp .USub) (rU λi=>.int (-i)):=Rh λ_ _ _ _ _ q=>neg_int q
end
section
variable{X:Cx}{a b c:Sj}{ta tb tc:TE}{pos:Uq}
def Ao{σ:St}(I:Inv X pins σ H s)(q:Q (.bl k) H)(e:k=d):EP X pins σ Q (.bool d) s:=by
 subst e;exact⟨.bl k,H,I,rfl,q⟩
def G6:lD X (Tb .Lt) (G5 λi j=>.bl (decide (i<j))):=Ec λ_ _ _ _ _ _ _ q=>lt_int q
def LX:lD X (Tb .LtE) (G5 λi j=>.bl (decide (i<=j))):=Ec λ_ _ _ _ _ _ _ q=>le_int q
def Ap:lD X (Tb .Gt) (G5 λi j=>.bl (decide (j<i))):=Ec λ_ _ _ _ _ _ _ q=>gt_int q
def G7:lD X (Tb .GtE) (G5 λi j=>.bl (decide (j<=i))):=Ec λ_ _ _ _ _ _ _ q=>ge_int q
def Im:lD X (Tb .Is) (λx y H Q=>y=.br/\Q (.bl (decide (x=.br))) H):=by
 intro e s g H x y v u Q I d f h;obtain⟨rfl,q⟩:=h;cases f;refine is_none_gen (Ao I q ?_);cases x<;>first
  |(cases d;rfl)|(obtain⟨t,rfl⟩:=d;rfl)
def Ee:lD X (Tb .IsNot) (λx y H Q=>y=.br/\Q (.bl (!decide (x=.br))) H):=by
 intro e s g H x y v u Q I d f h;obtain⟨rfl,q⟩:=h;cases f;refine isnot_none_gen (Ao I q ?_);cases x<;>first
  |(cases d;rfl)|(obtain⟨t,rfl⟩:=d;rfl)
def kj(b:Sj){op:Wg}(h:op≠.In:=by decide)(d:op≠.NotIn:=by decide):VT op b=RT:=by
 have f:(op==CmpOp.In)=RT:=by cases op<;>first|rfl|exact Ξ1 rfl h
 have e:(op==CmpOp.NotIn)=RT:=by cases op<;>first|rfl|exact Ξ1 rfl d
 cases b<;>simp[VT,f,e]
def Ef(j:lD X (Tb op) r)(ha:PE X a ta)(hb:PE X b tb)(k:VT op b=RT):PE X (.Compare a [op] [b] pos) (LS r ta tb):=by
 intro d s e H Q I h;exact wpAny_Compare1 (Ik ha hb I h λv u f x y m l i g q=>j d f e m x y v u Q l i g q) k
noncomputable def Aq(t:TE):TT:=λd H Q=>t d H λx e=>∃k,x=.bl k/\Q k e
def jy(q:lD X (Tb op) r)(ha:PE X a ta)(hb:PE X b tb)(t:VT op b=RT):PT X (.Compare a [op] [b] pos) (Aq (LS r ta tb)):=by
 intro d s f H Q I h;refine wpAny_isTrue_Compare1 (bE (ha d s f H _ I h) λv i⟨x,E,B,m,p⟩=>bE (hb d i f E _ B p) λu g⟨y,D,A,l,o⟩=>bE (q d g f D x y v u _ A m l o) λc F⟨z,C,w,j,k,e,n⟩=>?_) t;subst e;cases j;exact T9 ⟨C,w,n⟩
noncomputable def u6(r g:R2)(ta tb tc:TE):TE:=λd H Q=>ta d H λx j=>tb d j λy i=>r x y i λz e=>∃k,z=.bl k/\(if k=RQ then tc d e λf h=>g y f h Q else Q (.bl RT) e)
def Ar{op g:Wg}{r m:R2}(L:lD X (Tb op) r)(j:lD X (Tb g) m)(ha:PE X a ta)(hb:PE X b tb)(N:PE X c tc)(M:ZT [op,g] [b,c]=RT:=by with_unfolding_all rfl):PE X (.Compare a [op,g] [b,c] pos) (u6 r m ta tb tc):=by
 intro f s i H Q I h;refine Compare_chain (bE (ha f s i H _ I h) λv C⟨x,U,R,F,K⟩=>chain_link (bE (hb f C i U _ R K) λu B⟨y,T,P,l,J⟩=>bE (L f B i T x y v u _ P F l J) λd A⟨z,p,o,E,k,e,n⟩=>?_)) M;subst e;cases E;refine T9 ?_;cases k with
 |false=>exact ite_ff ⟨.bl RT,p,o,rfl,n⟩|true=>exact ite_tt (chain_last (bE (N f A i p _ o n) λt w⟨q,S,O,D,G⟩=>j f w i S y q u t Q O l D G))
def As{op g:Wg}{r n:R2}(P:lD X (Tb op) r)(l:lD X (Tb g) n)(ha:PE X a ta)(hb:PE X b tb)(S:PE X c tc)(R:ZT [op,g] [b,c]=RT:=by with_unfolding_all rfl):PT X (.Compare a [op,g] [b,c] pos) (Aq (u6 r n ta tb tc)):=by
 intro f s i H Q I h;refine isTrue_chain (bE (ha f s i H _ I h) λv D⟨x,H1,Z,J,N⟩=>test_link (bE (hb f D i H1 _ Z N) λu C⟨y,H2,Y,m,M⟩=>bE (P f C i H2 x y v u _ Y J m M) λd B⟨z,q,p,G,k,e,o⟩=>?_)) R;subst e;cases G;refine T9 ?_;cases k with
 |false=>
  obtain⟨k',U,O⟩:=o;cases U;exact ite_ff ⟨q,p,O⟩|true=>
  refine ite_tt (test_last (bE (S f B i q _ p o) λw A⟨t,H4,W,F,L⟩=>bE (l f A i H4 y t u w _ W m F L) λd' s5 j=>?_));obtain⟨z2,H5,V,E,k2,T,K⟩:=j;subst T;cases E;exact T9 ⟨H5,V,K⟩
def LY(K:R0)(x:V)(H:Hp)(k:Bool):Prop:=match x with
 |.br=>k=RT|.bl b=>k=b|.int i=>k=(i !=0)|.str y=>y.length<=R1/\k=((y.length:Int)!=0)|.HQ y=>y.size<=R1/\k=((y.size:Int)!=0)|.ref p=>(∃d,dZ K H p d/\k=!d.isEmpty)\/(∃d,ki K H p d/\k=!d.isEmpty)\/∃e,H p=RM (.dK e)/\k=!e.isEmpty|_=>False
def u7{d}{vs:List (e×RR)}(r:KV d vs):(!vs.isEmpty)=!d.isEmpty:=by cases r<;>rfl
def mB(r:ax xs d):(!d.toArray.isEmpty)=!xs.isEmpty:=by cases r<;>simp
def iU:(R1)<2^63:=by rw[TH];decide
theorem Io:O4 X (λx H Q=>∃k,LY X.K x H k/\Q k H):=by
 intro A s E H x v Q I l h;obtain⟨k,e,q⟩:=h;have F:=TH;cases x with
 |br=>
  cases l;have d:=e;subst d;exact truthy_none ⟨H,I,q⟩|bl b=>
  cases l;have d:=e;subst d;exact T9 ⟨H,I,q⟩|int i=>
  obtain⟨t,rfl⟩:=l;have d:=e;subst d;exact PySem.P.truthy_int ⟨H,I,q⟩|str y=>
  obtain⟨t,rfl⟩:=l;obtain⟨C,d⟩:y.length<=R1/\k=((y.length:Int)!=0):=e;subst d;exact PySem.P.truthy_str '0' ⟨H,I.tok _,q⟩|HQ y=>
  obtain⟨t,rfl⟩:=l;obtain⟨C,d⟩:y.size<=R1/\k=((y.size:Int)!=0):=e;subst d;exact PySem.W.truthy_bytes '0' ⟨H,I.tok _,q⟩|ref p=>
  cases l;have d:=e;rcases d with⟨j,n,d⟩|⟨j,n,d⟩|⟨f,n,d⟩
  .subst d;obtain⟨z,r,u,B⟩:=I.list n;have g:=r.length;exact wpAny_truthy_list u.isList (by simp only[Se];omega) ⟨H,I.tok _,by rw[mB r];exact q⟩
  .subst d;obtain⟨z,r,u,B⟩:=I.tuple n;have g:=r.length;exact truthy_tuple u (by simp only[Se];omega) ⟨H,I.tok _,by rw[mB r];exact q⟩
  .subst d;obtain⟨B,D,o,r,m⟩:f.length<=R1/\(p==UC)=RT/\∃o,KV f o/\s.heap.DictOf (aw X.prog X.w) p o:=I.aM p _ n;have g:=Paired.length r;exact wpAny_truthy_dict D m '0' ⟨H,I.tok _,by rw[u7 r];exact q⟩|_=>exact(show False from e).elim
def Au(ha:PE X a ta)(i:∀whole,Zt a X.env whole=(do let v<-whole;Wx a.pos;Ye [v] (truthy v))):PT X a (λσ H Q=>ta σ H λx H'=>∃k,LY X.K x H' k/\Q k H'):=by
 intro d s σ H Q I h;exact isTrue_plain (bE (ha d s σ H _ I h) λv e⟨x,l,j,f,g⟩=>Io d e σ l x v Q j f g) (i _)
def vals1(r:ax [x] us):∃u,us=[u]/\RelV x u:=by cases r with|cons e d=>cases d;exact⟨_,rfl,e⟩
def vals2(r:ax [x,y] us):∃u w',us=[u,w']/\RelV x u/\RelV y w':=by cases r with|cons g f=>cases f with|cons e d=>cases d;exact⟨_,_,rfl,g,e⟩
def yV(f:X.calm=RQ):dH X (.builtin "max") (λxs H Q=>∃i j,xs=[.int i,.int j]/\Q (.int (if j>i then j else i)) H):=by
 intro e s g H xs m Q I r h;obtain⟨i,j,rfl,q⟩:=h;obtain⟨u,l,rfl,⟨t,rfl⟩,⟨o,rfl⟩⟩:=vals2 r;refine max_two_ints (I.ok.hd f) λp n k=>⟨_,H,I.kept k,?_,q⟩;by_cases d:j>i;.rw[Ξ2 d,Ξ2 d];exact⟨_,rfl⟩
 .rw[Ξ3 d,Ξ3 d];exact⟨_,rfl⟩
def yW(f:X.calm=RQ):dH X (.builtin "min") (λxs H Q=>∃i j,xs=[.int i,.int j]/\Q (.int (if j<i then j else i)) H):=by
 intro e s g H xs m Q I r h;obtain⟨i,j,rfl,q⟩:=h;obtain⟨u,l,rfl,⟨t,rfl⟩,⟨o,rfl⟩⟩:=vals2 r;refine min_two_ints (I.ok.hd f) λp n k=>⟨_,H,I.kept k,?_,q⟩;by_cases d:j<i;.rw[Ξ2 d,Ξ2 d];exact⟨_,rfl⟩
 .rw[Ξ3 d,Ξ3 d];exact⟨_,rfl⟩
def yX:dH X (.type "int") (λxs H Q=>(∃i,xs=[.int i]/\Q (.int i) H)\/∃k,xs=[.bl k]/\Q (.int (if k then 1 else 0)) H):=by
 intro d s f H xs g Q I r h;rcases h with⟨i,rfl,q⟩|⟨k,rfl,q⟩
 .obtain⟨u,rfl,t,rfl⟩:=vals1 r;exact call_int_int ⟨.int i,H,I,⟨_,rfl⟩,q⟩
 .obtain⟨u,rfl,e⟩:=vals1 r;cases e;exact call_int_bool ⟨.int (if k then 1 else 0),H,I.tok _,⟨_,rfl⟩,q⟩
def qD:dH X (.type "str") (λxs H Q=>∃i,xs=[.int i]/\i.natAbs.log2<1920/\Q (.str (toString i)) H):=by
 intro d s f H xs g Q I r h;obtain⟨i,rfl,e,q⟩:=h;obtain⟨u,rfl,t,rfl⟩:=vals1 r;exact PySem.P.str_of_int e ⟨.str _,H,I.tok _,⟨_,rfl⟩,q⟩
def O6(K:R0)(x:V)(H:Hp)(n:Nat):Prop:=match x with
 |.str y=>y.length<=R1/\n=y.length|.HQ y=>y.size<=R1/\n=y.size|.ref p=>(∃d,dZ K H p d/\n=d.length)\/∃d,ki K H p d/\n=d.length|_=>False
def Av:dH X (.builtin "len") (λxs H Q=>∃x n,xs=[x]/\O6 X.K x H n/\Q (.int n) H):=by
 intro m s w H xs z Q I r h;obtain⟨x,n,rfl,e,q⟩:=h;obtain⟨u,rfl,g⟩:=vals1 r;have A:=TH;cases x with
 |str y=>
  obtain⟨t,rfl⟩:=g;obtain⟨v,f⟩:y.length<=R1/\n=y.length:=e;subst f;exact len_str '0' ⟨.int _,H,I.tok _,⟨_,rfl⟩,q⟩|HQ y=>
  obtain⟨t,rfl⟩:=g;obtain⟨v,f⟩:y.size<=R1/\n=y.size:=e;subst f;exact PySem.W.len_bytes '0' ⟨.int _,H,I.tok _,⟨_,rfl⟩,q⟩|ref p=>
  cases g;have f:=e;rcases f with⟨xs,l,f⟩|⟨xs,l,f⟩
  .subst f;obtain⟨k,i,j,o⟩:=I.list l;have d:=i.length;exact ZW j.isList (by simp only[Se];omega) ⟨.int xs.length,H,I.tok _,⟨_,by simp only[Se];rw[d]⟩,q⟩
  .subst f;obtain⟨k,i,j,o⟩:=I.tuple l;have d:=i.length;exact len_tuple j (by simp only[Se];omega) ⟨.int xs.length,H,I.tok _,⟨_,by simp only[Se];rw[d]⟩,q⟩|_=>exact(show False from e).elim
end
end L2
namespace L2
open PySem PySem.Spec PyProof.Rows
structure Ip(h:SJ)(x dx C:RW)(mA:Sy->Option RR):Prop where
 obj:h.get? x=RM (Y8 C dx)ns:h.Ns1 dx mA
 ne:dx≠x
set_option tactic.hygienic true in
def yY{h:SJ}(n:h.Ns1 g d):∃c,h.get? g=RM c/\∀name,Zw name c=RM (d name):=by
 obtain⟨o,f,p,j,hd,l,_,k⟩:=n;refine⟨o,j,λname=>?_⟩;have e:=k name;unfold nsFind findBy at e;rw[<-Array.find?_toList]at e;unfold Zw;rw[hd];dsimp only;split
 .rename_i y q;rw[q]at e;exact Ξ0 RM e
 .rename_i q;rw[q]at e;have a:f.toList.any (·.refKey)=RT:=by
   rw[List.any_eq_false];intro y i;obtain⟨z,t,b⟩:=l y (Array.mem_toList_iff.mp i);simp[DictEntry.refKey,b]
  have m:¬f.toList.any (·.refKey)=RQ:=by rw[a];exact Tw
  rw[Ξ3 m];exact Ξ0 RM e
def Ip.look(I:Ip h x c C b):∃a,PySem.W.InstAt h x (Y8 C c) C (RM a)/\∀name,Zw name a=RM (b name):=let⟨a,d,e⟩:=yY I.ns;⟨a,⟨I.obj,rfl,rfl,d⟩,e⟩
def iQ.some_of(r:iQ (RM v) o):∃u,o=RM u/\RelV v u:=by cases o with
 |none=>exact(show False from r).elim|some u=>exact⟨u,rfl,r⟩
def iQ.none_of(r:iQ RP o):o=RP:=by cases o with
 |none=>rfl|some u=>exact(show False from r).elim
section
def Eh(aM:jq P w H h)(e:H a=RM (.ins C dx fs)):∃b,Ip h a dx C b/\(∀f,iQ (fs.lookup f) (b f))/\PySem.Within b (fs.map (·.1))/\fs.length<=1000/\H dx=RM (.own a):=by
 obtain⟨d,z,ne,ob,b,n,r,q⟩:=(show bF P w H h a (.ins C dx fs)from aM a _ e);exact⟨b,⟨ob,n,ne⟩,r,q,z,d⟩
end
structure O7(K:R0)(C:RW):Prop where
 pg:PySem.W.plainGet K C Str.empty=RQ
 hd:PySem.W.hasDictIn K C=RQ
 po:PySem.W.plainOver K C=RQ
 sa:WM K (.ref C) "__setattr__"=RM (RM (.builtin "object.__setattr__"))
def O7.get{K}(c:O7 K C)(f):PySem.W.plainGet K C f=RQ:=c.pg
section
variable{σ:St}{H:Hp}{A:SF}
inductive lE(K:R0)(H:Hp):V->RR->Prop where|br:lE K H .br (.type "NoneType")|bl(x:Bool):lE K H (.bl x) (.type "bool")|int(i:Int):lE K H (.int i) (.type "int")|str(x:Sy):lE K H (.str x) (.type "str")|Lk(x:UInt64):lE K H (.Lk x) (.type "float")|lst{a:RW}{xs:List V}(e:H a=RM (.lst xs)):lE K H (.ref a) (.type "list")|cz{a:RW}{o:Tn}{xs:List V}(e:H a=RM (.cz o (.lst xs))):lE K H (.ref a) (.type "list")|tup{a:RW}{xs:List V}(e:H a=RM (.tup xs)):lE K H (.ref a) (.type "tuple")|dK{a:RW}{kvs:List (Key×V)}(e:H a=RM (.dK kvs)):lE K H (.ref a) (.type "dict")|dT{a:RW}{kvs:List (List Key×V)}(e:H a=RM (.dT kvs)):lE K H (.ref a) (.type "dict")|ins{a C dx:RW}{fs:List (Sy×V)}(e:H a=RM (.ins C dx fs))(cl:O7 K C)(ha:WM K (.ref C) "__class__"=RM (RM (.builtin "object.__class__")))(hn:PySem.W.specialIn K (.builtin "object.__class__") "__get__"=RM (RM (.builtin "getset_descriptor.__get__")))(htk:PySem.W.takesIn K (.builtin "object.__class__")=RM RQ)(hm:PySem.W.mroIn K C (.type "object")=RM RQ):lE K H (.ref a) (.ref C)
def hG(I:Inv X pins σ H s)(d:RelV x u)(ty:lE X.K H x t)(e:TZ X.K t c=RM b)(h:∀m,Q (.bool b) {s with toks:=m}):wpAny (Sb X.prog X.w) A (call (.builtin "isinstance") [u,c]) Q E s:=by cases ty with
 |br=>cases(show u=SG from d);exact TC PySem.W.kitx_none I.kf XW e '4' h|bl y=>cases(show u=Z6 y from d);exact TC PySem.W.kitx_bool I.kf XW e '4' h|int i=>obtain⟨t,q⟩:=(show∃t,u=U1 i t from d);cases q;exact TC PySem.W.kitx_int I.kf XW e '4' h|str y=>obtain⟨t,q⟩:=(show∃t,u=aaM y t from d);cases q;exact TC PySem.W.kitx_str I.kf XW e '4' h|Lk y=>obtain⟨t,q⟩:=(show∃t,u=Value.float y t from d);cases q;exact TC PySem.W.kitx_float I.kf XW e '4' h|@lst a j ea=>
  cases(show u=Sm a from d);obtain⟨_,_,n,_,f⟩:=(show bF X.prog X.w H s.heap a (.lst j)from I.aM a _ ea);exact TC Yf I.kf ⟨_,f,rfl⟩ e '4' h|@cz a ob j ea=>
  cases(show u=Sm a from d);obtain⟨_,_,_,n,_,f⟩:=(show bF X.prog X.w H s.heap a (.cz ob (.lst j))from I.aM a _ ea);exact TC Yf I.kf ⟨_,f,rfl⟩ e '4' h|@tup a j ea=>
  cases(show u=Sm a from d);obtain⟨_,_,_,p⟩:=(show bF X.prog X.w H s.heap a (.tup j)from I.aM a _ ea);obtain⟨o,f,k,_⟩:=p;exact TC Z9 I.kf ⟨o,f,k⟩ e '4' h|@dK a g ea=>
  cases(show u=Sm a from d);obtain⟨_,_,F,_,p⟩:=(show bF X.prog X.w H s.heap a (.dK g)from I.aM a _ ea);obtain⟨o,B,D,f,k,_⟩:=p;exact TC aaq I.kf ⟨o,f,k.1⟩ e '4' h|@dT a g ea=>
  cases(show u=Sm a from d);obtain⟨_,_,j,_,o,B,D,f,k,_⟩:=(show bF X.prog X.w H s.heap a (.dT g)from I.aM a _ ea);exact TC aaq I.kf ⟨o,f,k.1⟩ e '4' h|@ins a C M fs ea cl ha r l v=>
  cases(show u=Sm a from d);obtain⟨L,O,_⟩:=Eh I.aM ea;obtain⟨G,J,_⟩:=O.look;exact TC (PySem.W.kitx_own (cl.get _) cl.hd ha r l v) I.kf J e '4' h
end
end L2
namespace L2
open PySem PySem.Spec PyProof.Rows
structure fu(k:Nat)(A:SF):Prop where
 hd:A.handled=RP
 dp:A.depth+3*k+5<recursionLimit
 un:A.units+16*k+200<TL
 gd:A.guards=RM []
def fu.mono(r:fu k A)(h:j<=k):fu j A:=⟨r.hd,by have:=r.dp;omega,by have:=r.un;omega,r.gd⟩
def fu.deeper(r:fu (k+1) A)(env:XS):fu k (A.deeper env):=⟨r.hd,by have:=r.dp;show A.depth+1+3*k+5<_;omega,by have:=r.un;show A.units+3+16*k+200<_;omega,r.gd⟩
def fu.depth(r:fu k A):A.depth<recursionLimit:=by have:=r.dp;omega
def fu.units(r:fu k A):A.units+64<TL:=by have:=r.un;omega
noncomputable def O8:TA:=λ_ H Q=>Q [] H
noncomputable def LZ(d:TE)(c:TA):TA:=λa H Q=>d a H λx f=>c a f λb e=>Q (x::b) e
section
variable{X:Cx}{e:Sj}{es:List Sj}{te:TE}{t:TA}{pos:Uq}
def dQ:PA X [] O8:=λ_ _ _ _ H Q I h=>Calls.spliced_nil ⟨[],H,I,.nil,h⟩
theorem bz(ha:PE X e te)(l:PA X es t)(hs:Sq (e::es) X.env=(RT,Ux e X.env)::Sq es X.env:=by rfl):PA X (e::es) (LZ te t):=by
 intro pos a s c H Q I h;rw[hs];show wpAny _ _ (spliced ((RT,Ux e X.env)::UP pos (Sq es X.env))) _ _ s;refine Calls.spliced_cons (bE (ha a s c H _ I h) λu f b=>?_);obtain⟨x,p,n,i,k⟩:=b;exact bE (l pos a f c p _ n k) λq r⟨d,o,m,g,j⟩=>⟨x::d,o,m,.cons i g,j⟩
noncomputable def O9(t:TA):TE:=λc H Q=>t c H λa b=>a.length<=R1/\∀p,b p=RP->Q (.ref p) (upd b p (.tup a))
noncomputable def O_(t:TA):TE:=λc H Q=>t c H λa b=>a.length<=R1/\∀p,b p=RP->Q (.ref p) (upd b p (.lst a))
theorem Iq(h:PA X es t):PE X (.Tuple es x1 pos) (O9 t):=by
 intro a s g H Q I k;refine wpAny_Tuple_spliced (bE (h pos a s g H _ I k) λj c⟨i,f,d,r,z,q⟩=>⟨by rw[<-r.length];exact z,?_⟩);have l:=d.aM.fresh (R5 _);refine⟨.ref c⁻¹,upd f c⁻¹ (.tup i),d.laid (λb u e=>RY _ e) (R5 _) ?_,rfl,q _ l⟩;exact⟨z,j,r,⟨_,Sl _ rfl,rfl,_,rfl⟩⟩
theorem u9(h:PA X es t):PE X (.List es pos) (O_ t):=by
 intro a s g H Q I k;refine wpAny_List_spliced (bE (h pos a s g H _ I k) λj c⟨i,f,d,r,z,q⟩=>⟨by rw[<-r.length];exact z,?_⟩);have l:=d.aM.fresh (R5 _);refine⟨.ref c⁻¹,upd f c⁻¹ (.lst i),d.laid (λb u e=>RY _ e) (R5 _) ?_,rfl,q _ l⟩;exact⟨z,j,0,r,Sl _ rfl⟩
end
abbrev Sp:=List V->Hp->VK->XK->Prop
abbrev wL:=List XS->Hp->RU->XK->RR->RU->Prop
structure Ei(P:Sf)(w:Sx)(K:R0)(mg:Sy->Option RR)(base:SJ)(A:SF)(outer:List XS)(s:RU)(H:Hp):Prop where
 frames:A.frames=RM outer
 mod:Mod K mg base
 bs:∀b o,base.get? b=RM o->s.heap.get? b=RM o/\H b=RP
 D1:base.objs.size<=s⁻¹
 kg:s.heap.FunFrames base outer
 GZ:∀b∈iB outer,H b=RP
 aM:jq P w H s.heap
 bare:Xi s.gens
def CE(outer:List XS)(P:Sf)(w:Sx)(H:Hp)(s:RU)(Q:VK)(u:RR)(s':RU):Prop:=∃v a,s'.os=s.os/\Xi s'.gens/\Un (iB outer) [] H a s.heap s'.heap/\jq P w a s'.heap/\RelV v u/\Q v a
def CR(CX:wL)(outer:List XS)(P:Sf)(w:Sx)(H:Hp)(s:RU)(Q:VK)(E:XK)(r:Result)(s':RU):Prop:=match r with
 |.ok (.ret u)=>CE outer P w H s Q u s'|.ok _=>False|.error e=>CX outer H s E e s'
structure ek(P:Sf)(w:Sx)(K:R0)(mg:Sy->Option RR)(base:SJ)(CX:wL)(k:Nat)(f:RW)(fd:Ua)(ps:List Sy)(sp:Sp):Prop where
 len:∀vs H Q E,sp vs H Q E->vs.length=ps.length
 run:∀(A:SF)(outer:List XS)(s:RU)(H:Hp)(args:Args)(us:List RR)(vs:List V)(Q:VK)(E:XK),fu k A->Ei P w K mg base A outer s H->BindsTo s fd args (ps.zip us)->ax vs us->sp vs H Q E->codeAny (Sb P w) A (.call (.ref f) args) (CR CX outer P w H s Q E) s
def ek.mono{K}(F:ek P w K mg base CX j f fd ps sp)(h:j<=k):ek P w K mg base CX k f fd ps sp:=⟨F.len,λA outer s H a c b Q E d=>F.run A outer s H a c b Q E (d.mono h)⟩
def ek.imp{K}(F:ek P w K mg base CX k f fd ps sp)(h:∀vs H Q E,a vs H Q E->sp vs H Q E):ek P w K mg base CX k f fd ps a:=⟨λvs H Q E q=>F.len vs H Q E (h _ _ _ _ q),λA outer s H b c vs Q E g i hb d e=>F.run A outer s H b c vs Q E g i hb d (h _ _ _ _ e)⟩
section
variable{σ:St}
def Inv.u_(I:Inv X pins σ H s):Ei X.prog X.w X.K X.mg X.base X.A X.stack s H:=⟨I.ok.frames,I.ok.mod,I.bs,SO I.ok.D1 I.sz,I.stack,I.lK,I.aM,I.bare⟩
def Inv.after(I:Inv X pins σ H s)(h:CE X.stack X.prog X.w H s Q u s'):EP X pins σ Q u s':=by
 obtain⟨v,e,os,bare,un,aM,r,q⟩:=h;obtain⟨c,g,d,t,a⟩:=s';obtain rfl:a=s.os:=os;exact⟨v,e,I.call un aM bare (λb z=>Ξ1 z '2'),r,q⟩
end
noncomputable def L1(sp:Sp)(a:List V)(E:XK)(t:TA):TE:=λb H Q=>t b H λc d=>sp (c++a) d Q E
def Binds(K:R0)(fd:Ua)(ps:List Sy)(ds:List RR):Prop:=∀(s:RU)(a:List RR),K.In s.heap->(a++ds).length=ps.length->BindsTo s fd ⟨a,[]⟩ (ps.zip (a++ds))
def Binds.all{K}(h:∀us:List RR,us.length=ps.length->aar fd ⟨us,[]⟩=pure (ps.zip us)):Binds K fd ps []:=λs us _ a=>by
 rw[TF]at a⊢;exact .of_eq (h us a)
def va(CX:wL)(X:Cx)(E:XK):Prop:=∀(a:List (RW×Tn))(c:St)(H:Hp)(s:RU)(e:RR)(b:RU),Inv X a c H s->CX X.stack H s E e b->X.xe e b
section
variable{X:Cx}{CX:wL}{k:Nat}{f C:RW}{fd:Ua}{ps:List Sy}{sp:Sp}{dvs:List V}{ds:List RR}{E:XK}{x m:Sy}{p pos apos:Uq}{e o:Sj}{es:List Sj}{ta:TE}{t:TA}
theorem Ir{σ:St}(F:ek X.prog X.w X.K X.mg X.base CX k f fd ps sp)(g:fu k X.A)(hb:Binds X.K fd ps ds)(hd:ax dvs ds)(d:va CX X E)(I:Inv X pins σ H s)(r:ax vs us)(h:sp (vs++dvs) H Q E):wpAny (Sb X.prog X.w) X.A (call (.ref f) us) (EP X pins σ Q) X.xe s:=by
 have b:=r.append hd;have i:(us++ds).length=ps.length:=by rw[<-b.length];exact F.len _ _ _ _ h
 refine YS (VC (F.run X.A X.stack s H ⟨us,[]⟩ (us++ds) (vs++dvs) Q E g I.u_ (hb s us I.kf i) b h) λr c a=>?_);cases r with
 |error e=>exact d pins σ H s e c I a|ok j=>cases j with
  |ret u=>exact I.after a|next=>exact Uk a|brk=>exact Uk a|cont=>exact Uk a
def Ej(F:ek X.prog X.w X.K X.mg X.base CX k f fd ps sp)(j:fu k X.A)(u:Gl X x)(l:X.mg x=RM (.ref f))(n:V2 X.K (.ref f)=RQ)(hb:Binds X.K fd ps ds)(hd:ax dvs ds)(i:va CX X E)(ha:PA X (e::es) t)(c:(x==("__debug__":Sy))=RT:=by decide)(v:Sq (e::es) X.env=(RT,Ux e X.env)::Sq es X.env:=by rfl)(b:(UP pos (Sq es X.env)).any (·.1)=RT:=by rfl):PE X (.Call (.Name x p) (e::es) [] pos) (L1 sp dvs E t):=by
 intro a s g H Q I h;refine WC (jv I u l ?_ c);refine Z_ (h₀:=X.base) I.ok.mod.HS n (bE (ha pos a s g H _ I h) λz B⟨y,D,d,r,q⟩=>⟨d.kf,?_⟩) v b;exact Ir F j hb hd i d r q
end
structure dC(N P:List Sy)(sc:UM):Prop where
 kind:sc.kind=.function
 co:sc.isCoroutine=RT
 gen:sc.isGenerator=RT
 nd:N.Nodup
 pre:N.take P.length=P
 par:∀x∈P,sc.names.lookup x=RM .local\/sc.names.lookup x=RM .cell
 Iu:∀y∈sc.names,y.2≠.free
theorem pk{kindOf:Sy->Option Vf}:∀{a:List (Sy×RR)}{m:Sy->Option RR},(∀v,(x,v)∉a)->bindL kindOf a m x=m x
 |[],_,_=>rfl|(n,v)::r,m,h=>by
  unfold bindL;rw[pk λw hw=>h w (RZ _ hw)];split
  .have:x≠n:=by rintro rfl;exact h v RX
   simp[this]
  .rfl
theorem pq{kindOf:Sy->Option Vf}:∀{a:List (Sy×RR)}{m:Sy->Option RR},(∀v,(x,v)∉a)->bindC kindOf a m x=m x
 |[],_,_=>rfl|(n,v)::r,m,h=>by
  unfold bindC;rw[pq λw hw=>h w (RZ _ hw)];split;.rfl
  .have:x≠n:=by rintro rfl;exact h v RX
   simp[this]
theorem pz{kindOf:Sy->Option Vf}:∀{P:List Sy}{vs:List RR}{i:Nat}{m:Sy->Option RR},P.Nodup->P[i]?=RM x->vs[i]?=RM v->kindOf x=RM .local->bindL kindOf (P.zip vs) m x=RM v
 |[],_,_,_,_,h,_,_=>by simp at h|_::_,[],_,_,_,_,h,_=>by simp at h|p::P,w::vs,0,m,nd,b,a,c=>by
  simp at b a;subst b;subst a;show bindL kindOf ((p,w)::P.zip vs) m p=_;unfold bindL;rw[pk λv d=>(Φ3.mp nd).1 (Y9 d).1,Ξ2 c];simp|p::P,w::vs,i+1,m,nd,b,a,c=>by
  show bindL kindOf ((p,w)::P.zip vs) m x=_;unfold bindL;exact pz (i:=i) (Φ3.mp nd).2 (by simpa using b) (by simpa using a) c
theorem pA{kindOf:Sy->Option Vf}:∀{P:List Sy}{vs:List RR}{i:Nat}{m:Sy->Option RR},P.Nodup->P[i]?=RM x->vs[i]?=RM v->kindOf x≠RM .local->bindC kindOf (P.zip vs) m x=RM v
 |[],_,_,_,_,h,_,_=>by simp at h|_::_,[],_,_,_,_,h,_=>by simp at h|p::P,w::vs,0,m,nd,b,a,c=>by
  simp at b a;subst b;subst a;show bindC kindOf ((p,w)::P.zip vs) m p=_;unfold bindC;rw[pq λv d=>(Φ3.mp nd).1 (Y9 d).1,Ξ3 c];simp|p::P,w::vs,i+1,m,nd,b,a,c=>by
  show bindC kindOf ((p,w)::P.zip vs) m x=_;unfold bindC;exact pA (i:=i) (Φ3.mp nd).2 (by simpa using b) (by simpa using a) c
noncomputable def start(N:List Sy)(vs:List V):St:=vs.map RM++Tu (N.length-vs.length) RP
noncomputable def lF(CX:wL)(P:Sf)(w:Sx)(K:R0)(mg:Sy->Option RR)(base:SJ)(N:List Sy)(b:Sy)(a:UM)(f:RW)(cd:RR)(A:SF)(outer:List XS)(s:RU)(H:Hp)(E:XK):Cx where
 prog:=P;w:=w;K:=K;mg:=mg;base:=base;A:=A.deeper (Yp b a s⁻¹ f cd);N:=N;bR:=s;iS:=H;env:=Yp b a s⁻¹ f cd;outer:=outer;stack:=Yp b a s⁻¹ f cd::outer;ex:=[];calm:=RQ;fn:=λ_=>RQ;pn:=[];xe:=λe d=>wpAny (Sb P w) (A.deeper (Yp b a s⁻¹ f cd)) (leaving (Yp b a s⁻¹ f cd) e) (λ_ c=>CX outer H s E e c) (λg c=>CX outer H s E g c) d
def sE{sc:UM}(h:sc.names.lookup x=RM .cell):∃c,(Vc n sc.names []).lookup x=RM c:=by
 have q:=WN sc.names n [] (.inl h);exact Θ1.mp q
def yZ{K:R0}(S:dC N ps d)(hd:A.handled=RP)(l:Ei P w K mg base A outer s H)(L:vs.length=ps.length)(r:ax vs us)(x:InCallC s s⁻¹ (bindL (Yp g d s⁻¹ f cd).kindOf (ps.zip us) λ_=>RP) (Vc (s⁻¹+1) d.names []) (bindC (Yp g d s⁻¹ f cd).kindOf (ps.zip us) λ_=>RP) s1):Inv (lF CX P w K mg base N g d f cd A outer s H E) [] (start N vs) H s1:=by
 have I:ps.length<=N.length:=by have:=Ξ0 T6 S.pre;rw[Wa]at this;omega
 obtain⟨D,J,rfl,F⟩:=x.done;have m:∀b:RW,b∉(lF CX P w K mg base N g d f cd A outer s H E).ex:=λb z=>Ξ1 (show b∈([]:List RW)from z) '2';refine⟨⟨l.mod,S.kind,rfl,rfl,R5 _,λy z c D j=>?_,λy o=>?_,λy c _ h=>?_,λ_=>hd,Around.frames_deeper l.frames,.inr ⟨rfl,rfl⟩,λb z=>Ξ1 z (m b),l.bs,l.D1,λb _ _=>m b,λb z=>Ξ1 z (m b),l.kg,l.GZ⟩,rfl,l.bare,Un.kept F,⟨_,x.toInCall.ns,λi y v D j M=>?_⟩,λy c h=>⟨_,x.cell y c h⟩,l.aM.fresh (R5 _),λy c h=>?_,λp B=>Ξ1 (show p∈([]:List (RW×Tn))from B) '2',l.aM.kept F,?_⟩;.exact name_of_addr x.apart (Ul D) (Ul j)
 .have o:d.names.lookup y=RM .cell\/d.names.lookup y=RM .free:=o;rcases o with o|o;.exact sE o
  .exact Ξ1 rfl (S.Iu _ (Ul o))
 .exact V_ (x.above y c (Ul h))
 .have C:i<vs.length:=by
   unfold start at j;by_cases C:i<vs.length;.exact C
   .rw[SY (by simpa using C)]at j;rw[U4]at j;split at j<;>cases j
  have ha:vs[i]?=RM v:=by
   unfold start at j;rw[TB (by simpa using C),Sn]at j;cases e:vs[i]? with
   |none=>rw[e]at j;cases j|some a=>rw[e]at j;cases j;rfl
  obtain⟨u,hu,G⟩:=r.get ha;have B:ps[i]?=RM y:=by rw[<-S.pre,Wl '0'];exact D
  have t:ps.Nodup:=by rw[<-S.pre];exact S.nd.sublist (aas _ _)
  refine⟨u,G,?_⟩;rcases S.par y (SE B)with k|k;.exact .inl ⟨k,pz t B hu k⟩
  .obtain⟨c,e⟩:=sE (n:=s⁻¹+1) k;refine .inr ⟨.inl k,c,e,?_⟩;have q:=x.cell y c e;rw[pA t B hu (by show d.names.lookup y≠_;rw[k];decide)]at q;exact q
 .exact l.aM.fresh (V_ (x.above y c (Ul h)))
 .unfold start;show _=N.length;rw[SR,RV,US];omega
def Aw{K}{U kV B T d ct oc}(lk:K.lookup f=RM ⟨oc,od,.func (YT name c g body a U kV B T X d ct),G⟩)(O:UG K d c=RQ)(S:dC N ps a)(len:∀vs H Q E,sp vs H Q E->vs.length=ps.length)(j:∀(A)(outer)(s)(H)(vs)(Q)(E),fu k (A.deeper (Yp c a s⁻¹ f d))->sp vs H Q E->∃t,su (lF CX P w K mg base N c a f d A outer s H E) body t/\t {nx:=λ_ H'=>Q .br H',rt:=Q} (start N vs) H):ek P w K mg base CX (k+1) f (YT name c g body a U kV B T X d ct) ps sp:=by
 refine⟨len,λA outer s H W Z vs Q E M z hb r m=>?_⟩;have hl:=len _ _ _ _ m;have Y:=z.mod.HS.keeps λb o e=>(z.bs b o e).1;have L:=z.mod.nolimit.keeps λb o e=>(z.bs b o e).1;have i:∀y∈ps.zip Z,a.names.lookup y.1=RM .local\/(a.names.lookup y.1=RM .cell/\((Vc (s⁻¹+1) a.names []).lookup y.1).isSome=RQ):=λC hy=>by
  obtain⟨n,v⟩:=C;rcases S.par n (Y9 hy).1 with q|q;.exact .inl q
  .exact .inr ⟨q,WN _ _ _ (.inl q)⟩
 refine codeAny_call_function M.depth (Y _ _ lk) rfl S.co S.gen rfl (aaa Y O) (hb _ _ _ _ ?_);refine wpAny_newFunctionEnv_cells S.kind i λenv he R x=>?_;subst he;refine⟨L.keeps x.toInCall.keep,codeAny_func ?_⟩;obtain⟨t,ht,hq⟩:=j A outer s H vs Q E (M.deeper _) m;have I:Inv (lF CX P w K mg base N c a f d A outer s H E) [] (start N vs) H R:=yZ S M.hd z hl r x;refine TM (ht [] R (start N vs) H _ I hq) (λfl D l=>?_) λe D l=>l;have p:∀{h}{H'}{v}{u},Inv (lF CX P w K mg base N c a f d A outer s H E) [] h H' D->RelV v u->Q v H'->CE outer P w H s Q u D:=λ{h H' v u}J F q=>⟨v,H',J.os,J.bare,J.base,J.aM,F,q⟩;cases fl with
 |ret u=>
  obtain⟨v,h,H',J,F,q⟩:=l;exact p J F q|next=>
  obtain⟨h,H',J,q⟩:=l;exact p (v:=V.br) J rfl q|brk=>
  obtain⟨_,_,_,q⟩:=l;exact Uk q|cont=>
  obtain⟨_,_,_,q⟩:=l;exact Uk q
end L2
namespace L2
open PySem PySem.Spec PyProof.Rows
section
variable{X:Cx}{x:Sy}{p pos:Uq}{e:Sj}{es:List Sj}{t:TA}{id T:String}{r:List V->Hp->VK->Prop}
noncomputable def Pa(r:List V->Hp->VK->Prop)(t:TA):TE:=λa H Q=>t a H λb c=>r b c Q
def eA(u:dH X (.builtin id) r)(o:Gl X x)(n:X.mg x=RP)(l:Uh x=RM (.builtin id))(ha:PA X (e::es) t)(m:x≠"__name__":=by decide)(c:(x==("__debug__":Sy))=RT:=by decide)(q:Sq (e::es) X.env=(RT,Ux e X.env)::Sq es X.env:=by rfl)(b:(UP pos (Sq es X.env)).any (·.1)=RT:=by rfl):PE X (.Call (.Name x p) (e::es) [] pos) (Pa r t):=by
 intro a s d H Q I h;refine WC (mv I o n l ?_ m c);exact PyProof.Rows.callWith_builtin1 (bE (ha pos a s d H _ I h) λg i⟨f,w,v,j,k⟩=>u a i d w f g Q v j k) q b
def pB(u:dH X (.type T) r)(o:Gl X x)(n:X.mg x=RP)(l:Uh x=RM (.type T))(ha:PA X (e::es) t)(m:x≠"__name__":=by decide)(c:(x==("__debug__":Sy))=RT:=by decide)(q:Sq (e::es) X.env=(RT,Ux e X.env)::Sq es X.env:=by rfl)(b:(UP pos (Sq es X.env)).any (·.1)=RT:=by rfl):PE X (.Call (.Name x p) (e::es) [] pos) (Pa r t):=by
 intro a s d H Q I h;refine WC (mv I o n l ?_ m c);exact V0 (bE (ha pos a s d H _ I h) λg i⟨f,w,v,j,k⟩=>u a i d w f g Q v j k) q b
end
end L2
namespace HT
open PySem PyProof.Rows
noncomputable def lexLt:List Int->List Int->Bool
 |[],[]=>RT|[],_::_=>RQ|_::_,[]=>RT|x::b,y::a=>if x=y then lexLt b a else decide (x<y)
def mC(x y)(xs a):lexLt (x::xs) (y::a)=if x=y then lexLt xs a else decide (x<y):=rfl
def oO:lexLt [] []=RT:=rfl
def mD(y)(a):lexLt [] (y::a)=RQ:=rfl
def mE(x)(xs):lexLt (x::xs) []=RT:=rfl
def Ax(A)(s)(a)(t)(c)(u):∃e,Vr A s (.int a t) (.int c u) e/\(e=RQ↔a=c):=⟨(a==c),aab a t c u,by simp⟩
def Ay(A)(s)(a)(t)(c)(u)(prog)(w)(E)(Q)(h:Q (.bool (decide (a<c))) s):wpAny (Sb prog w) A (richCompare .Lt (.int a t) (.int c u)) Q E s:=(PyProof.Rows.lt_int h)
section
open PySem.SeqAt
open PySem.AutoSeq1 (wpAny_loadPart')
open PySem.MeetsSeq PySem.MeetsSeq2 PySem.MeetsSeq3
def oP(l b)(items f)(n n2)(dd L)(P H)(ns ms)(O:UQ items.toList ns)(N:UQ f.toList ms):Meets (Builtin.«tuple.__lt__» ⟨[.ref l,.ref b],[]⟩) (λ_ R s=>s.heap.get? l=RM {cls:=.type "tuple",dict:=dd,data:=.seq items n,slots:=P}/\s.heap.get? b=RM {cls:=.type "tuple",dict:=L,data:=.seq f n2,slots:=H}/\R (.ok (.ret (.bool (lexLt ns ms)))) s):=.of_wp λprog w A R s h=>by
  obtain⟨G,g,d,F,os⟩:=s;obtain⟨T,hb,h⟩:=h;have X:=AutoSeq1.sub_tuple_tuple;have W:items.size=ns.length:=by rw[<-O.length];simp
  have V:f.size=ms.length:=by rw[<-N.length];simp
  wp_walk using Y_ T,Y_ hb,Uz _ (λrest b I=>b.1=RP/\I=⟨G,g,d,F,os⟩/\∃(E ws:List RR)(j k:List Int),rest=E.zip ws/\UQ E j/\UQ ws k/\j.length+f.size=k.length+items.size/\R (.ok (.ret (.bool (lexLt j k)))) ⟨G,g,d,F,os⟩) _;case turn=>
   rintro⟨y,x⟩rest b I⟨B,rfl,E,ws,j,k,m,v,o,i,r⟩;cases v with
   |nil=>rw[List.zip_nil_left]at m;cases m|cons a t D=>cases o with
    |nil=>rw[aac]at m;cases m|cons c u C=>
     rw[Uy]at m;injection m with J z;injection J with Q S;subst Q S;rw[mC]at r;simp only[Ss]at i;obtain⟨e,U,p⟩:=Ax A.in1 ⟨G,g,d,F,os⟩ a t c u;refine RO (U prog w _ _ ?_);cases e with
     |true=>
      rw[Ξ2 (p.mp rfl)]at r;wp_walk;exact⟨rfl,rfl,_,_,_,_,z,D,C,'0',r⟩|false=>
      rw[Ξ3 (λq=>Ξ1 (p.mpr q) Tw)]at r;have K:=Ay A.in1 ⟨G,g,d,F,os⟩ a t c u prog w;wp_walk using K;exact⟨_,rfl,by simpa using r⟩
  case fin=>
   rintro⟨b1,Y⟩I⟨B,rfl,E,ws,j,k,m,v,o,i,r⟩;simp only at B;subst B;have M:lexLt j k=decide (items.size<f.size):=by cases v with
    |nil=>cases o with
     |nil=>
      simp only[Td]at i;rw[oO];exact(Φ1 '0').symm|cons c u hw=>
      simp only[Td,Ss]at i;rw[mD];exact(Φ2 '0').symm
    |cons a t M=>cases o with
     |nil=>
      simp only[Td,Ss]at i;rw[mE];exact(Φ1 '0').symm|cons c u hw=>
      rw[Uy]at m;cases m
   rw[M]at r;wp_walk;exact⟨_,rfl,by simpa[Builtin.Tuple.tupleCompareSizes]using r⟩
  case h=>exact⟨rfl,rfl,items.toList,f.toList,ns,ms,rfl,O,N,'0',h⟩
end
section
def vb(p:aao s.heap l items)(hb:aao s.heap b a)(r:UQ items.toList ns)(q:UQ a.toList ms)(hu:A.units<TL)(h:Q (.bool (lexLt ns ms)) s):wpAny (Sb prog w) A (Tb .Lt (.ref l) (.ref b)) Q E s:=by
 obtain⟨⟨cls,t,k,o⟩,i,j,n,hd⟩:=id p;obtain⟨⟨m,g,data2,f⟩,c,e,n2,d⟩:=id hb;simp only at j hd e d;subst j hd e d;exact richCompare_meets_room (op:=.Lt) ⟨_,i,rfl⟩ ⟨_,c,rfl⟩ PySem.F.slot_tuple_lt PySem.F.entry_tuple_lt (PySem.F.args_tuple_lt_2 _ _) (oP l b items a n n2 t g o f ns ms r q) ⟨i,c,show Z6 (lexLt ns ms)≠Value.notImplemented/\Q (.bool (lexLt ns ms)) s from⟨(λx=>nomatch x),h⟩⟩ hu
def Ek(p:aao s.heap t vs.toArray)(hb:aao s.heap b ws.toArray)(k:vs≠[])(r:ws=[]->Q (.ref t) s)(q:ws≠[]->Q (.ref s⁻¹) {s with heap:=s.heap.push {cls:=.type "tuple",data:=.seq (vs++ws).toArray}})(hsz:vs.length+ws.length<=R1):wpAny (Sb prog w) A (Ve .Add (.ref t) (.ref b)) Q E s:=by
 obtain⟨⟨cls,m,h,j⟩,i,l,n,hd⟩:=id p;obtain⟨⟨o,g,data2,c⟩,a,f,n2,d⟩:=id hb;simp only at l hd f d;subst l hd f d;have e:vs.toArray++ws.toArray=(vs++ws).toArray:=by simp
 by_cases hw:ws=[]
 .exact aat ⟨_,i,rfl⟩ ⟨_,a,rfl⟩ Yx Z2 WO WG (Wm _ _) (tuple_addW1 t b vs.toArray ws.toArray n n2 m g j c (by simpa using k) (by simp[hw])) ⟨i,a,r hw⟩
 .refine aat ⟨_,i,rfl⟩ ⟨_,a,rfl⟩ Yx Z2 WO WG (Wm _ _) (tuple_addW2 t b vs.toArray ws.toArray n n2 m g j c (by simpa using k) (by simpa using hw) (by rw[Se,Se];exact hsz)) ⟨i,a,?_⟩;rw[e];exact q hw
noncomputable def sv(n d:Nat):Option Int->Nat
 |none=>d|some v=>if v<0 then(v+(n:Int)).toNat else min v.toNat n
def Az(n d):sv n d RP=d:=rfl
def El(n d k:Nat):sv n d (RM (k))=min k n:=by
 show(if(k)<0 then((k)+(n:Int)).toNat else min (k:Int).toNat n)=min k n;rw[Ξ3 '0',WQ]
end
end HT
namespace L2
open PySem PySem.Spec PyProof.Rows
abbrev TO:=St->Hp->(Option Int->Hp->Prop)->Prop
def PO(X:Cx)(e:Option Sj)(t:TO):Prop:=∀(a:List (RW×Tn))(s:RU)(b:St)(H:Hp)(Q:Option Int->Hp->Prop),Inv X a b H s->t b H Q->wpAny (Sb X.prog X.w) X.A (evalPart e X.env) (λu d=>∃o c,Inv X a b c d/\IsPart u o/\Q o c) X.xe s
noncomputable def Em:TO:=λ_ H Q=>Q RP H
noncomputable def L3(t:TE):TO:=λa H Q=>t a H λx b=>∃i,x=.int i/\Q (RM i) b
def intsAre_of:∀{us},ax (ns.map V.int) us->UQ us ns:=by induction ns with
 |nil=>intro us r;rw[VD]at r;cases r;exact .nil|cons n ns c=>
  intro us r;rw[Sr]at r;cases r with|cons b a=>
   obtain⟨t,e⟩:=b;subst e;exact .cons n t (c a)
section
variable{lo hi:Option Sj}
def Eo:PO X RP Em:=by
 intro a s b H Q I h;rw[evalPart_none];exact RS ⟨RP,H,I,.none,h⟩
def Ep(h:PE X e te):PO X (RM e) (L3 te):=by
 intro a s c H Q I hw;rw[evalPart_some];refine bE (h a s c H _ I hw) λu k b=>?_;obtain⟨x,j,g,d,f⟩:=b;obtain⟨i,rfl,q⟩:=f;obtain⟨t,rfl⟩:=d;exact⟨RM i,j,g,.int i t,q⟩
def QJ(X:Cx)(r:V->Option Int->Option Int->Hp->VK->Prop):Prop:=∀(a:List (RW×Tn))(s:RU)(b:St)(H:Hp)(x:V)(v d c:RR)(lo hi:Option Int)(f:RW)(Q:VK),Inv X a b H s->RelV x v->s.heap.IsSliceOf f d c .none->IsPart d lo->IsPart c hi->r x lo hi H Q->∃T id,XX (.type T) "__getitem__"=pure (RM (.builtin id))/\s.TypeIs v T/\wpAny (Sb X.prog X.w) X.A (getItem v (.ref f)) (EP X a b Q) X.xe s
noncomputable def Ri(r:V->Option Int->Option Int->Hp->VK->Prop)(te:TE)(tl th:TO):TE:=λa H Q=>te a H λx d=>tl a d λl c=>th a c λu b=>r x l u b Q
def AA(D:QJ X r)(G:PE X e te)(E:PO X lo tl)(hu:PO X hi th):PE X (.Subscript e (.Slice lo hi RP p2) pos) (Ri r te tl th):=by
 intro a s i H Q I h;refine Subscript_ (bE (G a s i H _ I h) λv o g=>?_);obtain⟨x,P,N,p,z⟩:=g;refine wpAny_Slice (bE (E a o i P _ N z) λk n⟨l,O,M,B,y⟩=>bE (hu a n i O _ M y) λj c g=>?_);obtain⟨u,m,L,pu,t⟩:=g;rw[evalPart_none];refine RS ?_;have K:Inv X a i m {c with heap:=c.heap.push {cls:=.type "slice",data:=.fields #[k,j,.none]}}:=L.kept λb ob q=>RY _ q;obtain⟨T,id,J,C,F⟩:=D a {c with heap:=c.heap.push {cls:=.type "slice",data:=.fields #[k,j,.none]}} i m x v k j l u c⁻¹ Q K p (Heap.IsSliceOf.new ..) B pu t;exact tail_any C J F (by with_unfolding_all rfl)
noncomputable def y4(xs:List V)(lo hi:Option Int):List V:=(xs.drop (HT.sv xs.length 0 lo)).take (HT.sv xs.length xs.length hi-HT.sv xs.length 0 lo)
def sF(xs)(lo hi):(y4 xs lo hi).length<=xs.length:=by
 unfold y4;rw[Wa,Xe];omega
def ax.wM(r:ax xs us):us=[]↔xs=[]:=by cases r with
 |nil=>simp|cons _ _=>simp
end
end L2
namespace L2
open PySem PySem.Spec PyProof.Rows
noncomputable def D2(n:Nat)(i:Int):Option Nat:=if 0<=i then(if i<n then RM i.toNat else RP)else if-(n:Int)<=i then RM (i+n).toNat else RP
noncomputable def fL{a:Type}(xs:List a)(i:Int):Option a:=(D2 xs.length i).bind λj=>xs[j]?
def wN(h:D2 n i=RM j):seqIndex? i n=RM j/\j<n/\-(n)<=i/\i<n:=by
 unfold D2 at h;by_cases b:0<=i
 .rw[Ξ2 b]at h;by_cases a:i<n
  .rw[Ξ2 a]at h;have e:=R3 h;exact⟨by rw[aaR b a,e],'0','0',a⟩
  .rw[Ξ3 a]at h;cases h
 .rw[Ξ3 b]at h;by_cases a:-(n)<=i
  .rw[Ξ2 a]at h;have e:=R3 h;exact⟨by rw[aau '0' a,e],'0',a,'0'⟩
  .rw[Ξ3 a]at h;cases h
def qF{xs}{v:a}(h:fL xs i=RM v):∃j,seqIndex? i xs.length=RM j/\xs[j]?=RM v/\j<xs.length/\-(xs.length)<=i/\i<xs.length:=by
 unfold fL at h;cases e:D2 xs.length i with
 |none=>rw[e]at h;cases h|some j=>
  rw[e]at h;obtain⟨f,d,c,b⟩:=wN e;exact⟨j,f,h,d,c,b⟩
def fR{xs}{j:Nat}{v:a}(h:xs[j]?=RM v):fL xs (j)=RM v:=by
 have b:=(Ω0.mp h).1;have e:D2 xs.length (j)=RM j:=by
  unfold D2;rw[Ξ2 '0',Ξ2 '0'];simp
 unfold fL;rw[e];exact h
def AB(xs)(v:a):fL (xs++[v]) (-1)=RM v:=by
 have b:(xs++[v]).length=xs.length+1:=by simp
 have e:D2 (xs++[v]).length (-1)=RM xs.length:=by
  unfold D2;rw[b,Ξ3 '1',Ξ2 '0'];congr 1;omega
 unfold fL;rw[e];simp
def qG(b:Sj):Prop:=∀o i,aaS b RT o i=operate [o,i] (getItem o i)
def D3(X:Cx)(r:R2):Prop:=∀(c a:Sj)(b:List (RW×Tn))(s:RU)(d:St)(H:Hp)(x y:V)(v u:RR)(Q:VK),Inv X b d H s->RelV x v->RelV y u->r x y H Q->aaS a RT v u=operate [v,u] (getItem v u)->wpAny (Sb X.prog X.w) X.A (Z3 c a v u) (EP X b d Q) X.xe s
def L4(X:Cx)(id:String)(r:V->List V->Hp->VK->Prop):Prop:=∀(a:List (RW×Tn))(s:RU)(b:St)(H:Hp)(x:V)(c:List V)(v:RR)(d:List RR)(Q:VK),Inv X a b H s->RelV x v->ax c d->r x c H Q->wpAny (Sb X.prog X.w) X.A (call (.builtin id) (v::d)) (EP X a b Q) X.xe s
section
variable{X:Cx}{a b:Sj}{ta tb:TE}{pos:Uq}
def D3.or(h:D3 X r)(h':D3 X j):D3 X (λx y H Q=>r x y H Q\/j x y H Q):=by
 intro c d e s f H x y v u Q I i g q k;rcases q with q|q;.exact h c d e s f H x y v u Q I i g q k
 .exact h' c d e s f H x y v u Q I i g q k
def iC(i:D3 X r)(ha:PE X a ta)(hb:PE X b tb)(hs:qG b):PE X (.Subscript a b pos) (LS r ta tb):=by
 intro c s d H Q I h;exact Subscript_ (Ik ha hb I h λv u e x y k j g f q=>i a b c e d k x y v u Q j g f q (hs _ _))
noncomputable def L5(K:R0):R2:=λx y H Q=>∃p c i v,x=.ref p/\y=.int i/\dZ K H p c/\fL c i=RM v/\Q v H
noncomputable def L6(K:R0):R2:=λx y H Q=>∃p c i v,x=.ref p/\y=.int i/\ki K H p c/\fL c i=RM v/\Q v H
noncomputable def L7:R2:=λx y H Q=>∃z i c,x=.str z/\y=.int i/\z.length<=R1/\fL z.cps.toList i=RM c/\Q (.str ⟨#[c]⟩) H
def dD:D3 X (L5 X.K):=by
 intro f g c s o H x y v u Q I F E h A;obtain⟨p,P,i,z,rfl,rfl,G,L,q⟩:=h;cases F;obtain⟨t,rfl⟩:=E;obtain⟨m,r,l,R⟩:=I.list G;obtain⟨j,e,O,T,N,M⟩:=qF L;obtain⟨w,C,k⟩:=r.get O;have J:=r.length;have S:=iU;have d:EP X c o Q w s:=⟨z,H,I,k,q⟩;by_cases B:0<=i
 .have n:=by
   rw[aaR B M]at e;exact R3 e
  exact item_listR l.isList B '0' (by rw[n];simpa using C) d A
 .have n:(i+(m.toArray.size)).toNat=j:=by
   rw[aau '0' N]at e;rw[Se,<-J];exact R3 e
  exact YU l.isList.typeIs slot_list_getitem.lookup (wpAny_getItem_list_neg l.isList '0' (by rw[Se]<;>omega) '0' (by rw[n];simpa using C) ⟨rfl,d⟩) A
def Iv:D3 X (L6 X.K):=by
 intro d e c s k H x y v u Q I o n h B;obtain⟨p,L,i,z,rfl,rfl,C,E,q⟩:=h;cases o;obtain⟨t,rfl⟩:=n;obtain⟨A,r,l,M⟩:=I.tuple C;obtain⟨j,G,F,R,P,O⟩:=qF E;obtain⟨w,J,f⟩:=r.get F;have D:=r.length;have N:=iU;have g:EP X c k Q w s:=⟨z,H,I,f,q⟩;exact YU l.typeIs slot_tuple_getitem.lookup (getItem_tuple l '0' '0' (by rw[Se,<-D];exact G) (by simpa using J) ⟨rfl,g⟩) B
def Iw:D3 X L7:=by
 intro d e f s C H x y v u Q I l k h m;obtain⟨z,i,c,rfl,rfl,E,o,q⟩:=h;obtain⟨t,rfl⟩:=l;obtain⟨D,rfl⟩:=k;obtain⟨j,g,w,G,r,p⟩:=qF o;have n:z.cps.toList.length=z.length:=by simp[Str.length]
 rw[n]at g r p;have F:=iU;exact tail_any (typeIs_str s z t) slot_str_getitem.lookup (getItem_str (by
  have B:decide (i< -(2^63))=RT:=Φ1 '0';have A:decide (i>=2^63)=RT:=Φ1 '0';rw[B,A,Bool.or_false]) (by rw[g];simpa using w) ⟨.str ⟨#[c]⟩,H,I.tok _,⟨_,rfl⟩,q⟩) m
noncomputable def Rj(K:R0):R2:=λx y H Q=>L5 K x y H Q\/L6 K x y H Q\/L7 x y H Q
def Iy:D3 X (Rj X.K):=dD.or (Iv.or Iw)
def vc(c:List RR)(n j)(u):TV (·.setIfInBounds j u) {cls:=.type "list",data:=.seq c.toArray n}={cls:=.type "list",data:=.seq (c.set j u).toArray n}:=by simp[TV]
def Inv.lst{σ:St}(I:Inv X pins σ H s)(h:H p=RM (.lst xs)):∃ c n ,ax xs c/\s.heap.get? p=RM {cls:=.type "list",data:=.seq c.toArray n}/\xs.length<=R1:=by
 obtain⟨z,c,n,r,e⟩:=I.aM p _ h;exact⟨c,n,r,e,z⟩
def Inv.Iz{σ:St}{c its':List RR}(I:Inv X pins σ H s)(h:H p=RM (.lst xs))(k:s.heap.get? p=RM {cls:=.type "list",data:=.seq c.toArray n})(i:f {cls:=.type "list",data:=.seq c.toArray n}={cls:=.type "list",data:=.seq its'.toArray g})(r:ax d its')(j:d.length<=R1)(t):Inv X pins σ (upd H p (.lst d)) {s with heap:=s.heap.update p f,toks:=t}:=by
 have e:(s.heap.update p f).get? p=RM {cls:=.type "list",data:=.seq its'.toArray g}:=by rw[Te f k (by rw[i]<;>rfl),i]
 refine I.write (by rw[h];trivial) (.inl rfl) (λb u hb q=>(Tp _ _ (T8 hb)).trans q) ⟨_,e⟩ ?_;exact⟨j,its',g,r,e⟩
def L8:V->V->V->Hp->(Hp->Prop)->Prop:=λo i v H Q=>∃p c k j,o=.ref p/\i=.int k/\H p=RM (.lst c)/\D2 c.length k=RM j/\Q (upd H p (.lst (c.set j v)))
def set_list:LO X L8:=by
 intro c s B H o i v K L u Q I E F D h;obtain⟨p,C,k,j,rfl,rfl,m,J,q⟩:=h;cases E;obtain⟨t,rfl⟩:=F;obtain⟨d,n,r,f,G⟩:=I.lst m;obtain⟨e,N,y,x⟩:=wN J;have g:=r.length;have M:=iU;have A:=I.Iz m f (vc d n j u) (r.set D j) (by rw[Za];exact G) s.toks;by_cases z:0<=k
 .have l:=by
   rw[aaR z x]at e;exact R3 e
  exact PySem.W.ki_setAt f z '0' (by rw[Se,<-g];exact x) (by rw[l];exact⟨_,A,q⟩)
 .have l:(k+(d.toArray.size)).toNat=j:=by
   rw[aau '0' y]at e;rw[Se,<-g];exact R3 e
  exact PySem.W.ki_setBack f '0' (by rw[Se,<-g];exact y) '0' (by rw[l];exact⟨_,A,q⟩)
def qH(lo c)(n):(WH lo c RP n).1=((HT.sv n 0 lo:Nat))/\(WH lo c RP n).2.1=((HT.sv n n c:Nat))/\(WH lo c RP n).2.2=1:=by
 refine⟨?_,?_,rfl⟩;.cases lo with
  |none=>simp[WH,HT.sv]|some i=>
   simp only[WH,HT.sv,Wb,show(1:Int)>0 by decide,if_true];by_cases h:i<0;.simp only[h,if_true]<;>omega
   .simp only[h,if_false]<;>omega
 .cases c with
  |none=>simp[WH,HT.sv]|some i=>
   simp only[WH,HT.sv,Wb,show(1:Int)>0 by decide,if_true];by_cases h:i<0;.simp only[h,if_true]<;>omega
   .simp only[h,if_false]<;>omega
def oQ(c:List RR)(lo d):slicePick c.toArray lo d RP=((c.drop (HT.sv c.length 0 lo)).take (HT.sv c.length c.length d-HT.sv c.length 0 lo)).toArray:=by
 obtain⟨g,f,e⟩:=qH lo d c.toArray.size;unfold slicePick;rw[g,f,e];simp only[sliceRange_one,pick_run]<;>rfl
def Pb(K:R0):V->Option Int->Option Int->Hp->VK->Prop:=λx lo d H Q=>∃a c,x=.ref a/\dZ K H a c/\∀p,H p=RP->Q (.ref p) (upd H p (.lst (y4 c lo d)))
theorem Er:QJ X (Pb X.K):=by
 intro f s p H x v u t lo e w Q I i n j pu h;obtain⟨a,c,rfl,m,q⟩:=h;cases i;obtain⟨k,r,g,l⟩:=I.list m;have d:=r.length;refine⟨"list",_,slot_list_getitem.lookup,g.isList.typeIs,?_⟩;refine wpAny_getItem_list_slice g.isList n j pu .none '2' ?_ (by rw[Se]<;>omega);rw[oQ,<-d];refine⟨.ref s⁻¹,_,I.laid (λb ob q=>RY _ q) (R5 _) ?_,rfl,q _ (I.aM.fresh (R5 _))⟩;exact⟨SO (sF c lo e) l,_,0,(r.drop (HT.sv c.length 0 lo)).take (HT.sv c.length c.length e-HT.sv c.length 0 lo),Sl _ rfl⟩
def fS:dH X (.builtin "len") (λxs H Q=>∃p d,xs=[.ref p]/\(dZ X.K H p d\/ki X.K H p d)/\Q (.int d.length) H):=by
 intro j s m H xs n Q I r h;obtain⟨p,d,rfl,e,q⟩:=h;obtain⟨u,rfl,k⟩:=vals1 r;cases k;have o:=iU;rcases e with e|e
 .obtain⟨i,f,g,l⟩:=I.list e;have c:=f.length;exact ZW g.isList (by simp only[Se]<;>omega) ⟨.int d.length,H,I.tok _,⟨s.toks+1,by rw[Se,c]⟩,q⟩
 .obtain⟨i,f,g,l⟩:=I.tuple e;have c:=f.length;exact len_tuple g (by simp only[Se]<;>omega) ⟨.int d.length,H,I.tok _,⟨s.toks+1,by rw[Se,c]⟩,q⟩
theorem qI:dH X (.type "list") (λxs H Q=>∃p f,xs=[.ref p]/\(dZ X.K H p f\/ki X.K H p f)/\∀l,H l=RP->Q (.ref l) (upd H l (.lst f))):=by
 intro j s B H xs D Q I r h;obtain⟨p,f,rfl,m,q⟩:=h;obtain⟨u,rfl,C⟩:=vals1 r;cases C;have v:∀(c),ax f c->f.length<=R1->∀(d)(i),(∀b A,s.heap.get? b=RM A->d.get? b=RM A)->d.get? s⁻¹=RM {cls:=.type "list",dict:=RP,data:=.seq c.toArray i,slots:=#[]}->EP X j B Q (.ref s⁻¹) {s with heap:=d}:=λc g k d i kp e=>⟨.ref s⁻¹,_,I.laid kp (R5 _) (show bF X.prog X.w _ d _ (.lst f)from⟨k,c,i,g,e⟩),rfl,q _ (I.aM.fresh (R5 _))⟩;rcases m with m|m
 .obtain⟨c,g,x,k⟩:=I.list m;have t:=g.length;obtain⟨o,y,z,n,hd⟩:=x.isList;exact call_list_seq p (.inl rfl) y z hd (λd i kp e=>v c g k d i kp e) (by simp only[Se]<;>omega)
 .obtain⟨c,g,x,k⟩:=I.tuple m;have t:=g.length;obtain⟨o,y,z,n,hd⟩:=x;exact call_list_seq p (.inr rfl) y z hd (λd i kp e=>v c g k d i kp e) (by simp only[Se]<;>omega)
def oR:dH X (.type "tuple") (λxs H Q=>∃p f,xs=[.ref p]/\((dZ X.K H p f/\∀l,H l=RP->Q (.ref l) (upd H l (.tup f)))\/(ki X.K H p f/\Q (.ref p) H))):=by
 intro c s n H xs B Q I r h;obtain⟨p,f,rfl,h⟩:=h;obtain⟨u,rfl,z⟩:=vals1 r;cases z;rcases h with⟨m,q⟩|⟨m,q⟩
 .obtain⟨d,j,k,t⟩:=I.list m;have v:=j.length;refine call_tuple_list k.isList (λi kp=>?_) (by simp only[Se]<;>omega);have y:Inv X c n H {s with heap:=i}:=I.kept kp;have A:Inv X c n (upd H i.objs.size (.tup f)) {s with heap:=i.push {cls:=.type "tuple",data:=.seq d.toArray}}:=y.laid (λb o e=>RY _ e) (R5 _) (show bF X.prog X.w _ _ _ (.tup f)from⟨t,d,j,IsTup.new _ _⟩);exact⟨.ref i.objs.size,_,A,rfl,q _ (y.aM.fresh (R5 _))⟩
 .obtain⟨d,j,k,t⟩:=I.tuple m;exact call_tuple_same k ⟨.ref p,H,I,rfl,q⟩
def Pc(K:R0)(T:String)(x:V)(H:Hp):Prop:=match x with
 |.str _=>T="str"|.int _=>T="int"|.ref p=>(T="list"/\∃d,dZ K H p d)\/(T="tuple"/\∃o,K.lookup p=RM o/\o.cls=.type "tuple"/\o.dict=RP)\/(T="dict"/\((∃c,H p=RM (.dK c))\/∃c,H p=RM (.dT c)))\/(T="set"/\∃S n,H p=RM (.set S n))|_=>False
def AD{σ:St}(I:Inv X pins σ H s)(r:RelV x v)(ty:Pc X.K T x H):s.TypeIs v T/\∀a,v=.ref a->∃ob,s.heap.get? a=RM ob/\ob.dict=RP:=by cases x with
 |str z=>
  obtain⟨t,rfl⟩:=r;cases(show T="str"from ty);exact⟨typeIs_str s z t,λ_ e=>nomatch e⟩|int i=>
  obtain⟨t,rfl⟩:=r;cases(show T="int"from ty);exact⟨typeIs_int s i t,λ_ e=>nomatch e⟩|ref p=>
  cases r;rcases ty with⟨rfl,m,k⟩|⟨rfl,o,d,l,hd⟩|⟨rfl,d⟩|⟨rfl,S,n,d⟩
  .obtain⟨j,_,h,_⟩:=I.list k;refine⟨h.isList.typeIs,λa e=>?_⟩;cases e;obtain⟨o,n,e,c,hd,_⟩:=h;exact⟨o,e,hd⟩
  .refine⟨⟨o,I.kf p o d,l⟩,λa e=>?_⟩;cases e;exact⟨o,I.kf _ o d,hd⟩
  .have z:∃o,s.heap.get? p=RM o/\o.ExactDict:=by
    rcases d with⟨f,d⟩|⟨f,d⟩
    .obtain⟨_,_,_,_,o,_,_,e,ex,_⟩:=I.aM p _ d;exact⟨o,e,ex⟩
    .obtain⟨_,_,_,_,o,_,_,e,ex,_⟩:=I.aM p _ d;exact⟨o,e,ex⟩
   obtain⟨o,e,ex⟩:=z;refine⟨⟨o,e,ex.1⟩,λa g=>?_⟩;cases g;exact⟨o,e,ex.2.1⟩
  .obtain⟨o,_,_,_,e,ex,_⟩:=I.aM p _ d;refine⟨⟨o,e,ex.1⟩,λa g=>?_⟩;cases g;exact⟨o,e,ex.2.1⟩|_=>exact Uk ty
noncomputable def Pe(K:R0)(T:String)(r:V->List V->Hp->VK->Prop)(e:TE):TE:=λd H Q=>e d H λx c=>Pc K T x c/\r x [] c Q
noncomputable def Rk(K:R0)(T:String)(r:V->List V->Hp->VK->Prop)(f:TE)(t:TA):TE:=λc H Q=>f c H λx d=>Pc K T x d/\t c d λe g=>r x e g Q
variable{o e:Sj}{es:List Sj}{to:TE}{t:TA}{name:Sy}{apos cpos:Uq}{T id:String}{r:V->List V->Hp->VK->Prop}
def IA(pa:aad T)(slot:Slot T name id)(i:Zx (.builtin id)=pure (.type "method_descriptor"))(q:L4 X id r)(p:PE X o to)(f:Wn o name X.env (Ux o X.env)=Ux o X.env:=by rfl)(d:(apos.endLine==cpos.line)=RQ:=by rfl):PE X (.Call (.Attribute o name apos) [] [] cpos) (Pe X.K T r to):=by
 intro c s j H Q I h;refine wpAny_Call_method0_late f d (bE (p c s j H _ I h) λv m g=>?_);obtain⟨x,y,l,k,ty,n⟩:=g;obtain⟨w,u⟩:=AD l k ty;exact⟨T,id,pa,slot,i,w,u,WR rfl (PySem.evalArgs_none (q c m j y x [] v [] Q l k .nil n))⟩
def L9(pa:aad T)(slot:Slot T name id)(l:Zx (.builtin id)=pure (.type "method_descriptor"))(D:L4 X id r)(C:PE X o to)(ha:PA X (e::es) t)(g:Wn o name X.env (Ux o X.env)=Ux o X.env:=by rfl)(i:((UP cpos (Sq (e::es) X.env)).all (λx=>!x.1)&&(Zy cpos (Xm [] X.env)).all (λx=>x.1.isSome)&&decide ((e::es).length+([]:List Wc).length+(if([]:List Wc).isEmpty then 0 else 1)<30))=RQ:=by rfl)(f:(apos.endLine==cpos.line)=RQ:=by rfl)(hs:Sq (e::es) X.env=(RT,Ux e X.env)::Sq es X.env:=by rfl)(d:(UP cpos (Sq es X.env)).any (·.1)=RT:=by rfl):PE X (.Call (.Attribute o name apos) (e::es) [] cpos) (Rk X.K T r to t):=by
 intro c s j H Q I h;refine YV g i f rfl (bE (C c s j H _ I h) λv y k=>?_);obtain⟨x,L,p,m,ty,B⟩:=k;obtain⟨F,E⟩:=AD p m ty;refine⟨T,id,pa,slot,l,F,E,?_⟩;have n:=ha cpos c y j L _ p B;rw[hs]at n⊢;refine WR (by show(RT||(UP cpos (Sq es X.env)).any (·.1))=RT;rw[d]<;>rfl) (Xn ?_);exact bE n λu w⟨q,J,G,z,A⟩=>D c w j J x q v u Q G m z A
end
end L2
namespace L2
open PySem PySem.Spec PyProof.Rows
def Pf(X:Cx)(id:String)(r:V->List V->Hp->VK->Prop):Prop:=∀(a:List (RW×Tn))(s:RU)(b:St)(H:Hp)(x:V)(c:List V)(v:RR)(d:List RR)(Q:VK),Inv X a b H s->RelV x v->ax c d->r x c H Q->wpAny (Sb X.prog X.w) X.A (call (.builtin id) (v::d)) (EP X a b Q) X.xe s
def ax.one:∀{x}{us},ax [x] us->∃u,us=[u]/\RelV x u|_,_,.cons r .nil=>⟨_,rfl,r⟩
def ax.zero:∀{us},ax [] us->us=[]|_,.nil=>rfl
theorem ax.dropLast(h:ax xs us):ax xs.dropLast us.dropLast:=by induction h with
 |nil=>exact .nil|cons r t a=>cases t with
  |nil=>exact .nil|cons q b=>exact .cons r a
def vd{c:Type}(l:List c):l.eraseIdx (l.length-1)=l.dropLast:=by induction l with
 |nil=>rfl|cons a r d=>cases r with
  |nil=>rfl|cons b r=>
   have e:(a::b::r).length-1=((b::r).length-1)+1:=by
    have g:(a::b::r).length=r.length+2:=rfl;have f:(b::r).length=r.length+1:=rfl;omega
   rw[e,Yy,d];all_goals rfl
section
variable{σ:St}
def Inv.L_{a its':List RR}(I:Inv X pins σ H s)(h:H l=RM (.lst xs))(e:s.heap.get? l=RM {cls:=.type "list",data:=.seq a.toArray n})(g:f a.toArray=its'.toArray)(d:ax ys its')(c:ys.length<=R1):Inv X pins σ (upd H l (.lst ys)) {s with heap:=s.heap.update l (TV f),toks:=t'}:=by
 have q:=PySem.IsL.update e f;rw[g]at q;refine I.write (by rw[h];exact trivial) (.inl rfl) (λi u hb hu=>(Tp s.heap (TV f) (T8 hb)).trans hu) ⟨_,q⟩ ?_;exact⟨c,its',_,d,q⟩
def Inv.Pg(I:Inv X pins σ H s)(d:ax ys a)(c:ys.length<=R1):Inv X pins σ (upd H s⁻¹ (.lst ys)) {s with heap:=s.heap.push {cls:=.type "list",data:=.seq a.toArray},toks:=t'}:=I.laid (λ_ _ q=>RY _ q) (R5 _) ⟨c,a,0,d,Sl _ rfl⟩
def Inv.fresh(I:Inv X pins σ H s):H s⁻¹=RP:=I.aM.fresh (R5 _)
def Inv.Ma(I:Inv X pins σ H s)(c:H l=RM (.lst xs)):xs.length<=R1/\∃ a n ,ax xs a/\xs.length=a.length/\s.heap.get? l=RM {cls:=.type "list",data:=.seq a.toArray n}:=by
 obtain⟨z,a,n,r,e⟩:=I.aM l _ c;exact⟨z,a,n,r,r.length,e⟩
end
section
def Es:V->List V->Hp->VK->Prop:=λx b H Q=>∃l a y,x=.ref l/\b=[y]/\H l=RM (.lst a)/\a.length<R1/\Q .br (upd H l (.lst (a++[y])))
def y6:Pf X "list.append" Es:=by
 intro b s i H x k v m Q I d f h;obtain⟨l,j,y,rfl,rfl,c,o,q⟩:=h;cases d;obtain⟨u,rfl,g⟩:=f.one;obtain⟨z,a,n,r,p,e⟩:=I.Ma c;refine call_meets F.slot_list_append ⟨_,e,rfl⟩ F.entry_list_append (F.args_list_append_2 _ _) (PySem.list_append l a.toArray n u (by rw[Se];omega)) ⟨e,?_⟩;refine⟨.br,_,I.L_ c e '2' (r.append (g∘.nil)) ?_,rfl,q⟩;rw[SR,Vi];omega
def Ph:V->List V->Hp->VK->Prop:=λx b H Q=>∃l a y,x=.ref l/\b=[]/\H l=RM (.lst a)/\a[a.length-1]?=RM y/\Q y (upd H l (.lst a.dropLast))
def IB:Pf X "list.pop" Ph:=by
 intro d s o H x t v w Q I g i h;obtain⟨l,p,y,rfl,rfl,f,k,q⟩:=h;cases g;have c:=i.zero;subst c;obtain⟨z,a,n,r,m,e⟩:=I.Ma f;obtain⟨u,hu,j⟩:=r.get k;have b:=by
  show a.toArray[a.length-1]?=RM u;rw[<-T7,<-m];exact hu
 refine call_meets F.slot_list_pop ⟨_,e,rfl⟩ F.entry_list_pop (F.args_list_pop_1 _) (MeetsSeq.list_pop_last l a.toArray n u b (by rw[Se];omega+splitNatSub)) ⟨e,?_⟩;refine⟨y,_,I.L_ f e ?_ r.dropLast ?_,j,q⟩
 .rw[Se,List.eraseIdxIfInBounds_toArray,vd]
 .rw[List.length_dropLast];omega+splitNatSub
end
end L2
namespace L2
open PySem PySem.Spec PyProof.Rows
section
variable{κ:Type}[DecidableEq κ]
noncomputable def iq(a:List (κ×V))(k:κ):Option V:=(a.find? λb=>decide (b.1=k)).map (·.2)
noncomputable def putK(a:List (κ×V))(k:κ)(v:V):List (κ×V):=if(a.any λb=>decide (b.1=k))=RQ then a.map (λb=>if b.1=k then(b.1,v)else b)else a++[(k,v)]
def sG{p}{r}{k:κ}(e:p.1=k):iq (p::r) k=RM p.2:=by simp[iq,e]
def sH{p}{r}{k:κ}(e:¬p.1=k):iq (p::r) k=iq r k:=by simp[iq,e]
theorem mF(k:κ):∀a:List (κ×V),(a.any λb=>decide (b.1=k))=(iq a k).isSome
 |[]=>rfl|p::r=>by
  rw[Vb];by_cases e:p.1=k;.simp only[sG e,Φ2 e,Bool.true_or,aae]
  .rw[sH e,Φ1 e,Bool.false_or];exact mF k r
def iQ.pD(r:iQ o u):o.isSome=u.isSome:=by cases o with
 |none=>cases u with
  |none=>rfl|some _=>exact(show False from r).elim
 |some _=>cases u with
  |none=>exact(show False from r).elim|some _=>rfl
def KV.val{a}{vs}(r:KV a vs)(k:κ):iQ (iq a k) (Xj vs k):=by
 induction r with
 |nil=>exact XW|@cons p q ps c h t g=>
  obtain⟨f,i⟩:=h;by_cases e:p.1=k
  .have d:=f.symm.trans e;have b:Xj (q::c) k=RM q.2:=by simp[Xj,d]
   rw[sG e,b];exact i
  .have d:¬q.1=k:=λz=>e (f.trans z);have b:Xj (q::c) k=Xj c k:=by simp[Xj,d]
   rw[sH e,b];exact g
theorem KV.any{a:List (κ×V)}{vs:List (κ×RR)}(r:KV a vs)(k:κ):(a.any λb=>decide (b.1=k))=vs.any λb=>decide (b.1=k):=by
 unfold KV at r;induction r with
 |nil=>rfl|cons h t c=>rw[Vb,Vb,c,h.1]
def KV.Et{b}{vs}(r:KV b vs)(k:κ){y}{u}(d:RelV y u):KV (b.map λa=>if a.1=k then(a.1,y)else a) (vs.map λa=>if a.1=k then(a.1,u)else a):=by
 induction r with
 |nil=>exact .nil|@cons p q ps i h t f=>
  rw[Sr,Sr];refine .cons ?_ f;obtain⟨c,g⟩:=h;by_cases e:p.1=k;.rw[Ξ2 e,Ξ2 (c.symm.trans e)];exact⟨c,d⟩
  .rw[Ξ3 e,Ξ3 (λz=>e (c.trans z))];exact⟨c,g⟩
def KV.put{a}{vs}(r:KV a vs)(k:κ){y}{u}(b:RelV y u):KV (putK a k y) (stored vs k u):=by
 unfold putK stored;rw[r.any k];by_cases e:(vs.any λc=>decide (c.1=k))=RQ;.rw[Ξ2 e,Ξ2 e];exact r.Et k b
 .rw[Ξ3 e,Ξ3 e];exact Paired.snoc r ⟨rfl,b⟩
end
def gA(r:RelV (kV k) u):(aw P w).is k u=RQ:=by cases k with
 |inl i=>obtain⟨t,e⟩:=(show∃t,u=U1 i t from r);subst e;exact kT P w i t|inr x=>obtain⟨t,e⟩:=(show∃t,u=aaM x t from r);subst e;exact sC P w x t
theorem pE:∀{ks:List Key}{us:List RR},ax (ks.map kV) us->ItemsAre (aw P w) ks us
 |[],_,r=>by rw[VD]at r;cases r;exact .nil|k::ks,_,r=>by
  rw[Sr]at r;cases r with|cons h t=>exact .cons (gA h) (pE t)
section
variable{σ:St}
def Inv.Eu(I:Inv X pins σ H s):UC<s⁻¹:=by
 have h:=(I.mod.glob.keeps I.bk).lt;exact YW '1' h
end
end L2
namespace Att
open PySem PySem.W PySem.Calls PyProof.Rows
def lG:∀(ns)(vs),WellAll P h vs (ns.map WData.int)->UQ vs ns:=by
 intro ns;induction ns with
 |nil=>
  intro vs w;rw[VD]at w;cases w;exact .nil|cons n ns c=>
  intro vs w;rw[Sr]at w;cases w with|cons a b=>
   cases a;exact .cons _ _ (c _ b)
def y7{l:OpenLaw}(u:l.most=RM n)(c:l.row.toRowW.claim.pre b=RQ)(j:WellAll P h vals b):∃a vs ns,vals=[Sm a]/\b=[WData.list (ns.map WData.int)]/\h.get? a=RM {cls:=.type "list",data:=.seq vs.toArray}/\UQ vs ns/\ns.length<=n:=by
 have k:WShape.hasAll [] b [.list .int]=RQ:=(pre_splitW c).1;have m:l.pre.holds [] {args:=b}=RQ:=(pre_splitW c).2;obtain⟨d,r,rfl,x,w⟩:=hasAllW_cons k;obtain rfl:=hasAllW_nil w;obtain⟨y,rfl,v⟩:=hasW_list x;obtain⟨ns,rfl⟩:=items_int v;have e:ns.length<=n:=by
  have i:=by
   have i:=(holds_andW m).1;rw[u]at i;exact i
  have g:=condW_of i (w_not (w_lt w_lit (w_len_list (w_arg rfl))));rw[RV]at g;refine Nat.le_of_not_lt λq=>?_;have s:(n)<((ns.length):Int):=by omega+splitNatSub
  first
   |(rw[Φ2 s]at g;exact Ξ1 g '1')|(omega+splitNatSub)
 cases j with|cons p o=>
  cases o;cases p with|list t f=>exact⟨_,_,ns,rfl,rfl,t,lG ns _ f,e⟩
def y8(l:OpenLaw)(a):l.row.toRowW.claim.post a (.bool RQ) a=RQ:=postW_of (show WShape.has [] (.bool RQ) .bool=RQ by first|rfl|decide|simp[WShape.armsAll]) (show(WTm.eq .res (.lit (.bool RQ))).value [] {args:=a,res:=RM (.bool RQ),after:=a}=RM (.bool (RQ==RQ))from w_eq_bool (w_res rfl) w_lit) rfl
def sI{l:OpenLaw}(H:l.most=RM n)(u:d.params.defaults=[])(call:∀(w)(bR b)(mg p)(k)(o)(m cd g)(a)(vs)(ns),Ground q c [] C w bR mg p b.heap->B w b.heap->b.heap.get? k=RM o->o.data=.func (docDef d.name d.params d.body d.scope m cd g)->b.heap.CodeRec cd d.name->mg d.name=RM (.ref k)->b.heap.get? a=RM {cls:=.type "list",data:=.seq vs.toArray}->UQ vs ns->ns.length<=n->b.gens=#[]->codeAny (Sb l.prog w) ZU (.call (.ref k) ⟨[.ref a],[]⟩) (λr s'=>r=.ok (.ret (.bool RQ))/\OldK b.heap s'.heap/\s'.os=b.os/\Xi s'.gens) b):WalkO q c C B l.row.toRowW d [] (λf vs=>WD f vs):=by
 intro w bR b mg p G Y k o m cd g O kV F hd v z t K A x as h y D s J;obtain rfl:O=.none:=Dflts.none z u;obtain rfl:kV=.none:=Dflts.noKw z;obtain⟨a,vs,ns,rfl,rfl,i,e,j⟩:=y7 H h s;refine enter_call (VC (call w bR b mg p k o m cd g a vs ns G Y F (fd_plain hd) v t i e j K) λr s' E=>?_);obtain⟨rfl,N,M,L⟩:=E;exact⟨.inl ⟨.bool RQ,.bool RQ,[],rfl,λ_=>rfl,.bool RQ,y8 l _,λ_=>⟨List.Pairwise.nil,λ_ I=>(nomatch I)⟩⟩,N,M,L⟩
end Att
namespace L2
open PySem PySem.Spec PyProof.Rows
theorem pF:∀{vs:List RR}{ns:List Int},UQ vs ns->ax (ns.map V.int) vs
 |_,_,.nil=>.nil|_,_,.cons n t h=>.cons ⟨t,rfl⟩ (pF h)
def IC(H:Hp):Prop:=∀b,H b=RP\/∃o a,H b=RM (.cz o (.lst a))
def AE{K:R0}(W:K.In c.heap)(t:c.heap.Ns Ti mg)(hb:c.heap.Ns YN E)(J:∀x:Sy,x≠"__name__"->E x=Uh x)(y:c.heap.NoLimit)(hg:c.gens=#[])(ha:c.heap.get? a=RM {cls:=.type "list",data:=.seq vs.toArray})(R:UQ vs ns)(Q:ns.length<=R1)(hr:fu k ZU)(F:∀base:SJ,K.In base->base.Ns Ti mg->ek P w K mg base CX k M fd [x] sp)(i:∀(s:RU)(u:RR),BindsTo s fd ⟨[u],[]⟩ [(x,u)])(G:∀H:Hp,IC H->dZ K H a (ns.map V.int)->sp [.ref a] H (λv _=>v=.bl RQ) λ_ _ _=>False)(L:∀H e s',CX [] H c (λ_ _ _=>False) e s'->False):codeAny (Sb P w) ZU (.call (.ref M) ⟨[.ref a],[]⟩) (λr s'=>r=.ok (.ret (.bool RQ))/\OldK c.heap s'.heap/\s'.os=c.os/\Xi s'.gens) c:=by
 have O:=pF R;have l:=R.length;have g:∀H:Hp,IC H->dZ K H a (ns.map V.int)->jq P w H c.heap->(∀b,H b≠RP->b=a)->(H a≠RP->K.lookup a=RP)->codeAny (Sb P w) ZU (.call (.ref M) ⟨[.ref a],[]⟩) (λr s'=>r=.ok (.ret (.bool RQ))/\OldK c.heap s'.heap/\s'.os=c.os/\Xi s'.gens) c:=by
  intro H S hS aM T hK;have jz:∀{b:RW}{o:Tn},c.heap.get? b=RM o->H b=RP->(qy c.heap H).get? b=RM o:=λe n=>Ae e n;have D:∀{b:RW}{o:Tn}{B:Array WI}{C:Nat},c.heap.get? b=RM o->o.data=.dict B C->H b=RP:=λ{b o B C}e d=>by cases q:H b with
   |none=>rfl|some u=>
    have N:b=a:=T b (by rw[q];simp);subst N;rw[ha]at e;cases e;have d':Data.seq vs.toArray _=Data.dict B C:=d;cases d'
  have f:∀{b:RW}{m:Sy->Option RR},c.heap.Ns b m->(qy c.heap H).Ns b m:=λ{b m}⟨o,B,C,e,d,r⟩=>⟨o,B,C,jz e (D e d),d,r⟩;have A:K.In (qy c.heap H):=λb o e=>jz (W b o e) (by cases q:H b with
   |none=>rfl|some u=>
    have N:b=a:=T b (by rw[q];simp);subst N;rw[hK (by rw[q];simp)]at e;cases e);have hM:Mod K mg (qy c.heap H):=⟨A,f t,⟨E,f hb,J⟩,let⟨mc,h1,h2⟩:=y;⟨mc,f h1,h2⟩⟩;have e0:Ei P w K mg (qy c.heap H) ZU [] c H:=⟨rfl,hM,λb o e=>D8 e,YX (yP _ _),trivial,λb hb=>Ξ1 (show b∈([]:List RW)from hb) '2',aM,.of_eq hg⟩;refine VC ((F _ A (f t)).run ZU [] c H ⟨[.ref a],[]⟩ [.ref a] [.ref a] _ _ hr e0 (i c (.ref a)) (rfl∘.nil) (G H S hS)) λr s' h=>?_;cases r with
  |error e=>exact(L H e s' h).elim|ok fl=>cases fl with
   |next=>exact Uk h|brk=>exact Uk h|cont=>exact Uk h|ret u=>
    obtain⟨v,H',os,bare,un,p,Y,q⟩:=h;have Z:v=.bl RQ:=q;subst Z;obtain rfl:u=Z6 RQ:=Y;refine⟨rfl,OldK.of_keep λb o e=>?_,os,bare⟩;cases q:H b with
    |none=>exact un.keep b o e q (by intro z;exact Ξ1 (show b∈([]:List RW)from z) '2') '2'|some u=>
     rcases S b with z|⟨ob,xs,z⟩;.rw[q]at z;cases z
     .have X:=un.iR b ob _ z;obtain⟨U,_⟩:=aM b _ z;obtain⟨e2,_⟩:=p b _ X;rw[e]at U;cases U;exact e2
 cases I:K.lookup a with
 |some o=>
  have e:=W a o I;rw[ha]at e;cases e;refine g (λ_=>RP) (λ_=>.inl rfl) (.inr ⟨_,vs.toArray,_,I,rfl,rfl,rfl,by rw[Se,l];exact Q,by simpa using O⟩) (λb u z=>by have j:(RP:Option HO)=RM u:=z;cases j) (λb z=>Ξ1 rfl z) λz=>Ξ1 rfl z|none=>
  refine g (λb=>if b=a then RM (.cz {cls:=.type "list",data:=.seq vs.toArray} (.lst (ns.map V.int)))else RP) (λb=>?_) (.inl (.inr ⟨{cls:=.type "list",data:=.seq vs.toArray},Ξ2 rfl⟩)) (λb u z=>?_) (λb z=>?_) λ_=>I
  .by_cases hb:b=a;.exact .inr ⟨_,_,Ξ2 hb⟩
   .exact .inl (Ξ3 hb)
  .by_cases hb:b=a
   .have j:=(Ξ2 hb).symm.trans z;cases j;subst hb;exact⟨ha,by rw[RV];exact Q,vs,_,O,ha⟩
   .have j:=(Ξ3 hb).symm.trans z;cases j
  .by_cases hb:b=a;.exact hb
   .exact Ξ1 (Ξ3 hb) z
end L2
namespace L2
open PySem PySem.Spec PyProof.Rows
def Ew{l:PySem.W.OpenLaw}{K:Xy->R0}{CX:Sx->wL}{sp:Sx->Sp}(I:l.most=RM n)(y:n<=R1)(A:d.params.defaults=[])(E:fu k ZU)(M:∀(w)(h),C w h->(K w.params).In h)(F:∀(w)(mg)(r)(h),(K w.params).In h->h.Ns Ti mg->mg d.name=RM (.ref r)->∃fd:Ua,(∀(s)(u),BindsTo s fd ⟨[u],[]⟩ [(x,u)])/\∀base:SJ,(K w.params).In base->base.Ns Ti mg->ek l.prog w (K w.params) mg base (CX w) k r fd [x] (sp w))(t:∀(w)(H)(a:RW)(ns:List Int),ns.length<=n->IC H->dZ (K w.params) H a (ns.map V.int)->sp w [.ref a] H (λv _=>v=.bl RQ) λ_ _ _=>False)(B:∀(w:Sx)(H:Hp)(s:RU)(e:RR)(s':RU),CX w [] H s (λ_ _ _=>False) e s'->False):PySem.W.WalkO q i R C l.row.toRowW d [] (λf vs=>WD f vs):=by
 refine Att.sI I A λw bR m mg U r o S cd Q a vs ns G Y X hd L z p j c J=>?_;have D:=M w _ Y;obtain⟨fd,hb,P⟩:=F w mg r _ D G.T.g z;exact AE D G.T.g G.T.b G.T.builtins G.T.nolimit J p j (SO c y) E P hb (λH O N=>t w H a ns c O N) λH e s'=>B w H m e s'
end L2
namespace L2
open PySem PySem.Spec PyProof.Rows
noncomputable def d5(s:UL):Yw:=match s with
 |.FunctionDef _ a _ _ _ _ _ _ _ _=>a|_=>{posonlyargs:=[],args:=[],vararg:=RP,kwonlyargs:=[],kw_defaults:=[],kwarg:=RP,defaults:=[]}
noncomputable def c6(s:UL):List UL:=match s with
 |.FunctionDef _ _ b _ _ _ _ _ _ _=>b|_=>[]
noncomputable def au(s:UL):UM:=match s with
 |.FunctionDef _ _ _ _ _ _ sc _ _ _=>sc|_=>{kind:=.function,names:=[],isGenerator:=RT,isCoroutine:=RT}
noncomputable abbrev y9:wL:=λ_ _ _ _ _ _=>False
noncomputable abbrev E0:XK:=λ_ _ _=>False
def Mb:va y9 X E0:=λ_ _ _ _ _ _ _ h=>h.elim
structure AF(K:R0)(x qual:Sy)(st:UL)(f:RW)(fd:Ua):Prop where
 ex:∃(oc:RR)(od:Option RW)(kV doc pm:RR)(an:Option RW)(cdv ct:RR)(osl:Array (Option RR)),fd=YT x qual (d5 st) (c6 st) (au st) .none kV doc pm an cdv ct/\K.lookup f=RM ⟨oc,od,.func fd,osl⟩/\UG K cdv qual=RQ
 kp:V2 K (.ref f)=RQ
section
variable{K:R0}
def AF.ok{st}(F:AF K x a st f fd)(S:dC N ps (au st))(len:∀vs H Q E,sp vs H Q E->vs.length=ps.length)(c:∀(b)(A)(outer)(s)(H)(vs)(Q)(E),fu k (A.deeper (Yp a (au st) s⁻¹ f b))->sp vs H Q E->∃t,su (lF y9 P w K mg base N a (au st) f b A outer s H E).Oy (c6 st) t/\t {nx:=λ_ H'=>Q .br H',rt:=Q} (start N vs) H):ek P w K mg base y9 (k+1) f fd ps sp:=by
 obtain⟨n,m,kV,j,l,o,b,ct,g,rfl,lk,e⟩:=F.ex;refine Aw lk e S len λA outer s H vs Q E i d=>?_;obtain⟨t,h,q⟩:=c b A outer s H vs Q E i d;exact⟨t,h.Oy,q⟩
end
def Mc(a:fu k A):A.units+1<TL:=WE (Nat.add_le_add_left (by decide:1<=64) _) a.units
section
variable{X:Cx}
def pv(i:Nat){x:Sy}{pos:Uq}(hN:X.N[i]?=RM x:=by rfl)(b:wG X.env.scope x:=by first|exact WS rfl|exact XY (WS rfl)|exact XY (XY rfl))(hd:(x==("__debug__":Sy))=RT:=by decide)(a:(x==("__classdict__":Sy))=RT:=by decide):PE X (.Name x pos) (LH i):=fj hN b hd a
end
def Pj{A B:Prop}(h:B):if RT=RQ then A else B:=by
 rw[Ξ3 Tw];exact h
def Ey{c A B:Prop}[Decidable c](b:c->A)(a:¬c->B):if c then A else B:=by
 by_cases h:c
 .rw[Ξ2 h];exact b h
 .rw[Ξ3 h];exact a h
def vf(H H':Hp):Prop:=∀b o,H b=RM o->H' b=RM o
end L2
namespace L2
open PySem PySem.Spec PyProof.Rows
abbrev NK:=Key⊕List Key
section
variable{prog:Sf}{w:Sx}
inductive aW(prog:Sf)(w:Sx)(h:SJ):List NK->List RR->Prop|nil:aW prog w h [] []|sc{k:Key}{v:RR}{ks:List NK}{vs:List RR}:(aw prog w).is k v=RQ->aW prog w h ks vs->aW prog w h (.inl k::ks) (v::vs)|tp{k:List Key}{b:RW}{ks:List NK}{vs:List RR}:IsTupleKey (aw prog w) h k b->aW prog w h ks vs->aW prog w h (.inr k::ks) (.ref b::vs)
def b9(prog:Sf)(w:Sx)(h:SJ)(ks:List NK)(a:RW):Prop:=∃o items n,h.get? a=RM o/\o.cls=.type "tuple"/\o.data=.seq items n/\aW prog w h ks items.toList
theorem aW.inj(f:aW prog w h x vs)(e:aW prog w h y vs):x=y:=by induction f generalizing y with
 |nil=>cases e;rfl|sc c _ d=>cases e with
  |sc a b=>rw[(aw prog w).inj _ _ _ c a,d b]|tp a b=>have:=(aw prog w).byValue _ _ c;cases this
 |tp c _ d=>cases e with
  |sc a b=>have:=(aw prog w).byValue _ _ a;cases this|tp a b=>rw[c.inj a,d b]
def b9.typeIs{s:RU}(x:b9 prog w s.heap ks a):s.TypeIs (.ref a) "tuple":=let⟨o,_,_,b,c,_⟩:=x;⟨o,b,c⟩
def b9.inj(i:b9 prog w h x a)(g:b9 prog w h y a):x=y:=by
 obtain⟨o,items,n,j,_,hd,k⟩:=i;obtain⟨f,c,m,d,_,b,e⟩:=g;obtain rfl:o=f:=R3 (j.symm.trans d);rw[hd]at b;injection b with l _;subst l;exact k.inj e
theorem aW.keeps(c:aW prog w h x vs)(e:h.get? d=RM o)(hd:o.data=.dict es ep)(hs:TR d h h'):aW prog w h' x vs:=by induction c with
 |nil=>exact .nil|sc b _ a=>exact .sc b a|tp b _ a=>exact .tp (b.keeps e hd hs) a
def b9.keeps(x:b9 prog w h ks a)(g:h.get? d=RM o)(hd:o.data=.dict es ep)(hs:TR d h h'):b9 prog w h' ks a:=by
 obtain⟨f,items,n,c,j,b,i⟩:=x;have e:a≠d:=by
  rintro rfl;obtain rfl:f=o:=R3 (c.symm.trans g);rw[hd]at b;exact nomatch b
 exact⟨f,items,n,(hs.2 a e).trans c,j,b,i.keeps g hd hs⟩
noncomputable def iD(prog:Sf)(w:Sx):NK->Int
 |.inl k=>(aw prog w).hash k|.inr ks=>Sw (aw prog w) ks
noncomputable def mG(prog:Sf)(w:Sx)(ks:List NK):Int:=reduceHash (Uj (ks.map (iD prog w)))
noncomputable def Md:NK->Nat
 |.inl _=>1|.inr ks=>ks.length+1
noncomputable def gm:List NK->Nat
 |[]=>0|k::ks=>Md k+gm ks
def mH(a)(k):gm (a++[k])=gm a+Md k:=by induction a with
 |nil=>simp[gm]|cons x r b=>simp[gm,b,Wo]
variable{A:SF}
def in1_units(h:A.units+1<TL):A.in1.units<TL:=h
def y_(hu:A.units+1<TL)(t:b9 prog w s.heap ks a)(h:Q (mG prog w ks) {s with toks:=s.toks+(gm ks+1)}):wpAny (Sb prog w) A (pyHash (.ref a)) Q E s:=by
 have m:=t.typeIs;obtain⟨o,items,n,u,_,hd,v⟩:=t;first|unfold pyHashByItsType|skip
 first|refine RO (wpAny_cRoomFor_or (.inr '0') ?_)|skip
 refine RO (Vm m PySem.F.slot_tuple_hash.lookup ?_);rw[Ξ3 (by rw[beq_builtin_none];exact Tw)];refine RO (Vm m PySem.F.slot_tuple_hash.lookup ?_);refine RO (wpAny_callSpecialIfBoundUnlessNone?_slot m Yz (Tq Yz m PySem.F.entry_tuple_hash ?_ (PySem.F.args_tuple_hash_1 _)));show wpAny _ _ (XZ (.ref a)>>=_) _ _ s;refine RO (X1 u hd ?_);refine RO ?_;rw[<-VE];refine Uz _ (λrest(b)p=>∃done left,ks=done++left/\aW prog w s.heap left rest/\b.toList=done.map (iD prog w)/\p={s with toks:=s.toks+gm done}) _ ?_ ?_ _ _ ⟨[],ks,rfl,v,rfl,rfl⟩
 .rintro x rest b p⟨done,left,rfl,q,hb,rfl⟩;cases q with
  |@sc k _ g _ r j=>
   refine RO ((aw prog w).pyHash r ?_);have i:∃d e,done++.inl k::g=d++e/\aW prog w s.heap e rest/\(b.push ((aw prog w).hash k)).toList=d.map (iD prog w)/\({s with toks:=s.toks+gm done+1})={s with toks:=s.toks+gm d}:=⟨done++[.inl k],g,by simp,j,by simp[hb,iD],by rw[mH];rfl⟩;first
    |exact RS i|exact RO (RS (RS i))
  |@tp k c g _ r j=>
   refine RO (wpAny_pyHash_tuple (in1_units hu) r ?_);have i:∃d e,done++.inr k::g=d++e/\aW prog w s.heap e rest/\(b.push (Sw (aw prog w) k)).toList=d.map (iD prog w)/\({s with toks:=s.toks+gm done+(k.length+1)})={s with toks:=s.toks+gm d}:=⟨done++[.inr k],g,by simp,j,by simp[hb,iD],by rw[mH,Wo];rfl⟩;first
    |exact RS i|exact RO (RS (RS i))
 .rintro b p⟨done,left,rfl,q,hb,rfl⟩;cases q;rw[TF]at h;show wpAny _ _ (retInt (Uj b.toList)) _ _ _;rw[hb];refine wpAny_ret_mkInt ?_;show wpAny _ _ (if(decide (-(2)^63<=Uj (done.map (iD prog w)))&&decide (Uj (done.map (iD prog w))<2^63))=RQ then _ else _) Q E _;unfold mG reduceHash at h;by_cases l:(decide (-(2)^63<=Uj (done.map (iD prog w)))&&decide (Uj (done.map (iD prog w))<2^63))=RQ
  .rw[Ξ2 l];rw[Ξ2 l]at h;exact RS (by simpa[Wo]using h)
  .rw[Ξ3 l];rw[Ξ3 l]at h;exact RO (Xd (RS (by simpa[Wo]using h)))
def wO(h:(aw prog w).is k v=RQ):(∃i t,v=.int i t/\k=.inl i)\/∃x t,v=.str x t/\k=.inr x:=by
 rcases aV h with⟨i,t,b,a⟩|⟨i,t,b,a⟩;.exact .inl ⟨i,t,a,b⟩
 .exact .inr ⟨i,t,a,b⟩
def IsTupleKey.tup(x:IsTupleKey (aw prog w) h k b):∃items,h.IsTuple b items:=let⟨o,items,n,a,c,hd,_⟩:=x;⟨items,o,a,c,n,hd⟩
def aW.two(hu:A.units<TL)(H:aW prog w s.heap x xs)(F:aW prog w s.heap y r)(c:(u,v)::rest=List.zip xs r):∃n m D C g f,x=n::D/\y=m::C/\xs=u::g/\r=v::f/\rest=List.zip g f/\aW prog w s.heap D g/\aW prog w s.heap C f/\∀(Q),Q (decide (n=m)) s->wpAny (Sb prog w) A (eqBool u v) Q E s:=by cases H with
 |nil=>simp at c|@sc k v1 x1 z p l=>cases F with
  |nil=>simp at c|@sc d G y1 e j h=>
   simp only[Uy,VP,VU]at c;obtain⟨⟨rfl,rfl⟩,rfl⟩:=c;refine⟨_,_,_,_,_,_,rfl,rfl,rfl,rfl,rfl,l,h,λQ q=>(aw prog w).eqBool p j ?_⟩;rw[show decide (k=d)=decide ((WJ k:NK)=WJ d)by simp];exact q|@tp d b y1 e j h=>
   simp only[Uy,VP,VU]at c;obtain⟨⟨rfl,rfl⟩,rfl⟩:=c;refine⟨_,_,_,_,_,_,rfl,rfl,rfl,rfl,rfl,l,h,λQ q=>?_⟩;rw[Φ1 '2']at q;obtain⟨B,o⟩:=IsTupleKey.tup j;rcases wO p with⟨i,t,rfl,_⟩|⟨i,t,rfl,_⟩;.exact Zz i t o hu prog w E Q q
   .exact ZA i t o hu prog w E Q q
 |@tp k b1 x1 z p l=>cases F with
  |nil=>simp at c|@sc d G y1 e j h=>
   simp only[Uy,VP,VU]at c;obtain⟨⟨rfl,rfl⟩,rfl⟩:=c;refine⟨_,_,_,_,_,_,rfl,rfl,rfl,rfl,rfl,l,h,λQ q=>?_⟩;rw[Φ1 '2']at q;obtain⟨B,o⟩:=IsTupleKey.tup p;rcases wO j with⟨i,t,rfl,_⟩|⟨i,t,rfl,_⟩;.exact ZC i t o hu prog w E Q q
   .exact ZD i t o hu prog w E Q q|@tp d b y1 e j h=>
   simp only[Uy,VP,VU]at c;obtain⟨⟨rfl,rfl⟩,rfl⟩:=c;refine⟨_,_,_,_,_,_,rfl,rfl,rfl,rfl,rfl,l,h,λQ q=>X2 hu p j ?_⟩;rw[show decide (k=d)=decide ((Yc k:NK)=Yc d)by simp];exact q
theorem aW.length(b:aW prog w h x xs):x.length=xs.length:=by induction b with
 |nil=>rfl|sc _ _ a=>simp[a]|tp _ _ a=>simp[a]
def Ez(hu:A.units<TL)(U:b9 prog w s.heap x a)(T:b9 prog w s.heap y b)(h:P (.done (.ret (.bool (decide (x=y))))) s):wpAny (Sb prog w) A (Builtin.«tuple.__eq__» ⟨[.ref a,.ref b],[]⟩) P E s:=by
 have S:=T.typeIs;obtain⟨Y,G,na,L,_,R,O⟩:=U;obtain⟨ob,F,Z,K,_,Q,N⟩:=T;show wpAny _ _ (X3 (.ref b) (.type "tuple")>>=_) _ _ s;refine RO (Vv S W9 ?_);refine RO (X1 L R ?_);refine RO (X1 K Q ?_);refine RO ?_;refine Uz _ (λrest r H=>r.1=RP/\H=s/\∃q j e d,rest=List.zip e d/\aW prog w s.heap q e/\aW prog w s.heap j d/\decide (q=j)=decide (x=y)/\(e.length==d.length)=(G.size==F.size)) _ ?_ ?_ _ _ ⟨rfl,rfl,x,y,G.toList,F.toList,rfl,O,N,rfl,by simp⟩
 .rintro⟨u,v⟩rest r H⟨J,rfl,q,j,e,d,I,i,g,c,f⟩;obtain⟨n,m,p,l,o,k,rfl,rfl,rfl,rfl,rfl,C,z,ask⟩:=i.two (E:=E) hu g I;refine RO (ask _ ?_);by_cases M:n=m
  .subst M;rw[Φ2 rfl];refine RS ⟨rfl,rfl,p,l,o,k,rfl,C,z,?_,by simpa using f⟩;rw[<-c];by_cases B:p=l;.simp[]
   .simp[]
  .rw[Φ1 M];have V:decide (x=y)=RT:=by rw[<-c];simp[M]
   rw[V]at h;exact RO (RS (RS (RS h)))
 .rintro⟨X,W⟩H⟨J,rfl,q,j,e,d,I,i,g,c,f⟩;subst J;refine RS ?_;have D:(G.size==F.size)=decide (x=y):=by
   rw[<-c,<-f,<-i.length,<-g.length];have t:=Ξ0 T6 I;simp only[List.length_zip,<-i.length,<-g.length]at t;cases q with
   |nil=>cases j<;>simp|cons _ _=>cases j with
    |nil=>simp|cons _ _=>simp at t
  show P (.done (.ret (.bool (G.size==F.size)))) H;rw[D];exact h
def EA(hu:A.units+1<TL)(d:b9 prog w s.heap x a)(f:b9 prog w s.heap y b)(h:Q (decide (x=y)) s):wpAny (Sb prog w) A (eqBool (.ref a) (.ref b)) Q E s:=by
 unfold eqBool;try with_reducible refine SS ?_
 by_cases c:(Sm a==Sm b)=RQ
 .rw[Ξ2 c];have e:=by have:=eq_of_beq c;injection this
  subst e;obtain rfl:=d.inj f;exact RO (Xd (RS (by simpa using h)))
 .rw[Ξ3 c];exact RO (wpAny_richCompare_same_room d.typeIs f.typeIs Zh (Tq Zh d.typeIs PySem.F.entry_tuple_eq (Ez (in1_units hu) d f ⟨_,rfl,(λe=>nomatch e),T9 h⟩) (PySem.F.args_tuple_eq_2 _ _)) '0')
def za(n)(f:IsTupleKey (aw prog w) s.heap ks a)(h:Q RQ s):wpAny (Sb prog w) A (aaO (n+1) (.ref a)) Q E s:=by
 have g:=f.typeIs;obtain⟨o,items,m,i,_,hd,j⟩:=f;unfold aaO;refine RO (Vm g PySem.F.slot_tuple_eq.lookup ?_);refine RO (Vv g W9 ?_);refine RO (V3 i hd ?_);refine RO ?_;rw[<-VE];refine Uz _ (λrest r c=>r.1=RP/\c=s/\∀v∈rest,ZE v=RQ) _ ?_ ?_ _ _ ⟨rfl,rfl,j.byValue⟩
 .rintro v rest r c⟨e,rfl,b⟩;rw[eqIsQuiet_byValue _ (b v RX)];refine RO (RS ?_);exact RS ⟨rfl,rfl,λu d=>b u (RZ _ d)⟩
 .rintro⟨l,k⟩c⟨e,rfl,_⟩;subst e;exact RS h
def vg(e:b9 prog w s.heap ks a)(h:Q RQ s):wpAny (Sb prog w) A (aaO 8 (.ref a)) Q E s:=by
 have f:=e.typeIs;obtain⟨o,items,m,g,_,hd,j⟩:=e;unfold aaO;refine RO (Vm f PySem.F.slot_tuple_eq.lookup ?_);refine RO (Vv f W9 ?_);refine RO (V3 g hd ?_);refine RO ?_;rw[<-VE];refine Uz _ (λrest r b=>r.1=RP/\b=s/\∃ks,aW prog w s.heap ks rest) _ ?_ ?_ _ _ ⟨rfl,rfl,ks,j⟩
 .rintro v rest r b⟨c,rfl,ks,i⟩;cases i with
  |sc d t=>
   rw[eqIsQuiet_byValue _ ((aw prog w).byValue _ _ d)];refine RO (RS ?_);exact RS ⟨rfl,rfl,_,t⟩|tp d t=>
   refine RO (za 6 d ?_);exact RS ⟨rfl,rfl,_,t⟩
 .rintro⟨l,k⟩b⟨c,rfl,_⟩;subst c;exact RS h
end
noncomputable def cf(prog:Sf)(w:Sx):HeapKind prog w (List NK)where
 is:=b9 prog w;hash:=mG prog w;draws:=λks=>gm ks+1;room:=λA=>A.units+1<TL;inj:=λb a=>b.inj a;keeps:=λx e hd d=>x.keeps e hd d;pyHash:=λhu c h=>y_ hu c h;eqBool:=λhu b a h=>EA hu b a h;quiet:=λc h=>vg c h
def d_{A:SF}(hu:A.units+2<TL):(cf prog w).room A.in1:=hu
structure OB(X:Cx)(scope:UM)(cl:List (Sy×RW)):Prop where
 Pk:closureFor scope X.env=pure cl
 sub:∀x c,cl.lookup x=RM c->X.env.cells.lookup x=RM c
 has:∀x,scope.names.lookup x=RM .free->(∃c,cl.lookup x=RM c)/\(X.env.kindOf x=RM .cell\/X.env.kindOf x=RM .free)kind:scope.kind=.function
 cells:∀y∈scope.names,y.2=.cell->scope.names.lookup y.1=RM .cell
 names:∀y∈scope.names,y.2=.local->scope.names.lookup y.1=RM .local
noncomputable def fM(X:Cx)(pins:List (RW×Tn))(a:UM)(N:List Sy)(cl:List (Sy×RW))(C:RW)(b:List RW)(s:RU)(H:Hp):Cx:={X with N:=N,bR:=s,iS:=H,env:=compEnvC a cl C X.env,outer:=X.stack,stack:=X.stack,ex:=b,fn:=λx=>a.names.lookup x==RM .cell,pn:=X.pn++pins,xe:=λ_ _=>False}
theorem eE{env:XS}:∀{names:List (Sy×Vf)}{x:Sy}{k:Vf},(names.map λ(n,k)=>if(k==Ud&&env.scope.kind==.function&&env.kindOf n==RM .cell)then(n,T4)else(n,k)).lookup x=RM k->(k=.cell\/k=.free)->names.lookup x=RM .free\/names.lookup x=RM .cell
 |[],_,_,h,_=>by simp at h|(n,b)::r,x,k,h,d=>by
  have e:=@eE env r x k;have h:aaT x ((if(b==Ud&&env.scope.kind==.function&&env.kindOf n==RM .cell)=RQ then(n,T4)else(n,b))::_)=RM k:=h;cases c:x==n with
  |true=>
   by_cases a:(b==Ud&&env.scope.kind==.function&&env.kindOf n==RM .cell)=RQ
   .rw[Ξ2 a]at h;simp only[R4,Θ3]at a;simp only[Th,c];exact .inl (by rw[a.1.1])
   .rw[Ξ3 a]at h;simp only[Th,c]at h⊢;cases h;rcases d with z|z;.exact .inr (by rw[z])
    .exact .inl (by rw[z])|false=>
   by_cases a:(b==Ud&&env.scope.kind==.function&&env.kindOf n==RM .cell)=RQ
   .rw[Ξ2 a]at h;simp only[Th,c]at h⊢;exact e h d
   .rw[Ξ3 a]at h;simp only[Th,c]at h⊢;exact e h d
theorem mJ:∀(names:List (Sy×Vf))(n:Nat)(a:List (Sy×RW)),(∀x c,a.lookup x=RM c->c<n)->(∀x y c,a.lookup x=RM c->a.lookup y=RM c->x=y)->(∀x y c,(Vc n names a).lookup x=RM c->(Vc n names a).lookup y=RM c->x=y)/\∀x c,(Vc n names a).lookup x=RM c->(a.lookup x=RM c/\(x,T4)∉names)\/(n<=c/\(x,T4)∈names/\∀h:SJ,h.objs.size=n->(Wd h names).IsCell c RP)
 |[],n,a,_,l=>⟨l,λx c e=>.inl ⟨e,by simp⟩⟩|(b,kind)::r,n,a,hb,l=>by
  by_cases t:kind=.cell
  .subst t;have u:Vc n ((b,T4)::r) a=Vc (n+1) r ((b,n)::a):=rfl;have lk:∀x c,((b,n)::a).lookup x=RM c->(x=b/\c=n)\/(x≠b/\a.lookup x=RM c):=λx c e=>by
    rw[Th]at e;cases k:x==b with
    |true=>rw[k]at e;cases e;exact .inl ⟨Θ3.mp k,rfl⟩|false=>rw[k]at e;exact .inr ⟨by simpa using k,e⟩
   obtain⟨s,p⟩:=mJ r (n+1) ((b,n)::a) (λx c e=>by
    rcases lk x c e with⟨_,z⟩|⟨_,z⟩;.rw[z];exact Vd n
    .exact Vo (hb x c z)) (λx y c A w=>by
    rcases lk x c A with⟨f,d⟩|⟨_,d⟩<;>rcases lk y c w with⟨o,g⟩|⟨_,g⟩;.rw[f,o]
    .exact Ξ1 (hb y c g) (by rw[d];exact Tr n)
    .exact Ξ1 (hb x c d) (by rw[g];exact Tr n)
    .exact l x y c d g);rw[u];refine⟨s,λx c e=>?_⟩;rcases p x c e with⟨f,d⟩|⟨f,d,m⟩
   .rcases lk x c f with⟨rfl,rfl⟩|⟨o,g⟩
    .refine .inr ⟨R5 _,RX,λh i=>?_⟩;show(Wd (h.push {cls:=.type "cell",data:=.cell RP}) r).IsCell c RP;exact⟨_,Zb r _ _ _ (i▸Sl _ rfl),rfl⟩
    .refine .inl ⟨g,λq=>?_⟩;rcases Ω2.mp q with q|q;.exact o (Prod.mk.inj q).1
     .exact d q
   .refine .inr ⟨Nat.le_of_succ_le f,RZ _ d,λh i=>?_⟩;show(Wd (h.push {cls:=.type "cell",data:=.cell RP}) r).IsCell c RP;exact m _ (by rw[UX,i])
  .have j:(kind==T4)=RT:=Ξ.mpr t;have u:Vc n ((b,kind)::r) a=Vc n r a:=by
    show(if kind==T4 then _ else _)=_;rw[j];rfl
   have v:∀h:SJ,Wd h ((b,kind)::r)=Wd h r:=λh=>by
    show(if kind==T4 then _ else _)=_;rw[j];rfl
   obtain⟨s,p⟩:=mJ r n a hb l;rw[u];refine⟨s,λx c e=>?_⟩;rcases p x c e with⟨f,d⟩|⟨f,d,m⟩
   .refine .inl ⟨f,λq=>?_⟩;rcases Ω2.mp q with q|q;.exact t (Prod.mk.inj q).2.symm
    .exact d q
   .exact .inr ⟨f,RZ _ d,λh i=>by rw[v];exact m h i⟩
structure ID(X:Cx)(scope:UM)(s:RU)(C:RW)(h':SJ)(cs:List (Sy×RW)):Prop where
 inj:∀x y c,cs.lookup x=RM c->cs.lookup y=RM c->x=y
 sub:∀x c,cs.lookup x=RM c->(X.env.cells.lookup x=RM c/\scope.names.lookup x≠RM .cell)\/(s⁻¹<=C/\C<c/\h'.IsCell c RP)free:∀x c,cs.lookup x=RM c->scope.names.lookup x=RM .free->X.env.cells.lookup x=RM c
 has:∀x,scope.names.lookup x=RM .cell\/scope.names.lookup x=RM .free->∃c,cs.lookup x=RM c
def qJ(h:Q (newEnv a s⁻¹ globals (Vc (s⁻¹+1) a.names cl) c RP .none (RM b) YN) {s with heap:=Wd (s.heap.push {cls:=.type "dict",data:=.dict #[]}) a.names}):wpAny M A (newFunctionEnv a globals cl [] c RP .none (RM b)) Q E s:=by
 simp only[newFunctionEnv,aae,if_true];refine RO (aaU ?_);refine RO (wpAny_layCells _ (λe kind cells=>by cases d:kind==T4<;>simp[d]) _ _ _ _ ?_);rw[WT];refine RO (RS (RS ?_));rw[show({s with heap:=s.heap.push {cls:=.type "dict",data:=.dict #[]}}:RU).heap.objs.size=s⁻¹+1 from UX ..];exact h
section
variable{σ:St}{fp:List RW}
noncomputable def cg(σ:St)(n:Nat)(js:List Nat):St:=Tu n RP++js.map λj=>(σ[j]?).join
def wQ(I:Inv X pins σ H s)(a:∀b∈fp,ij X pins H b):∀b∈fp,b∉iB X.stack:=λb hb z=>by
 obtain⟨_,d,c,_⟩:=a b hb;rcases Ω2.mp (I.kh b z)with e|e;.exact d e
 .exact c e
def IE(I:Inv X pins σ H s)(d:∀b∈fp,ij X pins H b)(g:∀b∈fp,b<s⁻¹)(c:OB X scope cl)(k:ID X scope s C h' cs)(j:s⁻¹<=C):(fM X pins scope N cs C fp s H).Ok where
 mod:=I.mod;kind:=c.kind;glob:=I.ok.glob;blt:=I.ok.blt;above:=j;inj:=k.inj;has:=λx f=>by
  have l:scope.names.lookup x=RM .free\/scope.names.lookup x=RM .cell:=by
   rcases f with f|f;.exact eE f (.inl rfl)
   .exact eE f (.inr rfl)
  exact k.has x l.symm
 HU:=λx a z e=>by
  rcases k.sub x a e with⟨_,q⟩|⟨i,h,_⟩;.exact Ξ1 (Θ3.mp z) q
  .exact V_ (WE i h)
 hd:=I.ok.hd;frames:=I.ok.frames;Ll:=.inl rfl;Ox:=λb hb=>⟨SD (Su (g b hb) j),λx a e=>by
  rcases k.sub x a e with⟨q,_⟩|⟨i,h,_⟩;.exact(d b hb).2.2.2.2.1 x a q
  .exact UE (YW (Su (g b hb) i) h)⟩;bs:=I.bs;D1:=SO I.ok.D1 I.sz;uY:=λb o e hb=>by
  rcases(d b hb).2.2.2.1 with z|z;.exact I.ok.uY b o e z
  .exact Ξ1 (Su (Su (Sa e) I.ok.D1) z) (Tr _)
 yQ:=wQ I d;kg:=I.stack;GZ:=I.lK
def zb(I:Inv X pins σ H s)(L:∀b∈fp,ij X pins H b)(M:∀b∈fp,b<s⁻¹)(c:OB X scope cl)(A:ID X scope s C h' cs)(S:js.map (λj=>X.N[j]?)=fr.map RM)(K:∀x∈fr,scope.names.lookup x=RM .free)(O:s⁻¹<=C)(k:∀b o,s.heap.get? b=RM o->h'.get? b=RM o)(hn:h'.Ns C m):Inv (fM X pins scope (own++fr) cs C fp s H) [] (cg σ own.length js) H {s with heap:=h',toks:=t'}:=by
 have Z:=by simpa using Ξ0 T6 S
 refine⟨IE I L M c A O,rfl,I.bare,Un.kept k,⟨m,hn,λi x v w f _=>?_⟩,λx a e=>?_,I.aM.fresh O,λx a e=>?_,λp F=>?_,I.aM.kept k,?_⟩
 .unfold cg at f;have w:(own++fr)[i]?=RM x:=w;by_cases J:i<own.length
  .rw[TB (by simpa using J),U4,Ξ2 J]at f;cases f
  .rw[SY (by simpa using J)]at f;rw[SY '0']at w;rw[US]at f;generalize i-own.length=t at w f;have E:=Ξ0 (λl=>l[t]?) S;rw[Sn,Sn,w]at E;rw[Sn]at f;cases U:js[t]? with
   |none=>rw[U]at f;cases f|some j=>
    rw[U]at f E;have h:=R3 E;have hv:σ[j]?=RM (RM v):=by
     have f:(σ[j]?).join=RM v:=R3 f;cases T:σ[j]? with
     |none=>rw[T]at f;cases f|some o=>
      rw[T]at f;have f:o=RM v:=f;rw[f]
    have g:=K x (SE w);obtain⟨_,P⟩:=c.has x g;obtain⟨a,ea⟩:=A.has x (.inr g);obtain⟨m0,_,hl⟩:=I.loc;obtain⟨u,r,lk⟩:=hl j x v h hv (.inr P);refine⟨u,r,.inr ⟨?_,a,ea,?_⟩⟩
    .have gen:∀names:List (Sy×Vf),names.lookup x=RM .free->(names.map λ(n,k)=>if(k==Ud&&X.env.scope.kind==.function&&X.env.kindOf n==RM .cell)then(n,T4)else(n,k)).lookup x=RM .cell\/(names.map λ(n,k)=>if(k==Ud&&X.env.scope.kind==.function&&X.env.kindOf n==RM .cell)then(n,T4)else(n,k)).lookup x=RM .free:=by
      intro names;induction names with
      |nil=>intro z;simp at z|cons y r R=>
       obtain⟨n,B⟩:=y;intro z;show aaT x ((if(B==Ud&&X.env.scope.kind==.function&&X.env.kindOf n==RM .cell)=RQ then(n,T4)else(n,B))::_)=_\/aaT x ((if(B==Ud&&X.env.scope.kind==.function&&X.env.kindOf n==RM .cell)=RQ then(n,T4)else(n,B))::_)=_;cases h:x==n with
       |true=>
        simp only[Th,h]at z;cases z;by_cases D:(Ud==Ud&&X.env.scope.kind==.function&&X.env.kindOf n==RM .cell)=RQ;.rw[Ξ2 D];exact .inl (by simp[Th,h])
        .rw[Ξ3 D];exact .inr (by simp[Th,h])|false=>
        simp only[Th,h]at z;by_cases D:(B==Ud&&X.env.scope.kind==.function&&X.env.kindOf n==RM .cell)=RQ;.rw[Ξ2 D];simp only[Th,h];exact R z
        .rw[Ξ3 D];simp only[Th,h];exact R z
     exact gen scope.names g
    .rcases lk with⟨Q,_⟩|⟨_,b,eb,z⟩
     .rcases P with q|q;.rw[Q]at q;cases q
      .rw[Q]at q;cases q
     .have e:=A.free x a ea g;rw[eb]at e;cases e;obtain⟨o,G,hd⟩:=z;exact⟨o,k _ _ G,hd⟩
 .rcases A.sub x a e with⟨q,_⟩|⟨_,_,q⟩
  .obtain⟨v,o,G,hd⟩:=I.cell x a q;exact⟨v,o,k _ _ G,hd⟩
  .exact⟨RP,q⟩
 .rcases A.sub x a e with⟨q,_⟩|⟨W,V,_⟩;.exact I.dk x a q
  .exact I.aM.fresh (V_ (WE W V))
 .have F:p∈X.pn++pins:=by simpa[fM]using F
  obtain⟨e,n,ne,Y,d⟩:=I.pin p F;refine⟨k _ _ e,n,SD (Su (Sa e) O),λz=>?_,d⟩;rcases Ω2.mp (I.kh _ z)with q|q;.exact ne q
  .exact Y q
 .show(cg σ own.length js).length=(own++fr).length;unfold cg;simp[Z]
def EB{a:St}(I:Inv X pins σ H s)(c:∀b∈fp,ij X pins H b)(J:Inv (fM X pins scope N cl C fp s H) d a H' s'):Inv X pins σ H' s':=by
 refine I.Ag (ch:=fp) J.os J.base J.aM J.bare λb hb=>?_;obtain⟨_,h,_,g,f,e⟩:=c b hb;exact⟨g,h,f,e⟩
def Inv.AG{a:RW}(I:Inv X pins σ H s)(ha:X.bR.heap.objs.size<=a)(f:H a=RP)(l:a≠X.env.locals)(k:∀x c,X.env.cells.lookup x=RM c->c≠a)(j:∀p∈X.pn++pins,p.1≠a)(new:bF X.prog X.w (upd H a o) s.heap a o):Inv X pins σ (upd H a o) s:=by
 refine⟨I.ok,I.os,I.bare,⟨I.base.keep,I.base.slot,λb ob e n i=>?_,I.base.there,λb g e=>?_,λb ob u e=>?_,λb ps e=>?_⟩,I.loc,I.cell,?_,λx c e=>?_,λp h=>?_,λb u e=>?_,I.len⟩
 .rw[ar (SD (Su (Sa e) ha))];exact I.base.free b ob e n i
 .have q:=I.base.jt b g e;rw[ar (aH q f)];exact q
 .have q:=I.base.iR b ob u e;rw[ar (aH q f)];exact q
 .obtain⟨d,q⟩:=I.base.ju b ps e;exact⟨d,by rw[ar (aH q f)];exact q⟩
 .rw[ar (T8 l)];exact I.free
 .rw[ar (k x c e)];exact I.dk x c e
 .obtain⟨e,n,r⟩:=I.pin p h;exact⟨e,by rw[ar (j p h)];exact n,r⟩
 .by_cases hb:b=a
  .subst hb;rw[aq]at e;cases e;exact new
  .rw[ar hb]at e;exact(I.aM b u e).fN (λ_ _ _ q=>q) (λc q=>by rw[ar (aH q f)];exact q) λc g q=>by rw[ar (aH q f)];exact q
end
def AH(Y:Cx)(ifs:List Sj)(t:TT):Prop:=∀(a:List (RW×Tn))(s:RU)(b:St)(H:Hp)(Q:Bool->Hp->Prop),Inv Y a b H s->t b H Q->wpAny (Sb Y.prog Y.w) Y.A (forIn ifs RQ λc r=>if r=RQ then do let ok<-Zt c Y.env (Ux c Y.env);pure (Uv ok)else pure (Uv r)) (TP Y a b Q) Y.xe s
noncomputable def Pl:TT:=λ_ H Q=>Q RQ H
def AI:AH Y [] Pl:=λa s b H Q I h=>wpAny_tests_nil ⟨H,I,h⟩
def AJ(h:PT Y c t):AH Y [c] t:=λa s b H Q I q=>wpAny_tests_one (h a s b H Q I q)
noncomputable abbrev RB(a:Type):=St->Hp->a->(a->St->Hp->Prop)->Prop
def Body(Y:Cx)(ok:e->Tn->Prop)(D:RW)(body:XH Unit)(rd:RB e):Prop:=∀(b:List (RW×Tn))(s:RU)(f:St)(H:Hp)(a:e)(ob:Tn)(Q:e->St->Hp->Prop),Inv Y ((D,ob)::b) f H s->(∀p∈Y.pn++b,p.1≠D)->ok a ob->rd f H a Q->wpAny (Sb Y.prog Y.w) Y.A body (λ_ i=>∃g d c h,Inv Y ((D,d)::b) c h i/\ok g d/\Q g c h) Y.xe s
noncomputable def wR(J:It)(g:TG)(e:TT)(rd:RB j):RB j:=λd H a Q=>∃W:Nat->Nat->j->St->Hp->Prop,(∃m,W 0 m a d H)/\∀i m a d H,W i m a d H->(J.stop i H/\Q a d H)\/(J.go i H/\∀x l,J.Oz i H x l->g x d l λc p=>e c p λb k=>if b=RQ then rd c k a λn h o=>∃f,f<m/\W (i+1) f n h o else∃f,f<m/\W (i+1) f a c k)
def sJ{ok:α->Tn->Prop}{rd:RB α}(hc:Y.calm=RQ)(hx:∀x s',¬Y.xe x s')(a7:(Sb Y.prog Y.w).den (.compLoop e d (.ref it) (.ref D) Y.env)=(aaw e d (.ref it) (.ref D) Y.env).onRaise (λx=>do Xf x Y.env;theTreesLotGoes x))(a4:Y.A.under (.compLoop e d (.ref it) (.ref D) Y.env)=Y.A)(b2:aaw e d (.ref it) (.ref D) Y.env=(do
   Wx pos0;match<-WL (.ref it)with
   |none=>pure (.done .next)|some v=>
    VN tg (.ref it) v;Yn tg Y.env v;let mut ok:=RQ;for c in ifs do if ok then ok<-Zt c Y.env (Ux c Y.env)
    if ok then body
    again (.compLoop e d (.ref it) (.ref D) Y.env)))(T:Turn Y.prog Y.w Y.K tg J y it tn)(hg:PG Y tg g)(hi:AH Y ifs E)(hb:Body Y ok D body rd){a:α}{σ:St}{Q:α->St->Hp->Prop}(I:Inv Y ((D,ob)::pins) σ H s)(a6:∀p∈Y.pn++pins,p.1≠D)(aM:ok a ob)(O:∀b∈y,ij Y ((D,ob)::pins) H b)(b0:tn 0 s.heap)(h:wR J g E rd σ H a Q):codeAny (Sb Y.prog Y.w) Y.A (.compLoop e d (.ref it) (.ref D) Y.env) (λr s'=>∃a' C Z H',r=.ok .next/\Inv Y ((D,C)::pins) Z H' s'/\ok a' C/\Q a' Z H'/\∀b∈y,H' b=RP) s:=by
 obtain⟨W,⟨m0,w0⟩,a0⟩:=h;have B:∀{H':Hp}{C:Tn},(∀b∈y,H' b=RP)->∀b∈y,ij Y ((D,C)::pins) H' b:=λ{H' C}hn b hb=>by
  obtain⟨_,h1,h2,h3,h4,h5⟩:=O b hb;refine⟨hn b hb,h1,h2,h3,h4,λp hp=>?_⟩;rcases Ω.mp hp with z|z;.exact h5 p (SX _ z)
  .rcases Ω2.mp z with q|q;.rw[q];exact h5 (D,ob) (Sk _ RX)
   .exact h5 p (Sk _ (RZ _ q))
 have a5:∀h:SJ,∀p∈Y.pn++(pins++fP y h),p.1≠D:=λh p hp=>by
  rcases Ω.mp hp with z|z;.exact a6 p (SX _ z)
  .rcases Ω.mp z with q|q;.exact a6 p (Sk _ q)
   .exact T8 ((O p.1 (pj q).1).2.2.2.2.2 (D,ob) (Sk _ RX))
 have t:∀{R:RR->RU->Prop}(x:RR)(s':RU),Y.xe x s'->R x s':=λx s' z=>(hx x s' z).elim;refine codeAny_loop rfl (λn s'=>∃i a ob σ H,Inv Y ((D,ob)::pins) σ H s'/\ok a ob/\tn i s'.heap/\(∀b∈y,H b=RP)/\W i n a σ H) ?_ m0 ⟨0,a,ob,σ,H,I,aM,b0,λb hb=>(O b hb).1,w0⟩;rintro n s3⟨i,a3,N,k,H3,I3,M,a2,P,w3⟩;rw[a7,a4];refine wpAny_noted ?_;rw[b2];refine RO (Ut (RO ?_));rcases a0 i n a3 k H3 w3 with⟨stop,qn⟩|⟨go,step⟩
 .refine TM (T.done Y rfl rfl rfl hc i _ s3 k H3 Y.xe I3 (B P) a2 stop) (λr s4⟨hr,I4⟩=>?_) t;subst hr;exact RS ⟨a3,N,k,H3,rfl,I4,M,qn,P⟩
 .refine TM (T.item Y rfl rfl rfl hc i _ s3 k H3 Y.xe I3 (B P) a2 go) (λr s4⟨u,hr,h4⟩=>?_) t;subst hr;refine RO (TM h4 (λ_ U⟨x,H5,I5,r5,y5,G,b3⟩=>?_) t);have b6:Inv Y ((D,N)::(pins++fP y U.heap)) k H5 U:=I5.pinned (B b3) (T.obj _ _ G);refine RO (TM (hg _ U k H5 x u _ b6 r5 (step x H5 y5)) (λ_ s6⟨X,H6,I6,q6⟩=>?_) t);refine RO (TM (hi _ s6 X H6 _ I6 q6) (λb s7⟨H7,I7,q7⟩=>?_) t);have f:∀{a8:α}{l:Tn}{j:St}{V:Hp}{S:RU},Inv Y ((D,l)::(pins++fP y U.heap)) j V S->ok a8 l->(∃m',m'<n/\W (i+1) m' a8 j V)->∃m,m<n/\∃i a ob σ H,Inv Y ((D,ob)::pins) σ H S/\ok a ob/\tn i S.heap/\(∀b∈y,H b=RP)/\W i m a σ H:=λ{a8 l j V S}I8 L a9=>by
   obtain⟨m',hm,w8⟩:=a9;have F:=λ(b:RW)(o:Tn)(z:(b,o)∈fP y U.heap)=>I8.pin (b,o) (Sk _ (RZ _ (Sk _ z)));have b4:Inv Y (((D,l)::pins)++fP y U.heap) j V S:=I8;refine⟨m',hm,i+1,a8,l,j,V,b4.jx,L,T.keep _ _ _ G λb hb o e=>(F b o (fQ hb e)).1,λb hb=>?_,w8⟩;obtain⟨o,e,_⟩:=T.obj _ _ G b hb;exact(F b o (fQ hb e)).2.1
  cases b with
  |false=>
   rw[Ξ3 Tw]at q7;exact RS ⟨rfl,f I7 M q7⟩|true=>
   rw[Ξ2 rfl]at q7;refine RO (TM (hb _ s7 X H7 a3 N _ I7 (a5 _) M q7) (λ_ S⟨a8,l,j,V,I8,L,q8⟩=>?_) t);exact RS ⟨rfl,f I8 L q8⟩
def Pm(b:List V)(ob:Tn):Prop:=b.length<=R1/\∃(a:List RR)(n:Nat),ax b a/\ob={cls:=.type "list",data:=.seq a.toArray n}
noncomputable def qK(te:TE):RB (List V):=λb H a Q=>te b H λy c=>a.length<R1/\Q (a++[y]) b c
def ax.snoc(r:ax xs us)(q:RelV x u):ax (xs++[x]) (us++[u]):=r.append (q∘.nil)
def Inv.AK{σ:St}(I:Inv Y ((D,ob)::pins) σ H s)(m:Y.bR.heap.objs.size<=D)(h:∀x c,Y.env.cells.lookup x=RM c->c≠D)(l:∀p∈Y.pn++pins,p.1≠D)(k:∀b o,b≠D->s.heap.get? b=RM o->h'.get? b=RM o)(e:h'.get? D=RM a)(hd:∀v,a.data≠.cell v):Inv Y ((D,a)::pins) σ H {s with heap:=h',toks:=t'}:=by
 obtain⟨_,n,ne,j,_⟩:=I.pin (D,ob) (Sk _ RX);have q:Inv Y pins σ H s:=I.fO λp g=>I.pin p (Sk _ (RZ _ g));have i:Inv Y pins σ H {s with heap:=h',toks:=t'}:=q.turned (it:=D) k n ne (.inr m) h l;refine i.fO λp g=>?_;rcases Ω2.mp g with z|z;.rw[z];exact⟨e,n,ne,j,hd⟩
 .exact i.pin p (Sk _ z)
structure Me(Y:Cx)(D:RW):Prop where
 young:Y.bR.heap.objs.size<=D
 cells:∀x c,Y.env.cells.lookup x=RM c->c≠D
def zc(o:Me Y D)(h:PE Y elt te):Body Y Pm D (do let _<-call (.builtin "list.append") [.ref D,<-Ux elt Y.env]) (qK te):=by
 intro j s g H f ob Q I d aM q;refine RO (bE (h _ s g H _ I q) λu B c=>?_);obtain⟨y,A,k,m,C,p⟩:=c;obtain⟨w,a,n,i,rfl⟩:=aM;have eD:=(k.pin _ (Sk _ RX)).1;refine RO (wpAny_list_append_plain (l:=D) (items:=a.toArray) ⟨n,eD⟩ (λE⟨r,x⟩t=>RS ?_) (by rw[Se,<-i.length];exact w));refine⟨f++[y],_,g,A,k.AK o.young o.cells d (λb ob hb e=>(t.2 b hb).trans e) x (λv z=>nomatch z),⟨by simp;omega,a++[u],r,i.snoc m,by simp⟩,p⟩
end L2
end
section
namespace ST
open PySem
noncomputable def f5(n i:Nat):Nat:=(i*5+1)%n
noncomputable def wU(n:Nat):Nat->Nat->Nat
 |0,i=>i|k+1,i=>f5 n (wU n k i)
def lN(n a b i):wU n (a+b) i=wU n a (wU n b i):=by induction a with
 |zero=>simp[wU]|succ a c=>rw[Nat.succ_add];simp only[wU];rw[c]
noncomputable def row(n:Nat):Nat->Nat->List Nat
 |0,_=>[]|k+1,i=>i::row n k (f5 n i)
def zd(n k i):wU n (k+1) i=wU n k (f5 n i):=by
 have:=lN n k 1 i;rw[this];rfl
theorem wV:∀{k i j:Nat},j∈row n k i->∃m,m<k/\wU n m i=j
 |0,_,_,h=>by simp[row]at h|k+1,i,j,h=>by
  rcases Ω2.mp h with rfl|h;.exact⟨0,XI _,rfl⟩
  .obtain⟨m,b,a⟩:=wV h;exact⟨m+1,Nat.succ_lt_succ b,by rw[zd];exact a⟩
def Mask(k:Nat):Prop:=k=7\/k=31\/k=127\/k=511
noncomputable def full(n:Nat):Bool:=(SQ n).all (λj=>(row n n 0).contains j)&&(wU n n 0==0)
def Mf:full 8=RQ:=by decide+kernel
def IF:full 32=RQ:=by decide+kernel
def EC:full 128=RQ:=by decide+kernel
def ED:full 512=RQ:=by decide+kernel
def Mask.full(h:Mask k):ST.full (k+1)=RQ:=by
 rcases h with rfl|rfl|rfl|rfl;.exact Mf
 .exact IF
 .exact EC
 .exact ED
def ze(h:full n=RQ)(g:i<n)(f:j<n):∃m,m<n/\wU n m i=j:=by
 unfold full at h;rw[R4,Tj,Θ3]at h;obtain⟨l,k⟩:=h;have get:=λx e=>wV (by simpa using l x (List.mem_range.mpr e));obtain⟨a,ha,ea⟩:=get i g;obtain⟨b,hb,d⟩:=get j f;by_cases c:a<=b
 .refine⟨b-a,'0',?_⟩;rw[<-ea,<-lN,Nat.sub_add_cancel c,d]
 .refine⟨b+(n-a),'0',?_⟩;rw[<-ea,<-lN,show b+(n-a)+a=b+n by omega,lN,k,d]
noncomputable def run(mask:Nat)(b:Nat):Nat->Nat×Nat
 |0=>(b%(mask+1),b)|m+1=>VV mask (run mask b m).1 (run mask b m).2
def sL(mask b m):(run mask b m).2=b/32^m:=by induction m with
 |zero=>simp[run]|succ m a=>
  show(run mask b m).2/32=_;rw[a,YY,Nat.pow_succ]
def IG(mask b m):(run mask b m).1<mask+1:=by cases m with
 |zero=>exact YZ _ (XI _)|succ m=>exact YZ _ (XI _)
def AL(hb:b<2^64)(m):(run mask b (13+m)).1=wU (mask+1) m (run mask b 13).1:=by induction m with
 |zero=>rfl|succ m a=>
  show((run mask b (13+m)).1*5+1+(run mask b (13+m)).2/32)%(mask+1)=f5 (mask+1) (wU (mask+1) m (run mask b 13).1);have:(run mask b (13+m)).2/32=0:=by
   rw[sL,YY,<-Nat.pow_succ];refine Nat.div_eq_of_lt (Su hb ?_);have:(32)^13<=32^(13+m).succ:=Nat.pow_le_pow_right '1' '0';exact SO '1' this
  rw[this,aax,a];rfl
def wW(a:Mask mask)(hb:b<2^64)(d:j<=mask):∃m,m<=13+mask/\(run mask b m).1=j:=by
 obtain⟨m,e,c⟩:=ze a.full (IG mask b 13) (show j<mask+1 by omega);exact⟨13+m,'0',by rw[AL hb];exact c⟩
noncomputable def jA(mask:Nat)(p:UY):UY:=if 0<p.more then{p with more:=p.more-1,j:=p.j+1}else{p with j:=(VV mask p.i p.perturb).1,more:=SW mask (VV mask p.i p.perturb).1-(VV mask p.i p.perturb).1,i:=(VV mask p.i p.perturb).1,perturb:=(VV mask p.i p.perturb).2}
noncomputable def begin(mask b:Nat):UY:={j:=b%(mask+1),more:=SW mask (b%(mask+1))-b%(mask+1),i:=b%(mask+1),perturb:=b,dummy:=RP}
noncomputable def bH(mask b:Nat):Nat->UY
 |0=>begin mask b|n+1=>jA mask (bH mask b n)
noncomputable def km(mask b m:Nat):UY:={j:=(run mask b m).1,more:=SW mask (run mask b m).1-(run mask b m).1,i:=(run mask b m).1,perturb:=(run mask b m).2,dummy:=RP}
def more_le(mask i):SW mask i-i<=9:=by
 unfold SW;split<;>omega
theorem qL(h:bH mask b n=p):∀o,o<=p.more->bH mask b (n+o)={p with j:=p.j+o,more:=p.more-o}
 |0,_=>by rw[aax,h];rfl|o+1,c=>by
  have a:=qL h o '0';show jA mask (bH mask b (n+o))=_;rw[a];unfold jA;have:p.more-o>0:='0'
  rw[Ξ2 (show(({p with j:=p.j+o,more:=p.more-o}:UY)).more>0 from this)];show({p with j:=p.j+o+1,more:=p.more-o-1}:UY)={p with j:=p.j+(o+1),more:=p.more-(o+1)};rw[Wo,Nat.sub_sub]
theorem wX(mask b:Nat):∀m,∃n,n<=10*m/\bH mask b n=km mask b m
 |0=>⟨0,R5 _,rfl⟩|m+1=>by
  obtain⟨n,d,a⟩:=wX mask b m;have c:=more_le mask (run mask b m).1;refine⟨n+(km mask b m).more+1,by show n+(SW mask (run mask b m).1-(run mask b m).1)+1<=_;omega,?_⟩;show jA mask (bH mask b (n+(km mask b m).more))=_;rw[qL a _ (R5 _)];unfold jA;rw[Ξ3 (by show¬(km mask b m).more-(km mask b m).more>0;omega)];rfl
def EE(c:Mask mask)(hb:b<2^64)(a:j<=mask):∃n,n<10*TX mask/\(bH mask b n).j=j:=by
 obtain⟨m,g,e⟩:=wW c hb a;obtain⟨n,f,d⟩:=wX mask b m;refine⟨n,by unfold TX;omega,?_⟩;rw[d];exact e
def zf(mask b n):(bH mask b n).dummy=RP:=by induction n with
 |zero=>rfl|succ n a=>
  show(jA mask (bH mask b n)).dummy=RP;unfold jA;split<;>exact a
def AM(mask b n):(bH mask b n).j+(bH mask b n).more<=mask/\(bH mask b n).i<=mask:=by
 have start:∀i,i<=mask->i+(SW mask i-i)<=mask:=λi c=>by
  unfold SW;split<;>omega
 induction n with
 |zero=>
  have lt:b%(mask+1)<=mask:=aay (YZ _ (XI _));exact⟨start _ lt,lt⟩|succ n a=>
  show(jA mask (bH mask b n)).j+(jA mask (bH mask b n)).more<=mask/\(jA mask (bH mask b n)).i<=mask;unfold jA;split;.exact⟨by show(bH mask b n).j+1+((bH mask b n).more-1)<=mask;omega,a.2⟩
  .have lt:(VV mask (bH mask b n).i (bH mask b n).perturb).1<=mask:=aay (YZ _ (XI _));exact⟨start _ lt,lt⟩
end ST
end
section
namespace ST
open PySem
def bw(l:List Nat):Prop:=l.Pairwise (·<·)
def bw.get(h:bw l){i j x y:Nat}(e:l[i]?=RM x)(d:l[j]?=RM y)(c:i<j):x<y:=by
 obtain⟨a,rfl⟩:=Ω0.mp e;obtain⟨b,rfl⟩:=Ω0.mp d;exact List.pairwise_iff_getElem.mp h i j a b c
theorem mK(h:bw xs.toList):∀(fuel lo a:Nat),a-lo<=fuel->lo<=a->a<=xs.size->(∀i x,i<lo->xs[i]?=RM x->x<j)->(∀i x,a<=i->xs[i]?=RM x->j<=x)->∃p,aaz xs j fuel lo a=p/\p<=xs.size/\(∀i x,i<p->xs[i]?=RM x->x<j)/\∀i x,p<=i->xs[i]?=RM x->j<=x
 |0,lo,a,r,q,l,g,f=>⟨lo,rfl,'0',g,λi x c e=>f i x '0' e⟩|fuel+1,lo,a,r,q,l,g,f=>by
  unfold aaz;by_cases d:lo<a
  .rw[Ξ2 d];have s:(lo+a)/2<a:='0'
   have o:lo<=(lo+a)/2:='0'
   have b:(lo+a)/2<xs.size:='0'
   have eD:xs.getD ((lo+a)/2) j=xs[(lo+a)/2]:=by simp[aag,b]
   have n:xs.toList[(lo+a)/2]?=RM xs[(lo+a)/2]:=by simp[b]
   simp only[eD];by_cases m:xs[(lo+a)/2]<j
   .rw[Ξ2 m];refine mK h fuel ((lo+a)/2+1) a '0' '0' l (λi x c e=>?_) f;by_cases k:i=(lo+a)/2
    .subst k;have:x=xs[(lo+a)/2]:=by rw[R9 b]at e;exact(R3 e).symm
     omega
    .have:x<xs[(lo+a)/2]:=h.get (i:=i) (j:=(lo+a)/2) (by simpa using e) n '0';omega
   .rw[Ξ3 m];refine mK h fuel lo ((lo+a)/2) '0' '0' '0' g (λi x c e=>?_);by_cases k:i=(lo+a)/2
    .subst k;have:x=xs[(lo+a)/2]:=by rw[R9 b]at e;exact(R3 e).symm
     omega
    .have:xs[(lo+a)/2]<x:=h.get (i:=(lo+a)/2) (j:=i) n (by simpa using e) '0';omega
  .rw[Ξ3 d];exact⟨lo,rfl,'0',g,λi x c e=>f i x '0' e⟩
def gB(h:bw xs.toList)(j):Sh xs j<=xs.size/\(∀i x,i<Sh xs j->xs[i]?=RM x->x<j)/\∀i x,Sh xs j<=i->xs[i]?=RM x->j<=x:=by
 obtain⟨p,e,r⟩:=mK h xs.size 0 xs.size '0' (SH _) (R5 _) (λi x a=>Ξ1 a (UN _)) (λi x a e=>Ξ1 (Ψ3.mp e).1 '0');have:Sh xs j=p:=e;rw[this];exact r
def below_at(h:bw xs.toList)(a:xs[i]?=RM j):Sh xs j=i:=by
 obtain⟨_,e,d⟩:=gB h j;rcases U5 (Sh xs j) i with c|c|c
 .have b:=YW c (Ψ3.mp a).1;have f:=R9 b;have:=d _ _ (R5 _) f;have:=h.get (x:=xs[Sh xs j]) (by simp[b]) (by simpa using a) c;omega
 .exact c
 .have:=e i j c a;omega
def pG{t:SV}(h:bw t.place.toList)(a:t.place[i]?=RM j):t.slot j=.live i:=by
 unfold SetTable.slot;rw[below_at h a];simp[a]
def vh{t:SV}(h:bw t.place.toList)(hd:t.dummies=#[])(a:∀i:Nat,t.place[i]?≠RM j):t.slot j=.empty:=by
 unfold SetTable.slot;have c:(t.place[Sh t.place j]?==RM j)=RT:=by cases e:t.place[Sh t.place j]? with
  |none=>rfl|some x=>
   have:x≠j:=λz=>a _ (by rw[e,z]);simpa using this
 have b:SetTable.has t.dummies j=RT:=by rw[hd];rfl
 simp[c,b]
def dE(xs)(p)(x:a)(b:p<=xs.size):(SU xs p x).toList=xs.toList.take p++x::xs.toList.drop p:=by
 unfold SU;simp[VF]
def oU(h:bw xs.toList)(n:∀i:Nat,xs[i]?≠RM j):bw (SU xs (Sh xs j) j).toList:=by
 obtain⟨l,o,g⟩:=gB h j;rw[dE _ _ _ l];unfold bw;rw[ZF,Θ0];refine⟨h.sublist (aas _ _),⟨λy m=>?_,h.sublist (List.drop_sublist _ _)⟩,λa ha b hb=>?_⟩
 .obtain⟨i,c⟩:=Ψ2.mp m;rw[X4]at c;have e:=by simpa using c
  have:=g _ y (We _ _) e;have:y≠j:=λz=>n _ (by rw[e,z]);omega
 .obtain⟨i,c⟩:=Ψ2.mp ha;have d:i<Sh xs j:=by
   have:=(Ω0.mp c).1;simp at this;omega
  rw[Wl d]at c;have p:=o i a d (by simpa using c);rcases Ω2.mp hb with rfl|hb;.exact p
  .obtain⟨k,f⟩:=Ψ2.mp hb;rw[X4]at f;have:=g _ b (We _ _) (show xs[Sh xs j+k]?=RM b by simpa using f);omega
end ST
end
section
namespace ST
open PySem
structure lP(t:SV)(hs:List Int):Prop where
 mask:Mask t.mask
 rise:bw t.place.toList
 EF:t.dummies=#[]len:t.place.size=hs.length
 low:∀(i j:Nat),t.place[i]?=RM j->j<=t.mask
 zg:hs.length<=t.mask
 way:∀(i:Nat)(h:Int)(j:Nat),hs[i]?=RM h->t.place[i]?=RM j->∃n,(bH t.mask (R6 h) n).j=j/\∀m,m<n->∃i':Nat,t.place[i']?=RM (bH t.mask (R6 h) m).j
def wY(h):R6 h<2^64:=by
 unfold R6;have a:=Wz h (show(2^64)≠0 by decide);have:=Int.toNat_of_nonneg a;omega
theorem kU(h:bw l):∀k,(∀j,j<=k->∃i:Nat,l[i]?=RM j)->∃i,k<=i/\l[i]?=RM k
 |0,f=>by obtain⟨i,e⟩:=f 0 (R5 _);exact⟨i,SH _,e⟩|k+1,f=>by
  obtain⟨i,m,d⟩:=kU h k λj g=>f j '0';obtain⟨b,a⟩:=f (k+1) (R5 _);refine⟨b,?_,a⟩;rcases U5 i b with c|c|c;.omega
  .subst c;rw[d]at a;cases a
  .have:=h.get a d c;omega
def lP.room(T:lP t hs):∃j,j<=t.mask/\∀i:Nat,t.place[i]?≠RM j:=by
 by_cases c:∃j,j<=t.mask/\∀i:Nat,t.place[i]?≠RM j;.exact c
 .exfalso;have all:∀j,j<=t.mask->∃i:Nat,t.place.toList[i]?=RM j:=λj d=>by
   by_cases b:∃i:Nat,t.place[i]?=RM j;.obtain⟨i,a⟩:=b;exact⟨i,by simpa using a⟩
   .exact(c ⟨j,d,λi a=>b ⟨i,a⟩⟩).elim
  obtain⟨i,f,e⟩:=kU T.rise t.mask all;have:=by
   have:=(Ω0.mp e).1;simpa using this
  have:=T.len;have:=T.zg;omega
def bA(t:SV)(h:Int)(N:Nat):Prop:=(∀i:Nat,t.place[i]?≠RM (bH t.mask (R6 h) N).j)/\∀m,m<N->∃i:Nat,t.place[i]?=RM (bH t.mask (R6 h) m).j
def lP.first(T:lP t hs)(h):∃N,N<10*TX t.mask/\bA t h N:=by
 obtain⟨j,l,g⟩:=T.room;obtain⟨n,b,a⟩:=EE T.mask (wY h) l;have ex:∃n,n<10*TX t.mask/\∀i:Nat,t.place[i]?≠RM (bH t.mask (R6 h) n).j:=⟨n,b,λi=>by rw[a];exact g i⟩;obtain⟨n,b,a⟩:=ex;induction n using Nat.strongRecOn with|ind n k=>
  by_cases f:∃m,m<n/\∀i:Nat,t.place[i]?≠RM (bH t.mask (R6 h) m).j
  .obtain⟨m,d,c⟩:=f;exact k m d '0' c
  .refine⟨n,b,a,λm d=>?_⟩;by_cases e:∃i:Nat,t.place[i]?=RM (bH t.mask (R6 h) m).j;.exact e
   .exact(f ⟨m,d,λi o=>e ⟨i,o⟩⟩).elim
theorem mL(T:lP t hs)(F:bA t h N)(Y0:Nat->Int):∀(fuel n:Nat),n<=N->N<n+fuel->(∃f i,n<=f/\f<N/\t.place[i]?=RM (bH t.mask (R6 h) f).j/\Y0 i=h/\(∀m,n<=m->m<f->∀k:Nat,t.place[k]?=RM (bH t.mask (R6 h) m).j->Y0 k≠h)/\Yg t Y0 h fuel (bH t.mask (R6 h) n)=RM (.candidate (bH t.mask (R6 h) f).j i (bH t.mask (R6 h) (f+1))))\/((∀m,n<=m->m<N->∀k:Nat,t.place[k]?=RM (bH t.mask (R6 h) m).j->Y0 k≠h)/\Yg t Y0 h fuel (bH t.mask (R6 h) n)=RM (.empty (bH t.mask (R6 h) N).j RP))
 |0,n,v,u=>'0'|fuel+1,n,v,u=>by
  unfold Yg;by_cases r:n=N
  .subst r;refine .inr ⟨λm a b=>'0',?_⟩;rw[vh T.rise T.EF F.1];simp only[zf]
  .obtain⟨i,p⟩:=F.2 n '0';rw[pG T.rise p];by_cases l:Y0 i=h
   .refine .inl ⟨n,i,R5 _,'0',p,l,λm a b=>'0',?_⟩;simp only[l,beq_self_eq_true,if_true];rfl
   .have hb:(Y0 i==h)=RT:=by simpa using l
    simp only[hb,Sg,if_false];have one:∀k:Nat,t.place[k]?=RM (bH t.mask (R6 h) n).j->Y0 k≠h:=λk s=>by
     have:k=i:=by rw[<-below_at T.rise s,below_at T.rise p]
     rw[this];exact l
    rcases mL T F Y0 fuel (n+1) '0' '0'with⟨f,q,a,b,c,d,e,g⟩|⟨e,g⟩;.exact .inl ⟨f,q,'0',b,c,d,λm x y=>by
      by_cases o:m=n;.subst o;exact one
      .exact e m '0' y,g⟩
    .exact .inr ⟨λm x y=>by
      by_cases o:m=n;.subst o;exact one
      .exact e m '0' y,g⟩
def lP.odd(T:lP t hs):t.gaveWay=RT:=by
 unfold SetTable.gaveWay;rcases T.mask with e|e|e|e<;>rw[e]<;>rfl
def lP.put(T:lP t hs)(F:bA t h N)(x:hs.length+1<=t.mask):(t.put (bH t.mask (R6 h) N).j).2<=hs.length/\lP (t.put (bH t.mask (R6 h) N).j).1 (hs.take (t.put (bH t.mask (R6 h) N).j).2++h::hs.drop (t.put (bH t.mask (R6 h) N).j).2):=by
 have hd:SetTable.has t.dummies (bH t.mask (R6 h) N).j=RT:=by rw[T.EF];rfl
 generalize C:(bH t.mask (R6 h) N).j=J at*;obtain⟨A,b1,I⟩:=gB T.rise J;have E:(t.put J).2=Sh t.place J:=rfl;have H:(t.put J).1={t with place:=SU t.place (Sh t.place J) J}:=by
  unfold SetTable.put;simp[hd]
 have D:=F.1;rw[C]at D;have v:(SU t.place (Sh t.place J) J).toList=t.place.toList.take (Sh t.place J)++J::t.place.toList.drop (Sh t.place J):=dE _ _ _ A;have r:∀(i j),t.place[i]?=RM j->∃l:Nat,(SU t.place (Sh t.place J) J)[l]?=RM j:=λi j f=>by
  have p:j∈(SU t.place (Sh t.place J) J).toList:=by
   rw[v];have:j∈t.place.toList:=SE (by simpa using f);rw[<-Ur (Sh t.place J) t.place.toList]at this;rcases Ω.mp this with q|q;.exact SX _ q
   .exact Sk _ (RZ _ q)
  obtain⟨l,z⟩:=Ψ2.mp p;exact⟨l,by simpa using z⟩
 refine⟨by rw[E,<-T.len];exact A,?_⟩;rw[E,H];have B:t.place.toList.length=hs.length:=by simpa using T.len
 refine⟨T.mask,oU T.rise D,T.EF,?_,λi j f=>?_,?_,λi g j f G=>?_⟩
 .have:=Ξ0 T6 v;simp only[SR,Wa,Ss,Xe]at this⊢;rw[<-SN];omega
 .have p:j∈(SU t.place (Sh t.place J) J).toList:=SE (by simpa using f);rw[v]at p;have:j∈t.place.toList\/j=J:=by
   rcases Ω.mp p with q|q;.exact .inl (ZG q)
   .rcases Ω2.mp q with q|q;.exact .inr q
    .exact .inl (ZH q)
  rcases this with q|q
  .obtain⟨k,y⟩:=Ψ2.mp q;exact T.low k j (by simpa using y)
  .have:=(AM t.mask (R6 h) N).1;show j<=t.mask;omega
 .simp only[SR,Wa,Ss,Xe];omega
 .have e:(t.place.toList.take (Sh t.place J)++J::t.place.toList.drop (Sh t.place J))[i]?=RM j:=by rw[<-v];simpa using G
  have u:(t.place.toList.take (Sh t.place J)).length=Sh t.place J:=by simp;omega
  have s:(hs.take (Sh t.place J)).length=Sh t.place J:=by simp;have:=T.len;omega
  have o:∀(g)(j i),hs[i]?=RM g->t.place[i]?=RM j->∃n,(bH t.mask (R6 g) n).j=j/\∀m,m<n->∃l:Nat,(SU t.place (Sh t.place J) J)[l]?=RM (bH t.mask (R6 g) m).j:=λg j i a b=>by
   obtain⟨n,c,d⟩:=T.way i g j a b;exact⟨n,c,λm p=>by obtain⟨l,q⟩:=d m p;exact r l _ q⟩
  rcases U5 i (Sh t.place J)with c|c|c
  .rw[TB '0']at f e;rw[Wl c]at f e;exact o g j i f (by simpa using e)
  .rw[SY '0',s,c,Nat.sub_self]at f;rw[SY '0',u,c,Nat.sub_self]at e;simp at f e;subst f e;exact⟨N,C,λm p=>by obtain⟨l,q⟩:=F.2 m p;exact r l _ q⟩
  .rw[SY '0',s]at f;rw[SY '0',u]at e;obtain⟨k,y⟩:∃k,i=Sh t.place J+1+k:=⟨i-Sh t.place J-1,'0'⟩;subst y;rw[show Sh t.place J+1+k-Sh t.place J=k+1 by omega]at f e;rw[U6,X4]at f e;exact o g j _ f (by simpa using e)
end ST
end
section
namespace ST
open PySem
theorem e7:∀(k:Nat)(l:List Nat),l.Nodup->(∀x∈l,x<k)->l.length<=k
 |0,[],_,_=>R5 _|0,x::_,_,h=>Ξ1 (h x RX) (UN _)|k+1,l,b,h=>by
  by_cases c:k∈l
  .have:=e7 k (l.erase k) (b.erase k) λx a=>by
    have f:=h x (List.mem_of_mem_erase a);have d:x≠k:=λe=>by
     subst e;exact(List.Nodup.not_mem_erase b) a
    omega
   rw[Wr c]at this;omega
  .have:=e7 k l b λx a=>by
    have f:=h x a;have d:x≠k:=λe=>c (e▸a);omega
   omega
theorem pH:∀(k:Nat)(l:List Nat),(∀x,x<k->x∈l)->k<=l.length
 |0,_,_=>SH _|k+1,l,h=>by
  have a:k∈l:=h k (Vd _);have:=pH k (l.erase k) λx b=>(ZI '0').mpr (h x '0');rw[Wr a]at this;have:=WU a;omega
structure EG(mask:Nat)(hs:List Int)(owner:Array (Option Nat))(k:Nat):Prop where
 size:owner.size=mask+1
 has:∀i,i<k->∃j:Nat,owner[j]?=RM (RM i)low:∀(j i:Nat),owner[j]?=RM (RM i)->i<k
 one:∀(j j' i:Nat),owner[j]?=RM (RM i)->owner[j']?=RM (RM i)->j=j'
 way:∀(j i:Nat)(h:Int),owner[j]?=RM (RM i)->hs[i]?=RM h->∃n,(bH mask (R6 h) n).j=j/\∀m,m<n->∃i':Nat,owner[(bH mask (R6 h) m).j]?=RM (RM i')
def EG.room(O:EG mask hs owner k)(r:k<=mask):∃j,j<=mask/\owner[j]?=RM RP:=by
 by_cases a:∃j,j<=mask/\owner[j]?=RM RP;.exact a
 .exfalso;have all:∀j,j<=mask->∃i,owner[j]?=RM (RM i):=λj b=>by
   have g:j<owner.size:=by rw[O.size];omega
   cases e:owner[j]with
   |none=>exact(a ⟨j,b,by rw[R9 g,e]⟩).elim|some i=>exact⟨i,by rw[R9 g,e]⟩
  have key:∀n,n<=mask+1->∃l:List Nat,l.length=n/\l.Nodup/\(∀x∈l,x<k)/\∀x∈l,∃j,j<n/\owner[j]?=RM (RM x):=λn=>by induction n with
   |zero=>exactλ_=>⟨[],rfl,.nil,(λx a=>Ξ1 a '2'),(λx a=>Ξ1 a '2')⟩|succ n o=>
    intro q;obtain⟨l,m,f,d,h⟩:=o '0';obtain⟨i,c⟩:=all n '0';refine⟨i::l,by simp[m],Φ3.mpr ⟨λp=>?_,f⟩,λx a=>?_,λx a=>?_⟩
    .obtain⟨j,b,e⟩:=h i p;have:=O.one j n i e c;omega
    .rcases Ω2.mp a with rfl|a;.exact O.low _ _ c
     .exact d x a
    .rcases Ω2.mp a with rfl|a;.exact⟨n,'0',c⟩
     .obtain⟨j,b,e⟩:=h x a;exact⟨j,'0',e⟩
  obtain⟨l,m,f,d,_⟩:=key (mask+1) (R5 _);have:=e7 k l f d;omega
theorem wZ(B:Mask mask)(w:owner.size=mask+1)(p:owner[(run mask b ms).1]?=RM RP):∀(fuel m n:Nat),m<=ms->ms<m+fuel->bH mask b n=km mask b m->(∀q,q<n->∃t:Nat,owner[(bH mask b q).j]?=RM (RM t))->∃N,VH mask owner fuel (run mask b m).1 (run mask b m).2=RM (bH mask b N).j/\owner[(bH mask b N).j]?=RM RP/\∀q,q<N->∃t:Nat,owner[(bH mask b q).j]?=RM (RM t)
 |0,m,n,D,C,_,_=>'0'|fuel+1,m,n,D,C,y,x=>by
  unfold VH;have pos:∀o,o<=SW mask (run mask b m).1-(run mask b m).1->(bH mask b (n+o)).j=(run mask b m).1+o:=λo f=>by
   rw[qL y o f];rfl
  have h:∀o,o<=SW mask (run mask b m).1-(run mask b m).1->(run mask b m).1+o<owner.size:=λo f=>by
   have:=(AM mask b (n+o)).1;rw[<-pos o f,w];omega
  have gd:∀o,o<=SW mask (run mask b m).1-(run mask b m).1->((owner.getD ((run mask b m).1+o) (RM 0)).isNone=RQ↔owner[(run mask b m).1+o]?=RM RP):=λo f=>by
   have a:=h o f;simp[aag,a]
  have E:SW mask (run mask b m).1+1-(run mask b m).1=SW mask (run mask b m).1-(run mask b m).1+1:=by
   have:(run mask b m).1<=SW mask (run mask b m).1:=by unfold SW;split<;>omega
   omega
  rw[E];cases s:(SQ (SW mask (run mask b m).1-(run mask b m).1+1)).find? λk=>(owner.getD ((run mask b m).1+k) (RM 0)).isNone with
  |some o=>
   have f:o<=SW mask (run mask b m).1-(run mask b m).1:=by
    have:=List.mem_range.mp (X_ s);omega
   have hb:=List.find?_some s;refine⟨n+o,by simp only[pos o f],?_,λq u=>?_⟩;.rw[pos o f];exact(gd o f).mp hb
   .by_cases a:q<n;.exact x q a
    .obtain⟨c,rfl⟩:∃c,q=n+c:=⟨q-n,'0'⟩;have d:c<=SW mask (run mask b m).1-(run mask b m).1:='0'
     rw[pos c d];have g:=h c d;cases e:owner[(run mask b m).1+c]with
     |some i=>exact⟨i,by rw[R9 g,e]⟩|none=>
      exfalso;have v:(owner.getD ((run mask b m).1+c) (RM 0)).isNone=RQ:=(gd c d).mpr (by rw[R9 g,e]);have:=(List.find?_range_eq_some.mp s).2.2 c '0';rw[v]at this;cases this
  |none=>
   have r:=List.find?_eq_none.mp s;have l:∀o,o<=SW mask (run mask b m).1-(run mask b m).1->∃i:Nat,owner[(run mask b m).1+o]?=RM (RM i):=λo f=>by
    have a:=h o f;cases e:owner[(run mask b m).1+o]with
    |some i=>exact⟨i,by rw[R9 a,e]⟩|none=>exact Ξ1 ((gd o f).mpr (by rw[R9 a,e])) (r o (List.mem_range.mpr '0'))
   have A:m≠ms:=λe=>by
    subst e;obtain⟨i,z⟩:=l 0 (SH _);rw[aax,p]at z;cases z
   have nx:bH mask b (n+(km mask b m).more+1)=km mask b (m+1):=by
    show jA mask (bH mask b (n+(km mask b m).more))=_;rw[qL y _ (R5 _)];unfold jA;rw[Ξ3 (by show¬(km mask b m).more-(km mask b m).more>0;omega)];rfl
   refine wZ B w p fuel (m+1) (n+(km mask b m).more+1) '0' '0' nx λq u=>?_;by_cases a:q<n;.exact x q a
   .obtain⟨c,rfl⟩:∃c,q=n+c:=⟨q-n,'0'⟩;have d:c<=SW mask (run mask b m).1-(run mask b m).1:=by
     have:(km mask b m).more=SW mask (run mask b m).1-(run mask b m).1:=rfl;omega
    rw[pos c d];exact l c d
def EG.lay(A:Mask mask)(O:EG mask hs owner k)(E:k<=mask)(F:hs[k]?=RM h):∃j,VH mask owner (TX mask) (R6 h%(mask+1)) (R6 h)=RM j/\EG mask hs (owner.setIfInBounds j (RM k)) (k+1):=by
 obtain⟨j0,w,L⟩:=O.room E;obtain⟨ms,P,H⟩:=wW A (wY h) w;obtain⟨N,K,B,I⟩:=wZ A O.size (by rw[H];exact L) (TX mask) 0 0 (SH _) (by unfold TX;omega) rfl (λq D=>Ξ1 D (UN _));refine⟨_,K,?_⟩;generalize G:(bH mask (R6 h) N).j=J at*;have p:=(Ψ3.mp B).1;have o:(owner.setIfInBounds J (RM k))[J]?=RM (RM k):=by simp[p]
 have l:∀j:Nat,j≠J->(owner.setIfInBounds J (RM k))[j]?=owner[j]?:=λj f=>by
  rw[Xz];rw[Ξ3 (T8 f)]
 have d:∀(j i),(owner.setIfInBounds J (RM k))[j]?=RM (RM i)->(j=J/\i=k)\/(j≠J/\owner[j]?=RM (RM i)):=λj i e=>by
  by_cases f:j=J
  .subst f;rw[o]at e;exact .inl ⟨rfl,(R3 (R3 e)).symm⟩
  .rw[l j f]at e;exact .inr ⟨f,e⟩
 have keep:∀(j i:Nat),owner[j]?=RM (RM i)->∃t:Nat,(owner.setIfInBounds J (RM k))[j]?=RM (RM t):=λj i e=>by
  by_cases f:j=J;.subst f;exact⟨k,o⟩
  .exact⟨i,by rw[l j f];exact e⟩
 refine⟨by simp[O.size],λi M=>?_,λj i e=>?_,λj s i e C=>?_,λj i g e y=>?_⟩
 .by_cases x:i=k;.subst x;exact⟨J,o⟩
  .obtain⟨j,f⟩:=O.has i '0';have u:j≠J:=λz=>by subst z;rw[B]at f;cases f
   exact⟨j,by rw[l j u];exact f⟩
 .rcases d j i e with⟨_,rfl⟩|⟨_,q⟩;.omega
  .have:=O.low j i q;omega
 .rcases d j i e with⟨rfl,rfl⟩|⟨_,q⟩
  .rcases d s i C with⟨rfl,_⟩|⟨_,r⟩;.rfl
   .exact Ξ1 (O.low _ _ r) (Tr _)
  .rcases d s i C with⟨rfl,rfl⟩|⟨_,r⟩;.exact Ξ1 (O.low _ _ q) (Tr _)
   .exact O.one j s i q r
 .rcases d j i e with⟨rfl,rfl⟩|⟨_,q⟩
  .rw[F]at y;cases y;exact⟨N,G,λm v=>by obtain⟨t,z⟩:=I m v;exact keep _ _ z⟩
  .obtain⟨n,a,c⟩:=O.way j i g q y;exact⟨n,a,λm v=>by obtain⟨t,z⟩:=c m v;exact keep _ _ z⟩
noncomputable def EH(mask:Nat)(b:Option (Array (Option Nat)×Nat))(h:Int):Option (Array (Option Nat)×Nat):=do
 let(a,k)<-b;let j<-VH mask a (TX mask) (R6 h%(mask+1)) (R6 h)pure (a.setIfInBounds j (RM k),k+1)
def sM(mask)(a):Yh mask a=(a.toList.foldl (EH mask) (RM (Array.replicate (mask+1) RP,0))).map (·.1):=by
 unfold Yh;rw[<-Array.foldl_toList];rfl
theorem sN(d:Mask mask)(f:hs.length<=mask):∀(r:List Int)(k:Nat)(owner:Array (Option Nat)),hs.drop k=r->k<=hs.length->EG mask hs owner k->∃a,r.foldl (EH mask) (RM (owner,k))=RM (a,hs.length)/\EG mask hs a hs.length
 |[],k,owner,e,b,O=>by
  have c:hs.length<=k:=List.drop_eq_nil_iff.mp e;have:k=hs.length:='0'
  subst this;exact⟨owner,rfl,O⟩|h::r,k,owner,e,b,O=>by
  have c:k<hs.length:=by
   have:=Ξ0 T6 e;simp at this;omega
  have g:hs[k]?=RM h:=by
   have:=Ξ0 (λl=>l[0]?) e;simpa using this
  obtain⟨j,o,n⟩:=O.lay d '0' g;have p:hs.drop (k+1)=r:=by
   have:=Ξ0 List.tail e;simpa using this
  obtain⟨a,m,i⟩:=sN d f r (k+1) _ p c n;refine⟨a,?_,i⟩;rw[List.foldl_cons];have:EH mask (RM (owner,k)) h=RM (owner.setIfInBounds j (RM k),k+1):=by simp[EH,o]
  rw[this];exact m
def sO(c:Mask mask)(a:hs.length<=mask):∃owner,Yh mask hs.toArray=RM owner/\EG mask hs owner hs.length:=by
 have g:EG mask hs (Array.replicate (mask+1) RP) 0:=by
  refine⟨by simp,λi b=>Ξ1 b (UN _),λj i e=>?_,λj k i e=>?_,λj i h e=>?_⟩;all_goals
   rw[Array.getElem?_replicate]at e;split at e<;>cases e
 obtain⟨owner,f,d⟩:=sN c a hs 0 _ rfl (SH _) g;exact⟨owner,by rw[sM];simp[f],d⟩
noncomputable def bo(owner:Array (Option Nat)):List Nat->List (Nat×Nat)
 |[]=>[]|j::r=>match owner.getD j RP with
  |some i=>(j,i)::bo owner r|none=>bo owner r
theorem w4(owner:Array (Option Nat)):∀l:List Nat,(l.filterMap λj=>(owner.getD j RP).map (j,·))=bo owner l
 |[]=>rfl|j::r=>by
  rw[TQ];unfold bo;have a:=w4 owner r;cases e:owner.getD j RP with
  |none=>exact a|some i=>exact Ξ0 (List.cons (j,i)) a
theorem gC:∀{l:List Nat}{p:Nat×Nat},p∈bo owner l↔p.1∈l/\owner.getD p.1 RP=RM p.2
 |[],p=>by simp[bo]|j::r,p=>by
  unfold bo;cases e:owner.getD j RP with
  |none=>
   simp only[];rw[gC];constructor;.rintro⟨a,b⟩;exact⟨RZ _ a,b⟩
   .rintro⟨a,b⟩;rcases Ω2.mp a with z|z;.rw[z,e]at b;cases b
    .exact⟨z,b⟩|some i=>
   simp only[];rw[Ts,gC];constructor
   .rintro(z|⟨a,b⟩);.rw[z];exact⟨RX,e⟩
    .exact⟨RZ _ a,b⟩
   .rintro⟨a,b⟩;rcases Ω2.mp a with z|z
    .left;rw[z,e]at b;cases b;exact ZJ z rfl
    .exact .inr ⟨z,b⟩
theorem e8:∀{l:List Nat},bw l->bw ((bo owner l).map (·.1))
 |[],_=>by simp[bo,bw]|j::r,h=>by
  have a:bw r:=(Θ0.mp h).2;unfold bo;cases e:owner.getD j RP with
  |none=>exact e8 a|some i=>
   show bw (j::(bo owner r).map (·.1));refine Θ0.mpr ⟨λy b=>?_,e8 a⟩;obtain⟨p,c,rfl⟩:=Ω3.mp b;exact(Θ0.mp h).1 _ (gC.mp c).1
def getD_at{owner:Array (Option Nat)}:owner.getD j RP=RM i↔owner[j]?=RM (RM i):=by
 by_cases h:j<owner.size;.simp[h]
 .simp[h]
def w5{led plain}(C:Mask mask){hs:List Int}(H:hs.length<=mask):∃(t:SV)(O:List Nat),SetTable.laid mask finger moves led plain hs.toArray=RM (t,O.toArray)/\t.mask=mask/\t.led=led/\t.plain=plain/\O.Nodup/\O.length=hs.length/\(∀i,i∈O↔i<hs.length)/\∀c:List Int,c.length=O.length->(∀(k i:Nat)(h),O[k]?=RM i->hs[i]?=RM h->c[k]?=RM h)->lP t c:=by
 obtain⟨owner,N,d⟩:=sO C H;have w:bw (SQ (mask+1)):=List.pairwise_lt_range;have o:∀p∈bo owner (SQ (mask+1)),owner[p.1]?=RM (RM p.2):=λp l=>getD_at.mp (gC.mp l).2;have lv:∀(j i),owner[j]?=RM (RM i)->(j,i)∈bo owner (SQ (mask+1)):=λj i e=>by
  refine gC.mpr ⟨List.mem_range.mpr ?_,getD_at.mpr e⟩;have:=(Ψ3.mp e).1;rw[d.size]at this;exact this
 have mem:∀i,i∈(bo owner (SQ (mask+1))).map (·.2)↔i<hs.length:=λi=>by
  constructor
  .intro h;obtain⟨p,l,rfl⟩:=Ω3.mp h;exact d.low _ _ (o p l)
  .intro h;obtain⟨j,K⟩:=d.has i h;exact Ω3.mpr ⟨(j,i),lv j i K,rfl⟩
 have nd:((bo owner (SQ (mask+1))).map (·.2)).Nodup:=by
  have E:=e8 (owner:=owner) w;have f:((bo owner (SQ (mask+1))).map (·.1)).Nodup:=E.imp λh=>SD h;rw[List.Nodup,List.pairwise_map]at f⊢;refine Ws (λ{p q}l G u e=>u ?_) f;exact d.one _ _ _ (o p l) (by rw[e];exact o q G)
 have len:=Nat.le_antisymm (e7 _ _ nd λx s=>(mem x).mp s) (pH _ _ λx s=>(mem x).mpr s);refine⟨_,(bo owner (SQ (mask+1))).map (·.2),by simp only[SetTable.laid,N,w4];rfl,rfl,rfl,rfl,nd,len,mem,λc v L=>?_⟩;have A:∀k j:Nat,((bo owner (SQ (mask+1))).map (·.1)).toArray[k]?=RM j->∃i,(bo owner (SQ (mask+1)))[k]?=RM (j,i)/\owner[j]?=RM (RM i):=λk j e=>by
  have e:((bo owner (SQ (mask+1))).map (·.1))[k]?=RM j:=by simpa using e
  rw[Sn]at e;cases q:(bo owner (SQ (mask+1)))[k]? with
  |none=>rw[q]at e;cases e|some p=>
   rw[q]at e;cases e;exact⟨p.2,rfl,o p (SE q)⟩
 have r:∀j i:Nat,owner[j]?=RM (RM i)->∃k:Nat,((bo owner (SQ (mask+1))).map (·.1)).toArray[k]?=RM j:=λj i e=>by
  obtain⟨k,J⟩:=Ψ2.mp (lv j i e);exact⟨k,by simp[J]⟩
 refine⟨C,e8 w,rfl,?_,λk j e=>?_,?_,λk g j M e=>?_⟩;.rw[v];simp
 .obtain⟨i,_,q⟩:=A k j e;have:=(Ψ3.mp q).1;rw[d.size]at this;show j<=mask;omega
 .show c.length<=mask;omega
 .obtain⟨i,F,y⟩:=A k j e;have B:=d.low j i y;have D:=L k i hs[i] (by rw[Sn,F];rfl) (R_ B);rw[M]at D;cases D;obtain⟨n,a,b⟩:=d.way j i hs[i] y (R_ B);exact⟨n,a,λm I=>by obtain⟨P,z⟩:=b m I;exact r _ _ z⟩
end ST
end
section
namespace ST
open PySem PyProof.Rows
noncomputable def cu(a:Array (Int×RR))(i:Nat):Int:=(a[i]?.map (·.1)).getD 0
section
variable{prog:Sf}{w:Sx}{K:Type}[DecidableEq K]{kk:VS prog w K}{A:SF}{E:RR->RU->Prop}
noncomputable def jB(kk:VS prog w K)(x:List K×RW):Int×RR:=(Sw kk x.1,.ref x.2)
structure fE(kk:VS prog w K)(h:SJ)(a:RW)(xs:List (List K×RW))(t:SV):Prop where
 ob:∃o es ep,h.get? a=RM o/\o.ExactSet/\o.data=.set es ep t/\es.toList=xs.map (jB kk)tab:lP t (xs.map λx=>Sw kk x.1)zg:xs.length*5<t.mask*3
 nd:(xs.map (·.1)).Nodup
 led:t.led=!w.params.followText "set-order"
def EI(kk:VS prog w K)(h:SJ)(xs:List (List K×RW)):Prop:=∀x∈xs,IsTupleKey kk h x.1 x.2
def kW{ks}{a}{Q}(g:IsTupleKey kk s.heap ks a)(h:Q RT s):wpAny (Sb prog w) A (Yi 8 (.ref a)) Q E s:=by
 have l:=g.typeIs;obtain⟨o,items,n,j,_,hd,k⟩:=g;unfold Yi;refine RO (XJ l ?_);refine RO (RS ?_);refine RO (V3 j hd ?_);refine RO ?_;rw[<-VE];refine Uz _ (λrest r c=>r.1=RP/\c=s/\∀v∈rest,ZE v=RQ) _ ?_ ?_ _ _ ⟨rfl,rfl,k.byValue⟩
 .rintro v rest r c⟨f,rfl,b⟩;have i:=b v RX;have e:Yi 7 v=pure RT:=by cases v<;>first|rfl|cases i
  rw[e];refine RO (RS ?_);exact RS ⟨rfl,rfl,λu d=>b u (RZ _ d)⟩
 .rintro⟨p,m⟩c⟨f,rfl,_⟩;subst f;exact RS h
def EJ{ks}{b}(k:IsTupleKey kk s.heap ks b){Q}(j)(m:∀y∈j,∃e c,y=.ref c/\IsTupleKey kk s.heap e c)(h:Q RT s):wpAny (Sb prog w) A (searchCouldBeSeen (.ref b) j) Q E s:=by
 refine RO (Uz _ (λrest r f=>r.1=RP/\f=s/\∀y∈rest,∃e c,y=.ref c/\IsTupleKey kk s.heap e c) _ ?_ ?_ _ _ ⟨rfl,rfl,m⟩)
 .rintro y rest r f⟨i,rfl,d⟩;obtain⟨e,c,rfl,l⟩:=d y RX;have a:=λu g=>d u (RZ _ g);dsimp only;split;.exact RS ⟨rfl,rfl,a⟩
  .refine RO (Zi k ?_);refine RO (Zi l ?_);refine RO (kW k ?_);refine RO (kW l ?_);exact RS ⟨rfl,rfl,a⟩
 .rintro⟨o,n⟩f⟨i,rfl,_⟩;subst i;exact RS h
def dI(h:SJ)(b:RW):Prop:=∃o items n,h.get? b=RM o/\o.data=.seq items n/\∀v∈items.toList,Xo 7 v=pure RQ
def vi{ks}{a}{Q}(p:IsTupleKey kk s.heap ks a)(h:∀b,(dI s.heap a->b=RQ)->Q b s):wpAny (Sb prog w) A (Xo 8 (.ref a)) Q E s:=by
 have D:=p.typeIs;obtain⟨o,items,n,m,_,hd,C⟩:=p;refine RO (Vm D PySem.F.slot_tuple_hash.lookup ?_);refine RO (V3 m hd ?_);refine RO ?_;rw[<-VE];have x:dI s.heap a->∀v∈items.toList,Xo 7 v=pure RQ:=λ⟨H,i,I,d,f,B⟩=>by
  rw[m]at d;cases d;rw[hd]at f;cases f;exact B
 refine Uz _ (λrest r g=>g=s/\(∀v∈rest,ZE v=RQ/\v∈items.toList)/\(dI s.heap a->r.1=RP\/r.1=RM RQ)) _ ?_ ?_ _ _ ⟨rfl,λv j=>⟨C.byValue v j,j⟩,λ_=>.inl rfl⟩
 .rintro v rest r g⟨rfl,c,l⟩;have j:=(c v RX).1;have e:∃b,Xo 7 v=pure b:=by cases v<;>first|exact⟨_,rfl⟩|cases j
  obtain⟨b,e⟩:=e;have y:=λq=>by
   have:=x q v (c v RX).2;rw[e]at this;injection this
  rw[e];refine RO (RS ?_);cases b with
  |true=>exact RS ⟨rfl,λu k=>c u (RZ _ k),λ_=>.inl rfl⟩|false=>exact RS (RS (h _ y))
 .rintro⟨t,G⟩g⟨rfl,_,l⟩;cases t with
  |none=>exact RS (h _ λ_=>rfl)|some b=>exact RS (h _ λq=>by
    rcases l q with z|z;.cases z
    .exact R3 z)
theorem mM{a b:RW}{xs:List (List K×RW)}{t:SV}{k:List K}{d:Bool}(hu:A.units<TL)(S:fE kk s.heap a xs t)(hK:EI kk s.heap xs)(hb:IsTupleKey kk s.heap k b){N:Nat}(F:bA t (Sw kk k) N)(hN:N<10*TX t.mask){Q:SetFound->RU->Prop}(yes:k∈xs.map (·.1)->∀o,(o.isSome=RQ\/d=RQ)->Q (.there o) s)(no:k∉xs.map (·.1)->Q (.free (bH t.mask (R6 (Sw kk k)) N).j RT) s):∀(fuel n:Nat),n<=N->N<n+fuel->(∀m,m<n->∀(i:Nat)(x:List K×RW),t.place[i]?=RM (bH t.mask (R6 (Sw kk k)) m).j->xs[i]?=RM x->x.1≠k)->∀aS:Option UY,aS.getD (t.probeStart (Sw kk k))=bH t.mask (R6 (Sw kk k)) n->wpAny (Sb prog w) A (setSearchFrom a (.ref b) (Sw kk k) d fuel aS) Q E s
 |0,n,h1,h2,_,_,_=>'0'|fuel+1,n,h1,h2,J,aS,P=>by
  obtain⟨o,v,ep,ho,hex,hd,C⟩:=S.ob;have T:=S.tab;have O:v.size=xs.length:=by have:=Ξ0 T6 C;simpa using this
  have hf:t.fits v.size=RQ:=by
   unfold Yq Xk;have h3:=T.len;have h4:=T.zg;simp only[RV]at h3 h4;rw[T.EF,O];simp[h3];omega
  have f:∀(i:Nat)(x:List K×RW),xs[i]?=RM x->v[i]?=RM (jB kk x):=λi x e=>by
   have:v.toList[i]?=RM (jB kk x):=by rw[C,Sn,e];rfl
   simpa using this
  unfold setSearchFrom;refine RO (Um ho hd hf ?_);dsimp only;rw[T.odd];simp only[Sg,if_false];rw[P];have at_:∀i,(B:i<xs.length)->xs[i].1=k->∃m,m<N/\t.place[i]?=RM (bH t.mask (R6 (Sw kk k)) m).j:=λi B hk=>by
   have p:i<t.place.size:=by rw[T.len];simpa using B
   obtain⟨m,L,R⟩:=T.way i (Sw kk k) t.place[i] (by rw[Sn,R_ B];simp[hk]) (R9 p);refine⟨m,?_,by rw[L];exact R9 p⟩;rcases U5 m N with c|c|c;.exact c
   .subst c;exact Ξ1 (by rw[L];exact R9 p) (F.1 i)
   .obtain⟨I,q⟩:=R N c;exact Ξ1 q (F.1 I)
  have hash:∀(i:Nat)(x:List K×RW),xs[i]?=RM x->cu v i=Sw kk x.1:=λi x l=>by
   unfold cu;rw[f i x l];rfl
  have M:∀(i j:Nat),t.place[i]?=RM j->∃x,xs[i]?=RM x:=λi j e=>by
   have:=(Ψ3.mp e).1;rw[T.len]at this;simp only[RV]at this;exact⟨xs[i],R_ this⟩
  have D:N<n+10*TX t.mask:='0'
  rcases mL T F (cu v) (10*TX t.mask) n h1 D with⟨H,i,a1,a2,Y,a4,X,W⟩|⟨X,W⟩
  .have e:t.probe (cu v) (Sw kk k) (bH t.mask (R6 (Sw kk k)) n)=RM (.candidate (bH t.mask (R6 (Sw kk k)) H).j i (bH t.mask (R6 (Sw kk k)) (H+1))):=W;erw[e];dsimp only;obtain⟨x,l⟩:=M i _ Y;have h:=hK x (SE l);cases hl:t.led;simp only[Bool.not_false,if_true];refine RO (EJ hb _ (λy hy=>?_) ?_)
   .simp only[aaB,V4,Array.mem_filter]at hy;obtain⟨en,⟨U,_⟩,rfl⟩:=hy;have:en∈xs.map (jB kk):=by rw[<-C];exact Array.mem_toList_iff.mpr U
    obtain⟨G,g,rfl⟩:=Ω3.mp this;exact⟨G.1,G.2,rfl,hK G g⟩
   all_goals
    simp only[Tv,Sg,if_false];rw[f i x l];dsimp only[jB];refine RO (SS (X2 hu h hb ?_));refine RO (Um ho hd hf ?_);dsimp only;have Z:t.sameMemory t.moves t.mask=RM RQ:=by unfold SetTable.sameMemory;simp
    have sl:t.slot (bH t.mask (R6 (Sw kk k)) H).j=.live i:=pG T.rise Y;by_cases r:x.1=k
    .have u:k∈xs.map (·.1):=Ω3.mpr ⟨x,SE l,r⟩;rw[Φ2 r];cases d with
     |true=>exact RS (yes u RP (.inr rfl))|false=>
      simp only[Bool.false_and,Sg,if_false,Z,if_true,sl,f i x l,jB];refine RO ?_;unfold isSame;simp only[beq_self_eq_true,if_true];refine RS (RO (RS ?_));simp only[if_true];exact RS (yes u (RM i) (.inl rfl))
    .rw[Φ1 r];simp only[Bool.and_false,Sg,if_false,Z,if_true,sl,f i x l,jB];refine RO ?_;unfold isSame;simp only[beq_self_eq_true,if_true];refine RS (RO (RS ?_));simp only[if_true];refine mM hu S hK hb F hN yes no fuel (H+1) '0' '0' (λm hm I G p g=>?_) _ rfl;by_cases V:m<n;.exact J m V I G p g
     .by_cases c2:m<H
      .intro z;have:=X m '0' c2 I p;rw[hash I G g,z]at this;exact this rfl
      .have:m=H:='0'
       subst this;have:I=i:=by rw[<-below_at T.rise p,below_at T.rise Y]
       subst this;rw[l]at g;cases g;exact r
  .have e:t.probe (cu v) (Sw kk k) (bH t.mask (R6 (Sw kk k)) n)=RM (.empty (bH t.mask (R6 (Sw kk k)) N).j RP):=W;erw[e];dsimp only;refine RS (no λu=>?_);obtain⟨x,l,h⟩:=Ω3.mp u;obtain⟨i,B,rfl⟩:=List.mem_iff_getElem.mp l;obtain⟨m,hm,p⟩:=at_ i B h;by_cases V:m<n;.exact J m V i xs[i] p (R_ B) h
   .have:=X m '0' hm i p;rw[hash i xs[i] (R_ B),h]at this;exact this rfl
end
end ST
end
section
namespace ST
open PySem PyProof.Rows
section
variable{w:Sx}{K:Type}[DecidableEq K]{kk:VS prog w K}{A:SF}{E:RR->RU->Prop}
def bU{m b}{Q:a->RU->Prop}(e:m=b)(h:wpAny (Sb prog w) A b Q E s):wpAny (Sb prog w) A m Q E s:=e▸h
def w6{l l':List Nat}:l.Nodup->l'.Nodup->(∀i,i∈l↔i∈l')->l.Perm l':=λa b c=>(V5 a b).mpr c
def pJ{a:Type}(l)(d:a):(SQ l.length).map (λi=>(l[i]?).getD d)=l:=by
 apply YA;.simp
 .intro i c b;simp[b]
def fE.fits{a}{h}{xs}{t}(S:fE kk h a xs t):t.fits xs.length=RQ:=by
 have T:=S.tab;have b:=T.len;have c:=T.zg;simp only[RV]at b c;unfold Yq Xk;rw[T.EF];simp[b];omega+splitNatSub
def AN(T:lP t hs)(b):lP {t with plain:=b} hs:=⟨T.mask,T.rise,T.EF,T.len,T.low,T.zg,T.way⟩
def fits_of(T:lP t hs)(e:n=hs.length):t.fits n=RQ:=by
 unfold Yq Xk;have a:=T.len;have b:=T.zg;rw[T.EF,e];simp[a];omega+splitNatSub
def AO(T:lP t hs):10*TX t.mask<100000:=by rcases T.mask with e|e|e|e<;>rw[e]<;>decide
def zh{a}{o}{b}{ep}{xs}{t}(F:s.heap.get? a=RM o)(hex:o.ExactSet)(hd:o.data=.set b ep t)(f:b.toList=xs.map (jB kk))(T:lP t (xs.map λx=>Sw kk x.1))(G:(xs.map (·.1)).Nodup)(y:t.led=!w.params.followText "set-order")(Eu:¬xs.length*5<t.mask*3)(z:(xs.length-1)*5<t.mask*3)(pos:0<xs.length)(C:xs.length<=306){Q:Unit->RU->Prop}(h:∀h' m t',TR a s.heap h'->fE kk h' a m t'->m.Perm xs->t'.plain=t.plain->Q () {s with heap:=h'}):wpAny (Sb prog w) A (setRelay a (Vw xs.length)) Q E s:=by
 have n:b.size=xs.length:=by have:=Ξ0 T6 f;simpa using this
 obtain⟨mask,M,hM,Y,Z,q⟩:∃mask,aah (Vw xs.length)=mask+1/\Mask mask/\xs.length<=mask/\mask+1<=512/\xs.length*5<mask*3:=by
  rcases T.mask with e|e|e|e<;>rw[e]at Eu z
  .have:xs.length=5:='0'
   rw[this];exact⟨31,by decide,.inr (.inl rfl),'0','0','0'⟩
  .have:xs.length=19:='0'
   rw[this];exact⟨127,by decide,.inr (.inr (.inl rfl)),'0','0','0'⟩
  .have:xs.length=77:='0'
   rw[this];exact⟨511,by decide,.inr (.inr (.inr rfl)),'0','0','0'⟩
  .omega
 unfold setRelay;refine RO (Um F hd (fits_of T (by rw[n,RV])) ?_);dsimp only;rw[Ξ3 (by rw[M,TH];omega)];obtain⟨B,O,W,V,U,S,R,P,I,N⟩:=w5 (finger:=t.finger) (moves:=t.movedTo mask) (led:=t.led) (plain:=t.plain) hM (hs:=xs.map λx=>Sw kk x.1) (by simpa using Y);have hh:b.map (·.1)=(xs.map λx=>Sw kk x.1).toArray:=by
  apply Array.ext';rw[Vx,f,S7];rfl
 have er:t.relaid (b.map (·.1)) (Vw xs.length)=RM (B,O.toArray):=by
  unfold SetTable.relaid;rw[M,hh];exact W
 rw[er];let g:Nat->List K×RW:=λi=>(xs[i]?).getD ([],0);have L:∀i∈O,i<xs.length:=λi d=>by simpa using(I i).mp d
 have u:∀i∈O,b[i]?=RM (jB kk (g i)):=λi d=>by
  have c:=L i d;have:b.toList[i]?=RM (jB kk xs[i]):=by rw[f,Sn,R_ c];rfl
  have H:g i=xs[i]:=by show(xs[i]?).getD _=_;rw[R_ c];rfl
  rw[H];simpa using this
 have fm:∀l:List Nat,(∀i∈l,b[i]?=RM (jB kk (g i)))->l.filterMap (λi=>b[i]?)=(l.map g).map (jB kk):=by
  intro l;induction l with
  |nil=>intro _;rfl|cons i l X=>
   intro y;rw[TQ,y i RX,X λj hj=>y j (RZ _ hj)];rfl
 have v:(O.toArray.filterMap (λi=>b[i]?)).toList=(O.map g).map (jB kk):=by
  rw[Y1];exact fm O u
 have r:(O.toArray.filterMap (λi=>b[i]?)).size=xs.length:=by
  rw[<-SN,v];simp[P]
 refine RO (bU (Ξ3 ?_) (RS ?_))
 .show¬((O.toArray.filterMap (λi=>b[i]?)).size !=b.size)=RQ;rw[r,n];simp
 dsimp only;have p:=Te (aai (O.toArray.filterMap (λi=>b[i]?)) B) F (by rw[Xg _ _ hd];rfl);rw[Xg _ _ hd]at p;have D:(O.map g).Perm xs:=by
  have:=(w6 R List.nodup_range (l':=SQ xs.length) λi=>by rw[I i,List.mem_range];simp).map g;rwa[pJ]at this
 refine WV F hd (h _ (O.map g) B (S_ ..) ⟨⟨_,_,_,p,hex,rfl,v⟩,?_,?_,?_,?_⟩ D S) (by rw[r,TH];omega)
 .refine N _ '2' λk i h J d=>?_;rw[Sn,Sn,J];have c:=L i (SE J);rw[Sn,R_ c]at d;have H:g i=xs[i]:=by show(xs[i]?).getD _=_;rw[R_ c];rfl
  simp only[U7,UH]at d⊢;rw[H,d]
 .rw[D.length_eq,V];exact q
 .exact(D.map _).nodup_iff.mpr G
 .rw[U];exact y
def EK{a b}{xs}{t}{k}(hu:A.units<TL)(S:fE kk s.heap a xs t)(hK:EI kk s.heap xs)(hb:IsTupleKey kk s.heap k b)(hn:xs.length<306){Q}(O:k∈xs.map (·.1)->Q RT s)(new:k∉xs.map (·.1)->∀h' l t',TR a s.heap h'->fE kk h' a l t'->l.Perm ((k,b)::xs)->(t.plain=RQ->dI s.heap b->t'.plain=RQ)->Q RQ {s with heap:=h'}):wpAny (Sb prog w) A (ZK a (.ref b) (Sw kk k) 100000) Q E s:=by
 obtain⟨o,i,ep,G,hex,hd,C⟩:=id S.ob;have T:=S.tab;have P:=by have:=Ξ0 T6 C;simpa using this
 have Y:t.fits i.size=RQ:=by rw[P];exact S.fits
 refine RO (Um G hd Y ?_);dsimp only;have R:byScan (.ref b) i=RT:=by unfold byScan;simp[Value.scannable]
 rw[R];obtain⟨N,hN,F⟩:=T.first (Sw kk k);have tl:=AO T;refine RO (mM hu S hK hb F hN (λV o _=>RS (O V)) (λh=>?_) 100000 0 (SH _) '0' (λm hm=>Ξ1 hm (UN _)) RP rfl);refine RO (Um G hd Y ?_);have r:(xs.map λx=>Sw kk x.1).length+1<=t.mask:=by
  have:=S.zg;simp only[RV];rcases T.mask with e|e|e|e<;>rw[e]at this⊢<;>omega
 obtain⟨hp,I⟩:=T.put F r;have ed:(t.put (bH t.mask (R6 (Sw kk k)) N).j).1.plain=t.plain:=rfl;have H:(t.put (bH t.mask (R6 (Sw kk k)) N).j).1.mask=t.mask:=rfl;have el:(t.put (bH t.mask (R6 (Sw kk k)) N).j).1.led=t.led:=rfl;generalize(t.put (bH t.mask (R6 (Sw kk k)) N).j).2=p at*;generalize(t.put (bH t.mask (R6 (Sw kk k)) N).j).1=g at*;simp only[RV]at hp;have eh:((xs.take p++(k,b)::xs.drop p).map λx=>Sw kk x.1)=((xs.map λx=>Sw kk x.1).take p++Sw kk k::(xs.map λx=>Sw kk x.1).drop p):=by rw[SA,Sr,Yr,Ys]
 rw[<-eh]at I;have D:=by
  have:=List.perm_middle (a:=(k,b)) (l₁:=xs.take p) (l₂:=xs.drop p);rwa[Ur]at this
 have v:(SU i p (Sw kk k,.ref b)).toList=(xs.take p++(k,b)::xs.drop p).map (jB kk):=by
  rw[dE i p _ '0',C,SA,Sr,Yr,Ys];rfl
 generalize a2:xs.take p++(k,b)::xs.drop p=f at*;have z:f.length=xs.length+1:=by rw[D.length_eq];rfl
 have y:=by
  refine(D.map (·.1)).nodup_iff.mpr ?_;exact Φ3.mpr ⟨h,S.nd⟩
 have rest:∀d:Bool,(t.plain=RQ->dI s.heap b->d=RQ)->wpAny (Sb prog w) A (storeSet a (SU i p (Sw kk k,.ref b)) {g with plain:=d}>>=λ_=>(if(!false&&({g with plain:=d}:SV).tooFull)=RQ then setRelay a (Vw (i.size+1))>>=λ_=>pure RQ else pure RQ)) Q E s:=by
  intro d B;have T2:=AN I d;have L:=by have:=Ξ0 T6 v;simpa using this
  refine RO (WV G hd ?_ (by rw[L,TH];omega));have u:=Te (aai (SU i p (Sw kk k,.ref b)) {g with plain:=d}) G (by rw[Xg _ _ hd];rfl);rw[Xg _ _ hd]at u;have tf:({g with plain:=d}:SV).tooFull=decide (¬f.length*5<t.mask*3):=by
   unfold SetTable.tooFull Xk;have Z:=I.len;have h4:=I.EF;simp only[RV]at Z;simp only[Z,h4,H];simp
  have n:({o with data:=.set (SU i p (Sw kk k,.ref b)) (ep+1) {g with plain:=d}}:Tn).ExactSet:=hex;rw[tf];by_cases c:f.length*5<t.mask*3
  .rw[Ξ3 (by simpa using c)];exact RS (new h _ f {g with plain:=d} (S_ ..) ⟨⟨_,_,_,u,n,rfl,v⟩,T2,by rw[show({g with plain:=d}:SV).mask=t.mask from H];exact c,y,by rw[show({g with plain:=d}:SV).led=t.led from el];exact S.led⟩ D B)
  .rw[Ξ2 (by simpa using c),show i.size+1=f.length by omega];have J:=S.zg;refine RO (zh u n rfl v T2 y (by rw[show({g with plain:=d}:SV).led=t.led from el];exact S.led) (by rw[show({g with plain:=d}:SV).mask=t.mask from H];exact c) (by rw[show({g with plain:=d}:SV).mask=t.mask from H,z];exact J) '0' '0' λh' l t' sb S' M X=>?_);exact RS (new h _ l t' ((S_ ..).trans sb) S' (M.trans D) λq1 q2=>X.trans (B q1 q2))
 cases U:g.plain with
 |true=>
  simp only[if_true];refine RO (vi hb λd W=>?_);cases d with
  |true=>exact rest g.plain (λ_ _=>U)|false=>exact rest RT (λ_ q=>W q)
 |false=>
  simp only[Sg,if_false];refine RO (RS ?_);exact rest g.plain (λq _=>by rw[<-ed]at q;exact q)
end
end ST
end
section
namespace ST
open PySem PyProof.Rows
def sP(T:lP t hs)(F:bA t h N)(hN:N<10*TX t.mask):t.freeSlot h=RM ((bH t.mask (R6 h) N).j,RT):=by
 unfold SetTable.freeSlot;have e:t.probe (λ_=>h+1) h (t.probeStart h)=RM (.empty (bH t.mask (R6 h) N).j RP):=by
  rcases mL T F (λ_=>h+1) (10*TX t.mask) 0 (SH _) '0'with⟨a,i,_,_,_,b,_⟩|⟨_,g⟩;.omega
  .exact g
 rw[e];rfl
def zi(T:lP t hs)(Eu:¬hs.length*5<t.mask*3)(d:(hs.length-1)*5<t.mask*3)(pos:0<hs.length)(f:hs.length<=306):∃(a:SV)(O:List Nat),t.relaid hs.toArray (Vw hs.length)=RM (a,O.toArray)/\hs.length*5<a.mask*3/\hs.length<=a.mask/\a.led=t.led/\a.plain=t.plain/\O.Perm (SQ hs.length)/\∀b:List Int,b.length=O.length->(∀(k i:Nat)(h:Int),O[k]?=RM i->hs[i]?=RM h->b[k]?=RM h)->lP a b:=by
 obtain⟨mask,u,s,j,r,c⟩:∃mask,aah (Vw hs.length)=mask+1/\Mask mask/\hs.length<=mask/\mask+1<=512/\hs.length*5<mask*3:=by
  rcases T.mask with e|e|e|e<;>rw[e]at Eu d
  .have:hs.length=5:='0'
   rw[this];exact⟨31,by decide,.inr (.inl rfl),'0','0','0'⟩
  .have:hs.length=19:='0'
   rw[this];exact⟨127,by decide,.inr (.inr (.inl rfl)),'0','0','0'⟩
  .have:hs.length=77:='0'
   rw[this];exact⟨511,by decide,.inr (.inr (.inr rfl)),'0','0','0'⟩
  .omega
 obtain⟨a,O,q,g,p,o,n,v,m,l⟩:=w5 (finger:=t.finger) (moves:=t.movedTo mask) (led:=t.led) (plain:=t.plain) s j;refine⟨a,O,?_,by rw[g];exact c,by rw[g];exact j,p,o,w6 n List.nodup_range λi=>by rw[m i,List.mem_range],l⟩;unfold SetTable.relaid;rw[u];exact q
section
variable{prog:Sf}{w:Sx}{A:SF}{E:RR->RU->Prop}{s:RU}
noncomputable def ko(prog:Sf)(w:Sx)(x:Int×Y7):Int×RR:=((To prog w).hash x.1,.int x.1 x.2)
structure uW(prog:Sf)(w:Sx)(h:SJ)(a:RW)(xs:List (Int×Y7))(t:SV):Prop where
 ob:∃o es ep,h.get? a=RM o/\o.ExactSet/\o.data=.set es ep t/\es.toList=xs.map (ko prog w)tab:lP t (xs.map λx=>(To prog w).hash x.1)zg:xs.length*5<t.mask*3
 nd:(xs.map (·.1)).Nodup
 led:t.led=!w.params.followText "set-order"plain:t.plain=RQ
def w9(xs:List (Int×Y7)):ElemsOf (To prog w) (xs.map (ko prog w)):=λe a=>by
 obtain⟨x,_,rfl⟩:=Ω3.mp a;exact⟨⟨x.1,V6 _ _ _ _,rfl⟩,rfl⟩
def vj(m:c.toList=xs.map (ko prog w))(T:lP t (xs.map λx=>(To prog w).hash x.1))(Eu:¬xs.length*5<t.mask*3)(r:(xs.length-1)*5<t.mask*3)(pos:0<xs.length)(f:xs.length<=306):∃(p:Array (Int×RR))(t':SV)(e:List (Int×Y7)),relayAll t c (Vw c.size)=(p,t',RT)/\p.toList=e.map (ko prog w)/\e.Perm xs/\lP t' (e.map λx=>(To prog w).hash x.1)/\e.length*5<t'.mask*3/\t'.led=t.led/\t'.plain=t.plain:=by
 have u:=by have:=Ξ0 T6 m;simpa using this
 have a:(xs.map λx=>(To prog w).hash x.1).length=xs.length:=RV ..;obtain⟨y,O,B,z,N,M,L,n,K⟩:=zi T (by rw[a];exact Eu) (by rw[a];exact r) (by rw[a];exact pos) (by rw[a];exact f);rw[a]at B z N n;have R:c.map (·.1)=(xs.map λx=>(To prog w).hash x.1).toArray:=by
  apply Array.ext';rw[Vx,m,S7];rfl
 let g:Nat->Int×Y7:=λi=>(xs[i]?).getD (0,0);have H:∀i∈O,i<xs.length:=λi d=>List.mem_range.mp (n.mem_iff.mp d);have I:∀i(d),g i=xs[i]:=λi d=>by show(xs[i]?).getD _=_;rw[R_ d];rfl
 have o:∀i∈O,c[i]?=RM (ko prog w (g i)):=λi d=>by
  have b:=H i d;have:c.toList[i]?=RM (ko prog w xs[i]):=by rw[m,Sn,R_ b];rfl
  rw[I i b];simpa using this
 have S:∀l:List Nat,(∀i∈l,c[i]?=RM (ko prog w (g i)))->l.filterMap (λi=>c[i]?)=(l.map g).map (ko prog w):=by
  intro l;induction l with
  |nil=>intro _;rfl|cons i l P=>
   intro F;rw[TQ,F i RX,P λj Q=>F j (RZ _ Q)];rfl
 have q:(O.toArray.filterMap (λi=>c[i]?)).toList=(O.map g).map (ko prog w):=by
  rw[Y1];exact S O o
 have D:O.length=xs.length:=by rw[n.length_eq,WW]
 have v:(O.toArray.filterMap (λi=>c[i]?)).size=xs.length:=by
  rw[<-SN,q];simp[D]
 have J:lP y ((O.map g).map λx=>(To prog w).hash x.1):=by
  refine K _ '2' λk i h G d=>?_;rw[Sn,Sn,G];have b:=H i (SE G);rw[Sn,R_ b]at d;simp only[U7,UH]at d⊢;rw[I i b,d]
 have C:=by
  have:=n.map g;rwa[pJ]at this
 refine⟨_,y,O.map g,?_,q,C,J,by rw[C.length_eq];exact z,M,L⟩;unfold relayAll;rw[u,R,B];dsimp only;rw[Ξ2];rw[R4];refine⟨?_,fits_of J (by rw[v];simp[D])⟩;unfold coversAll;exact List.isPerm_iff.mpr n
def w_(S:uW prog w s.heap a xs t)(hn:xs.length<306)(X:i∈xs.map (·.1)->Q RT s)(new:i∉xs.map (·.1)->∀h' v t',TR a s.heap h'->uW prog w h' a v t'->v.Perm ((i,b)::xs)->Q RQ {s with heap:=h'}):wpAny (Sb prog w) A (aaC a (.int i b) ((To prog w).hash i)) Q E s:=by
 obtain⟨o,d,ep,L,hex,hd,g⟩:=id S.ob;have T:=S.tab;have Z:=by have:=Ξ0 T6 g;simpa using this
 have I:ElemsOf (To prog w) d.toList:=by rw[g];exact w9 xs
 have hf:t.fits d.size=RQ:=fits_of T (by rw[Z,RV]);have hb:d.size<scanBound:=by unfold scanBound;omega
 refine SS (RO (Um L hd hf ?_));dsimp only;rw[byScan_of rfl hb I];refine RO (RO (Xd (RO (wpAny_setScan_of (V6 _ _ _ _) L hd hf I ?_))));cases hr:List.findIdx? (λe=>(To prog w).is i e.2) d.toList with
 |some j=>
  obtain⟨hj,a0,_⟩:=List.findIdx?_eq_some_iff_getElem.mp hr;have hm:∃e∈xs.map (ko prog w),(To prog w).is i e.2=RQ:=⟨_,g▸List.getElem_mem hj,a0⟩;obtain⟨e,he,hp⟩:=hm;obtain⟨x,Y,rfl⟩:=Ω3.mp he;have:=(To prog w).inj _ _ _ hp (V6 _ _ _ _);exact RS (RS (X (by rw[this];exact Vt Y)))|none=>
  have f:i∉xs.map (·.1):=λz=>by
   obtain⟨x,Y,rfl⟩:=Ω3.mp z;have:=List.findIdx?_eq_none_iff.mp hr (ko prog w x) (by rw[g];exact Vt Y);rw[show(To prog w).is x.1 (ko prog w x).2=RQ from V6 _ _ _ _]at this;cases this
  dsimp only;obtain⟨N,hN,F⟩:=T.first ((To prog w).hash i);have n:(xs.map λx=>(To prog w).hash x.1).length+1<=t.mask:=by
   have:=S.zg;simp only[RV];rcases T.mask with e|e|e|e<;>rw[e]at this⊢<;>omega
  obtain⟨hp,u⟩:=T.put F n;have ed:(t.put (bH t.mask (R6 ((To prog w).hash i)) N).j).1.plain=t.plain:=rfl;have M:(t.put (bH t.mask (R6 ((To prog w).hash i)) N).j).1.mask=t.mask:=rfl;have el:(t.put (bH t.mask (R6 ((To prog w).hash i)) N).j).1.led=t.led:=rfl;have eL:layNew t d ((To prog w).hash i) (.int i b)=(SU d (t.put (bH t.mask (R6 ((To prog w).hash i)) N).j).2 ((To prog w).hash i,.int i b),(t.put (bH t.mask (R6 ((To prog w).hash i)) N).j).1.orStandIn (SU d (t.put (bH t.mask (R6 ((To prog w).hash i)) N).j).2 ((To prog w).hash i,.int i b)).size,RT,!(t.put (bH t.mask (R6 ((To prog w).hash i)) N).j).1.fits (SU d (t.put (bH t.mask (R6 ((To prog w).hash i)) N).j).2 ((To prog w).hash i,.int i b)).size):=by
   unfold layNew;rw[sP T F hN]
  generalize(t.put (bH t.mask (R6 ((To prog w).hash i)) N).j).2=p at*;generalize(t.put (bH t.mask (R6 ((To prog w).hash i)) N).j).1=m at*;simp only[RV]at hp;have eh:((xs.take p++(i,b)::xs.drop p).map λx=>(To prog w).hash x.1)=((xs.map λx=>(To prog w).hash x.1).take p++(To prog w).hash i::(xs.map λx=>(To prog w).hash x.1).drop p):=by rw[SA,Sr,Yr,Ys]
  rw[<-eh]at u;have K:=by
   have:=List.perm_middle (a:=(i,b)) (l₁:=xs.take p) (l₂:=xs.drop p);rwa[Ur]at this
  have r:(SU d p ((To prog w).hash i,.int i b)).toList=(xs.take p++(i,b)::xs.drop p).map (ko prog w):=by
   rw[dE d p _ '0',g,SA,Sr,Yr,Ys];rfl
  generalize a2:xs.take p++(i,b)::xs.drop p=xs1 at*;generalize SU d p ((To prog w).hash i,.int i b)=h at*;have C:xs1.length=xs.length+1:=by rw[K.length_eq];rfl
  have y:=by have:=Ξ0 T6 r;simpa using this
  have l:m.fits h.size=RQ:=fits_of u (by rw[y,RV]);have W:m.orStandIn h.size=m:=by unfold SetTable.orStandIn;rw[l];rfl
  rw[eL,W,l];have B:=(K.map (·.1)).nodup_iff.mpr (Φ3.mpr ⟨f,S.nd⟩);dsimp only;refine RO (RS ?_);rw[ed,S.plain];simp only[if_true];refine RO (RS ?_);simp only[if_true];refine RO (WV L hd ?_ (by rw[y,TH];omega));have k:=Te (aai h m) L (by rw[Xg _ _ hd];rfl);rw[Xg _ _ hd]at k;have H:=hex;have tf:m.tooFull=decide (¬xs1.length*5<t.mask*3):=by
   unfold SetTable.tooFull Xk;have h3:=u.len;have h4:=u.EF;simp only[RV]at h3;simp only[h3,h4,M];simp
  rw[tf];by_cases c:xs1.length*5<t.mask*3
  .rw[Ξ3 (by simpa using c)];exact RS (RS (new f _ xs1 m (S_ ..) ⟨⟨_,_,_,k,H,rfl,r⟩,u,by rw[M];exact c,B,by rw[el];exact S.led,by rw[ed];exact S.plain⟩ K))
  .rw[Ξ2 (by simpa using c)];have P:=S.zg;obtain⟨q,R,O,q1,q2,V,q4,q5,q6,q7⟩:=vj r u (by rw[M];exact c) (by rw[M,C];exact P) '0' '0';rw[q1];dsimp only;refine RO (RS ?_);have U:=by have:=Ξ0 T6 q2;rw[RV,V.length_eq]at this;simpa using this
   refine RO (WV k rfl ?_ (by rw[U,TH];omega));have D:=Te (aai q R) k (by rw[Xg _ _ rfl];rfl);rw[Xg _ _ rfl]at D;have G:=hex;exact RS (RS (new f _ O R ((S_ ..).trans (S_ ..)) ⟨⟨_,_,_,D,G,rfl,q2⟩,q4,q5,(V.map (·.1)).nodup_iff.mpr B,by rw[q6,el];exact S.led,by rw[q7,ed];exact S.plain⟩ (V.trans K)))
end
end ST
end
section
namespace SortM
open PySem PySem.W PyProof.Rows
structure Ord(N:Nat)(lt:Nat->Nat->Bool)(cmp:Nat->Nat->(Bool->RU->Prop)->RU->Prop)(s:RU):Prop where
 ask:∀(i j:Nat)(C:Bool->RU->Prop),i<N->j<N->C (lt i j) s->cmp i j C s
 AQ:∀a b,lt a b=RQ->lt b a=RT
 AR:∀a b c,lt a b=RT->lt b c=RT->lt a c=RT
noncomputable abbrev at'(p:Array Nat)(k:Nat):Nat:=p.getD k 0
def Ok(N:Nat)(p:Array Nat):Prop:=p.size=N/\p.toList.Perm (SQ N)
section
def Ok.iE(v:Ok N p)(a:k<N):at' p k<N:=by
 have h:k<p.size:=by rw[v.1];exact a
 have m:at' p k∈p.toList:=by
  unfold at';rw[Tc,R9 h];exact Array.getElem_mem_toList h
 exact List.mem_range.mp (v.2.mem_iff.mp m)
def Ok.rev(v:Ok N p)(i j):Ok N (Yj p i j):=⟨(mirror_size _ _ _ _).trans v.1,((mirror_perm p i j _).toList).trans v.2⟩
def Ok.Rl(v:Ok N p)(i j):Ok N (bubble p i j):=⟨(bubble_size _ _ _).trans v.1,((bubble_perm p i j).toList).trans v.2⟩
def fT(a:j<=p.size)(k):at' (Yj p i j) k=if i<=k/\k<j then at' p (i+j-1-k)else at' p k:=by
 unfold at' Yj;rw[Tc,getElem?_mirror_all a];split;.rw[Tc]
 .rw[Tc]
def AS(a:k<p.size)(hd:d<=k)(i):at' (bubble p k d) i=if i=k-d then at' p k else if k-d<i/\i<=k then at' p (i-1)else at' p i:=by
 show(bubble p k d).getD i 0=if i=k-d then p.getD k 0 else if k-d<i/\i<=k then p.getD (i-1) 0 else p.getD i 0;rw[Tc,Tc,Tc,Tc,getElem?_bubble a d hd];split;.rfl
 .split;.rfl
  .rfl
def Up(lt:Nat->Nat->Bool)(p:Array Nat)(k:Nat):Prop:=∀i j,i<=j->j<k->lt (at' p j) (at' p i)=RT
def Down(lt:Nat->Nat->Bool)(p:Array Nat)(k:Nat):Prop:=∀i j,i<=j->j<k->lt (at' p i) (at' p j)=RT
def Ord.refl(O:Ord N lt cmp s)(a):lt a a=RT:=by cases h:lt a a with
 |false=>rfl|true=>
  have:=O.AQ a a h;rw[h]at this;cases this
def Up.step(O:Ord N lt cmp s)(u:Up lt p k)(h:1<=k->lt (at' p k) (at' p (k-1))=RT):Up lt p (k+1):=by
 intro i j b d;by_cases a:j<k;.exact u i j b a
 .have e:j=k:='0'
  subst e;by_cases c:i=j;.subst c;exact O.refl _
  .exact O.AR _ _ _ (h '0') (u i (j-1) '0' '0')
def Down.step(O:Ord N lt cmp s)(u:Down lt p k)(h:1<=k->lt (at' p (k-1)) (at' p k)=RT):Down lt p (k+1):=by
 intro i j b d;by_cases a:j<k;.exact u i j b a
 .have e:j=k:='0'
  subst e;by_cases c:i=j;.subst c;exact O.refl _
  .exact O.AR _ _ _ (u i (j-1) '0' '0') (h '0')
theorem vk(O:Ord N lt cmp s)(v:Ok N p):∀(f n:Nat),1<=n->n+f<=N->Up lt p n->(∀m,n<=m->m<=n+f->Up lt p m->(m<n+f->lt (at' p m) (at' p (m-1))=RQ)->Q m s)->(kas_asc p f n).kasWp cmp Q s
 |0,n,_,_,u,q=>q n (R5 _) (R5 _) u λh=>Ξ1 h '0'|f+1,n,i,g,u,q=>by
  refine O.ask _ _ _ (v.iE '0') (v.iE '0') ?_;cases e:lt (at' p n) (at' p (n-1))with
  |true=>exact q n (R5 _) '0' u λ_=>e|false=>
   show(kas_asc p f (n+1)).kasWp cmp Q s;exact vk O v f (n+1) '0' '0' (u.step O λ_=>e) λm a b c d=>q m '0' '0' c λz=>d '0'
def EL(lt:Nat->Nat->Bool)(p:Array Nat)(n q:Nat):Prop:=q+1<=n/\∀i j,n-(q+1)<=i->i<n->n-(q+1)<=j->j<n->lt (at' p i) (at' p j)=RT
def Down.xa(c:n<=p.size)(O:Ord N lt cmp s)(u:Down lt p n)(t:EL lt p n q):Down lt (Yj p (n-(q+1)) n) n:=by
 obtain⟨f,t⟩:=t;intro i j b e;rw[fT c,fT c];by_cases d:n-(q+1)<=i/\i<n
 .rw[Ξ2 d,Ξ2 '0'];exact t _ _ '0' '0' '0' '0'
 .rw[Ξ3 d];by_cases a:n-(q+1)<=j/\j<n
  .rw[Ξ2 a];exact u _ _ '0' '0'
  .rw[Ξ3 a];exact u i j b e
def sQ(a:n<=p.size)(b:n<=k):at' (Yj p i n) k=at' p k:=by rw[fT a,Ξ3 '0']
def Down.revAll(a:n<=p.size)(u:Down lt p n):Up lt (Yj p 0 n) n:=by
 intro i j b c;rw[fT a,fT a,Ξ2 (by omega+splitNatSub),Ξ2 (by omega+splitNatSub)];exact u _ _ (by omega+splitNatSub) (by omega+splitNatSub)
theorem lQ(O:Ord N lt cmp s):∀(f:Nat)(p:Array Nat)(n q:Nat),Ok N p->1<=n->n+f<=N->Down lt p n->EL lt p n q->(∀g h l,Ok N g->1<=h->h<=n+f->Down lt g h->EL lt g h l->Q (g,h,l) s)->(kas_desc f p n q).kasWp cmp Q s
 |0,p,n,q,v,r,A,u,t,k=>k p n q v r (R5 _) u t|f+1,p,n,q,v,r,A,u,t,k=>by
  have m:n<=p.size:=by rw[v.1];omega
  have one:∀g,EL lt g (n+1) 0:=λg=>⟨'0',λi j a b c d=>by
   have E:i=n:='0'
   have D:j=n:='0'
   subst E;subst D;exact O.refl _⟩;refine O.ask _ _ _ (v.iE '0') (v.iE '0') ?_;cases e:lt (at' p n) (at' p (n-1))with
  |true=>
   have z:=O.AQ _ _ e;show(if q>0 then kas_desc f (Yj p (n-(q+1)) n) (n+1) 0 else kas_desc f p (n+1) 0).kasWp cmp Q s;by_cases x:q>0
   .rw[Ξ2 x];refine lQ O f _ (n+1) 0 (v.rev _ _) '0' '0' ((u.xa m O t).step O λ_=>?_) (one _) λg h l a b c d e=>k g h l a b '0' d e;rw[sQ m (R5 _),fT m,Ξ2 (by have:=t.1;omega)];exact O.AR _ _ _ (t.2 _ (n-1) '0' (by have:=t.1;omega) '0' '0') z
   .rw[Ξ3 x];exact lQ O f p (n+1) 0 v '0' '0' (u.step O λ_=>z) (one _) λg h l a b c d e=>k g h l a b '0' d e|false=>
   refine O.ask _ _ _ (v.iE '0') (v.iE '0') ?_;cases d:lt (at' p (n-1)) (at' p n)with
   |true=>exact k p n q v r '0' u t|false=>
    refine lQ O f p (n+1) (q+1) v '0' '0' (u.step O λ_=>d) ⟨by have:=t.1;omega,λi j a b c F=>?_⟩ λg h l a b c d e=>k g h l a b '0' d e;have B:=t.1;by_cases y:i<n
    .by_cases o:j<n;.exact t.2 i j '0' y '0' o
     .have w:j=n:='0'
      subst w;exact O.AR _ _ _ (t.2 i (j-1) '0' y '0' '0') d
    .have C:i=n:='0'
     subst C;by_cases o:j<i;.exact O.AR _ _ _ e (t.2 (i-1) j '0' '0' '0' o)
     .have w:j=i:='0'
      subst w;exact O.refl _
def sR(O:Ord N lt cmp s)(v:Ok N p)(g:1<=n)(f:n<=N)(u:Down lt p n)(k:∀m d,Ok N d->m<=N->Up lt d m->Q (m,d) s):(aaP n N p).kasWp cmp Q s:=by
 have e:n<=p.size:=by rw[v.1];exact f
 unfold aaP;rw[WA];exact vk O (v.rev 0 n) (N-n) n g '0' (u.revAll e) λm a b c _=>k m _ (v.rev 0 n) '0' c
def kX(O:Ord N lt cmp s)(v:Ok N p)(y:1<=n)(x:n+1<=N)(u:Down lt p (n+1))(k:∀m e,Ok N e->m<=N->Up lt e m->Q (m,e) s):(Y2 n N p).kasWp cmp Q s:=by
 unfold Y2;rw[WA];refine lQ O (N-(n+1)) p (n+1) 0 v '0' '0' u ⟨'0',λi j a b c d=>?_⟩ λe f h g a b o r=>?_
 .have w:i=n:='0'
  have t:j=n:='0'
  subst w;subst t;exact O.refl _
 .have l:f<=e.size:=by rw[g.1];omega
  show(if h>0 then aaP f N (Yj e (f-(h+1)) f)else aaP f N e).kasWp cmp Q s;by_cases q:h>0
  .rw[Ξ2 q];exact sR O (g.rev _ _) a '0' (o.xa l O r) k
  .rw[Ξ3 q];exact sR O g a '0' o k
def AU(O:Ord N lt cmp s)(v:Ok N p)(x:2<=N)(k:∀m g,Ok N g->m<=N->Up lt g m->Q (m,g) s):(kas_count N p).kasWp cmp Q s:=by
 unfold kas_count;rw[WA];refine vk O v (N-1) 1 (R5 _) '0' (λi j a b=>?_) λn a b u d=>?_
 .have o:i=0:='0'
  have l:j=0:='0'
  subst o;subst l;exact O.refl _
 .have f:n<=p.size:=by rw[v.1];omega
  by_cases hN:(n==N)=RQ
  .rw[Ξ2 hN];exact k n p v '0' u
  .rw[Ξ3 hN];have t:n<N:=by
    omega
   have d:=d '0';by_cases r:n>1
   .rw[Ξ2 r];refine O.ask _ _ _ (v.iE '0') (v.iE '0') ?_;cases e:lt (at' p 0) (at' p (n-1))with
    |true=>exact k n p v '0' u|false=>
     have all:∀i j,i<n->j<n->lt (at' p i) (at' p j)=RT:=λi j w q=>O.AR _ _ _ (u i (n-1) '0' '0'|>λ_=>O.AR _ _ _ (O.AR _ _ _ (u 0 i '0' w) e) (O.refl _)) (u j (n-1) '0' '0');refine kX O (v.rev 0 n) a '0' (Down.step O (λi j h q=>?_) λ_=>?_) k
     .rw[fT f,fT f,Ξ2 '0',Ξ2 '0'];exact all _ _ '0' '0'
     .rw[sQ f (R5 _),fT f,Ξ2 '0'];exact O.AR _ _ _ (all _ (n-1) '0' '0') (O.AQ _ _ d)
   .rw[Ξ3 r];have en:n=1:='0'
    subst en;refine kX O v (R5 _) '0' (Down.step O (λi j h q=>?_) λ_=>O.AQ _ _ d) k;have o:i=0:='0'
    have l:j=0:='0'
    subst o;subst l;exact O.refl _
theorem mO(O:Ord N lt cmp s)(v:Ok N p)(h:k<N)(u:Up lt p k):∀(f l r:Nat),l<=r->r<=k->r-l<=f->(∀i,i<l->lt (at' p k) (at' p i)=RT)->(∀i,r<=i->i<k->lt (at' p i) (at' p k)=RT)->(∀m,m<=k->(∀i,i<m->lt (at' p k) (at' p i)=RT)->(∀i,m<=i->i<k->lt (at' p i) (at' p k)=RT)->Q m s)->(kas_place p k f l r).kasWp cmp Q s
 |0,l,r,t,g,o,a,b,q=>by
  have e:l=r:=by omega+splitNatSub
  subst e;exact q l g a b|f+1,l,r,t,g,o,a,b,q=>by
  show(if l>=r then aa2 l else KasT.ask (p.getD k 0) (p.getD ((l+r)/2) 0) λc=>if c=RQ then kas_place p k f l ((l+r)/2)else kas_place p k f ((l+r)/2+1) r).kasWp cmp Q s;by_cases d:l>=r
  .rw[Ξ2 d];have e:l=r:=by omega+splitNatSub
   subst e;exact q l g a b
  .rw[Ξ3 d];refine O.ask _ _ _ (v.iE h) (v.iE (by omega+splitNatSub)) ?_;cases e:lt (at' p k) (at' p ((l+r)/2))with
   |true=>
    refine mO O v h u f l ((l+r)/2) (by omega+splitNatSub) (by omega+splitNatSub) (by omega+splitNatSub) a (λi j n=>?_) q;exact O.AR _ _ _ (u _ _ j n) (O.AQ _ _ e)|false=>
    refine mO O v h u f ((l+r)/2+1) r (by omega+splitNatSub) g (by omega+splitNatSub) (λi j=>?_) b q;exact O.AR _ _ _ e (u _ _ (by omega+splitNatSub) (by omega+splitNatSub))
theorem AV(O:Ord N lt cmp s)(q:∀l,Ok N l->Up lt l N->Q l s):∀(f:Nat)(p:Array Nat)(k:Nat),Ok N p->k+f=N->Up lt p k->(kas_bin f p k).kasWp cmp Q s
 |0,p,k,v,h,u=>q p v (by have e:k=N:=h;subst e;exact u)|f+1,p,k,v,h,u=>by
  have d:k<p.size:=by rw[v.1];omega
  unfold kas_bin;rw[WA];refine mO O v '0' u k 0 k (SH _) (R5 _) '0' (λi h=>Ξ1 h '0') (λi r x=>Ξ1 r '0') λm t a b=>?_;refine AV O q f _ (k+1) (v.Rl _ _) '0' λi j n w=>?_;have e:k-(k-m)=m:='0'
  rw[AS d '0',AS d '0',e];by_cases o:i=m
  .rw[Ξ2 o];by_cases c:j=m;.rw[Ξ2 c];exact O.refl _
   .rw[Ξ3 c,Ξ2 '0'];exact b _ '0' '0'
  .rw[Ξ3 o];by_cases c:j=m
   .rw[Ξ2 c,Ξ3 '0'];exact a _ '0'
   .rw[Ξ3 c];by_cases sx:m<i/\i<=k
    .rw[Ξ2 sx,Ξ2 '0'];exact u _ _ '0' '0'
    .rw[Ξ3 sx];by_cases g:m<j/\j<=k
     .rw[Ξ2 g];exact u _ _ '0' '0'
     .rw[Ξ3 g];exact u _ _ n '0'
def EM(O:Ord N lt cmp s)(c:2<=N)(q:∀p,Ok N p->Up lt p N->Q p s):(kas_sort N).kasWp cmp Q s:=by
 unfold kas_sort;rw[WA];refine AU O ⟨by simp,by simp⟩ c λm p v g u=>?_;show(if m<N then kas_bin (N-max m 1) p (max m 1)else aa2 p).kasWp cmp Q s;by_cases h:m<N
 .rw[Ξ2 h];refine AV O q _ p _ v '0' λi j a k=>?_;by_cases b:1<=m;.exact u i j a '0'
  .have f:i=0:='0'
   have d:j=0:='0'
   subst f;subst d;exact O.refl _
 .rw[Ξ3 h];have e:m=N:='0'
  subst e;exact q p v u
end
end SortM
end
section
namespace SortM
open PySem PySem.W PyProof.Rows
def Kept(a:RW)(h h':SJ):Prop:=∀b o,b≠a->h.get? b=RM o->h'.get? b=RM o
def AW(n):Ok n (Tz (SQ n)):=⟨by simp,by simp⟩
def pK(vs):((Tz (SQ vs.length)).toList.map λi=>vs.getD i SG)=vs:=by
 apply YA;.simp
 .intro i a b;simp at a;simp[a]
section
def qM(F:s.heap.get? a=RM (Uu "list" vs.toArray n))(K:vs.length<64)(I:∀i,lt i i=RT)(V:2<=vs.length->∀h',Kept a s.heap h'->(∀R:UA->RU->Prop,R H {s with heap:=h'}->wpAny (Sb prog w) A (keyKind' vs.toArray) R (λ_ _=>False) {s with heap:=h'})/\Ord vs.length lt (kas_ask prog w A H vs) {s with heap:=h'})(h:∀(p)(h')(c),Ok vs.length p->Up lt p vs.length->Kept a s.heap h'->h'.get? a=RM (Uu "list" (Tz (p.toList.map λi=>vs.getD i SG)) c)->P (.done (.ret .none)) {s with heap:=h'}):wpAny (Sb prog w) A (Builtin.«list.sort» ⟨[.ref a],[]⟩) P E s:=by
 have S:=S_ s.heap a (TV λ_=>(#[]:Array RR));obtain⟨D,z⟩:∃D,(s.heap.update a (TV λ_=>(#[]:Array RR))).get? a=RM (Uu "list" #[] D):=⟨_,VQ F λ_=>#[]⟩;rw[list_sort_plain];refine RO (listItems_at F rfl ?_);refine RO (Wu F rfl ?_ (by rw[Se,TH];omega) (SH _));refine RO (Xp z rfl ?_);refine RO (wpAny_newTuple ?_ (by show vs.length<=_;rw[TH];omega));refine RO (Yt ?_ (SH _));refine SS ?_;show wpAny (Sb prog w) A _ P E {s with heap:=((s.heap.update a (TV λ_=>(#[]:Array RR))).push (Uu "tuple" vs.toArray 0)).push (Uu "list" #[] 0)};generalize B:((s.heap.update a (TV λ_=>(#[]:Array RR))).push (Uu "tuple" vs.toArray 0)).push (Uu "list" #[] 0)=h6;have M:Kept a s.heap h6:=λb o hb e=>by
  rw[<-B];exact RY _ (RY _ ((S.2 b hb).trans e))
 have d:h6.get? a=RM (Uu "list" #[] D):=by
  rw[<-B];exact RY _ (RY _ z)
 dsimp only;have C:∀(p),Ok vs.length p->Up lt p vs.length->∀g,(h6.update a (TV λ_=>Tz (p.toList.map λi=>vs.getD i SG))).get? a=RM (Uu "list" (Tz (p.toList.map λi=>vs.getD i SG)) g)->P (.done (.ret .none)) {s with heap:=h6.update a (TV λ_=>Tz (p.toList.map λi=>vs.getD i SG))}:=λp v u g L=>h p _ g v u (λb o hb e=>((S_ h6 a _).2 b hb).trans (M b o hb e)) L;by_cases r:vs.toArray.size<2
 .rw[Ξ2 r,Ξ2 r];refine RO (RS ?_);rw[StateT.run_pure];refine RO (RS ?_);dsimp only;have f:(UZ (Y3 general' (vs.toArray.zip vs.toArray) #[] 7 RP)).map (·.2)=Tz ((Tz (SQ vs.length)).toList.map λi=>vs.getD i SG):=by
   rw[pK];apply Array.toList_inj.mp;rw[Vx,Array.toList_zip];exact List.map_snd_zip (R5 _)
  rw[f];obtain⟨g,m⟩:∃g,(h6.update a (TV λ_=>Tz ((Tz (SQ vs.length)).toList.map λi=>vs.getD i SG))).get? a=RM (Uu "list" (Tz ((Tz (SQ vs.length)).toList.map λi=>vs.getD i SG)) g):=⟨_,VQ d λ_=>_⟩;refine RO (Xp d rfl ?_);refine RO (Wu d rfl ?_ (SH _) (by rw[pK,Se,TH];omega));simp only[bne_self_eq_false,Sg,if_false];refine RS (C _ (AW _) (λi j W hj=>?_) g m);have y:=by simpa using r
  have D:i=0:='0'
  have L:j=0:='0'
  subst D;subst L;exact I _
 .rw[Ξ3 r,Ξ3 r];have q:2<=vs.length:=by
   have:=by simpa using r
   omega
  obtain⟨T,O⟩:=V q h6 M;refine RO (TM (T (λt l=>t=H/\l={s with heap:=h6}) ⟨rfl,rfl⟩) (λt s0 Y=>?_) λ_ _ x=>x.elim);obtain⟨rfl,rfl⟩:=Y;refine RO (TM (kat_run (Q:=λk l=>∃p:Array Nat,l={s with heap:=h6}/\UZ k=p.map (kas_item (vs.toArray.zip vs.toArray))/\YB k=RP/\Ok vs.length p/\Up lt p vs.length) (G:=λp l=>l={s with heap:=h6}/\Ok vs.length p/\Up lt p vs.length) rfl q K (λU k l a1 a2 Z N=>⟨U,N.1,a2,Z,N.2⟩) (EM O q λp v u=>⟨rfl,v,u⟩)) ?_ λ_ _ e=>e);rintro⟨⟨⟩,k⟩l⟨p,rfl,J,X,v,u⟩;dsimp only;have f:=kat_snds rfl J;rw[f];have y:(Tz (p.toList.map λi=>vs.getD i SG)).size=vs.length:=by rw[Se,RV,SN,v.1]
  obtain⟨g,m⟩:∃g,(h6.update a (TV λ_=>Tz (p.toList.map λi=>vs.getD i SG))).get? a=RM (Uu "list" (Tz (p.toList.map λi=>vs.getD i SG)) g):=⟨_,VQ d λ_=>_⟩;refine RO (Xp d rfl ?_);refine RO (Wu d rfl ?_ (SH _) (SO (YX y) (by rw[TH];omega)));rw[X];simp only[bne_self_eq_false,Sg,if_false];exact RS (C p v u g m)
end
end SortM
end
section
namespace SortM
open PySem PySem.W PyProof.Rows L2
noncomputable abbrev eG(h h':SJ):Prop:=∀b o,h.get? b=RM o->h'.get? b=RM o
section
variable{prog:Sf}{w:Sx}{A:SF}{E:RR->RU->Prop}{s:RU}
structure AX(prog:Sf)(w:Sx)(A:SF)(vals:List RR)(κ:UA)(lt:Nat->Nat->Bool)(s:RU):Prop where
 rf:∀i,lt i i=RT
 kind:2<=vals.length->∀h',eG s.heap h'->∀Q':UA->RU->Prop,Q' κ {s with heap:=h'}->wpAny (Sb prog w) A (keyKind' vals.toArray) Q' (λ_ _=>False) {s with heap:=h'}ord:2<=vals.length->∀h',eG s.heap h'->Ord vals.length lt (kas_ask prog w A κ vals) {s with heap:=h'}
def zj(h:wpAny (Sb prog w) A.in1 (aaD v) (λvals s1=>vals.length<64/\∃d lt,AX prog w A.in1.in1 vals d lt s1/\∀(p)(h')(c),Ok vals.length p->Up lt p vals.length->eG s1.heap h'->h'.get? s1⁻¹=RM (Uu "list" (Tz (p.toList.map λi=>vals.getD i SG)) c)->Q (.ref s1⁻¹) {s1 with heap:=h'}) E s):wpAny (Sb prog w) A (call (.builtin "sorted") [v]) Q E s:=by
 refine Ya kind_sorted plain_sorted entry_sorted (args_sorted1 _) ?_;refine RO (RS ?_);refine RO (TM h (λvals s1⟨g,d,lt,K,q⟩=>?_) λ_ _ e=>e);refine RO (Yt ?_ (by rw[TH];omega+splitNatSub));have a:(s1.heap.push (Uu "list" vals.toArray 0)).get? s1⁻¹=RM (Uu "list" vals.toArray 0):=Sl _ rfl;have keep:∀h',Kept s1⁻¹ (s1.heap.push (Uu "list" vals.toArray 0)) h'->eG s1.heap h':=λh' k b o e=>k b o (SD (Sa e)) (RY _ e);refine RO (SS (Tq slot_list_sort ⟨_,a,rfl⟩ entry_list_sort ?body (args_list_sort _)));case body=>
  refine qM (s:={s1 with heap:=s1.heap.push (Uu "list" vals.toArray 0)}) a g K.rf (λf h' k=>⟨K.kind f h' (keep h' k),K.ord f h' (keep h' k)⟩) λp h' c v u k e=>⟨_,rfl,?_⟩;exact RS ⟨_,rfl,q p h' c v u (keep h' k) e⟩
theorem xb:∀(xs c:List RR)(ns ms:List Int)(i:Nat),UQ xs ns->UQ c ms->(ns.length<ms.length↔a=RQ)->Q (HT.lexLt ns ms) s->KatLex prog w A RQ a Q (xs.zip c) i s
 |[],[],[],[],i,_,_,b,q=>by
  have:a=RT:=by cases a with|false=>rfl|true=>exact Ξ1 (b.mpr rfl) '2'
  subst this;exact q|[],y::c,[],m::ms,i,_,_,b,q=>by
  have:a=RQ:=b.mp '2';subst this;exact q|x::xs,[],n::ns,[],i,_,_,b,q=>by
  have:a=RT:=by cases a with|false=>rfl|true=>exact Ξ1 (b.mpr rfl) '2'
  subst this;exact q|x::xs,y::c,n::ns,m::ms,i,j,g,b,q=>by cases j with|cons _ l f=>cases g with|cons _ k d=>
    rw[HT.mC]at q;refine kat_cons (wpAny_eqBool_int ?_);by_cases e:n=m
    .rw[Ξ2 e]at q;rw[show(n==m)=RQ by simp[e]];exact kat_yes (xb xs c ns ms (i+1) f d (by simpa using b) q)
    .rw[Ξ3 e]at q;rw[show(n==m)=RT by simp[e]];refine kat_no ?_;cases i with
     |zero=>exact oneLt_int q|succ i=>exact kat_one _ _ (lt_int q)
 |[],_,n::_,_,_,h,_,_,_=>by cases h|_::_,_,[],_,_,h,_,_,_=>by cases h|_,[],_,m::_,_,_,h,_,_=>by cases h|_,_::_,_,[],_,_,h,_,_=>by cases h
theorem kq(n:Int)(t:Y7):Looks M h (Zx (.int n t)) (.type "int"):=λA Q E s _ q=>RS q
theorem mP:∀{l₁:List b}{l₂:List a},Paired F l₁ l₂->∀i,i<l₁.length->F (l₁.getD i d) (l₂.getD i c)
 |_,_,.nil,i,h=>Ξ1 h '2'|_,_,.cons r _,0,_=>r|_,_,.cons _ t,i+1,h=>mP t i (by simpa using h)
def vm(t:UQ vals ns):AX prog w A vals oneType' (λi j=>decide (ns.getD i 0<ns.getD j 0)) s where
 rf:=λi=>Φ1 (Int.lt_irrefl _);kind:=λm o g G q=>by
  refine kas_kind m (T:=.type "int") (λv l=>?_) '1' '1' q;have:∀{d}{ns},UQ d ns->v∈d->Looks (Sb prog w) o (Zx v) (.type "int"):=λ{d ns}t l=>by induction t with
   |nil=>cases l|cons i f _ n=>
    rcases Ω2.mp l with z|z;.rw[z];exact kq i f
    .exact n z
  exact this t l
 ord:=λm o g=>⟨λi j C r p q=>by
   have:∀{d}{ns},UQ d ns->∀i,i<d.length->∃f,d.getD i SG=.int (ns.getD i 0) f:=λ{d ns}t=>by induction t with
    |nil=>intro i h;exact Ξ1 h '2'|cons k f _ n=>
     intro i h;cases i with
     |zero=>exact⟨f,rfl⟩|succ i=>
      obtain⟨u,e⟩:=n i (by simpa using h);exact⟨u,e⟩
   obtain⟨F,B⟩:=this t i r;obtain⟨D,y⟩:=this t j p;unfold kas_ask;rw[B,y,keyLt'_oneType];exact oneLt_int q,λa b h=>by exact Φ1 '0',λa b c x m=>by
   exact Φ1 '0'⟩
end
end SortM
end
section
namespace L2
open PySem PySem.W PyProof.Rows SortM
def zk{a:Type}(v:Ok n p)(xs)(d:a)(h:xs.length=n):(p.toList.map λi=>xs.getD i d).Perm xs:=by
 have e:(SQ n).map (λi=>xs.getD i d)=xs:=by
  subst h;apply YA;.simp
  .intro i b c;simp at b;simp[b]
 exact(v.2.map λi=>xs.getD i d).trans (by rw[e])
def sS{b:Type}(v:Ok n p)(u:Up lt p n){f}{R:b->b->Prop}(k:∀i j,lt j i=RT->R (f i) (f j)):(p.toList.map f).Pairwise R:=by
 rw[List.pairwise_iff_getElem];intro i j g e c;have d:=by simpa using g
 have a:=by simpa using e
 rw[List.getElem_map,List.getElem_map];refine k _ _ ?_;have h:=u i j (V_ c) (by rw[<-v.1];exact a);unfold at' at h;rw[Tc,Tc,R9 d,R9 a]at h;simpa using h
theorem kY{F:b->a->Prop}{e:b}{d:a}{l₁:List b}{l₂:List a}(r:Paired F l₁ l₂):∀(is:List Nat),(∀i∈is,i<l₁.length)->Paired F (is.map λi=>l₁.getD i e) (is.map λi=>l₂.getD i d)
 |[],_=>.nil|i::is,h=>.cons (mP r i (h i RX)) (kY r is λj c=>h j (RZ _ c))
section
variable{X:Cx}
def Inv.newList{σ:St}(I:Inv X pins σ H s)(g:eG s.heap h')(d:s⁻¹<=D)(r:ax a us)(b:a.length<=R1)(e:h'.get? D=RM (Uu "list" us.toArray c)):Inv X pins σ (upd H D (.lst a)) {s with heap:=h',toks:=t}:=I.laid g d ⟨b,us,c,r,e⟩
end
end L2
end
section
namespace DictIt
open PySem PySem.W PyProof.Rows
section
def xf(a:(d==UC)=RT)(b:s.heap.get? d=RM o)(g:o.cls=.type "dict")(hd:o.data=.dict e f)(h:Q (.ref s⁻¹) {s with heap:=s.heap.push {cls:=.type "dict_keyiterator",data:=.fields #[.ref d,.int 0 0,.int e.size 0,.int f 0]}}):wpAny (Sb prog w) A (Z8 (.ref d)) Q E s:=by
 have c:s.TypeIs (.ref d) "dict":=⟨o,b,g⟩;refine WX c F.slot_dict_iter (Tq F.slot_dict_iter c F.entry_dict_iter ?_ (F.args_dict_iter_1 _));refine RO ?_;refine RO (Zj c ?_);show wpAny _ _ (pure (Sm d)) _ _ s;refine RS ?_;show wpAny _ _ (Zk d>>=_) _ _ s;unfold Zk;rw[Ξ3 (by rw[a];exact Tw)];refine RO (RS ?_);refine RO (Yk b hd ?_);refine RO (Zc b hd ?_);refine RO (T_ (RS ⟨_,rfl,"dict_keyiterator",_,⟨_,Sl _ rfl,rfl⟩,F.slot_dict_keyiterator_next.lookup,?_⟩));simpa[VZ]using h
def xg(a:s.heap.IsKeyIter it d i c.size h)(f:s.heap.get? d=RM l)(g:l.data=.dict c h)(k)(n:∀h',h'.IsKeyIter it d (i+1) c.size h->TR it s.heap h'->Q (RM c[i].key) {s with heap:=h'}):wpAny (Sb prog w) A (WL (.ref it)) Q E s:=by
 obtain⟨o,j,m,hd⟩:=id a;refine RO (Xl (Vy a.typeIs U8 (Tq U8 a.typeIs Xq ?_ (Xh _))));refine RO (RS ?_);refine RO ?_;refine RO ?_;first|refine RO (U0 a.typeIs (RS ?_))|refine RO (Vs a.typeIs (RS ?_))
 refine RO (X5 j hd ?_);have e:XA "dict_keyiterator"=RT:=by decide
 show wpAny _ _ (if(Sm d==SG)=RQ then _ else _) _ _ s;rw[Ξ3 (show¬((Sm d==SG)=RQ)from Tw)];refine RO (RS ?_);refine RO (Yk f g ?_);rw[Ξ3 '2'];refine RO (RS ?_);refine RO (Zc f g ?_);rw[Ξ3 '2'];refine RS ?_;simp only[WQ,R9 k];refine RO ?_;first|refine RO (U0 a.typeIs (RS ?_))|refine RO (Vs a.typeIs (RS ?_))
 refine RO (Zl a.typeIs ?_);show wpAny _ _ (ZL (.ref it) 1 (VZ ((i)+1))>>=_) _ _ s;refine RO (Vg j hd '2' ?_);have b:(s.heap.update it (UB (·.setIfInBounds 1 (VZ ((i)+1))))).IsKeyIter it d (i+1) c.size h:=⟨_,Te _ j (Us (Tx hd _)),(WY ..).trans m,by rw[Tx hd];simp[VZ]⟩;refine RO (SS ?_);refine RO (Zl b.typeIs ?_);exact RS (RS ⟨_,rfl,RS (n _ b (S_ ..))⟩)
def AY(p:A.handled=RP)(c:s.heap.IsKeyIter it d i j.size n)(f:s.heap.get? d=RM k)(g:k.data=.dict j n)(h:j.size<=i)(q:∀h',Heap.ExtBut it s.heap h'->Q RP {s with heap:=h'}):wpAny (Sb prog w) A (WL (.ref it)) Q E s:=by
 obtain⟨o,l,r,hd⟩:=id c;refine RO (Xl (Vy c.typeIs U8 (Tq U8 c.typeIs Xq ?_ (Xh _))));refine RO (RS ?_);refine RO ?_;refine RO ?_;first|refine RO (U0 c.typeIs (RS ?_))|refine RO (Vs c.typeIs (RS ?_))
 refine RO (X5 l hd ?_);have e:XA "dict_keyiterator"=RT:=by decide
 show wpAny _ _ (if(Sm d==SG)=RQ then _ else _) _ _ s;rw[Ξ3 (show¬((Sm d==SG)=RQ)from Tw)];refine RO (RS ?_);refine RO (Yk f g ?_);rw[Ξ3 '2'];refine RO (RS ?_);refine RO (Zc f g ?_);rw[Ξ3 '2'];refine RS ?_;simp only[WQ,Ui h];refine RO ?_;first|refine RO (U0 c.typeIs (RS ?_))|refine RO (Vs c.typeIs (RS ?_))
 show wpAny _ _ (ZL (.ref it) 0 .none>>=_) _ _ s;refine RO (Vg l hd '2' ?_);refine RO ?_;refine RO (T_ ?_ (by size_fits));refine RO (Xr (a:=SG) (by first|rfl|(rfl)) ?_);refine T_ ?_ (by size_fits);refine RO (wpAny_handled ?_);rw[show A.in1.handled=RP from p];refine RO (RS (wpAny_throw ?_));refine RO (Vv ⟨_,Sl _ rfl,rfl⟩ isSubtype_stop ?_);exact RS (q _ (((S_ ..).extBut.push _).push _))
theorem AZ(q:A.handled=RP)(I d)(j:d≠I)(o)(g)(p)(hd:o.data=.dict g p):Walks prog w A I [I,d] [I] g.size (λi v=>∃e,g[i]?=RM e/\v=e.key) (λi h=>h.IsKeyIter I d i g.size p/\h.get? d=RM o)where
 sub:=λb hb=>by simp at hb;simp[hb]
 frame:=λ_ _ _ st m=>⟨st.1.at λo e=>m I '2' o e,m d '2' o st.2⟩;item:=λi s Q E n st f=>xg st.1 st.2 hd n λl c a=>f _ l s.toks ⟨g[i],by simp[],rfl⟩ ⟨c,(a.2 d j).trans st.2⟩ λb o hb e=>a.extBut b o (λh=>hb (by simp[h])) e;done:=λs Q E st f=>AY q st.1 st.2 hd (R5 _) λl k=>f l s.toks λb o hb e=>k b o (λh=>hb (by simp[h])) e;self:=λ_ _ _ _ st f=>ZM st.1 f
theorem IH(b:(d==UC)=RT)(g:o.cls=.type "dict")(hd:o.data=.dict c j):KdlSrc prog w "dict" d d c.size (λi v=>∃e,c[i]?=RM e/\v=e.key) (λh=>h.get? d=RM o)where
 type:=λ_ a=>⟨o,a,g⟩;there:=λ_ a=>⟨Sa a,Sa a⟩;keep:=λ_ _ a k=>k d (.inl rfl) o a;notList:=by decide
 notTuple:=by decide
 hint:=λ_ _ s _ a f=>kdl_hint_dict ⟨o,a,g⟩ f;iter:=λ_ _ l a=>⟨_,_,(λ_ _ f=>xf b a g hd f),AZ l _ d (SD (Sa a)) o c j hd,⟨⟨_,Sl _ rfl,rfl,rfl⟩,RY _ a⟩⟩
def vn(q:A.handled=RP)(j:(d==UC)=RT)(n:s.heap.get? d=RM o)(r:o.cls=.type "dict")(hd:o.data=.dict k v)(p:k.size<=R1)(h:∀(h')(l),(∀b o,s.heap.get? b=RM o->h'.get? b=RM o)->R (k.toList.map (·.key)) {s with heap:=h',toks:=l}):wpAny (Sb prog w) A (aaD (.ref d)) R E s:=by
 refine kdu_collect (IH j r hd) q n p λh' l f g a=>?_;have e:f.toList=k.toList.map (·.key):=by
  apply aaE;intro i;rw[Sn];by_cases m:i<k.size
  .have c:i<f.size:=by rw[a.1];exact m
   obtain⟨e,u,t⟩:=a.2 i f[i] (by simp[]);simp only[T7,u,R9 c,t,U7]
  .have c:f.size<=i:=by rw[a.1];omega
   simp only[T7,Ui c,Ui (Nat.not_lt.mp m),Option.map_none]
 rw[e];exact h h' l g
end
end DictIt
end
section
namespace ST
open PySem PySem.W PyProof.Rows
def A0:Manifest.owners.lookup (String.ofList ['r','o','t','a','r','e','t','i','_','t','e','s'].reverse)=RM Manifest.sig_set_iterator:=by kernel_rfl
def b5:Slot "set_iterator" "__next__" "set_iterator.__next__":=.of (owner:="set_iterator") (n:="__next__") (by rw[Zd,W_];kernel_rfl) (by decide+kernel) (by decide+kernel) (by decide+kernel) (by first|exact .inl (by decide+kernel)|exact .inr (by decide+kernel)) (by rw[ZN];kernel_rfl)
def jC:Slot "set_iterator" "__iter__" "set_iterator.__iter__":=.of (owner:="set_iterator") (n:="__iter__") (by rw[Zd,W_];kernel_rfl) (by decide+kernel) (by decide+kernel) (by decide+kernel) (by first|exact .inl (by decide+kernel)|exact .inr (by decide+kernel)) (by rw[ZN];kernel_rfl)
def iF:entryFor table "set_iterator.__next__"=RM Builtin.«set_iterator.__next__»:=entryFor_of_tree (by kernel_rfl)
def oV:entryFor table "set_iterator.__iter__"=RM Builtin.«dict_keyiterator.__iter__»:=entryFor_alias (id':="dict_keyiterator.__iter__") (by kernel_rfl) rfl (by decide+kernel) (by kernel_rfl)
def qN:entryFor table "set.__iter__"=RM Builtin.«frozenset.__iter__»:=entryFor_alias (id':="frozenset.__iter__") (by kernel_rfl) rfl (by decide+kernel) (by kernel_rfl)
def jD(a):argsOk "set_iterator.__next__" ⟨[a],[]⟩:=by unfold argsOk;rw[signature?_of (n:=['_','_','t','x','e','n','_','_']) (by kernel_rfl) A0];kernel_rfl
def qO(a):argsOk "set_iterator.__iter__" ⟨[a],[]⟩:=by unfold argsOk;rw[signature?_of (n:=['_','_','r','e','t','i','_','_']) (by kernel_rfl) A0];kernel_rfl
theorem mQ{a:Type}:∀{l:List a}{i:Nat}{x:a},l[i]?=RM x->(x::l.eraseIdx i).Perm l
 |[],i,x,h=>by simp at h|y::l,0,x,h=>by simp at h;subst h;exact .refl _|y::l,i+1,x,h=>by
  rw[Yy];exact(List.Perm.swap _ _ _).trans ((mQ (by simpa using h)).cons y)
theorem xh(YO:Nat->Nat):∀(fuel k:Nat)(left:List a)(out:Array a),left.length<=fuel->(aaF YO fuel k left out).toList.Perm (out.toList++left)
 |0,k,left,out,h=>by
  have:left=[]:=List.length_eq_zero_iff.mp '0';subst this;unfold aaF;simp|fuel+1,k,left,out,h=>by
  unfold aaF;cases e:left[YO k%left.length]? with
  |none=>
   have:left=[]:=by cases left with
    |nil=>rfl|cons y l=>
     have:YO k%(y::l).length<(y::l).length:=YZ _ '2';rw[R_ this]at e;cases e
   subst this;simp|some x=>
   have b:=(Ω0.mp e).1;have:=xh YO fuel (k+1) (left.eraseIdx (YO k%left.length)) (out.push x) (by rw[List.length_eraseIdx_of_lt b];omega);refine this.trans ?_;rw[Uo,Ta];exact(mQ e).append_left _
def zl(YO)(xs:Array a):(ZV YO xs).toList.Perm xs.toList:=by
 have:=xh YO xs.size 0 xs.toList #[] '2';simpa[ZV]using this
structure Wk(w:Sx)(o:Tn)(es:Array (Int×RR))(ep:Nat)(t:SV):Prop where
 ex:o.ExactSet
 dat:o.data=.set es ep t
 G8:t.fits es.size=RQ
 rise:bw t.place.toList
 plain:t.plain=RQ
 led:t.led=!w.params.followText "set-order"
noncomputable def gp(w:Sx)(a:RW)(b:Array (Int×RR))(c:Nat):Array (Int×RR):=if w.params.followText "set-order"then ZV (w.params.setOrder a c) b else b
def sT(w)(a)(b)(c):(gp w a b c).toList.Perm b.toList:=by
 unfold gp;split;.exact zl _ _
 .exact .refl _
def seq_size(w)(a)(b)(c):(gp w a b c).size=b.size:=by
 have:=(sT w a b c).length_eq;simpa using this
def jE(h:SJ)(it a:RW)(b i n c:Nat):Prop:=∃o,h.get? it=RM o/\o.cls=.type "set_iterator"/\o.data=.fields #[.int b 0,.int i 0,.ref a,.int n 0,.int c 0]
def jE.typeIs{s:RU}(h:jE s.heap it a b i n e):s.TypeIs (.ref it) "set_iterator":=let⟨o,c,d,_⟩:=h;⟨o,c,d⟩
section
variable{a it:RW}{t:SV}
def A2(W:Wk w o es ep t)(b:s.heap.get? a=RM o)(d:Q (.ref s⁻¹) {s with heap:=s.heap.push {cls:=.type "set_iterator",data:=.fields #[.int 0 0,.int 0 0,.ref a,.int es.size 0,.int ep 0]}}):wpAny (Sb prog w) A (Z8 (.ref a)) Q E s:=by
 have c:s.TypeIs (.ref a) "set":=⟨o,b,W.ex.1⟩;refine WX c Zm (Tq Zm c qN ?_ (PySem.F.args_set_iter_1 _));unfold Builtin.«frozenset.__iter__»Builtin.Frozenset.slot0 slotArgs;simp only[Vz,Tv,Sg,↓reduceIte,bind_assoc,bne_self_eq_false];refine RO (RS ?_);try dsimp only
 refine RO (RS ?_);refine RO (RO (XG b W.dat W.G8 (RS ?_)));refine RO (RO (Um b W.dat W.G8 ?_));refine RO (RO (UT (RS (RS ?_))));refine bU (Ξ3 ?_) ?_
 .show¬((!w.params.followText "set-order"&&(!t.plain&&decide (es.size>1)))=RQ);rw[W.plain];simp
 refine RO (RS (RO (wpAny_setEpoch_of b W.dat W.G8 ?_)));refine RO (T_ (RS ⟨_,rfl,"set_iterator",_,⟨_,Sl _ rfl,rfl⟩,b5.lookup,?_⟩));simpa[VZ]using d
def mR(w:Sx)(t:SV)(b i:Nat):Prop:=w.params.followText "set-order"=RQ\/Sh t.place b=i
def vo(w)(h:bw t.place.toList):mR w t 0 0:=by
 refine .inr ?_;obtain⟨e,b,d⟩:=gB h 0;by_cases c:Sh t.place 0=0;.exact c
 .have:0<t.place.size:='0'
  exact Ξ1 (b 0 t.place[0] '0' (R9 this)) (UN _)
def vp{w:Sx}(h:bw t.place.toList)(e:t.place[i]?=RM j):Sh t.place (j+1)=i+1:=by
 obtain⟨g,d,b⟩:=gB h (j+1);rcases U5 (Sh t.place (j+1)) (i+1)with c|c|c
 .have:=b i j '0' e;omega
 .exact c
 .have sx:i+1<t.place.size:='0'
  have a1:=d (i+1) t.place[i+1] c (R9 sx);have k:=bw.get h (y:=t.place[i+1]) (by simpa using e) (by simp[sx]) (Vd _);omega
def sU(W:Wk w o es ep t)(k:mR w t j i)(m:s.heap.get? a=RM o)(xi:∀(d)f,mR w t f (i+1)->Q (RM (((gp w a es ep)[i]'(by rw[seq_size];exact d)).2,f)) s)(c:es.size<=i->Q RP s):wpAny (Sb prog w) A (setNext a j i ep) Q E s:=by
 refine RO (Um m W.dat W.G8 ?_);refine RO (RO (UT (RS ?_)));have g:=seq_size w a es ep;cases b:w.params.followText "set-order"with
 |true=>
  refine bU (Ξ2 b) ?_;refine bU (Ξ3 '2') ?_;refine RO (RO (Um m W.dat W.G8 ?_));refine RO (RO (UT (RS ?_)));refine bU (Ξ2 b) ?_;refine RO (UT (RS (RS ?_)));have e:ZV (w.params.setOrder a ep) es=gp w a es ep:=by unfold gp;rw[Ξ2 b]
  show Q (((ZV (w.params.setOrder a ep) es)[i]?).map λe=>(e.2,j)) s;rw[e];by_cases d:i<es.size
  .rw[R9 (by rw[g];exact d)];exact xi d j (.inl b)
  .rw[Ui (by rw[g];omega)];exact c '0'|false=>
  refine bU (Ξ3 (by rw[show({program:=(Sb prog w).prog,params:=(Sb prog w).w.params}:Setting).params.followText "set-order"=RT from b];exact Tw)) ?_;refine bU (Ξ3 ?_) ?_
  .show¬((!t.plain&&decide (es.size>1))=RQ);rw[W.plain];simp
  refine RO (bU (Ξ3 ?_) (RS ?_))
  .rw[W.led,b];simp
  refine RS ?_;rcases k with z|z;.rw[b]at z;cases z
  have e:gp w a es ep=es:=by unfold gp;rw[b];rfl
  have l:=by
   have:=W.G8;unfold Yq at this;rw[R4]at this;exact Θ3.mp this.1
  rw[z];by_cases d:i<es.size
  .have h:i<t.place.size:=by rw[l];exact d
   have:=xi d (t.place[i]+1) (.inr (vp (w:=w) W.rise (R9 h)));rw[R9 d,R9 h];simpa only[e]using this
  .rw[Ui '0'];exact c '0'
end
end ST
end
section
namespace ST
open PySem PySem.W PyProof.Rows
section
variable{a it:RW}
def EN(W:Wk w o es ep t)(j:mR w t l i)(e:jE s.heap it a l i es.size ep)(m:s.heap.get? a=RM o)(h)(p:∀h' b,mR w t b (i+1)->jE h' it a b (i+1) es.size ep->TR it s.heap h'->Q (RM ((gp w a es ep)[i]'(by rw[seq_size];exact h)).2) {s with heap:=h'}):wpAny (Sb prog w) A (WL (.ref it)) Q E s:=by
 obtain⟨q,d,n,hd⟩:=id e;refine RO (Xl (Vy e.typeIs b5 (Tq b5 e.typeIs iF ?_ (jD _))));refine RO (RS ?_);refine RO (X5 d hd ?_);refine RO (XG m W.dat W.G8 ?_);rw[Ξ3 '2'];refine RO (sU W (by simpa using j) m (λu b c=>?_) λz=>Ξ1 h (Nat.not_lt.mpr (by simpa using z)));refine RO (Vg d hd '2' ?_);have Ab:jE (s.heap.update it (UB (·.setIfInBounds 0 (VZ (b))))) it a b i es.size ep:=⟨_,Te _ d (Us (Tx hd _)),(WY ..).trans n,by rw[Tx hd];simp[VZ]⟩;obtain⟨r,g,k,f⟩:=id Ab;refine RO (Vg g f '2' ?_);have sx:jE ((s.heap.update it (UB (·.setIfInBounds 0 (VZ (b))))).update it (UB (·.setIfInBounds 1 (VZ ((i)+1))))) it a b (i+1) es.size ep:=⟨_,Te _ g (Us (Tx f _)),(WY ..).trans k,by rw[Tx f];simp[VZ]⟩;have:=p _ b c sx ((S_ ..).trans (S_ ..));exact RS ⟨_,rfl,RS this⟩
def II(n:A.handled=RP)(W:Wk w o es ep t)(e:mR w t g i)(c:jE s.heap it a g i es.size ep)(j:s.heap.get? a=RM o)(f:es.size<=i)(p:∀h',Heap.ExtBut it s.heap h'->Q RP {s with heap:=h'}):wpAny (Sb prog w) A (WL (.ref it)) Q E s:=by
 obtain⟨q,d,r,hd⟩:=id c;refine RO (Xl (Vy c.typeIs b5 (Tq b5 c.typeIs iF ?_ (jD _))));refine RO (RS ?_);refine RO (X5 d hd ?_);refine RO (XG j W.dat W.G8 ?_);rw[Ξ3 '2'];refine RO (sU W (by simpa using e) j (λl k h=>Ξ1 l (Nat.not_lt.mpr (by simpa using f))) λ_=>?_);refine RO (Vg d hd '2' ?_);refine RO ?_;refine RO (T_ ?_ (by size_fits));refine RO (Xr (a:=SG) (by first|rfl|(rfl)) ?_);refine T_ ?_ (by size_fits);refine RO (wpAny_handled ?_);rw[show A.in1.handled=RP from n];refine RO (RS (wpAny_throw ?_));refine RO (Vv ⟨_,Sl _ rfl,rfl⟩ isSubtype_stop ?_);exact RS (p _ (((S_ ..).extBut.push _).push _))
def EO(b:jE s.heap it a c i n ep)(h:Q (.ref it) s):wpAny (Sb prog w) A (Z8 (.ref it)) Q E s:=by
 refine WX b.typeIs jC (Tq jC b.typeIs oV ?_ (qO _));exact RS ⟨_,rfl,"set_iterator",_,b.typeIs,b5.lookup,h⟩
def A3(e:s.TypeIs (.ref r) "set")(h:Q RT s):wpAny (Sb prog w) A (XM (.ref r)) Q E s:=by
 refine RO (Vm e PySem.F.slot_set_len.lookup ?_);generalize d:("set.__len__")=id0;wp_delta;rw[show splitId id0=RM ("set","__len__")from by subst d;decide+kernel];subst d;refine RO (Vv (b:=RQ) e (by rw[ZN];kernel_rfl) ?_);refine wpAny_ite_split (λc=>Ξ1 c '1') (λ_=>?_);refine wpAny_ite_split (λ_=>?_) (λc=>Ξ1 (by decide+kernel) c);refine RO (XJ e ?_);exact RS h
def Mg(w:Sx)(a:RW)(es:Array (Int×RR))(ep:Nat)(i:Nat)(v:RR):Prop:=∃e,(gp w a es ep)[i]?=RM e/\v=e.2
theorem A4(x:A.handled=RP)(I)(n:a≠I)(W:Wk w o es ep t):Walks prog w A I [I,a] [I] es.size (Mg w a es ep) (λi h=>(∃c,mR w t c i/\jE h I a c i es.size ep)/\h.get? a=RM o)where
 sub:=λb hb=>by simp at hb;simp[hb]
 frame:=λ_ _ _⟨⟨c,f,v,d,y⟩,st⟩r=>⟨⟨c,f,v,r I '2' _ d,y⟩,r a '2' o st⟩;item:=λi s Q E u⟨⟨c,f,d⟩,st⟩l=>EN W f d st u λq m g k j=>l _ q s.toks ⟨_,R9 (by rw[seq_size];exact u),rfl⟩ ⟨⟨m,g,k⟩,(j.2 a n).trans st⟩ λb o hb e=>j.extBut b o (λh=>hb (by simp[h])) e;done:=λs Q E⟨⟨c,f,d⟩,st⟩l=>II x W f d st (R5 _) λq p=>l q s.toks λb o hb e=>p b o (λh=>hb (by simp[h])) e;self:=λ_ _ _ _⟨⟨c,f,d⟩,st⟩l=>EO d l
theorem ER(W:Wk w o es ep t):KdlSrc prog w "set" a a es.size (Mg w a es ep) (λh=>h.get? a=RM o)where
 type:=λ_ b=>⟨o,b,W.ex.1⟩;there:=λ_ b=>⟨Sa b,Sa b⟩;keep:=λ_ _ b d=>d a (.inl rfl) o b;notList:=by decide
 notTuple:=by decide
 hint:=λ_ _ s _ b c=>A3 ⟨o,b,W.ex.1⟩ c;iter:=λ_ _ e b=>⟨_,_,(λ_ _ c=>A2 W b c),A4 e _ (SD (Sa b)) W,⟨⟨0,vo w W.rise,_,Sl _ rfl,rfl,rfl⟩,RY _ b⟩⟩
def kZ(W:Wk w o es ep t)(p:A.handled=RP)(l:s.heap.get? a=RM o)(m:es.size<=R1)(h:∀(h')(j)(vs),(∀b o,s.heap.get? b=RM o->h'.get? b=RM o)->vs.Perm (es.toList.map (·.2))->R vs {s with heap:=h',toks:=j}):wpAny (Sb prog w) A (aaD (.ref a)) R E s:=by
 refine kdu_collect (ER W) p l m λh' j d g c=>?_;have k:=seq_size w a es ep;have e:d.toList=(gp w a es ep).toList.map (·.2):=by
  apply aaE;intro i;rw[Sn];by_cases n:i<es.size
  .have f:i<d.size:=by rw[c.1];exact n
   obtain⟨e,r,q⟩:=c.2 i d[i] (by simp[]);simp only[T7,r,R9 f,q,U7]
  .have f:d.size<=i:=by rw[c.1];omega
   simp only[T7,Ui f,Ui (show(gp w a es ep).size<=i by omega),Option.map_none]
 exact h h' j d.toList g (by rw[e];exact(sT w a es ep).map _)
end
end ST
end
section
namespace L2
open PySem PySem.Spec PyProof.Rows
def k8(P:Sf)(w:Sx)(o:Tn)(xs:List (Int×Y7)):Prop:=o.data≠.freed/\(∀v,o.data≠.cell v)/\∀(h:SJ)(a:RW),h.get? a=RM o->∃t,ST.uW P w h a xs t
def k8.of(S:ST.uW P w h a xs t)(e:h.get? a=RM o):k8 P w o xs:=by
 obtain⟨i,d,f,c,hex,hd,b⟩:=S.ob;rw[e]at c;cases c;exact⟨λz=>(by rw[hd]at z;cases z),λv z=>(by rw[hd]at z;cases z),λj k g=>⟨t,⟨o,d,f,g,hex,hd,b⟩,S.tab,S.zg,S.nd,S.led,S.plain⟩⟩
noncomputable def bx(w:Sx):Tn:={cls:=.type "set",dict:=RP,data:=.set #[] 0 (.fresh 0 0 (!w.params.followText "set-order"))}
def xj(h:Q (.ref s⁻¹) {s with heap:=s.heap.push (bx w)}):wpAny (Sb prog w) A (newSet (.type "set")) Q E s:=by
 unfold newSet setsByText;refine RO (RO (UT (RS ?_)));dsimp only;simp only[newObj];exact RO (aaU (RS h))
def xk(P)(w):k8 P w (bx w) []:=by
 refine⟨'4',(λv z=>nomatch z),λh a e=>⟨_,⟨_,_,_,e,⟨rfl,rfl,rfl⟩,rfl,rfl⟩,?_,(by show 0*5<7*3;omega),.nil,rfl,rfl⟩⟩;exact⟨.inl rfl,.nil,rfl,rfl,λi j e=>(by simp[SetTable.fresh]at e),SH _,λi h j e=>(by simp at e)⟩
section
variable{A:SF}{s:RU}
open ST
def uW.typeIs(S:uW prog w s.heap a xs t):s.TypeIs (.ref a) "set":=let⟨o,_,_,b,c,_⟩:=S.ob;⟨o,b,c.1⟩
def qP(S:uW prog w s.heap a xs t)(j:xs.length<306)(f:i∈xs.map (·.1)->∀d,Q .none {s with toks:=d})(new:i∉xs.map (·.1)->∀h' b t' e,TR a s.heap h'->uW prog w h' a b t'->b.Perm ((i,d)::xs)->Q .none {s with heap:=h',toks:=e}):wpAny (Sb prog w) A (call (.builtin "set.add") [.ref a,.int i d]) Q E s:=by
 refine Tq Xs (uW.typeIs S) Zn ?_ (Y4 _ _);unfold Builtin.«set.add»X7;simp only[Vz,bind_assoc];refine RO (RS ?_);try dsimp only
 refine RO (RS ?_);try dsimp only
 refine RO (SS (RO ((To prog w).pyHash (V6 _ _ _ _) ?_)));refine w_ S j (λg=>?_) λc h' b t' sb k h=>?_
 .exact RS ⟨_,rfl,f g _⟩
 .exact RS ⟨_,rfl,new c h' b t' _ sb k h⟩
def mS(S:uW prog w s.heap a xs t)(g:xs.length<306)(d:i∈xs.map (·.1)->Q RT {s with toks:=s.toks+1})(new:i∉xs.map (·.1)->∀h' b t',TR a s.heap h'->uW prog w h' a b t'->b.Perm ((i,e)::xs)->Q RQ {s with heap:=h',toks:=s.toks+1}):wpAny (Sb prog w) A (aaQ a (.int i e)) Q E s:=by
 refine SS (RO ((To prog w).pyHash (V6 _ _ _ _) ?_));exact w_ S g d λc h' b t' sb h f=>new c h' b t' sb h f
end
section
open ST in
def uW.setOf{h:SJ}{a:RW}{xs:List (Int×Y7)}{t:SV}(S:ST.uW prog w h a xs t)(p:xs.length<=511):h.SetOf (To prog w) a (λi=>decide (i∈xs.map (·.1))) xs.length:=by
 obtain⟨o,f,n,j,hex,hd,b⟩:=S.ob;have c:f.size=xs.length:=by have:=Ξ0 T6 b;simpa using this
 refine⟨o,f,n,t,j,hex,hd,by rw[b];exact ST.w9 xs,λk=>?_,by unfold scanBound;omega,ST.fits_of S.tab (by rw[c,RV]),c⟩;rw[Φ,b];constructor
 .intro l;obtain⟨x,d,rfl⟩:=Ω3.mp l;exact⟨_,Vt d,V6 _ _ _ _⟩
 .rintro⟨e,m,g⟩;obtain⟨x,d,rfl⟩:=Ω3.mp m;have:k=x.1:=(To prog w).inj _ _ _ g (V6 _ _ _ _);rw[this];exact Vt d
end
def Fills(prog:Sf)(w:Sx)(A:SF)(S:RW)(e:SJ)(J:Nat->Tn->Prop)(P:Nat->RR->Prop)(n:Nat):Prop:=∀(i:Nat)(v:RR)(s:RU)(ob:Tn),i<n->P i v->(∀b o,b<S->e.get? b=RM o->s.heap.get? b=RM o)->s.heap.get? S=RM ob->J i ob->∀(Q:Bool->RU->Prop)(E:RR->RU->Prop),(∀b c d a,s.toks<=d->TR S s.heap c->c.get? S=RM a->J (i+1) a->Q b {s with heap:=c,toks:=d})->wpAny (Sb prog w) A (aaQ S v) Q E s
section
variable{A:SF}{St:Nat->RU->Prop}
def sV(W:WalksS prog w A.in1 I fp wr G n P St)(S)(u:S∉fp)(hw:∀b∈wr,S<b)(F:Fills prog w A.in1 S L J P n):∀(k i)(s)(ob),n-i=k->i<=n->St i s->(∀b o,b<S->L.get? b=RM o->s.heap.get? b=RM o)->s.heap.get? S=RM ob->J i ob->(∀s' c,Moved (S::wr) G s s'->s'.heap.get? S=RM c->J n c->R (.ok (.ret .none)) s')->codeAny (Sb prog w) A (.builtin "set.update.loop" ⟨[.ref S,.ref I],[]⟩) R s:=by
 have t:=λh=>u (W.sub _ h);have a:∀b,b<S->b∉wr:=λb hb z=>Ξ1 (hw b z) (Nat.lt_asymm hb);intro k;induction k with
 |zero=>
  intro i s ob N O d j C K E;have D:i=n:='0'
  subst D;refine Vn Wj ?_;rw[Vp U_ _];refine RO (W.done s _ _ d λs' f=>?_);exact RS (E s' ob (f.mono λb hb=>RZ _ hb) (f.heap S _ t C) K)|succ k M=>
  intro i s ob N O d j C K E;have g:i<n:='0'
  refine Vn Wj ?_;rw[Vp U_ _];refine RO (W.item i s _ _ g d λv s' hP p f=>?_);refine RO (SS (F i v s' ob g hP (λb o hb e=>f.heap b o (a b hb) (j b o hb e)) (f.heap S _ t C) K _ _ λ_ Q T c m sb B H=>?_));refine RS ⟨plainId_quiet U_ _,M (i+1) _ c '0' g (W.frame _ s' _ _ p m λb hb o e=>?_) (λb o hb e=>?_) B H λy l r q x=>?_⟩;.rw[sb.2 b (λh:b=S=>u (by rw[<-h];exact hb))];exact e
  .rw[sb.2 b (SD hb)];exact f.heap b o (a b hb) (j b o hb e)
  .refine E y l (Moved.trans W.gtrans ((f.mono λb hb=>RZ _ hb).then_heap m λb o hb e=>?_) r) q x;rw[sb.2 b (λh:b=S=>hb (by rw[h];exact RX))];exact e
end
section
variable{A:SF}
def code_set_new(a)(h:Q₁ (.ref s⁻¹) {s with heap:=s.heap.push (bx w)}):codeAny (Sb prog w) A (.call (.builtin "set.__new__") ⟨[.type "set",a],[]⟩) (wants Q₁ E) s:=by
 refine XB ?_;refine RO (Xr (PySem.F.newCall_set_1 a) (RS ⟨plainId_quiet Zo _,Vn PySem.F.entry_set_new ?_⟩));rw[Vp Zo _];unfold Builtin.«set.__new__»Builtin.Frozenset.newClass;have b:=sub_set_self;obtain⟨e,g,d,c,os⟩:=s;wp_walk;refine UT (RS ?_);refine RO (aaU (RS ?_));exact RS h
end
section
variable{prog:Sf}{w:Sx}{A:SF}{E:RR->RU->Prop}{s:RU}
def sW(hh:A.handled=RP)(hl:s.heap.IsList l items)(J0:J 0 (bx w))(F:Fills prog w A.in1.in1.in1 s⁻¹ s.heap J (λi v=>items[i]?=RM v) items.size)(h:∀(h':SJ)(B:Nat)(ob:Tn),h'.get? s⁻¹=RM ob->J items.size ob->(∀b o,b<s⁻¹->s.heap.get? b=RM o->h'.get? b=RM o)->Q (.ref s⁻¹) {s with heap:=h',toks:=B}):wpAny (Sb prog w) A (call (.type "set") [.ref l]) Q E s:=by
 obtain⟨c,tl,Z⟩:=PySem.F.called_set.mro;have L:=PySem.F.called_set.made;have W:=PySem.F.called_set.sub;refine YS (XB ?_);show wpAny _ _ (callAny (.type "set") _) _ _ _;refine RS ⟨Vh _ (by decide+kernel),Vn PySem.F.entry_type_call ?_⟩;rw[Around.under_plain (weight_type_call_type "set" [.ref l] []) rfl];have h1:=PySem.F.called_set.notType;have h2:=PySem.F.called_set.canCreate;have a3:=PySem.F.typeCall_set_1 (.ref l);repeat(any_goals(first|assumption|wp_step))
 refine VC (code_set_new (.ref l) (E:=E) (Q₁:=λobj j=>obj=.ref s⁻¹/\j={s with heap:=s.heap.push (bx w)}) ⟨rfl,rfl⟩) λr j I=>?_;cases r with
 |error e=>exact I|ok fl=>cases fl with
  |ret obj=>
   obtain⟨rfl,rfl⟩:=I;have hS:(s.heap.push (bx w)).get? s⁻¹=RM (bx w):=Sl _ rfl;have hT:Shared.TypeIs {s with heap:=s.heap.push (bx w)} (.ref s⁻¹) "set":=⟨_,hS,rfl⟩;have a2:=PySem.F.called_set.init.lookup;have a4:=PySem.F.called_set.init.bind (.ref s⁻¹);repeat(any_goals(first|assumption|wp_step))
   refine VC (V7 (R:=wants (λr g=>r=.none/\∃h' B ob,g={s with heap:=h',toks:=B}/\h'.get? s⁻¹=RM ob/\J items.size ob/\(∀b o,b<s⁻¹->s.heap.get? b=RM o->h'.get? b=RM o)) E) PySem.F.called_set.init.plain PySem.F.entry_set_init (check_set_init_1 hT ?_)) λn g a=>?_
   .obtain⟨ol,q,z,nl,y⟩:=hl;obtain⟨V,k,H,f⟩:=ol;simp only at z y;subst z;subst y;have p:(s.heap.push (bx w)).get? l=RM {cls:=.type "list",dict:=k,data:=.seq items nl,slots:=f}:=RY _ q;have X:=PySem.F.sub_list_set;have Y:=PySem.F.sub_list_frozenset;have a0:(Z7 "list"==Z7 "dict")=RT:=by decide
    have x:(s.heap.push (bx w)).IsList l items:=⟨_,p,rfl,nl,rfl⟩;unfold Builtin.«set.__init__»noKeywords Builtin.Frozenset.updateFrom;generalize T:Z8=PI;wp_walk;subst T;refine V1 x ?_;refine RO (wpAny_runValue ?_);have u:l<s⁻¹:=Sa q;have N:A.in1.in1.in1.handled=RP:=by simp[hh]
    have t:l≠(s.heap.push (bx w)).objs.size:=by rw[UX];exact SD (Vo u)
    have S:s⁻¹∉[(s.heap.push (bx w)).objs.size,l]:=by
     rw[UX];simp only[Ts,VI,T5,or_false,not_or];exact⟨SD (Vd _),UE u⟩
    refine sV ((aa6 N _ l t items).toS) s⁻¹ S (λb hb=>?_) F (items.size-0) 0 _ (bx w) '0' (SH _) ⟨⟨_,Sl _ rfl,rfl,rfl⟩,(x.push _)⟩ (λb o hb e=>RY _ (RY _ e)) (RY _ hS) J0 ?hR
    .rw[Ω1.mp hb,UX];exact Vd _
    case hR=>
     intro s' ob C K U;obtain⟨h',g',d',D,G⟩:=s';have eg:g'=s.gens:=C.gens;have ed:d'=s.drawn:=C.drawn;have eo:G=s.os:=C.os;subst eg;subst ed;subst eo;show wpAny _ _ _ _ _ _;refine RS ?_;show wpAny _ _ (ret SG) _ _ _;refine RS ⟨rfl,h',D,ob,rfl,K,U,λb o hb e=>?_⟩;have P:b≠s⁻¹:=SD hb;have O:b≠(s.heap.push (bx w)).objs.size:=by rw[UX];exact SD (Vo hb)
     exact C.heap b o (by simp only[Ts,VI,T5,or_false,not_or];exact⟨P,O⟩) (RY _ (RY _ e))
   .cases n with
    |error e=>exact a|ok m=>cases m with
     |ret r=>
      obtain⟨rfl,h',B,ob,rfl,K,U,M⟩:=a;repeat(any_goals(first|assumption|wp_step))
      exact h _ _ _ K U M|_=>exact a.elim
  |_=>exact I.elim
end
inductive D where|br|bl(b:Bool)|int(i:Int)|str(x:Sy)|tup(xs:List D)|lst(xs:List D)|aO(ks vs:List D)|exc(c:RW)(nm:List D)|aJ(xs:List Int)
inductive W where|d(x:D)|feed|own(d:D)
abbrev ah:=List (Option W)
structure Xc where
 x:D
 en:ah
structure M(α:Type)where
 run:Nat->(α->Nat->Prop)->(Xc->Nat->Prop)->Prop
 mono:∀{k Q Q' E E'},run k Q E->(∀a k,Q a k->Q' a k)->(∀x k,E x k->E' x k)->run k Q' E'
namespace M
protected def pure(a:α):M α:=⟨λk Q _=>Q a k,λh q _=>q _ _ h⟩
protected def bind(m:M α)(f:α->M β):M β:=⟨λk Q E=>m.run k (λa k'=>(f a).run k' Q E) E,λh q e=>m.mono h (λa k' h=>(f a).mono h q e) e⟩
instance:Monad M where
 pure:=M.pure;bind:=M.bind
noncomputable def fail:M α:=⟨λ_ _ _=>False,λh _ _=>h⟩
noncomputable def need(P:Prop):M Unit:=⟨λk Q _=>P/\Q () k,λh q _=>⟨h.1,q _ _ h.2⟩⟩
noncomputable def any(P:α->Prop):M α:=⟨λk Q _=>∀a,P a->Q a k,λh q _ a p=>q _ _ (h a p)⟩
noncomputable def throw(x:Xc):M α:=⟨λk _ E=>E x k,λh _ e=>e _ _ h⟩
noncomputable def tick(n:Nat):M Unit:=⟨λk Q _=>k+n<=1000000/\∀c,k<=c->c<=k+n->Q () c,λh q _=>⟨h.1,λc a b=>q _ _ (h.2 c a b)⟩⟩
noncomputable def get(o:Option α):M α:=match o with
 |some a=>pure a|none=>fail
def run_bind{f:α->M β}:(m>>=f).run k Q E=m.run k (λa b=>(f a).run b Q E) E:=rfl
def run_get{o:Option α}:(get o).run k Q E↔∃a,o=RM a/\Q a k:=by cases o with
 |none=>exact⟨λh=>h.elim,λ⟨a,h,_⟩=>nomatch h⟩|some a=>exact⟨λh=>⟨a,rfl,h⟩,λ⟨b,h,q⟩=>by cases h;exact q⟩
end M
structure c7(H:Hp)(p q:RW)(ns:List Int)(i r:Int):Prop where
 ob:H p=RM (.lst [.ref q,.int i,.int r])cs:∃o,H q=RM (.cz o (.lst (ns.map V.int)))ne:q≠p
 i0:0<=i
 r0:0<=r
 ln:ns.length<=63
def mT(H:Hp)(p q:RW)(k:Nat):Prop:=∃ns i r,c7 H p q ns i r/\i<=(k:Int)
def Ln(H:Hp)(p:RW)(k:Nat):Prop:=∃q,mT H p q k
def mT.same(F:mT H p q k)(h:vf H H'):mT H' p q k:=by
 obtain⟨ns,i,r,⟨g,⟨o,f⟩,e,d,c,b⟩,a⟩:=F;exact⟨ns,i,r,⟨h _ _ g,⟨o,h _ _ f⟩,e,d,c,b⟩,a⟩
structure Fb where
 K:R0
 p:RW
 P:Sf
 w:Sx
structure Fx extends Fb where
 H0:Hp
 k0:Nat
 E:Xc->Nat->Prop
 Hs:Hp
 ks:Nat
def IJ(H:Hp)(a:RW)(xs:List V):Prop:=∃o,H a=RM (.cz o (.lst xs))
def IJ.sq{K}(h:IJ H a xs):dZ K H a xs:=.inl (.inr h)
def TupAt(F:Fb)(H:Hp)(a:RW)(xs:List V):Prop:=a≠F.p/\ki F.K H a xs
def LstAt(F:Fb)(H:Hp)(a:RW)(xs:List V):Prop:=a≠F.p/\IJ H a xs
def vq{σ:St}(I:Inv X pins σ H s)(h:ki X.K H a (ks.map kV)):IsTupleKey (aw X.prog X.w) s.heap ks a:=by
 obtain⟨b,r,⟨o,e,d,n,c⟩,_⟩:=I.tuple h;exact⟨o,b.toArray,n,e,d,c,by simpa using pE r⟩
noncomputable def kD:Key->D
 |.inl i=>.int i|.inr x=>.str x
noncomputable def nD:NK->D
 |.inl k=>kD k|.inr ks=>.tup (ks.map kD)
def Lp(F:Fb)(H:Hp):V->NK->Prop
 |v,.inl k=>v=kV k|v,.inr ks=>∃b,v=.ref b/\TupAt F H b (ks.map kV)
def fv(F:Fb)(H:Hp)(a:RW)(ks:List NK):Prop:=∃b,TupAt F H a b/\Paired (Lp F H) b ks
def kr(P:Sf)(w:Sx)(o:Tn)(us:List (Key×RR)):Prop:=∃a b,o.ExactDict/\o.data=.dict a b/\KeysOf (aw P w) a/\Pairs (aw P w) a.toList us/\(us.map (·.1)).Nodup
def ku(P:Sf)(w:Sx)(o:Tn)(xs:List (List NK×RW×RR)):Prop:=∃a b,o.ExactDict/\o.data=.dict a b/\a.toList=xs.map (entryOfKey (cf P w))/\(xs.map (·.1)).Nodup
def KA:List (List NK×RW×V)->List (List NK×RW×RR)->Prop:=Paired λp q=>p.1=q.1/\p.2.1=q.2.1/\RelV p.2.2 q.2.2
def bQ(F:Fb)(H:Hp)(o:Tn)(ks:List D)(vs:List V):Prop:=ks.length<=R1/\((∃(a:List (Key×V))(c:List (Key×RR)),KV a c/\kr F.P F.w o c/\ks=a.map (λx=>kD x.1)/\vs=a.map (·.2))\/(∃(a:List (List NK×RW×V))(b:List (List NK×RW×RR)),KA a b/\ku F.P F.w o b/\(∀x∈a,fv F H x.2.1 x.1)/\ks=a.map (λx=>D.tup (x.1.map nD))/\vs=a.map (·.2.2)))
def zm(F:Fb)(H:Hp)(a:RW)(o:Tn):Prop:=a≠F.p/\(a==UC)=RT/\((∃u,H a=RM (.cz o u))\/F.K.lookup a=RM o)
def xl(F:Fb)(H:Hp)(a:RW)(ks:List D)(vs:List V):Prop:=∃o,zm F H a o/\bQ F H o ks vs
noncomputable def iA(a:RW)(o:Tn):HO:=.ext λh=>h.get? a=RM o
def ES(F:Fb)(H:Hp)(a c:RW):List V->Prop
 |[]=>a≠F.p/\∃ob u,H a=RM (.cz ob u)/\ob.cls=.ref c/\(∃b,ob.data=.fields b)|[v]=>a≠F.p/\∃ob u d e,H a=RM (.cz ob u)/\ob.cls=.ref c/\(∃b,ob.data=.fields b)/\ob.dict=RM d/\d≠F.p/\H d=RM (.cz e (.xd [("name",v)]))|_=>False
def fU(F:Fb)(o:Tn)(xs:List Int):Prop:=∃a,k8 F.P F.w o a/\(a.map (·.1)).Perm xs
def IK(F:Fb)(H:Hp)(a:RW)(xs:List Int):Prop:=a≠F.p/\∃o u,H a=RM (.cz o u)/\fU F o xs
mutual
def Is(F:Fb)(H:Hp):V->D->Prop
 |v,.br=>v=.br|v,.bl b=>v=.bl b|v,.int i=>v=.int i|v,.str x=>v=.str x|v,.tup e=>∃a d,v=.ref a/\TupAt F H a d/\ag F H d e|v,.lst e=>∃a d,v=.ref a/\LstAt F H a d/\ag F H d e|v,.aO ks e=>∃a d,v=.ref a/\xl F H a ks d/\ag F H d e|v,.exc c e=>∃a d,v=.ref a/\ES F H a c d/\ag F H d e|v,.aJ d=>∃a,v=.ref a/\IK F H a d
def ag(F:Fb)(H:Hp):List V->List D->Prop
 |xs,[]=>xs=[]|xs,d::b=>∃x a,xs=x::a/\Is F H x d/\ag F H a b
end
noncomputable def HO.pL:HO->Bool
 |.tup _=>RQ|.cz _ _=>RQ|_=>RT
structure Kp(F:Fb)(H:Hp)(k:Nat)(H':Hp)(k':Nat):Prop where
 keep:∀a o,a≠F.p->o.pL=RQ->H a=RM o->H' a=RM o
 live:H F.p≠RP->H' F.p≠RP
 le:k<=k'
 eI:∀q,mT H F.p q k->mT H' F.p q k'
structure Ext(F:Fb)(H:Hp)(k:Nat)(H':Hp)(k':Nat):Prop where
 keep:∀a o,a≠F.p->H a=RM o->H' a=RM o
 live:H F.p≠RP->H' F.p≠RP
 le:k<=k'
 eI:∀q,mT H F.p q k->mT H' F.p q k'
section
variable{F:Fb}{H H1 H2 H':Hp}{k k1 k2 k':Nat}
def Ext.kp(e:Ext F H k H' k'):Kp F H k H' k':=⟨λa o h _ q=>e.keep a o h q,e.live,e.le,e.eI⟩
def Ext.feed(e:Ext F H k H' k'):Ln H F.p k->Ln H' F.p k':=λ⟨q,h⟩=>⟨q,e.eI q h⟩
def Kp.feed(e:Kp F H k H' k'):Ln H F.p k->Ln H' F.p k':=λ⟨q,h⟩=>⟨q,e.eI q h⟩
def Ext.refl:Ext F H k H k:=⟨λ_ _ _ h=>h,λh=>h,R5 _,λ_ h=>h⟩
def Kp.refl:Kp F H k H k:=Ext.refl.kp
def Ext.trans(a:Ext F H k H1 k1)(b:Ext F H1 k1 H2 k2):Ext F H k H2 k2:=⟨λc o d h=>b.keep c o d (a.keep c o d h),λh=>b.live (a.live h),SO a.le b.le,λq h=>b.eI q (a.eI q h)⟩
def Kp.trans(a:Kp F H k H1 k1)(b:Kp F H1 k1 H2 k2):Kp F H k H2 k2:=⟨λc o d s h=>b.keep c o d s (a.keep c o d s h),λh=>b.live (a.live h),SO a.le b.le,λq h=>b.eI q (a.eI q h)⟩
def zo(h:vf H H'):H F.p≠RP->H' F.p≠RP:=λn z=>n (by cases e:H F.p with
 |none=>rfl|some o=>rw[h _ _ e]at z;cases z)
def Ext.of(h:vf H H'):Ext F H k H' k:=⟨λa o _ e=>h a o e,zo h,R5 _,λ_ f=>f.same h⟩
def A5(h:H a=RP):vf H (upd H a o):=λb u e=>by rw[ar (aH e h)];exact e
def Ext.new(h:H a=RP):Ext F H k (upd H a o) k:=.of (A5 h)
def iV(l:H F.p≠RP)(h:H a=RP):a≠F.p:=λz=>l (z▸h)
def TupAt.mono(h:TupAt F H a xs)(e:Kp F H k H' k'):TupAt F H' a xs:=by
 refine⟨h.1,?_⟩;rcases h.2 with b|b
 .refine .inl ?_;rcases b with b|⟨o,b⟩;.exact .inl (e.keep _ _ h.1 rfl b)
  .exact .inr ⟨o,e.keep _ _ h.1 rfl b⟩
 .exact .inr b
theorem fv.mono(h:fv F H a ks)(e:Kp F H k H' k'):fv F H' a ks:=by
 obtain⟨f,i,g⟩:=h;refine⟨f,i.mono e,Paired.HR g λv n z=>?_⟩;cases n with
 |inl k=>exact z|inr ks=>obtain⟨b,d,c⟩:=z;exact⟨b,d,c.mono e⟩
def LstAt.mono(h:LstAt F H a xs)(e:Kp F H k H' k'):LstAt F H' a xs:=by
 refine⟨h.1,?_⟩;obtain⟨o,b⟩:=h.2;exact⟨o,e.keep _ _ h.1 rfl b⟩
def zm.mono(h:zm F H a o)(e:Kp F H k H' k'):zm F H' a o:=by
 obtain⟨c,d,b⟩:=h;refine⟨c,d,?_⟩;rcases b with⟨u,b⟩|b;.exact .inl ⟨u,e.keep _ _ c rfl b⟩
 .exact .inr b
def bQ.mono(h:bQ F H o ks xs)(e:Kp F H k H' k'):bQ F H' o ks xs:=by
 obtain⟨b,h⟩:=h;refine⟨b,?_⟩;rcases h with h|⟨a,xs,i,g,f,d⟩;.exact .inl h
 .exact .inr ⟨a,xs,i,g,λx c=>(f x c).mono e,d⟩
def xl.mono(h:xl F H a ks xs)(e:Kp F H k H' k'):xl F H' a ks xs:=let⟨o,c,b⟩:=h;⟨o,c.mono e,b.mono e⟩
def ES.mono(h:ES F H a c xs)(e:Kp F H k H' k'):ES F H' a c xs:=by match xs,h with
 |[],⟨b,ob,u,f,d⟩=>exact⟨b,ob,u,e.keep _ _ b rfl f,d⟩|[v],⟨b,ob,u,n,i,f,d,m,l,g,j⟩=>exact⟨b,ob,u,n,i,e.keep _ _ b rfl f,d,m,l,g,e.keep _ _ g rfl j⟩
mutual
theorem Is.mono(e:Kp F H k H' k'):∀{v:V}{d:D},Is F H v d->Is F H' v d
 |_,.br,h=>by simp only[Is]at h⊢;exact h|_,.bl _,h=>by simp only[Is]at h⊢;exact h|_,.int _,h=>by simp only[Is]at h⊢;exact h|_,.str _,h=>by simp only[Is]at h⊢;exact h|_,.tup _,h=>by
  simp only[Is]at h⊢;obtain⟨a,g,f,b,c⟩:=h;exact⟨a,g,f,b.mono e,ag.mono e c⟩|_,.lst _,h=>by
  simp only[Is]at h⊢;obtain⟨a,g,f,b,c⟩:=h;exact⟨a,g,f,b.mono e,ag.mono e c⟩|_,.aO _ _,h=>by
  simp only[Is]at h⊢;obtain⟨a,g,f,b,c⟩:=h;exact⟨a,g,f,b.mono e,ag.mono e c⟩|_,.exc _ _,h=>by
  simp only[Is]at h⊢;obtain⟨a,g,f,b,c⟩:=h;exact⟨a,g,f,b.mono e,ag.mono e c⟩|_,.aJ _,h=>by
  simp only[Is]at h⊢;obtain⟨a,f,b,o,u,c,i⟩:=h;exact⟨a,f,b,o,u,e.keep _ _ b rfl c,i⟩
theorem ag.mono(e:Kp F H k H' k'):∀{xs:List V}{ds:List D},ag F H xs ds->ag F H' xs ds
 |_,[],h=>by simp only[ag]at h⊢;exact h|_,d::ds,h=>by
  simp only[ag]at h⊢;obtain⟨x,a,f,c,b⟩:=h;exact⟨x,a,f,Is.mono e c,ag.mono e b⟩
end
def ag.nil:ag F H [] []:=by simp only[ag]
def ag.cons(h:Is F H x d)(t:ag F H xs ds):ag F H (x::xs) (d::ds):=by exact⟨x,xs,rfl,h,t⟩
theorem ag.length:∀{xs:List V}{ds:List D},ag F H xs ds->xs.length=ds.length
 |_,[],h=>by simp only[ag]at h;rw[h];rfl|_,d::ds,h=>by
  simp only[ag]at h;obtain⟨x,b,rfl,_,a⟩:=h;simp[ag.length a]
theorem ag.append:∀{xs a:List V}{ds b:List D},ag F H xs ds->ag F H a b->ag F H (xs++a) (ds++b)
 |_,_,[],_,h,t=>by simp only[ag]at h;rw[h];exact t|_,_,d::ds,_,h,t=>by
  simp only[ag]at h;obtain⟨x,a,rfl,e,c⟩:=h;exact .cons e (ag.append c t)
theorem ag.get:∀{xs:List V}{ds:List D}{i:Nat}{d:D},ag F H xs ds->ds[i]?=RM d->∃x,xs[i]?=RM x/\Is F H x d
 |_,[],_,_,_,e=>by simp at e|_,c::ds,i,d,h,e=>by
  simp only[ag]at h;obtain⟨x,f,rfl,b,a⟩:=h;cases i with
  |zero=>simp at e;subst e;exact⟨x,rfl,b⟩|succ i=>simpa using ag.get (i:=i) a (by simpa using e)
end
def mU(F:Fb)(H:Hp)(a:RW):D->Prop
 |.lst c=>∃b,H a=RM (.lst b)/\ag F H b c|.aO ks c=>∃o b,H a=RM (iA a o)/\(a==UC)=RT/\bQ F H o ks b/\ag F H b c|.aJ b=>∃o,H a=RM (iA a o)/\fU F o b|_=>False
def jF(F:Fx)(H:Hp)(a:RW)(d:D):Prop:=a≠F.p/\F.H0 a=RP/\mU F.toFb H a d
def Lq(F:Fx)(H:Hp)(k:Nat):V->W->Prop
 |v,.d x=>Is F.toFb H v x|v,.feed=>v=.ref F.p/\Ln H F.p k|v,.own d=>∃a,v=.ref a/\jF F H a d
inductive A where|d(x:D)|feed
noncomputable def A.w:A->W
 |.d x=>.d x|.feed=>.feed
def Lr(F:Fb)(H:Hp)(k:Nat):V->A->Prop
 |v,.d x=>Is F H v x|v,.feed=>v=.ref F.p/\Ln H F.p k
noncomputable abbrev vt(F:Fb)(H:Hp)(k:Nat):List V->List A->Prop:=Paired (Lr F H k)
section
def mU.keep(h:mU B H a d)(e:Kp B H k H' k')(ha:∀o,H a=RM o->H' a=RM o):mU B H' a d:=by cases d with
 |lst j=>obtain⟨f,c,b⟩:=h;exact⟨f,ha _ c,b.mono e⟩|aO ks j=>obtain⟨o,f,c,b,i,g⟩:=h;exact⟨o,f,ha _ c,b,i.mono e,g.mono e⟩|aJ f=>obtain⟨o,c,b⟩:=h;exact⟨o,ha _ c,b⟩|_=>exact h.elim
def jF.mono(h:jF F H a d)(e:Ext F.toFb H k H' k'):jF F H' a d:=⟨h.1,h.2.1,h.2.2.keep e.kp λo q=>e.keep a o h.1 q⟩
theorem Lq.mono(h:Lq F H k v x)(e:Ext F.toFb H k H' k'):Lq F H' k' v x:=by cases x with
 |d x=>exact Is.mono e.kp h|feed=>exact⟨h.1,e.feed h.2⟩|own d=>
  obtain⟨a,c,b⟩:=h;exact⟨a,c,b.mono e⟩
def Lr.w(h:Lr F.toFb H k v x):Lq F H k v x.w:=by cases x<;>exact h
end
noncomputable def W.A6:W->Bool
 |.own _=>RQ|_=>RT
structure cY(F:Fx)(ρ:ah)(k:Nat)(σ:St)(H:Hp):Prop where
 len:ρ.length=σ.length
 at_:∀(i:Nat)(d:W),ρ[i]?=RM (RM d)->∃v,σ[i]?=RM (RM v)/\Lq F H k v d
 apart:∀(i j:Nat)(d e:W)(v:V),i≠j->ρ[i]?=RM (RM d)->ρ[j]?=RM (RM e)->d.A6=RQ->e.A6=RQ->σ[i]?=RM (RM v)->σ[j]?≠RM (RM v)live:H F.p≠RP
 ext:Ext F.toFb F.H0 F.k0 H k
 lR:Kp F.toFb F.Hs F.ks H k
def cY.mono(h:cY F ρ k σ H)(e:Ext F.toFb H k H' a):cY F ρ a σ H' where
 len:=h.len;at_:=λi d q=>let⟨v,c,b⟩:=h.at_ i d q;⟨v,c,b.mono e⟩;apart:=h.apart;live:=e.live h.live;ext:=h.ext.trans e;lR:=h.lR.trans e.kp
def qE(F:Fb)(H:Hp)(k:Nat)(Q:V->Hp->Prop):D->Nat->Prop:=λd b=>∀v a,Ext F H k a b->Is F a v d->Q v a
def qT(F:Fb)(H:Hp)(k:Nat)(Q:Bool->Hp->Prop):Bool->Nat->Prop:=λb c=>∀a,Ext F H k a c->Q b a
def qA(F:Fb)(H:Hp)(k:Nat)(Q:List V->Hp->Prop):List A->Nat->Prop:=λd c=>∀b a,Ext F H k a c->vt F a c b d->Q b a
noncomputable def dR(F:Fx)(t:ah->M D):TE:=λb H Q=>∃a k,cY F a k b H/\(t a).run k (qE F.toFb H k Q) F.E
noncomputable def qQ(F:Fx)(t:ah->M Bool):TT:=λb H Q=>∃a k,cY F a k b H/\(t a).run k (qT F.toFb H k Q) F.E
noncomputable def sX(F:Fx)(t:ah->M (List A)):TA:=λb H Q=>∃a k,cY F a k b H/\(t a).run k (qA F.toFb H k Q) F.E
structure DE(X:Cx)(F:Fx)(e:Sj)(t:ah->M D):Prop where
 hK:X.K=F.K
 pe:PE X e (dR F t)
structure DT(X:Cx)(F:Fx)(e:Sj)(t:ah->M Bool):Prop where
 hK:X.K=F.K
 pt:PT X e (qQ F t)
structure DA(X:Cx)(F:Fx)(es:List Sj)(t:ah->M (List A)):Prop where
 hK:X.K=F.K
 pa:PA X es (sX F t)
inductive Fl where|nx(ρ:ah)|rt(d:D)|bk(ρ:ah)|ct(ρ:ah)
def zp(F:Fx)(Z:Ends)(H:Hp)(k:Nat)(f:Fl)(c:Nat):Prop:=match f with
 |.nx e=>∀b a,Kp F.toFb H k a c->cY F e c b a->Z.nx b a|.rt d=>∀v a,Ext F.toFb F.H0 F.k0 a c->Is F.toFb a v d->Z.rt v a|.bk e=>∀b a,Kp F.toFb H k a c->cY F e c b a->Z.bk b a|.ct e=>∀b a,Kp F.toFb H k a c->cY F e c b a->Z.ct b a
noncomputable def Pn(F:Fx)(t:ah->M Fl):TS:=λZ b H=>∃a k,cY F a k b H/\(t a).run k (zp F Z H k) F.E
structure DS(X:Cx)(F:Fx)(st:UL)(t:ah->M Fl):Prop where
 hK:X.K=F.K
 ps:PS X st (Pn F t)
structure zq(X:Cx)(F:Fx)(st:List UL)(t:ah->M Fl):Prop where
 hK:X.K=F.K
 ps:su X st (Pn F t)
def zp.mono(e:Kp F.toFb H k H' g)(h:zp F Z H k c j):zp F Z H' g c j:=by cases c with
 |nx f=>exactλa b q S=>h a b (e.trans q) S|rt d=>exact h|bk f=>exactλa b q S=>h a b (e.trans q) S|ct f=>exactλa b q S=>h a b (e.trans q) S
section
def PE.imp(h:PE X e t)(q:∀σ H Q,t' σ H Q->t σ H Q):PE X e t':=λa s σ H Q I z=>h a s σ H Q I (q σ H Q z)
def PT.imp(h:PT X e t)(q:∀σ H Q,t' σ H Q->t σ H Q):PT X e t':=λa s σ H Q I z=>h a s σ H Q I (q σ H Q z)
def PW.imp(h:PW X e t)(q:∀σ H Q,t' σ H Q->t σ H Q):PW X e t':=λw a s σ H Q I z=>h w a s σ H Q I (q σ H Q z)
def PA.imp(h:PA X e t)(q:∀σ H Q,t' σ H Q->t σ H Q):PA X e t':=λpos a s σ H Q I z=>h pos a s σ H Q I (q σ H Q z)
def PS.imp(h:PS X e t)(q:∀D σ H,t' D σ H->t D σ H):PS X e t':=λa s σ H D I z=>h a s σ H D I (q D σ H z)
def su.imp(h:su X e t)(q:∀D σ H,t' D σ H->t D σ H):su X e t':=λa s σ H D I z=>h a s σ H D I (q D σ H z)
end
def dR.next{Q:V->Hp->Prop}(S:cY F ρ k σ H)(h:(t ρ).run k R F.E)(q:∀d a v H',Ext F.toFb H k H' a->cY F ρ a σ H'->Is F.toFb H' v d->R d a->Q v H'):dR F t σ H Q:=⟨ρ,k,S,(t ρ).mono h (λd a r v H' e i=>q d a v H' e (S.mono e) i r) λ_ _ z=>z⟩
def qQ.next(S:cY F ρ k σ H)(h:(t ρ).run k R F.E)(q:∀b a H',Ext F.toFb H k H' a->cY F ρ a σ H'->R b a->Q b H'):qQ F t σ H Q:=⟨ρ,k,S,(t ρ).mono h (λb a r H' e=>q b a H' e (S.mono e) r) λ_ _ z=>z⟩
def sX.next(S:cY F ρ k σ H)(h:(t ρ).run k R F.E)(q:∀ds a vs H',Ext F.toFb H k H' a->cY F ρ a σ H'->vt F.toFb H' a vs ds->R ds a->Q vs H'):sX F t σ H Q:=⟨ρ,k,S,(t ρ).mono h (λds a r vs H' e i=>q ds a vs H' e (S.mono e) i r) λ_ _ z=>z⟩
noncomputable def iW(ρ:ah)(i:Nat):Option D:=match ρ[i]? with
 |some ⇑x=>RM x|_=>RP
set_option tactic.hygienic true in
def xm(h:iW ρ i=RM x):ρ[i]?=RM ⇑x:=by
 unfold iW at h;split at h;.rename_i y e;cases h;exact e
 .cases h
noncomputable def fV:D->M Bool
 |.bl b=>pure b|_=>M.fail
noncomputable def gD:D->M Int
 |.int i=>pure i|_=>M.fail
def fW:(fV d).run k Q E↔∃b,d=.bl b/\Q b k:=by cases d with
 |bl b=>exact⟨λh=>⟨b,rfl,h⟩,λ⟨c,e,h⟩=>by cases e;exact h⟩|_=>exact⟨λh=>h.elim,λ⟨c,e,h⟩=>nomatch e⟩
def bh:(gD d).run k Q E↔∃b,d=.int b/\Q b k:=by cases d with
 |int b=>exact⟨λh=>⟨b,rfl,h⟩,λ⟨c,e,h⟩=>by cases e;exact h⟩|_=>exact⟨λh=>h.elim,λ⟨c,e,h⟩=>nomatch e⟩
section
variable{X:Cx}{F:Fx}{a b c e:Sj}{es rest:List Sj}{pos:Uq}{ta tb tc:ah->M D}
def A7(i:Nat){x:Sy}{pos:Uq}(hN:X.N[i]?=RM x:=by rfl)(g:wG X.env.scope x:=by first|exact WS rfl|exact XY (WS rfl)|exact XY (XY rfl))(hd:(x==("__debug__":Sy))=RT:=by decide)(f:(x==("__classdict__":Sy))=RT:=by decide)(hK:X.K=F.K:=by rfl):DE X F (.Name x pos) (λρ=>M.get (iW ρ i)):=by
 refine⟨hK,(fj hN g hd f).imp λo H Q⟨ρ,k,S,h⟩=>?_⟩;obtain⟨d,n,m⟩:=M.run_get.mp h;obtain⟨v,l,j⟩:=S.at_ i _ (xm n);exact⟨v,l,m v H .refl j⟩
def IL{i j pos}(hK:X.K=F.K:=by rfl):DE X F (.Constant (.int i) j pos) (λ_=>pure (.int i)):=⟨hK,aI.imp λd H Q⟨f,k,S,h⟩=>h _ H .refl (by simp only[Is])⟩
def Mh{i j pos}(hK:X.K=F.K:=by rfl):DE X F (.Constant (.bool i) j pos) (λ_=>pure (.bl i)):=⟨hK,LI.imp λd H Q⟨f,k,S,h⟩=>h _ H .refl (by simp only[Is])⟩
def IM{j pos}(hK:X.K=F.K:=by rfl):DE X F (.Constant .none j pos) (λ_=>pure .br):=⟨hK,HW.imp λd H Q⟨f,k,S,h⟩=>h _ H .refl (by simp only[Is])⟩
def IP{i j pos}(hK:X.K=F.K:=by rfl):DE X F (.Constant (.str i) j pos) (λ_=>pure (.str i)):=⟨hK,HX.imp λd H Q⟨f,k,S,h⟩=>h _ H .refl (by simp only[Is])⟩
structure gw(X:Cx)(F:Fx)(f:RR->RR->XH RR)(m:D->D->M D):Prop where
 op:∀(pins:List (RW×Tn))(s:RU)(σ:St)(H:Hp)(k:Nat)(x y:V)(v u:RR)(d e:D)(Q:VK),Inv X pins σ H s->RelV x v->RelV y u->H F.p≠RP->X.K=F.K->Is F.toFb H x d->Is F.toFb H y e->(m d e).run k (qE F.toFb H k Q) F.E->wpAny (Sb X.prog X.w) X.A (f v u) (EP X pins σ Q) X.xe s
noncomputable def Mi(F:Fx)(m:D->D->M D):R2:=λx y H Q=>∃k d e,H F.p≠RP/\Is F.toFb H x d/\Is F.toFb H y e/\(m d e).run k (qE F.toFb H k Q) F.E
theorem gw.IQ(h:gw X F f m)(hK:X.K=F.K):lD X f (Mi F m):=λg s i H x y v u Q I n j⟨k,d,e,l,p,o,q⟩=>h.op g s i H k x y v u d e Q I n j l hK p o q
def gw.of{m:D->D->M D}(h:lD X f r)(q:X.K=F.K->∀H k x y d e Q,H F.p≠RP->Is F.toFb H x d->Is F.toFb H y e->(m d e).run k (qE F.toFb H k Q) F.E->r x y H Q):gw X F f m:=⟨λg s i H k x y v u d e Q I n j l hK t o z=>h g s i H x y v u Q I n j (q hK H k x y d e Q l t o z)⟩
def qE.ext(e:Ext B H k f k1)(h:qE B H k Q d j):qE B f k1 Q d j:=λv l g i=>h v l (e.trans g) i
def qT.ext(e:Ext B H k f k1)(h:qT B H k Q d j):qT B f k1 Q d j:=λi g=>h i (e.trans g)
def M.wk{m:M d}{k Q Q' E}(h:m.run k Q E)(q:∀a k,Q a k->Q' a k):m.run k Q' E:=m.mono h q λ_ _ z=>z
def xp{m}(h:dR F (λρ=>do let d<-ta ρ;let e<-tb ρ;m d e) σ H Q):LS (Mi F m) (dR F ta) (dR F tb) σ H Q:=by
 obtain⟨ρ,k,S,h⟩:=h;refine dR.next S h λd t v w o r j n=>?_;refine dR.next r n λp g s u f q i l=>?_;exact⟨g,d,p,q.live,j.mono f.kp,i,M.wk l λ_ _ z=>z.ext (o.trans f)⟩
def Mj(f:gw X F (Ve op) m)(ha:DE X F a ta)(hb:DE X F b tb):DE X F (.BinOp a op b pos) (λρ=>do let d<-ta ρ;let e<-tb ρ;m d e):=⟨ha.hK,(bM (f.IQ ha.hK) ha.pe hb.pe).imp λg H Q h=>xp h⟩
def IS{op:Wg}{m:D->D->M D}(f:gw X F (Tb op) m)(ha:DE X F a ta)(hb:DE X F b tb)(g:VT op b=RT:=by first|exact kj _|with_unfolding_all rfl):DE X F (.Compare a [op] [b] pos) (λρ=>do let d<-ta ρ;let e<-tb ρ;m d e):=⟨ha.hK,(Ef (f.IQ ha.hK) ha.pe hb.pe g).imp λi H Q h=>xp h⟩
theorem xq{t}(h:qQ F (λρ=>do fV (<-t ρ)) σ H Q):Aq (dR F t) σ H Q:=by
 obtain⟨ρ,k,S,h⟩:=h;refine dR.next S h λd l v j i m g f=>?_;obtain⟨c,rfl,f⟩:=fW.mp f;exact⟨c,g,f j i⟩
def IT{op:Wg}{m:D->D->M D}(f:gw X F (Tb op) m)(ha:DE X F a ta)(hb:DE X F b tb)(g:VT op b=RT:=by first|exact kj _|with_unfolding_all rfl):DT X F (.Compare a [op] [b] pos) (λρ=>do fV (<-(do let d<-ta ρ;let e<-tb ρ;m d e))):=⟨ha.hK,(jy (f.IQ ha.hK) ha.pe hb.pe g).imp λi H Q h=>by
  obtain⟨ρ,k,S,h⟩:=xq (t:=λρ=>do let d<-ta ρ;let e<-tb ρ;m d e) h;exact xp ⟨ρ,k,S,h⟩⟩
noncomputable def mV(m g:D->D->M D)(ta tb tc:ah->M D)(ρ:ah):M D:=do
 let d<-ta ρ;let e<-tb ρ;let r<-m d e;let y<-fV r;if y then do let f<-tc ρ;g e f else pure (.bl RT)
theorem sY(h:dR F (mV m j ta tb tc) σ H Q):u6 (Mi F m) (Mi F j) (dR F ta) (dR F tb) (dR F tc) σ H Q:=by
 obtain⟨J,k,S,h⟩:=h;refine dR.next S h λd P v U p G x B=>?_;refine dR.next G B λq u N T i s n A=>?_;refine⟨u,d,q,s.live,x.mono i.kp,n,M.wk A λr O f L I g l=>?_⟩;obtain⟨c,rfl,f⟩:=fW.mp f;refine⟨c,l,?_⟩;cases c with
 |false=>exact f _ I ((p.trans i).trans g) (by simp only[Is])|true=>
  refine dR.next (s.mono g) f λC t K R o E w y=>?_;exact⟨t,q,C,E.live,n.mono (g.trans o).kp,w,M.wk y λ_ _ z=>z.ext (((p.trans i).trans g).trans o)⟩
def A8{op d:Wg}{m g:D->D->M D}(i:gw X F (Tb op) m)(f:gw X F (Tb d) g)(ha:DE X F a ta)(hb:DE X F b tb)(k:DE X F c tc)(j:ZT [op,d] [b,c]=RT:=by with_unfolding_all rfl):DE X F (.Compare a [op,d] [b,c] pos) (mV m g ta tb tc):=⟨ha.hK,(Ar (i.IQ ha.hK) (f.IQ ha.hK) ha.pe hb.pe k.pe j).imp λl H Q h=>sY h⟩
def A9{op d:Wg}{m f:D->D->M D}(i:gw X F (Tb op) m)(g:gw X F (Tb d) f)(ha:DE X F a ta)(hb:DE X F b tb)(l:DE X F c tc)(j:ZT [op,d] [b,c]=RT:=by with_unfolding_all rfl):DT X F (.Compare a [op,d] [b,c] pos) (λρ=>do fV (<-mV m f ta tb tc ρ)):=⟨ha.hK,(As (i.IQ ha.hK) (g.IQ ha.hK) ha.pe hb.pe l.pe j).imp λn H Q h=>by
  obtain⟨ρ,k,S,h⟩:=xq (t:=mV m f ta tb tc) h;exact sY ⟨ρ,k,S,h⟩⟩
noncomputable def mI(C:Int->Int->Prop)(g:Int->Int->D):D->D->M D:=λd e=>do
 let i<-gD d;let j<-gD e;M.need (C i j)pure (g i j)
noncomputable def G9(g:Int->Int->D):D->D->M D:=λd e=>do
 let i<-gD d;let j<-gD e;pure (g i j)
theorem xr{g:Int->Int->Int}(h:lD X f (rI C λi j=>.int (g i j))):gw X F f (mI C λi j=>.int (g i j)):=.of h λhK H k x y d e Q l n m q=>by
  obtain⟨i,rfl,q⟩:=bh.mp q;obtain⟨j,rfl,q⟩:=bh.mp q;exact⟨i,j,n,m,q.1,q.2 _ H .refl (by simp only[Is])⟩
theorem qR{g:Int->Int->Bool}(h:lD X f (G5 λi j=>.bl (g i j))):gw X F f (G9 λi j=>.bl (g i j)):=.of h λhK H k x y d e Q l n m q=>by
  obtain⟨i,rfl,q⟩:=bh.mp q;obtain⟨j,rfl,q⟩:=bh.mp q;exact⟨i,j,n,m,q _ H .refl (by simp only[Is])⟩
def IU:gw X F (Ve .Mult) (mI Ed λi j=>.int (i*j)):=xr iT
def ET:gw X F (Ve .FloorDiv) (mI LV λi j=>.int (i/j)):=xr lM
def IV:gw X F (Ve .Mod) (mI (λ_ j=>0<j) λi j=>.int (i%j)):=xr fk
def IW:gw X F (Ve .Pow) (mI LW λi j=>.int (i^j.toNat)):=xr An
def Mk:gw X F (Tb .Lt) (G9 λi j=>.bl (decide (i<j))):=qR G6
def Ml:gw X F (Tb .LtE) (G9 λi j=>.bl (decide (i<=j))):=qR LX
def Mm:gw X F (Tb .Gt) (G9 λi j=>.bl (decide (j<i))):=qR Ap
def Mn:gw X F (Tb .GtE) (G9 λi j=>.bl (decide (j<=i))):=qR G7
noncomputable def gq:D->Bool
 |.br=>RQ|_=>RT
theorem sZ(h:Is B H v d):decide (v=.br)=gq d:=by cases d with
 |br=>rw[h];rfl|bl b=>rw[h];rfl|int i=>rw[h];rfl|str x=>rw[h];rfl|tup g=>obtain⟨a,f,h,_⟩:=h;rw[h];rfl|lst g=>obtain⟨a,f,h,_⟩:=h;rw[h];rfl|aO ks g=>obtain⟨a,f,h,_⟩:=h;rw[h];rfl|exc c g=>obtain⟨a,f,h,_⟩:=h;rw[h];rfl|aJ f=>obtain⟨a,h,_⟩:=h;rw[h];rfl
noncomputable def Mo(neg:Bool):D->D->M D:=λd e=>do
 M.need (gq e=RQ)pure (.bl (if neg then !gq d else gq d))
def s_{e}(h:gq e=RQ)(i:Is B H v e):v=.br:=by cases e<;>first|(exact i)|cases h
theorem IX:gw X F (Tb .Is) (Mo RT):=.of Im λhK H k x y d e Q l g f q=>⟨s_ q.1 f,by rw[sZ g];exact q.2 _ H .refl (by rfl)⟩
theorem EU:gw X F (Tb .IsNot) (Mo RQ):=.of Ee λhK H k x y d e Q l g f q=>⟨s_ q.1 f,by rw[sZ g];exact q.2 _ H .refl (by rfl)⟩
noncomputable def Po(ta tb:ah->M D)(ρ:ah):M D:=do
 let b<-fV (<-ta ρ)if b then tb ρ else pure (.bl RT)
def IY(h:DE X F a ta):DE X F (.BoolOp op [a] pos) ta:=⟨h.hK,H_ h.pe⟩
theorem IZ(ha:DE X F a ta)(hb:DE X F (.BoolOp .And (b::rest) pos) tb):DE X F (.BoolOp .And (a::b::rest) pos) (Po ta tb):=⟨ha.hK,(Ia ha.pe hb.pe).imp λp H Q g=>by
  obtain⟨l,k,S,h⟩:=g;refine dR.next S h λd m v o j n i f=>?_;obtain⟨c,rfl,f⟩:=fW.mp f;refine⟨c,i,?_⟩;cases c with
  |true=>exact⟨l,m,n,M.wk f λ_ _ z=>z.ext j⟩|false=>exact f _ o j (by simp only[Is])⟩
theorem I_(ha:DE X F a ta):DE X F (.UnaryOp .Not a pos) (λρ=>do let b<-fV (<-ta ρ);pure (.bl (!b))):=⟨ha.hK,(Ib ha.pe).imp λm H Q f=>by
  obtain⟨ρ,k,S,h⟩:=f;refine dR.next S h λd n v l j o i g=>?_;obtain⟨c,rfl,g⟩:=fW.mp g;exact⟨c,i,g _ l j (by simp only[Is])⟩⟩
structure Ac(X:Cx)(F:Fx)(e:Sj)(t:ah->M Bool):Prop where
 hK:X.K=F.K
 pw:PW X e (qQ F t)
def Ac.dt(h:Ac X F e t):DT X F e t:=⟨h.hK,h.pw.pt⟩
variable{tA tB:ah->M Bool}
noncomputable def Pp(ta tb:ah->M Bool)(ρ:ah):M Bool:=do
 let b<-ta ρ;if b then tb ρ else pure RT
noncomputable def Rm(ta tb:ah->M Bool)(ρ:ah):M Bool:=do
 let b<-ta ρ;if b then pure RQ else tb ρ
def EV(ha:DT X F a tA):Ac X F (.BoolOp .And [a] pos) tA:=⟨ha.hK,wH ha.pt⟩
def Ja(ha:DT X F a tA):Ac X F (.BoolOp .Or [a] pos) tA:=⟨ha.hK,HY ha.pt⟩
theorem Jb(ha:DT X F a tA)(hb:Ac X F (.BoolOp .And (b::rest) pos) tB):Ac X F (.BoolOp .And (a::b::rest) pos) (Pp tA tB):=⟨ha.hK,(Ah ha.pt hb.pw).imp λn H Q d=>by
  obtain⟨i,k,S,h⟩:=d;refine qQ.next S h λc j m g l f=>?_;cases c with
  |true=>exact⟨i,j,l,M.wk f λ_ _ z=>z.ext g⟩|false=>exact f m g⟩
theorem Mp(ha:DT X F a tA)(hb:Ac X F (.BoolOp .Or (b::rest) pos) tB):Ac X F (.BoolOp .Or (a::b::rest) pos) (Rm tA tB):=⟨ha.hK,(LJ ha.pt hb.pw).imp λn H Q d=>by
  obtain⟨i,k,S,h⟩:=d;refine qQ.next S h λc j m g l f=>?_;cases c with
  |false=>exact⟨i,j,l,M.wk f λ_ _ z=>z.ext g⟩|true=>exact f m g⟩
def Jc(ha:DT X F a tA):DT X F (.UnaryOp .Not a pos) (λρ=>do let b<-tA ρ;pure (!b)):=⟨ha.hK,(HZ ha.pt).imp λj H Q d=>by
  obtain⟨ρ,k,S,h⟩:=d;refine qQ.next S h λc l i g m f=>?_;exact f i g⟩
noncomputable def Ro(t:ah->M Bool)(ta tb:ah->M D)(ρ:ah):M D:=do
 let b<-t ρ;if b then ta ρ else tb ρ
def Mq(n:DT X F c tA)(ha:DE X F a ta)(hb:DE X F b tb):DE X F (.IfExp c a b pos) (Ro tA ta tb):=⟨ha.hK,(Ai n.pt ha.pe hb.pe).imp λo H Q f=>by
  obtain⟨g,k,S,h⟩:=f;refine qQ.next S h λd i p l m j=>?_;cases d with
  |true=>exact⟨g,i,m,M.wk j λ_ _ z=>z.ext l⟩|false=>exact⟨g,i,m,M.wk j λ_ _ z=>z.ext l⟩⟩
variable{tas:ah->M (List A)}
def Jd(hK:X.K=F.K:=by rfl):DA X F [] (λ_=>pure []):=⟨hK,dQ.imp λd H Q⟨f,k,S,h⟩=>h [] H .refl .nil⟩
def EW(ha:DE X F e ta)(n:DA X F es tas)(hs:Sq (e::es) X.env=(RT,Ux e X.env)::Sq es X.env:=by rfl):DA X F (e::es) (λρ=>do let d<-ta ρ;let r<-tas ρ;pure (.d d::r)):=⟨ha.hK,(bz ha.pe n.pa hs).imp λt H Q f=>by
  obtain⟨ρ,k,S,h⟩:=f;refine dR.next S h λd w v z q s m p=>?_;refine sX.next s p λx j u i g y l o=>?_;exact o _ i (q.trans g) ((show Lr F.toFb i j v (.d d)from m.mono g.kp)∘l)⟩
def EX(i:Nat){x:Sy}{pos:Uq}(g:DA X F es tas)(hN:X.N[i]?=RM x:=by rfl)(p:wG X.env.scope x:=by first|exact WS rfl|exact XY (WS rfl)|exact XY (XY rfl))(hd:(x==("__debug__":Sy))=RT:=by decide)(f:(x==("__classdict__":Sy))=RT:=by decide)(hs:Sq (.Name x pos::es) X.env=(RT,Ux (.Name x pos) X.env)::Sq es X.env:=by rfl):DA X F (.Name x pos::es) (λρ=>do M.need (ρ[i]?=RM (RM .feed));let r<-tas ρ;pure (.feed::r)):=⟨g.hK,(bz (fj hN p hd f) g.pa hs).imp λt H Q d=>by
  obtain⟨ρ,k,S,h⟩:=d;obtain⟨v,q,j⟩:=S.at_ i _ h.1;refine⟨v,q,?_⟩;refine sX.next S h.2 λw n u m l y o s=>?_;exact s _ m l ((show Lr F.toFb m n v .feed from⟨j.1,l.feed j.2⟩)∘o)⟩
noncomputable def iX:List A->M (List D)
 |[]=>pure []|.d x::r=>do let f<-iX r;pure (x::f)|.feed::_=>M.fail
theorem cw:∀{as:List A}{k Q E},(iX as).run k Q E->∃ds,as=ds.map A.d/\Q ds k
 |[],_,_,_,h=>⟨[],rfl,h⟩|.d x::r,k,Q,E,h=>by
  obtain⟨ds,e,q⟩:=cw (as:=r) h;exact⟨x::ds,by rw[e];rfl,q⟩|.feed::_,_,_,_,h=>h.elim
theorem cy:∀{vs:List V}{ds:List D},vt B H k vs (ds.map A.d)->ag B H vs ds
 |_,[],h=>by cases h;exact .nil|_,d::ds,h=>by cases h with|cons r t=>exact .cons r (cy t)
def Je(h:DA X F es tas):DE X F (.Tuple es x1 pos) (λρ=>do let ds<-iX (<-tas ρ);M.need (ds.length<=R1);pure (.tup ds)):=⟨h.hK,(Iq h.pa).imp λp H Q f=>by
  obtain⟨ρ,k,S,h⟩:=f;refine sX.next S h λas l j q n o d m=>?_;obtain⟨ds,rfl,i⟩:=cw m;have d:=cy d;refine⟨by rw[d.length];exact i.1,λt g=>i.2 _ _ (n.trans (.new g)) ?_⟩;exact⟨t,j,rfl,⟨iV o.live g,.of aq⟩,d.mono (Ext.new (k:=l) g).kp⟩⟩
end
end L2
end
section
namespace L2
open PySem PySem.Spec PySem.W PyProof.Rows SortM
section
variable{σ:St}
theorem mW:∀{a:List (Key×V)}{vs:List (Key×RR)}{f:List WI}{prog:Sf}{w:Sx},KV a vs->Pairs (aw prog w) f vs->ax (a.map λg=>kV g.1) (f.map (·.key))
 |_,_,_,_,_,.nil,.nil=>.nil|_,_,_,_,_,.cons ⟨e,_⟩ t,.cons h _ r=>by
  refine .cons ?_ (mW t r);dsimp only;rw[e];obtain⟨i,b,d,c⟩|⟨x,b,d,c⟩:=aV h;.rw[d,c];exact⟨b,rfl⟩
  .rw[d,c];exact⟨b,rfl⟩
def Inv.freeze(I:Inv X pins σ H s)(hu:H a=RM u)(k:s.heap.get? a=RM o)(nt:∀xs,u≠.tup xs)(g:∀b v,u≠.cz b v)(h:∀ps,u≠.Aa ps)(no:∀x,u≠.own x):Inv X pins σ (upd H a (.cz o u)) s:=by
 have ne:∀{b:RW},H b=RP->b≠a:=λ{b}n z=>by rw[z,hu]at n;cases n
 have tp:∀b xs,H b=RM (.tup xs)->(upd H a (.cz o u)) b=RM (.tup xs):=λb xs e=>by rw[ar (λz=>by rw[z,hu]at e;cases e;exact nt _ rfl)];exact e
 have f:∀b x,H b=RM (.own x)->(upd H a (.cz o u)) b=RM (.own x):=λb x e=>by rw[ar (λz=>by rw[z,hu]at e;cases e;exact no _ rfl)];exact e
 refine⟨I.ok,I.os,I.bare,⟨I.base.keep,I.base.slot,λb ob e n i=>?_,I.base.there,λb xs e=>tp b xs (I.base.jt b xs e),λb ob v e=>?_,λb ps e=>?_⟩,I.loc,I.cell,?_,λx c e=>?_,λp j=>?_,λb v e=>?_,I.len⟩
 .have:=I.base.free b ob e n i;rw[ar (ne this)];exact this
 .have q:=I.base.iR b ob v e;rw[ar (λz=>by rw[z,hu]at q;cases q;exact g _ _ rfl)];exact q
 .obtain⟨d,q⟩:=I.base.ju b ps e;exact⟨d,by rw[ar (λz=>by rw[z,hu]at q;cases q;exact h _ rfl)];exact q⟩
 .rw[ar (ne I.free)];exact I.free
 .rw[ar (ne (I.dk x c e))];exact I.dk x c e
 .obtain⟨e,n,r⟩:=I.pin p j;exact⟨e,by rw[ar (ne n)];exact n,r⟩
 .by_cases hb:b=a
  .subst hb;rw[aq]at e;cases e;exact⟨k,(I.aM b u hu).fN (λ_ _ _ q=>q) (λc q=>f c _ q) tp⟩
  .rw[ar hb]at e;exact(I.aM b v e).fN (λ_ _ _ q=>q) (λc q=>f c _ q) tp
end
section
variable{X:Cx}{F:Fx}{a b c e:Sj}{es rest:List Sj}{pos:Uq}{ta tb tc:ah->M D}{tas:ah->M (List A)}
def A_(h:PE X e t):PE X e (λσ H Q=>t σ H λv g=>∃a xs,v=.ref a/\g a=RM (.lst xs)/\∀o,Q v (upd g a (.cz o (.lst xs)))):=by
 intro d s σ H Q I q;refine bE (h d s σ H _ I q) λu m f=>?_;obtain⟨v,g,i,r,a,xs,e,ha,j⟩:=f;obtain⟨_,k,n,p,l⟩:=i.aM a _ ha;exact⟨v,_,i.freeze ha l '3' (λ_ _ z=>nomatch z) '3' '3',r,j _⟩
def dq{k:Nat}(lv:H B.p≠RP)(d:H l=RP)(i:ag B H vs ds):Is B (upd H l (.cz o (.lst vs))) (.ref l) (.lst ds):=by
 exact⟨l,vs,rfl,⟨iV lv d,⟨o,aq⟩⟩,i.mono (Ext.new (k:=k) d).kp⟩
def iY{k:Nat}(lv:H B.p≠RP)(d:H l=RP)(i:ag B H vs ds):Is B (upd H l (.tup vs)) (.ref l) (.tup ds):=by
 exact⟨l,vs,rfl,⟨iV lv d,.of aq⟩,i.mono (Ext.new (k:=k) d).kp⟩
def Jf(h:DA X F es tas):DE X F (.List es pos) (λρ=>do let ds<-iX (<-tas ρ);M.need (ds.length<=R1);pure (.lst ds)):=⟨h.hK,(A_ (u9 h.pa)).imp λq H Q f=>by
  obtain⟨ρ,k,S,h⟩:=f;refine sX.next S h λas l j r n p d m=>?_;obtain⟨ds,rfl,i⟩:=cw m;have d:=cy d;refine⟨by rw[d.length];exact i.1,λt g=>⟨t,j,rfl,aq,λo=>?_⟩⟩;rw[bZ];exact i.2 _ _ (n.trans (.new g)) (dq (k:=l) p.live g d)⟩
noncomputable def items:D->Option (List D)
 |.tup d=>RM d|.lst d=>RM d|_=>RP
def Ba(h:ag B H vs ds)(e:fL ds i=RM d):∃v,fL vs i=RM v/\Is B H v d:=by
 unfold fL at e⊢;rw[h.length];cases q:D2 ds.length i with
 |none=>rw[q]at e;cases e|some j=>
  rw[q]at e;exact h.get e
noncomputable def Mr(x:Sy)(i:Int):Option D:=(fL x.cps.toList i).map λc=>.str ⟨#[c]⟩
noncomputable def QL:D->D->M D:=λd e=>do
 let i<-gD e;match d with
 |.tup f=>M.get (fL f i)|.lst f=>M.get (fL f i)|.str x=>do M.need (x.length<=R1);M.get (Mr x i)|_=>M.fail
structure OC(X:Cx)(F:Fx)(m:D->D->M D):Prop where ix:X.K=F.K->D3 X (Mi F m)
theorem EY:OC X F QL:=⟨λhK g j n s J H x y v u Q I N L h P=>by
 refine Iy g j n s J H x y v u Q I N L ?_ P;obtain⟨k,d,e,l,m,p,q⟩:=h;obtain⟨i,rfl,q⟩:=bh.mp q;cases d with
 |tup K=>
  obtain⟨z,f,o⟩:=M.run_get.mp q;obtain⟨a,r,G,E,C⟩:=m;obtain⟨w,B,t⟩:=Ba C f;exact .inr (.inl ⟨a,r,i,w,G,p,by rw[hK];exact E.2,B,o w H .refl t⟩)|lst K=>
  obtain⟨z,f,o⟩:=M.run_get.mp q;obtain⟨a,r,G,E,C⟩:=m;obtain⟨w,B,t⟩:=Ba C f;exact .inl ⟨a,r,i,w,G,p,by rw[hK];exact E.2.sq,B,o w H .refl t⟩|str x=>
  obtain⟨O,q⟩:=q;obtain⟨z,f,o⟩:=M.run_get.mp q;unfold Mr at f;cases q:fL x.cps.toList i with
  |none=>rw[q]at f;cases f|some c=>
   rw[q]at f;cases f;exact .inr (.inr ⟨x,i,c,m,p,O,q,o _ H .refl (by simp only[Is])⟩)
 |_=>exact q.elim⟩
def Ms{m:D->D->M D}(f:OC X F m)(ha:DE X F a ta)(hb:DE X F b tb)(hs:qG b:=by intro _ _;rfl):DE X F (.Subscript a b pos) (λρ=>do let d<-ta ρ;let e<-tb ρ;m d e):=⟨ha.hK,(iC (f.ix ha.hK) ha.pe hb.pe hs).imp λg H Q h=>xp h⟩
structure aX(X:Cx)(F:Fx)(f:RR)(m:List D->M D):Prop where
 call:∀(pins:List (RW×Tn))(s:RU)(σ:St)(H:Hp)(k:Nat)(xs:List V)(us:List RR)(ds:List D)(Q:VK),Inv X pins σ H s->ax xs us->H F.p≠RP->X.K=F.K->ag F.toFb H xs ds->(m ds).run k (qE F.toFb H k Q) F.E->wpAny (Sb X.prog X.w) X.A (WD f us) (EP X pins σ Q) X.xe s
def G_(F:Fx)(m:List D->M D):List V->Hp->VK->Prop:=λf H Q=>∃k d,H F.p≠RP/\ag F.toFb H f d/\(m d).run k (qE F.toFb H k Q) F.E
def aX.Ha(h:aX X F f m)(hK:X.K=F.K):dH X f (G_ F m):=λd s g H j n Q I r⟨k,o,l,i,q⟩=>h.call d s g H k j n o Q I r l hK i q
def aX.of{m:List D->M D}(h:dH X f r)(q:X.K=F.K->∀H k xs ds Q,H F.p≠RP->ag F.toFb H xs ds->(m ds).run k (qE F.toFb H k Q) F.E->r xs H Q):aX X F f m:=⟨λd s g H k xs j ds Q I n l hK i z=>h d s g H xs j Q I n (q hK H k xs ds Q l i z)⟩
def xt{m}(h:dR F (λρ=>do m (<-iX (<-tas ρ))) σ H Q):Pa (G_ F m) (sX F tas) σ H Q:=by
 obtain⟨ρ,k,S,h⟩:=h;refine sX.next S h λas d o p j n f i=>?_;obtain⟨l,rfl,g⟩:=cw i;exact⟨d,l,n.live,cy f,M.wk g λ_ _ z=>z.ext j⟩
def Bb{id:String}{x:Sy}{m:List D->M D}{p:Uq}(n:aX X F (.builtin id) m)(j:X.mg x=RP)(g:Uh x=RM (.builtin id))(ha:DA X F (e::es) tas)(k:Gl X x:=by rfl)(i:x≠"__name__":=by decide)(f:(x==("__debug__":Sy))=RT:=by decide)(l:Sq (e::es) X.env=(RT,Ux e X.env)::Sq es X.env:=by rfl)(d:(UP pos (Sq es X.env)).any (·.1)=RT:=by rfl):DE X F (.Call (.Name x p) (e::es) [] pos) (λρ=>do m (<-iX (<-tas ρ))):=⟨ha.hK,(eA (n.Ha ha.hK) k j g ha.pa i f l d).imp λo H Q h=>xt h⟩
def zr{T:String}{x:Sy}{m:List D->M D}{p:Uq}(n:aX X F (.type T) m)(j:X.mg x=RP)(g:Uh x=RM (.type T))(ha:DA X F (e::es) tas)(k:Gl X x:=by rfl)(i:x≠"__name__":=by decide)(f:(x==("__debug__":Sy))=RT:=by decide)(l:Sq (e::es) X.env=(RT,Ux e X.env)::Sq es X.env:=by rfl)(d:(UP pos (Sq es X.env)).any (·.1)=RT:=by rfl):DE X F (.Call (.Name x p) (e::es) [] pos) (λρ=>do m (<-iX (<-tas ρ))):=⟨ha.hK,(pB (n.Ha ha.hK) k j g ha.pa i f l d).imp λo H Q h=>xt h⟩
noncomputable def one(f:D->M D):List D->M D
 |[d]=>f d|_=>M.fail
noncomputable def two(f:D->D->M D):List D->M D
 |[d,e]=>f d e|_=>M.fail
def cJ(h:(one f ds).run k Q E):∃d,ds=[d]/\(f d).run k Q E:=by match ds,h with|[d],h=>exact⟨d,rfl,h⟩
def xu(h:(two f ds).run k Q E):∃d e,ds=[d,e]/\(f d e).run k Q E:=by match ds,h with|[d,e],h=>exact⟨d,e,rfl,h⟩
def ag.one(h:ag B H vs [d]):∃v,vs=[v]/\Is B H v d:=by
 simp only[ag]at h;obtain⟨x,g,rfl,f,rfl⟩:=h;exact⟨x,rfl,f⟩
def ag.two{d e}(h:ag B H vs [d,e]):∃v u,vs=[v,u]/\Is B H v d/\Is B H u e:=by
 obtain⟨x,j,rfl,g,y,i,rfl,f,rfl⟩:=h;exact⟨x,y,rfl,g,f⟩
noncomputable def Pq(d:D):M D:=match d with
 |.tup f=>pure (.int f.length)|.lst f=>pure (.int f.length)|.str x=>do M.need (x.length<=R1);pure (.int x.length)|_=>M.fail
theorem Bc:aX X F (.builtin "len") (one Pq):=.of Av λhK H k j o Q l n m=>by
 obtain⟨d,rfl,q⟩:=cJ m;obtain⟨v,rfl,i⟩:=n.one;cases d with
 |tup j=>
  obtain⟨a,f,rfl,h,g⟩:=i;exact⟨_,f.length,rfl,.inr ⟨f,by rw[hK];exact h.2,rfl⟩,q _ H .refl (by simp only[Is];rw[g.length])⟩|lst j=>
  obtain⟨a,f,rfl,h,g⟩:=i;exact⟨_,f.length,rfl,.inl ⟨f,by rw[hK];exact h.2.sq,rfl⟩,q _ H .refl (by simp only[Is];rw[g.length])⟩|str x=>
  subst i;exact⟨_,x.length,rfl,⟨q.1,rfl⟩,q.2 _ H .refl (by simp only[Is])⟩|_=>exact q.elim
theorem EZ(n:X.calm=RQ):aX X F (.builtin "max") (two (G9 λi j=>.int (if j>i then j else i))):=.of (yV n) λhK H k o p Q l m h=>by
 obtain⟨d,e,rfl,q⟩:=xu h;obtain⟨v,u,rfl,g,f⟩:=m.two;obtain⟨i,rfl,q⟩:=bh.mp q;obtain⟨j,rfl,q⟩:=bh.mp q;subst g f;exact⟨i,j,rfl,q _ H .refl (by simp only[Is])⟩
theorem E3(n:X.calm=RQ):aX X F (.builtin "min") (two (G9 λi j=>.int (if j<i then j else i))):=.of (yW n) λhK H k o p Q l m h=>by
 obtain⟨d,e,rfl,q⟩:=xu h;obtain⟨v,u,rfl,g,f⟩:=m.two;obtain⟨i,rfl,q⟩:=bh.mp q;obtain⟨j,rfl,q⟩:=bh.mp q;subst g f;exact⟨i,j,rfl,q _ H .refl (by simp only[Is])⟩
noncomputable def Pu:D->M D
 |.int i=>pure (.int i)|.bl b=>pure (.int (if b then 1 else 0))|_=>M.fail
theorem Jg:aX X F (.type "int") (one Pu):=.of yX λhK H k h m Q l g f=>by
 obtain⟨d,rfl,q⟩:=cJ f;obtain⟨v,rfl,i⟩:=g.one;cases d with
 |int j=>subst i;exact .inl ⟨j,rfl,q _ H .refl (by simp only[Is])⟩|bl b=>subst i;exact .inr ⟨b,rfl,q _ H .refl (by simp only[Is])⟩|_=>exact q.elim
noncomputable def Mt:D->M D
 |.int i=>do M.need (i.natAbs.log2<1920);pure (.str (toString i))|_=>M.fail
def Jh:aX X F (.type "str") (one Mt):=.of qD λhK H k h m Q l g f=>by
 obtain⟨d,rfl,q⟩:=cJ f;obtain⟨v,rfl,i⟩:=g.one;cases d with
 |int j=>subst i;exact⟨j,rfl,q.1,q.2 _ H .refl (by simp only[Is])⟩|_=>exact q.elim
theorem Bd:aX X F (.type "tuple") (one λd=>do pure (.tup (<-M.get (items d)))):=.of oR λhK H k p o Q l n m=>by
 obtain⟨d,rfl,q⟩:=cJ m;obtain⟨v,rfl,i⟩:=n.one;obtain⟨o,e,q⟩:=M.run_get.mp q;cases d<;>first|cases e|skip
 .obtain⟨a,f,rfl,g,h⟩:=i;exact⟨a,f,rfl,.inr ⟨by rw[hK];exact g.2,q _ H .refl (by exact⟨a,f,rfl,g,h⟩)⟩⟩
 .obtain⟨a,f,rfl,g,h⟩:=i;exact⟨a,f,rfl,.inl ⟨by rw[hK];exact g.2.sq,λt j=>q _ _ (.new j) (iY (k:=k) l j h)⟩⟩
theorem iZ:∀{bs:List Bool}{us:List RR},ax (bs.map V.bl) us->LSm.BoolsAre us bs
 |[],_,.nil=>.nil|b::bs,_,.cons r t=>by
  cases r;exact .cons _ (iZ t)
theorem Be(w:X.calm=RQ):dH X (.builtin "all") (λxs H Q=>∃(a:RW)(bs:List Bool),xs=[.ref a]/\dZ X.K H a (bs.map V.bl)/\Q (.bl (bs.all id)) H):=by
 intro j s x H xs y Q I r h;obtain⟨a,bs,rfl,o,q⟩:=h;obtain⟨u,rfl,l⟩:=vals1 r;cases l;obtain⟨d,m,n,C⟩:=I.list o;have hb:=iZ m;have g:=n.isList;have f:a<s⁻¹:=by obtain⟨_,e,_⟩:=g;exact Sa e
 have t:=I.ok.hd w;refine call_all_walk (V1 g ?_);refine⟨s⁻¹,[s⁻¹,a],[s⁻¹],d.toArray.size,_,_,λi=>(bs[i]?).getD RQ,rfl,aa6 (A:=X.A.in1) t _ a (SD f) d.toArray,⟨⟨_,Sl _ rfl,rfl,rfl⟩,g.push _⟩,λi v B G J hP k=>?_,λE z p=>?_⟩
 .obtain⟨b,e,rfl⟩:=hb.get i v (by simpa using hP);simp only[e]at k;exact T9 k
 .have e:((SQ d.toArray.size).all λi=>(bs[i]?).getD RQ)=bs.all id:=by rw[Se,hb.length];exact LSm.range_all bs
  rw[e];exact⟨.bl _,H,I.kept (LSm.kept_iter p),rfl,q⟩
theorem Bf(w:X.calm=RQ):dH X (.builtin "any") (λxs H Q=>∃(a:RW)(bs:List Bool),xs=[.ref a]/\dZ X.K H a (bs.map V.bl)/\Q (.bl (bs.any id)) H):=by
 intro j s x H xs y Q I r h;obtain⟨a,bs,rfl,o,q⟩:=h;obtain⟨u,rfl,l⟩:=vals1 r;cases l;obtain⟨d,m,n,C⟩:=I.list o;have hb:=iZ m;have g:=n.isList;have f:a<s⁻¹:=by obtain⟨_,e,_⟩:=g;exact Sa e
 have t:=I.ok.hd w;refine call_any_walk (V1 g ?_);refine⟨s⁻¹,[s⁻¹,a],[s⁻¹],d.toArray.size,_,_,λi=>(bs[i]?).getD RT,rfl,aa6 (A:=X.A.in1) t _ a (SD f) d.toArray,⟨⟨_,Sl _ rfl,rfl,rfl⟩,g.push _⟩,λi v B G J hP k=>?_,λE z p=>?_⟩
 .obtain⟨b,e,rfl⟩:=hb.get i v (by simpa using hP);simp only[e]at k;exact T9 k
 .have e:((SQ d.toArray.size).any λi=>(bs[i]?).getD RT)=bs.any id:=by rw[Se,hb.length];exact LSm.range_any bs
  rw[e];exact⟨.bl _,H,I.kept (LSm.kept_iter p),rfl,q⟩
noncomputable def bools:List D->Option (List Bool)
 |[]=>RM []|.bl b::r=>(bools r).map (b::·)|_=>RP
theorem mX:∀{ds:List D}{vs:List V}{bs:List Bool},ag B H vs ds->bools ds=RM bs->vs=bs.map V.bl
 |[],_,bs,h,e=>by simp only[ag]at h;cases e;exact h|d::ds,vs,bs,h,e=>by
  simp only[ag]at h;obtain⟨x,j,rfl,f,g⟩:=h;cases d with
  |bl b=>
   simp only[bools,WZ]at e;obtain⟨cs,i,rfl⟩:=e;simp only[Is]at f;rw[f,mX g i];rfl|_=>cases e
noncomputable def Pw(d:D):M D:=match d with
 |.lst f=>do let bs<-M.get (bools f);pure (.bl (bs.all id))|_=>M.fail
noncomputable def Px(d:D):M D:=match d with
 |.lst f=>do let bs<-M.get (bools f);pure (.bl (bs.any id))|_=>M.fail
theorem Ji(m:X.calm=RQ):aX X F (.builtin "all") (one Pw):=.of (Be m) λhK H k f r Q l h g=>by
 obtain⟨d,rfl,q⟩:=cJ g;obtain⟨v,rfl,i⟩:=h.one;cases d with
 |lst f=>
  obtain⟨bs,e,q⟩:=M.run_get.mp q;simp only[Is]at i;obtain⟨a,p,rfl,o,n⟩:=i;have j:=mX n e;subst j;exact⟨a,bs,rfl,by rw[hK];exact o.2.sq,q _ H .refl (by simp only[Is])⟩|_=>exact q.elim
theorem Jj(m:X.calm=RQ):aX X F (.builtin "any") (one Px):=.of (Bf m) λhK H k f r Q l h g=>by
 obtain⟨d,rfl,q⟩:=cJ g;obtain⟨v,rfl,i⟩:=h.one;cases d with
 |lst f=>
  obtain⟨bs,e,q⟩:=M.run_get.mp q;simp only[Is]at i;obtain⟨a,p,rfl,o,n⟩:=i;have j:=mX n e;subst j;exact⟨a,bs,rfl,by rw[hK];exact o.2.sq,q _ H .refl (by simp only[Is])⟩|_=>exact q.elim
noncomputable def Jk:D->Option String
 |.br=>RM "NoneType"|.bl _=>RM "bool"|.int _=>RM "int"|.str _=>RM "str"|.tup _=>RM "tuple"|.lst _=>RM "list"|.aO _ _=>RP|.exc _ _=>RP|.aJ _=>RP
theorem Bg{σ:St}{Q}{A}{c}{b}(I:Inv X pins σ H s)(r:RelV v u)(hK:X.K=F.K)(i:Is F.toFb H v d)(f:Jk d=RM t)(e:TZ X.K (.type t) c=RM b)(h:∀q,Q (.bool b) {s with toks:=q}):wpAny (Sb X.prog X.w) A (WD (.builtin "isinstance") [u,c]) Q E s:=by cases d with
 |br=>cases f;subst i;exact hG I r .br e h|bl y=>cases f;subst i;exact hG I r (.bl _) e h|int y=>cases f;subst i;exact hG I r (.int _) e h|str y=>cases f;subst i;exact hG I r (.str _) e h|tup m=>
  cases f;obtain⟨a,p,rfl,k,C⟩:=i;cases(show u=Sm a from r);obtain⟨g,x,⟨o,l,j,_⟩,_⟩:=I.tuple (by rw[hK];exact k.2);exact TC Z9 I.kf ⟨o,l,j⟩ e '4' h|lst m=>
  cases f;obtain⟨a,p,rfl,k,C⟩:=i;cases(show u=Sm a from r);obtain⟨g,x,B,_⟩:=I.list (by rw[hK];exact k.2.sq);obtain⟨o,n,l,j,_⟩:=B;exact TC Yf I.kf ⟨o,l,j⟩ e '4' h|aO ks p=>cases f|exc c G=>cases f|aJ m=>cases f
end
noncomputable def gE(N:List Sy)(as:List A):ah:=as.map (λa=>RM a.w)++Tu (N.length-as.length) RP
def Mu(Q:D->Nat->Prop)(a:Fl)(k:Nat):Prop:=match a with
 |.rt d=>Q d k|.nx _=>Q .br k|_=>False
noncomputable def cZ(P:Sf)(w:Sx)(K:R0)(n:Nat)(m:List A->M D):Sp:=λa H Q _=>∃p k as,H p≠RP/\vt ⟨K,p,P,w⟩ H k a as/\as.length=n/\(m as).run k (qE ⟨K,p,P,w⟩ H k Q) (λ_ _=>False)
section
variable{w:Sx}
theorem Paired.Mw:∀{l:List b}{r:List a},Paired R l r->∀{i:Nat}{y:a},r[i]?=RM y->∃x,l[i]?=RM x/\R x y
 |_,_,.nil,i,y,e=>by simp at e|_,_,.cons h t,0,y,e=>by simp at e;subst e;exact⟨_,rfl,h⟩|_,_,.cons h t,i+1,y,e=>by simpa using Paired.Mw t (i:=i) (by simpa using e)
def zt(lv:H B.p≠RP)(i:vt B H k vs as):cY ⟨B,H,k,E,H,k⟩ (gE N as) k (start N vs) H:=by
 have l:=Paired.length i;refine⟨by simp[gE,start,l],λj d e=>?_,λi j d e v h b f g m=>?_,lv,.refl,.refl⟩
 .unfold gE at e;by_cases c:j<as.length
  .rw[TB (by simpa using c),Sn]at e;cases ea:as[j]? with
   |none=>rw[ea]at e;cases e|some a=>
    rw[ea]at e;cases e;obtain⟨v,b,f⟩:=Paired.Mw i ea;refine⟨v,?_,Lr.w f⟩;unfold start;rw[TB (by simp;omega),Sn,b];rfl
  .rw[SY (by simpa using c),U4]at e;split at e<;>cases e
 .exfalso;unfold gE at b;by_cases c:i<as.length
  .rw[TB (by simpa using c),Sn]at b;cases ea:as[i]? with
   |none=>rw[ea]at b;cases b|some a=>
    rw[ea]at b;cases b;cases a<;>cases g
  .rw[SY (by simpa using c),U4]at b;split at b<;>cases b
end
section
variable{F:Fx}{ρ:ah}{σ:St}{H H':Hp}{k k':Nat}
set_option tactic.hygienic true in
def cY.set(S:cY F ρ k σ H)(i:Nat)(h:Is F.toFb H v d):cY F (ρ.set i ⇑d) k (σ.set i (RM v)) H where
 len:=by simp[S.len]
 at_:=λj x e=>by
  rw[Ub]at e⊢;by_cases o:i=j
  .subst o;rw[Ξ2 rfl]at e⊢;split at e
   .rename_i p;cases e;rw[Ξ2 (by rw[<-S.len];exact p)];exact⟨v,rfl,h⟩
   .cases e
  .rw[Ξ3 o]at e⊢;exact S.at_ j x e
 apart:=λn m x y u f b a l g c=>by
  rw[Ub]at b a c⊢;have n1:i≠n:=by
   rintro rfl;rw[Ξ2 rfl]at b;split at b;.cases b;cases l
   .cases b
  have n2:i≠m:=by
   rintro rfl;rw[Ξ2 rfl]at a;split at a;.cases a;cases g
   .cases a
  rw[Ξ3 n1]at b c;rw[Ξ3 n2]at a⊢;exact S.apart n m x y u f b a l g c
 live:=S.live;ext:=S.ext;lR:=S.lR
end
noncomputable def Lu(F:Fx)(t:D->ah->M ah):TG:=λv g H Q=>∃e k d,cY F e k g H/\Is F.toFb H v d/\(t d e).run k (λb f=>∀a c,Ext F.toFb H k c f->cY F b f a c->Q a c) F.E
noncomputable def Py(F:Fx)(t:List D->ah->M ah):D_:=λh g H Q=>∃d k f,cY F d k g H/\ag F.toFb H h f/\(t f d).run k (λb e=>∀a c,Ext F.toFb H k c e->cY F b e a c->Q a c) F.E
structure DG(X:Cx)(F:Fx)(tg:Sj)(t:D->ah->M ah):Prop where
 hK:X.K=F.K
 pg:PG X tg (Lu F t)
structure Hb(X:Cx)(F:Fx)(tgs:List Sj)(t:List D->ah->M ah):Prop where
 hK:X.K=F.K
 pg:G2 X tgs (Py F t)
section
variable{X:Cx}{F:Fx}{a b c e tg:Sj}{es tgs:List Sj}{pos:Uq}{ta tb tc:ah->M D}{tas:ah->M (List A)}{g:D->ah->M ah}{gs:List D->ah->M ah}
def PG.imp{t t'}(h:PG X tg t)(q:∀v σ H Q,t' v σ H Q->t v σ H Q):PG X tg t':=λd s σ H v u Q I r z=>h d s σ H v u Q I r (q v σ H Q z)
def G2.imp{t t'}(h:G2 X tgs t)(q:∀v σ H Q,t' v σ H Q->t v σ H Q):G2 X tgs t':=λd s σ H v u Q I r z=>h d s σ H v u Q I r (q v σ H Q z)
noncomputable def gN(i:Nat)(d:D)(ρ:ah):M ah:=pure (ρ.set i ⇑d)
def E4(i:Nat){x:Sy}{pos:Uq}(hN:X.N.Nodup)(l:X.N[i]?=RM x:=by rfl)(j:Loc X.env.scope x:=by first|exact WS rfl|exact XY rfl)(m:X.fn x=RQ\/X.env.scope.names.lookup x=RM .local:=by first|exact WS rfl|exact XY rfl)(hK:X.K=F.K:=by rfl):DG X F (.Name x pos) (gN i):=⟨hK,(wJ (i:=i) hN l j m).imp λv n H Q⟨o,k,d,S,f,h⟩=>h _ H .refl (S.set i f)⟩
noncomputable def Mx:List D->ah->M ah
 |[],d=>pure d|_::_,_=>M.fail
noncomputable def Jl(g:D->ah->M ah)(gs:List D->ah->M ah):List D->ah->M ah
 |[],_=>M.fail|d::h,f=>do gs h (<-g d f)
def E5(hK:X.K=F.K:=by rfl):Hb X F [] Mx:=⟨hK,Ea.imp λv l H Q f=>by
 obtain⟨m,k,j,S,i,h⟩:=f;cases j with
 |nil=>simp only[ag]at i;exact⟨i,h l H .refl S⟩|cons d j=>exact h.elim⟩
def Bh(m:DG X F e g)(y:Hb X F es gs)(hs:(UD (e::es) X.env).map (·.2)=Yn e X.env::(UD es X.env).map (·.2):=by rfl):Hb X F (e::es) (Jl g gs):=by
 refine⟨m.hK,(Ak m.pg y.pg hs).imp λv I H Q⟨r,k,l,S,i,h⟩=>?_⟩;cases l with
 |nil=>exact h.elim|cons d l=>
  simp only[ag]at i;obtain⟨x,s,rfl,w,u⟩:=i;refine⟨x,s,rfl,r,k,d,S,w,M.wk h λj t q o K n E=>?_⟩;exact⟨j,t,l,E,u.mono n.kp,M.wk q λp J z f G B C=>z f G (n.trans B) C⟩
noncomputable def gT(n:Nat)(gs:List D->ah->M ah):D->ah->M ah
 |.tup d,f=>do M.need (d.length=n);gs d f|_,_=>M.fail
theorem Jm{n:Nat}{j:Nat}(s:X.calm=RQ)(h:Hb X F es gs)(r:(UD es X.env).length=n:=by rfl)(l:(UD es X.env).findIdx? (·.1)=RP:=by rfl):DG X F (.Tuple es j pos) (gT n gs):=⟨h.hK,(Ie s h.pg r l).imp λv w H Q f=>by
  obtain⟨p,k,d,S,i,m⟩:=f;cases d with
  |tup u=>
   simp only[Is]at i;obtain⟨a,q,rfl,t,o⟩:=i;exact⟨a,q,rfl,by rw[h.hK];exact t.2,by rw[o.length];exact m.1,p,k,u,S,o,m.2⟩|_=>exact m.elim⟩
def Jn(l:DE X F e ta)(p:DG X F tg g)(hs:Yo [tg] e pos.line X.env=pure RT:=by rfl)(hw:UU [tg] e X.env=pure RP:=by rfl)(j:(UD [tg] X.env).map (·.2)=[Yn tg X.env]:=by rfl):DS X F (.Assign [tg] e pos) (λρ=>do let d<-ta ρ;let ρ'<-g d ρ;pure (.nx ρ')):=⟨l.hK,(qC l.pe p.pg hs hw j).imp λZ x H i=>by
  obtain⟨ρ,k,S,h⟩:=i;refine dR.next S h λd n v z s u o j=>?_;exact⟨ρ,n,d,u,o,M.wk j λm y q f w r t=>q f w (s.trans r).kp t⟩⟩
def Bi(i:Nat){x:Sy}{f:Uq}(hN:X.N.Nodup)(l:DE X F e ta)(o:X.N[i]?=RM x:=by rfl)(n:Loc X.env.scope x:=by first|exact WS rfl|exact XY rfl)(hs:U2 e (RM (.Name x f)) pos.line X.env=pure RT:=by rfl)(p:X.fn x=RQ\/X.env.scope.names.lookup x=RM .local:=by first|exact .inl rfl|exact .inr rfl):DS X F (.Assign [.Name x f] e pos) (λρ=>do let d<-ta ρ;pure (.nx (ρ.set i ⇑d))):=⟨l.hK,(dP (i:=i) hN o n l.pe hs p).imp λZ u H j=>by
  obtain⟨ρ,k,S,h⟩:=j;refine dR.next S h λd w v t r s m q=>?_;exact q _ t r.kp (s.set i m)⟩
def Jo(i j:Nat)(J:X.calm=RQ)(hN:X.N.Nodup)(ha:DA X F [a,b] tas)(s:i≠j)(n:∀{ta:TA},PA X [a,b] ta->PS X (.Assign [.Tuple [.Name x p,.Name y o] kt pt] (.Tuple [a,b] k2 pt2) pos) (LQ i j ta)):DS X F (.Assign [.Tuple [.Name x p,.Name y o] kt pt] (.Tuple [a,b] k2 pt2) pos) (λρ=>do match<-iX (<-tas ρ)with
   |[d,e]=>pure (.nx ((ρ.set i ⇑d).set j ⇑e))|_=>M.fail):=⟨ha.hK,(n ha.pa).imp λZ E H l=>by
  obtain⟨ρ,k,S,h⟩:=l;refine sX.next S h λas I G C w B m t=>?_;obtain⟨z,rfl,f⟩:=cw t;match z,f,m with
  |[d,e],f,m=>
   obtain⟨v,u,rfl,r,q⟩:=(cy m).two;exact⟨v,u,rfl,f _ C w.kp ((B.set i r).set j q)⟩|[],f,_=>exact f.elim|[_],f,_=>exact f.elim|_::_::_::_,f,_=>exact f.elim⟩
def E6(i:DE X F e ta)(hs:U2 e RP pos.line X.env=pure RT:=by rfl):DS X F (.Expr e pos) (λρ=>do let _<-ta ρ;pure (.nx ρ)):=⟨i.hK,(qB i.pe hs).imp λZ j H f=>by
  obtain⟨ρ,k,S,h⟩:=f;refine dR.next S h λd p v o m n q l=>?_;exact l j o m.kp n⟩
def Jp(i:DE X F e ta):DS X F (.Return (RM e) pos) (λρ=>do let d<-ta ρ;pure (.rt d)):=⟨i.hK,(mw i.pe).imp λZ o H f=>by
  obtain⟨ρ,k,S,h⟩:=f;refine dR.next S h λd p v n q m j l=>?_;exact l v n m.ext j⟩
variable{st:UL}{sts sts':List UL}{t u:ah->M Fl}{tA:ah->M Bool}
noncomputable def Pz(t u:ah->M Fl)(ρ:ah):M Fl:=do match<-t ρ with
 |.nx d=>u d|f=>pure f
def E7(hK:X.K=F.K:=by rfl):zq X F [] (λρ=>pure (.nx ρ)):=⟨hK,lL.imp λZ d H⟨ρ,k,S,h⟩=>h d H .refl S⟩
def Bj(j:DS X F st t)(o:zq X F sts u):zq X F (st::sts) (Pz t u):=⟨j.hK,(bG j.ps o.ps).imp λZ w H i=>by
  obtain⟨m,k,S,h⟩:=i;refine⟨m,k,S,M.wk h λr n q=>?_⟩;cases r with
  |nx f=>exactλl y s v=>⟨f,n,v,M.wk q λp x z=>z.mono s⟩|rt d=>exact q|bk f=>exact q|ct f=>exact q⟩
def My(i:DT X F m tA)(ha:zq X F sts t)(hb:zq X F sts' u):DS X F (.If m sts sts' pos) (λρ=>do let b<-tA ρ;if b then t ρ else u ρ):=⟨i.hK,(wI i.pt ha.ps hb.ps).imp λZ q H d=>by
  obtain⟨ρ,k,S,h⟩:=d;refine qQ.next S h λb f r l n j=>?_;cases b with
  |true=>exact⟨ρ,f,n,M.wk j λp o z=>z.mono l.kp⟩|false=>exact⟨ρ,f,n,M.wk j λp o z=>z.mono l.kp⟩⟩
structure vw(F:Fb)(J:It)(ds:List D)(H0:Hp)(k0:Nat):Prop where
 step:∀(i:Nat)(d:D)(H:Hp)(k:Nat),ds[i]?=RM d->Kp F H0 k0 H k->H F.p≠RP->J.go i H/\∀x H',J.Oz i H x H'->Ext F H k H' k/\Is F H' x d
 stop:∀(H:Hp)(k:Nat),Kp F H0 k0 H k->H F.p≠RP->J.stop ds.length H
 len:ds.length<=R1
noncomputable def OD(F:Fx)(t:ah->M (List D)):TI:=λi H R=>∃f k,cY F f k i H/\(t f).run k (λj h=>∀J d,Ext F.toFb H k d h->vw F.toFb J j d h->R J d) F.E
structure DI(X:Cx)(F:Fx)(tg iter:Sj)(t:ah->M (List D)):Prop where
 hK:X.K=F.K
 pi:PI X tg iter (OD F t)
noncomputable def zu(g:D->ah->M ah)(body:ah->M Fl):List D->ah->M Fl
 |[],i=>pure (.nx i)|d::j,i=>do
  let h<-g d i;match<-body h with
  |.nx f=>zu g body j f|.ct f=>zu g body j f|.bk f=>pure (.nx f)|.rt r=>pure (.rt r)
def qS{d:Type}{l:List d}(h:i<l.length):∃x,l[i]?=RM x/\l.drop i=x::l.drop (i+1):=⟨l[i],R_ h,Yb h⟩
theorem Jq{iter:Sj}{tI:ah->M (List D)}(hp:XQ (Sb X.prog X.w) X.A X.env X.xe)(hc:X.calm=RQ)(hi:DI X F tg iter tI)(hg:DG X F tg g)(hb:zq X F sts t)(hs:∀x,U3 iter X.env x=pure x:=by intro _;rfl):DS X F (.For tg iter sts [] pos) (λρ=>do zu g t (<-tI ρ) ρ):=⟨hi.hK,(Ij hp hc hi.pi hg.pg hb.ps hs).imp λZ σ H R=>by
  obtain⟨ρ,k,S,h⟩:=R;refine⟨ρ,k,S,M.wk h λl N q J H1 V it=>?_⟩;refine⟨λi m o v=>m=l.length-i/\i<=l.length/\∃j p,cY F j p o v/\Kp F.toFb H1 N v p/\(zu g t (l.drop i) j).run p (zp F Z H k) F.E,⟨l.length,rfl,SH _,ρ,N,S.mono V,.refl,q⟩,?_⟩;rintro i m o v⟨rfl,a2,j,p,P,O,L⟩;by_cases C:i<l.length
  .obtain⟨d,hd,U⟩:=qS C;rw[U]at L;obtain⟨go,yl⟩:=it.step i d v p hd O P.live;refine .inr ⟨go,λz Y=>∃B T,cY F B T z Y/\Kp F.toFb H1 N Y T/\(zu g t (l.drop (i+1)) B).run T (zp F Z H k) F.E,λz Y h3=>⟨l.length-(i+1),by omega+splitNatSub,rfl,C,h3⟩,λx H' y=>?_⟩;obtain⟨e3,i3⟩:=yl x H' y;refine⟨j,p,d,P.mono e3,i3,M.wk L λQ k4 q4 a0 H4 e4 S4=>?_⟩;have s:Kp F.toFb H1 N H4 k4:=O.trans (e3.trans e4).kp;refine⟨Q,k4,S4,M.wk q4 λfl k5 K=>?_⟩;cases fl with
   |nx f=>exactλn W G I=>⟨f,k5,I,s.trans G,K⟩|ct f=>exactλn W G I=>⟨f,k5,I,s.trans G,K⟩|bk f=>exactλn W G I=>K n W ((V.kp.trans s).trans G) I|rt r=>exact K
  .have e:i=l.length:=by omega+splitNatSub
   subst e;rw[YE]at L;exact .inl ⟨it.stop v p O P.live,L o v (V.kp.trans O) P⟩⟩
noncomputable def fX(c:ah->M Bool)(body:ah->M Fl):Nat->ah->M Fl
 |0,_=>M.fail|n+1,f=>do
  let b<-c f;if b then do match<-body f with
   |.nx d=>fX c body n d|.ct d=>fX c body n d|.bk d=>pure (.nx d)|.rt r=>pure (.rt r)else pure (.nx f)
noncomputable def Jr(c:ah->M Bool)(body:ah->M Fl)(ρ:ah):M Fl:=⟨λk Q E=>∃n,(fX c body n ρ).run k Q E,λ⟨n,h⟩q e=>⟨n,(fX c body n ρ).mono h q e⟩⟩
theorem Bk(V:XQ (Sb X.prog X.w) X.A X.env X.xe)(N:DT X F Q tA)(hb:zq X F sts t):DS X F (.While Q sts [] pos) (Jr tA t):=⟨N.hK,(Al V N.pt hb.ps).imp λZ σ H y=>by
  obtain⟨U,k,S,n,h⟩:=y;refine⟨λm j G=>∃f x,cY F f x j G/\Kp F.toFb H k G x/\(fX tA t m f).run x (zp F Z H k) F.E,⟨n,U,k,S,.refl,h⟩,?_⟩;rintro m j G⟨f,x,S2,P,J⟩;cases m with
  |zero=>exact J.elim|succ m=>
   refine qQ.next S2 J λb L T O R I=>?_;cases b with
   |false=>exact I j T (P.trans O.kp) R|true=>
    refine⟨λo C=>∃p z,cY F p z o C/\Kp F.toFb H k C z/\(fX tA t m p).run z (zp F Z H k) F.E,λo C W=>⟨m,Vd _,W⟩,f,L,R,M.wk I λY K v=>?_⟩;have l:=P.trans O.kp;cases Y with
    |nx d=>exactλi B q s=>⟨d,K,s,l.trans q,v⟩|ct d=>exactλi B q s=>⟨d,K,s,l.trans q,v⟩|bk d=>exactλi B q s=>v i B (l.trans q) s|rt r=>exact v⟩
def PI.imp{t t'}(h:PI X tg iter t)(q:∀σ H R,t' σ H R->t σ H R):PI X tg iter t':=λd s σ H R I z=>h d s σ H R I (q σ H R z)
noncomputable def Js(f:D->M h):List D->M h
 |[d]=>f d|_=>M.fail
def td{f:D->M i}{k Q E}(h:(Js f ds).run k Q E):∃d,ds=[d]/\(f d).run k Q E:=by match ds,h with|[d],h=>exact⟨d,rfl,h⟩
noncomputable def bC(n:Nat):List D:=(SQ n).map λ(i:Nat)=>D.int (i:Int)
noncomputable def Jt(d:D):M (List D):=do
 let j<-gD d;M.need (-(2^62)<=j/\j<=1000000)pure (bC j.toNat)
def zv{p:Uq}(z:X.mg "range"=RP)(ha:DA X F [a] tas)(B:Gl X "range":=by rfl)(hs:Sq [a] X.env=[(RT,Ux a X.env)]:=by rfl):DI X F tg (.Call (.Name "range" p) [a] [] pos) (λρ=>do Js Jt (<-iX (<-tas ρ))):=⟨ha.hK,(yU B z ha.pa hs).imp λN H R m=>by
  obtain⟨ρ,k,S,h⟩:=m;refine sX.next S h λas Q O L J U w G=>?_;obtain⟨T,rfl,E⟩:=cw G;obtain⟨d,rfl,C⟩:=td E;obtain⟨j,rfl,l⟩:=bh.mp C;obtain⟨v,rfl,q⟩:=(cy w).one;simp only[Is]at q;subst q;refine⟨j,rfl,l.1.1,Int.lt_of_le_of_lt l.1.2 '1',l.2 _ L J ⟨λi d K s hd I P=>?_,λK s I _=>?_,?_⟩⟩
  .unfold bC at hd;rw[Sn]at hd;cases o:(SQ j.toNat)[i]? with
   |none=>rw[o]at hd;cases hd|some n=>
    rw[o]at hd;cases hd;obtain⟨f,r⟩:=Ω0.mp o;rw[List.getElem_range]at r;subst r;rw[WW]at f;refine⟨f,λx V y=>?_⟩;obtain⟨rfl,rfl⟩:=y;exact⟨.refl,by simp only[Is];simp⟩
  .show j.toNat<=_;simp[bC]
  .have:=l.1.2;simp only[bC,RV,WW,TH];omega⟩
theorem Bl{a}(h:LstAt B H a vs)(i:ag B H vs ds)(p:vs.length<=R1):vw B (QB B.K a) ds H k where
 step:=λj d n o hd e l=>by
  obtain⟨x,m,q⟩:=(i.mono e).get hd;have f:dZ B.K n a vs:=(h.mono e).2.sq;refine⟨⟨vs,x,f,m⟩,λy r z=>?_⟩;obtain⟨rfl,z⟩:=z;have:=z vs f;rw[m]at this;cases this;exact⟨.refl,q⟩
 stop:=λn o e l=>⟨vs,(h.mono e).2.sq,YX i.length⟩;len:=by rw[<-i.length];exact p
theorem Bm{a}(h:TupAt B H a vs)(i:ag B H vs ds)(o:vs.length<=R1):vw B (QF B.K a) ds H k where
 step:=λj d q n hd e l=>by
  obtain⟨x,m,p⟩:=(i.mono e).get hd;have f:=(h.mono e).2;refine⟨⟨vs,x,f,m⟩,λy r z=>?_⟩;obtain⟨rfl,z⟩:=z;have:=z vs f;rw[m]at this;cases this;exact⟨.refl,p⟩
 stop:=λq n e l=>⟨vs,(h.mono e).2,YX i.length⟩;len:=by rw[<-i.length];exact o
end
noncomputable def mY(outer a:UM):Bool:=(a.kind==.function)&&a.names.all λy=>((y.2 !=.cell)||(a.names.lookup y.1==RM .cell))&&((y.2 !=.local)||(a.names.lookup y.1==RM .local))&&((y.2 !=.free)||(outer.names.lookup y.1==RM .cell)||(outer.names.lookup y.1==RM .free))
noncomputable def vz(env:XS)(y:Sy×Vf)(cs:List (Sy×RW)):XH (ForInStep (List (Sy×RW))):=do if y.2==.free then pure (Uv ((y.1,<-cellOf env y.1)::cs))else pure (Uv cs)
def vA(h:forIn a.names [] (vz env)=(pure cl)):closureFor a env=pure cl:=by
 have e:closureFor a env=(forIn a.names [] (vz env)>>=λs=>pure s):=rfl;rw[e,h];rfl
theorem vB:∀(names:List (Sy×Vf)),(∀y∈names,y.2=.free->∃c,env.cells.lookup y.1=RM c)->∀a:List (Sy×RW),(∀x c,a.lookup x=RM c->env.cells.lookup x=RM c)->∃cl,forIn names a (vz env)=(pure cl:XH _)/\(∀x c,cl.lookup x=RM c->env.cells.lookup x=RM c)/\(∀x c,a.lookup x=RM c->∃b,cl.lookup x=RM b)/\∀y∈names,y.2=.free->∃c,cl.lookup y.1=RM c
 |[],_,a,ha=>⟨a,rfl,ha,λx c e=>⟨c,e⟩,λy d=>nomatch d⟩|(n,g)::r,k,a,ha=>by
  by_cases l:g=.free
  .subst l;obtain⟨c,s⟩:=k (n,.free) RX rfl;have m:∀x b,((n,c)::a).lookup x=RM b->env.cells.lookup x=RM b:=λx b e=>by
    rw[Th]at e;cases h:x==n with
    |true=>
     rw[h]at e;cases e;rw[Θ3.mp h];exact s|false=>
     rw[h]at e;exact ha x b e
   obtain⟨cl,q,p,j,o⟩:=vB r (λy d=>k y (RZ _ d)) ((n,c)::a) m;have keep:∀x b,a.lookup x=RM b->∃f,((n,c)::a).lookup x=RM f:=λx b e=>by
    rw[Th];cases h:x==n with
    |true=>exact⟨c,rfl⟩|false=>exact⟨b,e⟩
   refine⟨cl,?_,p,λx b e=>?_,λy d i=>?_⟩
   .rw[XD];have e:vz env (n,.free) a=(pure (Uv ((n,c)::a)):XH _):=by
     unfold vz cellOf;rw[s];rfl
    rw[e];exact q
   .obtain⟨f,t⟩:=keep x b e;exact j x f t
   .rcases Ω2.mp d with z|z
    .subst z;exact j n c (by rw[Th,beq_self_eq_true])
    .exact o y z i
  .obtain⟨cl,q,p,j,o⟩:=vB r (λy d=>k y (RZ _ d)) a ha;refine⟨cl,?_,p,j,λy d i=>?_⟩
   .rw[XD];have e:vz env (n,g) a=(pure (Uv a):XH _):=by
     unfold vz;have:(g==Ud)=RT:=by cases g<;>first|rfl|exact Ξ1 rfl l
     rw[this];rfl
    rw[e];exact q
   .rcases Ω2.mp d with z|z
    .subst z;exact Ξ1 i l
    .exact o y z i
def vC(ok:X.Ok)(h:mY X.env.scope a=RQ):∃cl,OB X a cl:=by
 unfold mY at h;rw[R4,Tj]at h;obtain⟨g,ha⟩:=h;have b:∀y∈a.names,y.2=.free->X.env.kindOf y.1=RM .cell\/X.env.kindOf y.1=RM .free:=λy d f=>by
  have:=ha y d;simp only[R4,Ue,bne_iff_ne,Θ3]at this;rcases this.2 with(z|z)|z;.exact Ξ1 f z
  .exact .inl z
  .exact .inr z
 obtain⟨cl,k,j,l,i⟩:=vB a.names (λy d f=>ok.has y.1 (b y d f)) [] (λx c e=>nomatch e);refine⟨cl,vA k,j,λx e=>⟨i (x,.free) (Ul e) rfl,b (x,.free) (Ul e) rfl⟩,Θ3.mp g,λy d z=>?_,λy d z=>?_⟩
 .have:=ha y d;rw[z]at this;simpa using this
 .have:=ha y d;rw[z]at this;simpa using this
noncomputable def fF(ρ:ah)(n:Nat)(js:List Nat):ah:=Tu n RP++js.map λj=>(ρ[j]?).join
def qU(h:(fF ρ n js)[i]?=RM (RM w)):n<=i/\∃j,js[i-n]?=RM j/\ρ[j]?=RM (RM w):=by
 unfold fF at h;by_cases a:i<n
 .rw[TB (by simpa using a),U4,Ξ2 a]at h;cases h
 .rw[SY (by simpa using a),US,Sn]at h;refine⟨'0',?_⟩;cases c:js[i-n]? with
  |none=>rw[c]at h;cases h|some j=>
   rw[c]at h;refine⟨j,rfl,?_⟩;have h:(ρ[j]?).join=RM w:=R3 h;cases b:ρ[j]? with
   |none=>rw[b]at h;cases h|some o=>
    rw[b]at h;have h:o=RM w:=h;rw[h]
def gF(b:n<=i)(a:js[i-n]?=RM j)(h:σ[j]?=RM (RM v)):(cg σ n js)[i]?=RM (RM v):=by
 unfold cg;rw[SY (by simpa using b),US,Sn,a];show RM ((σ[j]?).join)=_;rw[h];rfl
def cY.fM(S:cY F ρ k σ H)(n)(C:js.Nodup):cY F (fF ρ n js) k (cg σ n js) H where
 len:=by simp[fF,cg]
 at_:=λi w e=>by
  obtain⟨q,j,d,g⟩:=qU e;obtain⟨v,f,s⟩:=S.at_ j w g;exact⟨v,gF q d f,s⟩
 apart:=λi B w r v l e E o A y x=>by
  obtain⟨q,j,d,g⟩:=qU e;obtain⟨p,h,c,b⟩:=qU E;obtain⟨u,f,s⟩:=S.at_ j w g;obtain⟨G,a,D⟩:=S.at_ h r b;have a1:=gF q d f;have t:=gF p c a;rw[y]at a1;rw[x]at t;cases a1;cases t;have m:j≠h:=λz=>by
   subst z;have:=(List.getElem?_inj (Ω0.mp d).1 C).mp (d.trans c.symm);exact l (by omega+splitNatSub)
  exact S.apart j h w r v m g b o A f a
 live:=S.live;ext:=S.ext;lR:=S.lR
structure lH(X:Cx)(F:Fx)(ifs:List Sj)(t:ah->M Bool):Prop where
 hK:X.K=F.K
 pi:AH X ifs (qQ F t)
section
variable{X:Cx}{F:Fx}{elt tg iter c:Sj}{ifs:List Sj}{pos:Uq}{scope:UM}{own fr:List Sy}{js:List Nat}{g:D->ah->M ah}{tc:ah->M Bool}{te:ah->M D}{tI:ah->M (List D)}
def Bp(hK:X.K=F.K:=by rfl):lH X F [] (λ_=>pure RQ):=⟨hK,λa s b H Q I⟨d,k,S,h⟩=>AI a s b H Q I (h H .refl)⟩
def Bq(h:DT X F c tc):lH X F [c] tc:=⟨h.hK,AJ h.pt⟩
noncomputable def pM(g:D->ah->M ah)(tc:ah->M Bool)(te:ah->M D):List D->ah->M (List D)
 |[],_=>pure []|d::e,f=>do
  let a<-g d f;let b<-tc a;if b then do
   let x<-te a;let r<-pM g tc te e a;pure (x::r)else pM g tc te e a
def E8{O}(it:vw F.toFb J ds u k1)(S:cY F ρ k1 σ u)(h:(pM g tc te ds ρ).run k1 Q F.E)(q:∀vs xs A H' w,Ext F.toFb u k1 H' w->ag F.toFb H' vs xs->Q xs w->vs.length<=R1->O vs A H'):wR J (Lu F g) (qQ F tc) (qK (dR F te)) σ u [] O:=by
 refine⟨λi m k n l=>m=ds.length-i/\i<=ds.length/\k.length<=i/\∃f a as,cY F f a n l/\Ext F.toFb u k1 l a/\ag F.toFb l k as/\(pM g tc te (ds.drop i) f).run a (λr w=>Q (as++r) w) F.E,⟨ds.length,rfl,SH _,R5 _,ρ,k1,[],S,.refl,.nil,h⟩,?_⟩;rintro i m k n l⟨rfl,a0,a2,f,a,as,G,t,B,o⟩;by_cases p:i<ds.length
 .obtain⟨d,hd,C⟩:=qS p;rw[C]at o;obtain⟨go,R⟩:=it.step i d l a hd t.kp G.live;refine .inr ⟨go,λx H3 y=>?_⟩;obtain⟨L,i3⟩:=R x H3 y;refine⟨f,a,d,G.mono L,i3,M.wk o λs k4 W P H4 e4 S4=>?_⟩;refine qQ.next S4 W λb I H5 e5 N H=>?_;have j:=(L.trans e4).trans e5;cases b with
  |false=>exact⟨ds.length-(i+1),'0',rfl,p,'0',s,I,as,N,t.trans j,B.mono j.kp,H⟩|true=>
   rw[Ξ2 rfl];refine dR.next N H λT Y v H6 K S6 Z U=>?_;have hz:=it.len;refine⟨'0',ds.length-(i+1),'0',rfl,p,by simp;omega,s,Y,as++[T],S6,t.trans (j.trans K),(B.mono (j.trans K).kp).append (Z∘.nil),M.wk U λr k7 z=>?_⟩;rw[Ta];exact z
 .have e:i=ds.length:='0'
  subst e;rw[YE]at o;have o:Q (as++[]) a:=o;rw[TF]at o;exact .inl ⟨it.stop l a t.kp G.live,q k as n l a t B o (by have:=it.len;omega)⟩
end
def Br(e:Sj)(d:Nat):Prop:=∀{prog:Sf}{w:Sx}{A:SF}{R:Result->RU->Prop}{s:RU}{it a:RR}{env:XS},codeAny (Sb prog w) A (.compLoop e d it a env) R s->wpAny (Sb prog w) A (Z8 it) (λc b=>codeAny (Sb prog w) A (.compLoop e d c a env) R b) (notedBy (Sb prog w) A env λx b=>R (.error x) b) s->codeAny (Sb prog w) A (.compStart e d it a env) R s
noncomputable def xw(n:Nat)(js:List Nat)(f:TI)(g:TG)(b:TT)(rd:RB c)(a0:c)(o:c->HO):TE:=λd H Q=>f d H λJ h=>wR J g b rd (cg d n js) h a0 λa _ e=>∀p,e p=RP->(p==UC)=RT->Q (.ref p) (upd e p (o a))
inductive PB(X:Cx)(pins:List (RW×Tn))(σ:St)(Q:VK)(D C:RW)(s':RU):Prop where|mk(H':Hp)(I:Inv X pins σ H' s')(q:Q (.ref D) H')(n:H' C=RP)(l:C≠X.env.locals)(f:C∉X.fs)(c:∀y c,X.env.cells.lookup y=RM c->c≠C)(p:∀p∈X.pn++pins,p.1≠C)(z:X.bR.heap.objs.size<=C)(m':Sy->Option RR)(hn:s'.heap.Ns C m')
def tm(X:Cx)(cmp:Option (RR->XH Unit)->XH RR)(t:TE):Prop:=∀(b:Option (RR->XH Unit))(e:RR->RU->Prop)(a:List (RW×Tn))(s:RU)(c:St)(H:Hp)(Q:VK),Inv X a c H s->t c H Q->(∀D C d,PB X a c Q D C d->compPost (Sb X.prog X.w) X.A X.xe b e (.ref D) C (.ok .next) d)->wpAny (Sb X.prog X.w) X.A (cmp b) e X.xe s
def tm.pe(w:tm X cmp t)(d:Ux e X.env=cmp RP):PE X e t:=by
 intro a s g H Q I h;rw[d];refine w _ _ a s g H Q I h λD C i z=>?_;obtain⟨o,I,q,n,l,f,c,p,z,j,m⟩:=z;exact⟨j,m,λr k=>⟨.ref D,o,I.turned (λb ob hb e=>(k.2 b hb).trans e) n l (.inr z) c p,rfl,q⟩⟩
set_option tactic.hygienic true in
def ky{X:Cx}{α:Type}{e tg iter:Sj}{ifs:List Sj}{rest:List Yu}{f:UM}{pos:Uq}{cl:List (Sy×RW)}{own fr:List Sy}{js:List Nat}{wi:TI}{g:TG}{O:TT}{rd:RB α}{ok:α->Tn->Prop}{a0:α}{ob0:Tn}{o:α->HO}{newAcc:XH RR}{body:RW->XS->XH Unit}(U:X.calm=RQ)(c:OB X f cl)(hj:js.map (λj=>X.N[j]?)=fr.map RM)(e5:∀x∈fr,f.names.lookup x=RM .free)(hw:PI X tg iter wi)(b6:clausesOf e=⟨tg,iter,ifs,0⟩::rest)(d4:Br e 0)(b0:∀{Q:RR->RU->Prop}{s:RU},Q (.ref s⁻¹) {s with heap:=s.heap.push ob0}->wpAny (Sb X.prog X.w) X.A newAcc Q X.xe s)(e3:∀a ob v,ok a ob->ob.data≠.cell v)(a6:ok a0 ob0)(e0:ob0.data≠.freed)(b4:∀it D env,(Sb X.prog X.w).den (.compLoop e 0 (.ref it) (.ref D) env)=(aaw e 0 (.ref it) (.ref D) env).onRaise (λx=>do Xf x env;theTreesLotGoes x))(a8:∀it D env,X.A.under (.compLoop e 0 (.ref it) (.ref D) env)=X.A)(e6:∀it D env,aaw e 0 (.ref it) (.ref D) env=(do
   Wx iter.pos;match<-WL (.ref it)with
   |none=>pure (.done .next)|some v=>
    VN tg (.ref it) v;Yn tg env v;let mut ok:=RQ;for c in ifs do if ok then ok<-Zt c env (Ux c env)
    if ok then body D env
    again (.compLoop e 0 (.ref it) (.ref D) env)))(hg:∀pins cs C m s H,PG (fM X pins f (own++fr) cs C m s H) tg g)(hi:∀pins cs C m s H,AH (fM X pins f (own++fr) cs C m s H) ifs O)(hb:∀pins cs C m s H D,Me (fM X pins f (own++fr) cs C m s H) D->Body (fM X pins f (own++fr) cs C m s H) ok D (body D (fM X pins f (own++fr) cs C m s H).env) rd)(b3:∀(a:α)(ob:Tn)(H:Hp)(h:SJ)(D:RW),ok a ob->h.get? D=RM ob->jq X.prog X.w H h->bF X.prog X.w (upd H D (o a)) h D (o a))(hs:∀x,U3 iter X.env x=pure x:=by intro _;rfl):tm X (λu=>comprehension e f X.env pos newAcc RT (Ux iter X.env) u) (xw own.length js wi g O rd a0 o):=by
 intro d0 Qc pins s σ H Q I h kk;refine wpAny_comprehension_free b6 hs c.Pk c.kind c.names (bE (hw pins s σ H _ I h) λv s1 h1=>bE h1 λf3 i h2=>?_);obtain⟨it,m,tn,J,K,e1,B,T,a3,f2,d1⟩:=h2;subst e1;refine b0 (qJ ?_);dsimp only;generalize V:i.heap.push ob0=l;have hC:l.objs.size=i⁻¹+1:=by rw[<-V,UX]
 have c1:i⁻¹≠l.objs.size:=by rw[hC];exact SD (Vd _)
 have k:i⁻¹<=l.objs.size:=by rw[hC];exact ZO _
 have W:∀b,b<i⁻¹->b≠l.objs.size:=λb hb=>by rw[hC];exact SD (Vo hb)
 have L:∀x a,X.env.cells.lookup x=RM a->a<i⁻¹:=λx a e=>by
  obtain⟨v,q⟩:=B.cell x a e;exact q.lt
 obtain⟨cj,ck⟩:=mJ f.names (l.objs.size+1) cl (λx a e=>Vo (Su (L x a (c.sub x a e)) k)) (λx y a e1 e2=>B.ok.inj x y a (c.sub x a e1) (c.sub y a e2));have kc:ID X f i l.objs.size (Wd (l.push {cls:=.type "dict",data:=.dict #[]}) f.names) (Vc (l.objs.size+1) f.names cl):=by
  refine⟨cj,λx a e=>?_,λx a e hf=>?_,λx hx=>?_⟩
  .rcases ck x a e with⟨S,Z⟩|⟨S,_,z3⟩;.exact .inl ⟨c.sub x a S,λq=>Z (Ul q)⟩
   .exact .inr ⟨k,S,z3 _ (UX ..)⟩
  .rcases ck x a e with⟨S,Z⟩|⟨_,Z,_⟩;.exact c.sub x a S
   .have:=c.cells _ Z rfl;rw[hf]at this;cases this
  .have:((Vc (l.objs.size+1) f.names cl).lookup x).isSome=RQ:=WN _ _ _ (by
    rcases hx with z|z;.exact .inl z
    .obtain⟨a,e⟩:=(c.has x z).1;exact .inr (by rw[e];rfl));exact Θ1.mp this
 have E:(Wd (l.push {cls:=.type "dict",data:=.dict #[]}) f.names).Ns l.objs.size (λ_=>RP):=(Heap.Ns.new l (.type "dict")).keeps (Zb _ _);have G:∀b o,l.get? b=RM o->(Wd (l.push {cls:=.type "dict",data:=.dict #[]}) f.names).get? b=RM o:=λb o e=>Zb _ _ _ _ (RY _ e);generalize Wd (l.push {cls:=.type "dict",data:=.dict #[]}) f.names=n at kc E G⊢;generalize Vc (l.objs.size+1) f.names cl=cs at kc⊢;have a5:∀b o,i.heap.get? b=RM o->n.get? b=RM o:=λb o e=>G b o (V▸RY _ e);have c0:n.get? i⁻¹=RM ob0:=G _ _ (V▸Sl _ (by cases ob0;rename_i c d t sl;cases t<;>first|rfl|exact Ξ1 rfl e0));have M:∀b∈m,b<i⁻¹:=λb hb=>by
  obtain⟨o,e,_⟩:=T.obj _ _ a3 b hb;exact Sa e
 have J0:=zb (own:=own) (fr:=fr) (t':=i.toks) B f2 M c kc hj e5 k a5 E;have oD:Me (fM X pins f (own++fr) cs l.objs.size m i K) i⁻¹:=⟨R5 _,λx a e z=>by
  rcases kc.sub x a e with⟨q,_⟩|⟨q1,q2,_⟩;.exact Ξ1 (L x a q) (by rw[z];exact Tr _)
  .exact Ξ1 (WE q1 q2) (by rw[z];exact Tr _)⟩;have e9:K i⁻¹=RP:=B.aM.fresh (R5 _);have d3:i⁻¹∉iB X.stack:=λz=>by
  rcases Ω2.mp (B.kh _ z)with q|q;.exact Ξ1 B.lt (by rw[<-q];exact Tr _)
  .exact B.HV (R5 _) q
 have P:∀p∈(X.pn++pins)++([]:List (RW×Tn)),p.1≠i⁻¹:=λp F z=>by
  rw[TF]at F;exact Ξ1 (Sa (B.pin p F).1) (by rw[z];exact Tr _)
 have J1:Inv (fM X pins f (own++fr) cs l.objs.size m i K) [(i⁻¹,ob0)] (cg σ own.length js) K {i with heap:=n,toks:=i.toks}:=J0.fO λp F=>by
   have F:=Ω1.mp F;rw[F];exact⟨c0,e9,c1,d3,λv=>e3 a0 ob0 v a6⟩
 have b2:∀b∈m,ij (fM X pins f (own++fr) cs l.objs.size m i K) [(i⁻¹,ob0)] K b:=λb hb=>by
  obtain⟨q0,q1,q2,q3,q4,q5⟩:=f2 b hb;refine⟨q0,W b (M b hb),wQ B f2 b hb,.inl hb,λx a e=>?_,λp F=>?_⟩
  .rcases kc.sub x a e with⟨q,_⟩|⟨S,Z,_⟩;.exact q4 x a q
   .exact UE (YW (Su (M b hb) S) Z)
  rcases Ω.mp F with z|z;.exact q5 p z
  .have z:=Ω1.mp z;rw[z];exact T8 (SD (M b hb))
 have a4:tn 0 n:=T.keep _ _ _ a3 λb hb o e=>a5 b o e;have a7:=sJ (Y:=fM X pins f (own++fr) cs l.objs.size m i K) (ok:=ok) (D:=i⁻¹) (it:=it) (e:=e) (d:=0) (tg:=tg) (ifs:=ifs) (pos0:=iter.pos) (body:=body i⁻¹ (fM X pins f (own++fr) cs l.objs.size m i K).env) U (λ_ _ z=>z) (b4 _ _ _) (a8 _ _ _) (e6 _ _ _) T (hg pins _ _ m i K) (hi pins _ _ m i K) (hb pins _ _ m i K _ oD) J1 P (a:=a0) a6 b2 a4 d1;have c2:codeAny (Sb X.prog X.w) X.A (.compLoop e 0 (.ref it) (.ref i⁻¹) (compEnvC f cs l.objs.size X.env)) (compPost (Sb X.prog X.w) X.A X.xe d0 Qc (.ref i⁻¹) l.objs.size) {i with heap:=n,toks:=i.toks}:=by
  refine VC a7 λr s' c4=>?_;obtain⟨a,d2,f0,H',hr,I',a9,q',_⟩:=c4;subst hr;obtain⟨m',e4,_⟩:=I'.loc;obtain⟨eD,nD,f1,_,_⟩:=I'.pin _ (Sk _ RX);have c3:Inv X pins σ H' s':=EB B f2 I';refine kk _ _ s' ⟨upd H' i⁻¹ (o a),c3.AG B.sz nD (UE B.lt) (λy c e z=>?_) (λp F=>P p (by rw[TF];exact F)) (b3 a d2 H' s'.heap _ a9 eD c3.aM),q' _ nD (Ξ.mpr (T8 (SD B.Eu))),by rw[ar (T8 c1)];exact I'.free,UE (Su B.lt k),B.HV k,λy c e z=>?_,λp F z=>Ξ1 (Su (Sa (B.pin p F).1) k) (by rw[z];exact Tr _),SO B.sz k,m',e4⟩;.exact Ξ1 (L y c e) (by rw[z];exact Tr _)
  .exact Ξ1 (Su (L y c e) k) (by rw[z];exact Tr _)
 exact d4 c2 (T.self _ 0 _ _ _ a4 c2)
def kz{e:Sj}{d:Nat}{g:Yu}(j:(clausesOf e)[d]?=RM g)(ha:(g.is_async !=0)=RT)(c:∀prog w it a env,(Sb prog w).den (.compStart e d it a env)=(compStart e d it a env).onRaise (λx=>do Xf x env;Wx theWindowsPlace):=by intros;rfl)(b:∀(A:SF)it a env,A.under (.compStart e d it a env)=A:=by intros;rfl):Br e d:=by
 intro prog w A R s it a env f h;refine XB ?_;rw[c,b];refine wpAny_notedAt ?_;unfold compStart;rw[j];simp only[Option.elim,ha,Sg,if_false];refine RO (UT (wpAny_ite ?_));split;.first
   |exact RO (RS (RS (And.intro rfl f)))|exact RS (And.intro rfl f)
 .refine RO (Xd (RO (Ut (RO (TM h (λi l k=>RS (And.intro rfl k)) λ_ _ x=>x)))))
section
def Bt(a)(ob)(H)(h)(D)(ok:Pm a ob)(e:h.get? D=RM ob)(_:jq P w H h):bF P w (upd H D (.lst a)) h D (.lst a):=by
 obtain⟨d,b,n,c,rfl⟩:=ok;exact⟨d,b,n,c,e⟩
end
mutual
def bD(h:SJ):RR->D->Prop
 |u,.br=>u=.none|u,.bl b=>u=.bool b|u,.int i=>∃t,u=.int i t|u,.str x=>∃t,u=.str x t|u,.tup d=>∃a c,u=.ref a/\h.IsTuple a c/\c5 h c.toList d|u,.lst d=>∃a c,u=.ref a/\h.IsList a c/\c5 h c.toList d|u,.aO _ _=>∃a,u=.ref a|u,.exc _ _=>∃a,u=.ref a|u,.aJ _=>∃a,u=.ref a
def c5(h:SJ):List RR->List D->Prop
 |us,[]=>us=[]|us,d::a=>∃u r,us=u::r/\bD h u d/\c5 h r a
end
theorem c5.length:∀{us:List RR}{ds:List D},c5 h us ds->us.length=ds.length
 |_,[],q=>by simp only[c5]at q;rw[q];rfl|_,d::ds,q=>by
  simp only[c5]at q;obtain⟨u,r,rfl,_,q⟩:=q;simp[c5.length q]
theorem c5.get:∀{us:List RR}{ds:List D}{i:Nat}{u:RR},c5 h us ds->us[i]?=RM u->∃d,ds[i]?=RM d/\bD h u d
 |_,[],_,_,q,e=>by simp only[c5]at q;rw[q]at e;simp at e|_,c::ds,i,u,q,e=>by
  simp only[c5]at q;obtain⟨x,r,rfl,a,q⟩:=q;cases i with
  |zero=>simp at e;subst e;exact⟨c,rfl,a⟩|succ i=>simpa using c5.get (i:=i) q (by simpa using e)
section
variable{X:Cx}{pins:List (RW×Tn)}{σ:St}{H:Hp}{s:RU}{B:Fb}
mutual
theorem fw(I:Inv X pins σ H s)(hK:X.K=B.K):∀{v:V}{u:RR}{d:D},RelV v u->Is B H v d->bD s.heap u d
 |_,_,.br,r,i=>by simp only[Is]at i;subst i;simp only[bD];exact r|_,_,.bl _,r,i=>by simp only[Is]at i;subst i;simp only[bD];exact r|_,_,.int _,r,i=>by simp only[Is]at i;subst i;simp only[bD];exact r|_,_,.str _,r,i=>by simp only[Is]at i;subst i;simp only[bD];exact r|_,_,.tup k,r,i=>by
  simp only[Is]at i;obtain⟨a,h,rfl,g,f⟩:=i;obtain⟨b,c,e,_⟩:=I.tuple (by rw[hK];exact g.2);simp only[bD];exact⟨a,b.toArray,r,e,qV I hK c f⟩|_,_,.lst k,r,i=>by
  simp only[Is]at i;obtain⟨a,h,rfl,g,f⟩:=i;obtain⟨b,c,e,_⟩:=I.list (by rw[hK];exact g.2.sq);simp only[bD];exact⟨a,b.toArray,r,e.isList,qV I hK c f⟩|_,_,.aO _ _,r,i=>by
  simp only[Is]at i;obtain⟨a,h,rfl,_⟩:=i;simp only[bD];exact⟨a,r⟩|_,_,.exc _ _,r,i=>by
  simp only[Is]at i;obtain⟨a,j,rfl,_⟩:=i;simp only[bD];exact⟨a,r⟩|_,_,.aJ j,r,i=>by
  simp only[Is]at i;obtain⟨a,rfl,_⟩:=i;simp only[bD];exact⟨a,r⟩
theorem qV(I:Inv X pins σ H s)(hK:X.K=B.K):∀{vs:List V}{us:List RR}{ds:List D},ax vs us->ag B H vs ds->c5 s.heap us ds
 |_,_,[],r,i=>by
  simp only[ag]at i;subst i;cases r;simp only[c5]|_,_,d::ds,r,i=>by
  simp only[ag]at i;obtain⟨x,f,rfl,e,c⟩:=i;cases r with|cons b a=>
   simp only[c5];exact⟨_,_,rfl,fw I hK b e,qV I hK a c⟩
end
end
noncomputable def bp(f:D->D->Option Bool):List D->List D->Option Bool
 |x::d,y::c=>match f x y,bp f d c with
  |some a,RM b=>RM (a&&b)|_,_=>RP
 |_,_=>RM RQ
noncomputable def dh:Nat->D->D->Option Bool
 |0=>λ_ _=>RP|n+1=>λd e=>match d,e with
  |.tup f,.tup c=>(bp (dh n) f c).map λb=>b&&f.length==c.length|.lst f,.lst c=>(bp (dh n) f c).map λb=>b&&f.length==c.length|.br,.br=>RM RQ|.bl a,.bl b=>RM (a==b)|.bl a,.int b=>RM ((if a then 1 else 0)==b)|.int a,.bl b=>RM (a==(if b then 1 else 0))|.int a,.int b=>RM (a==b)|.str a,.str b=>RM (a==b)|.aO _ _,_=>RP|.exc _ _,_=>RP|.aJ _,_=>RP|_,.aO _ _=>RP|_,.exc _ _=>RP|_,.aJ _=>RP|_,_=>RM RT
theorem dJ:∀{xs d:List D}{b:Bool},bp f xs d=RM b->(∀(j:Nat)(x y:D),xs[j]?=RM x->d[j]?=RM y->∃c,f x y=RM c)/\∀g:Nat->Bool,(∀(j:Nat)(x y:D),xs[j]?=RM x->d[j]?=RM y->f x y=RM (g j))->(SQ (min xs.length d.length)).all g=b
 |[],d,b,h=>by cases d<;>(simp[bp]at h;subst h;exact⟨λj x y e=>Ξ1 e '2',λg _=>'2'⟩)|x::xs,[],b,h=>by
  simp[bp]at h;subst h;exact⟨λj x y e i=>by simp at i,λg _=>by simp⟩|x::xs,y::d,b,h=>by
  simp only[bp]at h;cases k:f x y with
  |none=>rw[k]at h;simp at h|some a=>cases n:bp f xs d with
   |none=>rw[k,n]at h;simp at h|some c=>
    rw[k,n]at h;simp only[UH]at h;obtain⟨q,p⟩:=dJ n;refine⟨λj m l e i=>?_,λg o=>?_⟩;.cases j with
     |zero=>simp at e i;subst e i;exact⟨a,k⟩|succ j=>exact q j m l (by simpa using e) (by simpa using i)
    .have s:g 0=a:=by
      have:=o 0 x y rfl rfl;rw[k]at this;exact(R3 this).symm
     have r:=p (λj=>g (j+1)) λj m l e i=>o (j+1) m l (by simpa using e) (by simpa using i);rw[<-h,<-r,<-s];have:min (x::xs).length (y::d).length=min xs.length d.length+1:=by simp only[Ss];omega
     rw[this,List.range_succ_eq_map,UW,List.all_map];rfl
def k_{h:SJ}(p:h.IsTuple a b)(q:h.IsTuple a its'):b=its':=by
 obtain⟨o,e,c,n,d⟩:=p;obtain⟨i,f,k,j,g⟩:=q;rw[e]at f;cases f;rw[d]at g;cases g;rfl
def mZ{h:SJ}(p:h.IsList a b)(q:h.IsList a its'):b=its':=by
 obtain⟨o,e,c,n,d⟩:=p;obtain⟨i,f,k,j,g⟩:=q;rw[e]at f;cases f;rw[d]at g;cases g;rfl
def xx{h:SJ}(p:h.IsList a b)(q:h.IsTuple a its'):False:=by
 obtain⟨o,e,c,n,d⟩:=p;obtain⟨i,f,g,j,k⟩:=q;rw[e]at f;cases f;rw[c]at g;exact Ξ1 (Value.type.inj g) '1'
theorem m6:∀(n:Nat){u:RR}{d e:D}{b:Bool},bD h u d->bD h u e->dh n d e=RM b->b=RQ
  |0,_,_,_,_,_,_,q=>by cases q|n+1,u,d,e,b,p,i,q=>by
    have step:∀{f:List RR}{xs m:List D}{c:Bool},c5 h f xs->c5 h f m->bp (dh n) xs m=RM c->(c&&xs.length==m.length)=RQ:=λ{f xs m c}r v l=>by
      obtain⟨H,G⟩:=dJ l;have:=G (λ_=>RQ) λj x y ex C=>by
        obtain⟨z,w⟩:=H j x y ex C;have B:j<f.length:=by rw[r.length];exact(Ω0.mp ex).1
        obtain⟨M,F,J⟩:=r.get (R_ B);obtain⟨L,E,I⟩:=v.get (R_ B);rw[ex]at F;rw[C]at E;cases F;cases E;rw[w,m6 n J I w]
      rw[<-this,<-r.length,<-v.length];simp
    cases d<;>first
      |exact nomatch(show(RP:Option Bool)=RM b from q)|(cases e<;>first
          |exact nomatch(show(RP:Option Bool)=RM b from q)
          | (simp only[bD]at p i;first
               | (exfalso;(first|(obtain⟨_,rfl⟩:=p)|(obtain⟨_,_,rfl,_⟩:=p)|subst p)<;>(first|(obtain⟨_,z⟩:=i;cases z;done)|(obtain⟨_,_,z,_⟩:=i;cases z;done)|(cases i;done)))|(subst p;cases i;have q:=R3 (show RM _=RM b from q);rw[<-q];try simp;done)|(obtain⟨t,rfl⟩:=p;obtain⟨K,z⟩:=i;cases z;have q:=R3 (show RM _=RM b from q);rw[<-q];try simp;done)|skip))
    all_goals
      obtain⟨a,f,rfl,o,A⟩:=p;obtain⟨N,s,z,g,k⟩:=i;cases z
    · obtain rfl:=k_ o g;obtain⟨c,l,rfl⟩:=Ψ1.mp (show(bp (dh n) _ _).map _=RM b from q);exact step A k l
    ·exact(xx g o).elim
    ·exact(xx o g).elim
    · obtain rfl:=mZ o g;obtain⟨c,l,rfl⟩:=Ψ1.mp (show(bp (dh n) _ _).map _=RM b from q);exact step A k l
def pN{h:SJ}{a its':Array RR}{A:SF}(hs:c5 s.heap a.toList xs)(k:c5 s.heap its'.toList f)(q:(bp (dh n) xs f).map (λb=>b&&xs.length==f.length)=RM b)(C:∀{u v:RR}{d e:D}{c:Bool},bD s.heap u d->bD s.heap v e->dh n d e=RM c->Vr A s u v c):∃e:Nat->Bool,(∀j(o:j<a.size)(m:j<its'.size),Vr A s a[j] its'[j] (e j))/\((SQ (min a.size its'.size)).all e&&a.size==its'.size)=b:=by
 simp only[WZ]at q;obtain⟨c,H,rfl⟩:=q;obtain⟨t,r⟩:=dJ H;have B:a.size=xs.length:=by have:=hs.length;simpa using this
 have w:its'.size=f.length:=by have:=k.length;simpa using this
 have all:∀j:Nat,∃g:Bool,∀(x y:D),xs[j]?=RM x->f[j]?=RM y->dh n x y=RM g:=λj=>by cases F:xs[j]? with
  |none=>exact⟨RQ,λx y z=>nomatch z⟩|some x=>cases E:f[j]? with
   |none=>exact⟨RQ,λx y _ z=>nomatch z⟩|some y=>
    obtain⟨g,l⟩:=t j x y F E;exact⟨g,λL K z p=>by cases z;cases p;exact l⟩
 obtain⟨g,l⟩:∃g:Nat->Bool,∀(j:Nat)(x y:D),xs[j]?=RM x->f[j]?=RM y->dh n x y=RM (g j):=⟨λj=>(all j).choose,λj=>(all j).choose_spec⟩;refine⟨g,λj o m=>?_,?_⟩
 .obtain⟨d,hd,J⟩:=hs.get (i:=j) (u:=a[j]) (by simp[o]);obtain⟨e,G,I⟩:=k.get (i:=j) (u:=its'[j]) (by simp[m]);exact C J I (l j d e hd G)
 .rw[B,w,r g l]
def Ju{A}(o:c5 s.heap f.toList xs)(m:c5 s.heap a.toList p)(j:s.heap.IsTuple a1 f)(i:s.heap.IsTuple k a)(l:A.units<TL)(q:dh (n+1) (.tup xs) (.tup p)=RM b)(y:∀{u v}{d e}{c},bD s.heap u d->bD s.heap v e->dh n d e=RM c->Vr A.in1 s u v c):Y5 A s (.ref a1) (.ref k) b/\XN A s (.ref a1) (.ref k) (!b)/\Vr A s (.ref a1) (.ref k) b:=by
 obtain⟨g,w,hb⟩:=pN (h:=s.heap) o m q y;have r:=hb▸SeqAt.RcAt.tuples j i l w;have x:=hb▸SeqAt.RcNeAt.tuples j i l w;refine⟨r,x,?_⟩;by_cases t:a1=k
 .subst t;have:=m6 (n+1) (by exact⟨a1,f,rfl,j,o⟩) (by exact⟨a1,a,rfl,i,m⟩) q;subst this;exact .same _
 .exact .of_refs t r
def Jv{A}(r:c5 s.heap a.toList xs)(p:c5 s.heap f.toList w)(j:s.heap.IsList a1 a)(i:s.heap.IsList m f)(k:A.units<TL)(q:dh (n+1) (.lst xs) (.lst w)=RM b)(C:∀{u v}{d e}{c},bD s.heap u d->bD s.heap v e->dh n d e=RM c->Vr A.in1 s u v c):Y5 A s (.ref a1) (.ref m) b/\XN A s (.ref a1) (.ref m) (!b)/\Vr A s (.ref a1) (.ref m) b:=by
 obtain⟨g,z,hb⟩:=pN (h:=s.heap) r p q C;have t:Y5 A s (.ref a1) (.ref m) b/\XN A s (.ref a1) (.ref m) (!b):=by
  by_cases o:a.size=f.size
  .have l:=by rw[<-o]at hb;simpa using hb
   exact⟨l▸SeqAt.RcAt.lists j i o k z,l▸SeqAt.RcNeAt.lists j i o k z⟩
  .have l:b=RT:=by rw[<-hb];simp[o]
   subst l;exact⟨SeqAt.RcAt.lists_lengths j i (by simpa using o) k,SeqAt.RcNeAt.lists_lengths j i (by simpa using o) k⟩
 obtain⟨x,B⟩:=t;refine⟨x,B,?_⟩;by_cases y:a1=m
 .subst y;have:=m6 (n+1) (by exact⟨a1,a,rfl,j,r⟩) (by exact⟨a1,f,rfl,i,p⟩) q;subst this;exact .same _
 .exact .of_refs y x
theorem qW:∀(n:Nat){A:SF}{s:RU}{u v:RR}{d e:D}{b:Bool},bD s.heap u d->bD s.heap v e->A.units+n<TL->dh n d e=RM b->Y5 A s u v b/\XN A s u v (!b)/\Vr A s u v b
 |0,_,_,_,_,_,_,_,_,_,_,q=>by cases q|n+1,A,s,u,v,d,e,b,p,i,hu,q=>by
  have a:A.units<TL:='0'
  have H:∀{u v:RR}{d e:D}{c:Bool},bD s.heap u d->bD s.heap v e->dh n d e=RM c->Vr A.in1 s u v c:=λK E J=>(qW n K E (by rw[Around.in1_units];omega) J).2.2;have G:=q;cases d with
  |br=>cases e with
   |br=>
    simp only[bD]at p i;subst p;subst i;have q:=R3 (show RM _=RM b from q);subst q;exact⟨SeqAt.RcAt.none_none,SeqAt.RcNeAt.none_none,SeqAt.EqAt.same _⟩|bl y=>
    simp only[bD]at p i;subst p;subst i;have q:=R3 (show RM _=RM b from q);subst q;exact⟨SeqAt.RcAt.none_bool _,SeqAt.RcNeAt.none_bool _,SeqAt.EqAt.none_bool _⟩|int y=>
    simp only[bD]at p i;subst p;obtain⟨t,rfl⟩:=i;have q:=R3 (show RM _=RM b from q);subst q;exact⟨SeqAt.RcAt.none_int _ _,SeqAt.RcNeAt.none_int _ _,SeqAt.EqAt.none_int _ _⟩|str y=>
    simp only[bD]at p i;subst p;obtain⟨t,rfl⟩:=i;have q:=R3 (show RM _=RM b from q);subst q;exact⟨SeqAt.RcAt.none_str _ _,SeqAt.RcNeAt.none_str _ _,SeqAt.EqAt.none_str _ _⟩|tup o=>
    simp only[bD]at p i;subst p;obtain⟨C,j,rfl,g,l⟩:=i;have q:=R3 (show RM _=RM b from q);subst q;exact⟨SeqAt.RcAt.none_tuple g a,SeqAt.RcNeAt.none_tuple g a,SeqAt.EqAt.none_tuple g a⟩|lst o=>
    simp only[bD]at p i;subst p;obtain⟨C,j,rfl,g,l⟩:=i;have q:=R3 (show RM _=RM b from q);subst q;exact⟨SeqAt.RcAt.none_list g a,SeqAt.RcNeAt.none_list g a,SeqAt.EqAt.none_list g a⟩|aO z r=>exact nomatch(show(RP:Option Bool)=RM b from q)|exc E B=>exact nomatch(show(RP:Option Bool)=RM b from q)|aJ F=>exact nomatch(show(RP:Option Bool)=RM b from q)
  |bl x=>cases e with
   |br=>
    simp only[bD]at p i;subst p;subst i;have q:=R3 (show RM _=RM b from q);subst q;exact⟨SeqAt.RcAt.bool_none _,SeqAt.RcNeAt.bool_none _,SeqAt.EqAt.bool_none _⟩|bl y=>
    simp only[bD]at p i;subst p;subst i;have q:=R3 (show RM _=RM b from q);subst q;exact⟨SeqAt.RcAt.bool_bool _ _,SeqAt.RcNeAt.bool_bool _ _,SeqAt.EqAt.bool_bool _ _⟩|int y=>
    simp only[bD]at p i;subst p;obtain⟨t,rfl⟩:=i;have q:=R3 (show RM _=RM b from q);subst q;exact⟨SeqAt.RcAt.bool_int _ _ _,SeqAt.RcNeAt.bool_int _ _ _,SeqAt.EqAt.bool_int _ _ _⟩|str y=>
    simp only[bD]at p i;subst p;obtain⟨t,rfl⟩:=i;have q:=R3 (show RM _=RM b from q);subst q;exact⟨SeqAt.RcAt.bool_str _ _ _,SeqAt.RcNeAt.bool_str _ _ _,SeqAt.EqAt.bool_str _ _ _⟩|tup o=>
    simp only[bD]at p i;subst p;obtain⟨C,j,rfl,g,l⟩:=i;have q:=R3 (show RM _=RM b from q);subst q;exact⟨SeqAt.RcAt.bool_tuple _ g a,SeqAt.RcNeAt.bool_tuple _ g a,SeqAt.EqAt.bool_tuple _ g a⟩|lst o=>
    simp only[bD]at p i;subst p;obtain⟨C,j,rfl,g,l⟩:=i;have q:=R3 (show RM _=RM b from q);subst q;exact⟨SeqAt.RcAt.bool_list _ g a,SeqAt.RcNeAt.bool_list _ g a,SeqAt.EqAt.bool_list _ g a⟩|aO z r=>exact nomatch(show(RP:Option Bool)=RM b from q)|exc E B=>exact nomatch(show(RP:Option Bool)=RM b from q)|aJ F=>exact nomatch(show(RP:Option Bool)=RM b from q)
  |int x=>cases e with
   |br=>
    simp only[bD]at p i;obtain⟨w,rfl⟩:=p;subst i;have q:=R3 (show RM _=RM b from q);subst q;exact⟨SeqAt.RcAt.int_none _ _,SeqAt.RcNeAt.int_none _ _,SeqAt.EqAt.int_none _ _⟩|bl y=>
    simp only[bD]at p i;obtain⟨w,rfl⟩:=p;subst i;have q:=R3 (show RM _=RM b from q);subst q;exact⟨SeqAt.RcAt.int_bool _ _ _,SeqAt.RcNeAt.int_bool _ _ _,SeqAt.EqAt.int_bool _ _ _⟩|int y=>
    simp only[bD]at p i;obtain⟨w,rfl⟩:=p;obtain⟨t,rfl⟩:=i;have q:=R3 (show RM _=RM b from q);subst q;exact⟨SeqAt.RcAt.int_int _ _ _ _,SeqAt.RcNeAt.int_int _ _ _ _,aab _ _ _ _⟩|str y=>
    simp only[bD]at p i;obtain⟨w,rfl⟩:=p;obtain⟨t,rfl⟩:=i;have q:=R3 (show RM _=RM b from q);subst q;exact⟨SeqAt.RcAt.int_str _ _ _ _,SeqAt.RcNeAt.int_str _ _ _ _,Z4 _ _ _ _⟩|tup o=>
    simp only[bD]at p i;obtain⟨w,rfl⟩:=p;obtain⟨C,j,rfl,g,l⟩:=i;have q:=R3 (show RM _=RM b from q);subst q;exact⟨SeqAt.RcAt.int_tuple _ _ g a,SeqAt.RcNeAt.int_tuple _ _ g a,Zz _ _ g a⟩|lst o=>
    simp only[bD]at p i;obtain⟨w,rfl⟩:=p;obtain⟨C,j,rfl,g,l⟩:=i;have q:=R3 (show RM _=RM b from q);subst q;exact⟨SeqAt.RcAt.int_list _ _ g a,SeqAt.RcNeAt.int_list _ _ g a,SeqAt.EqAt.int_list _ _ g a⟩|aO z r=>exact nomatch(show(RP:Option Bool)=RM b from q)|exc E B=>exact nomatch(show(RP:Option Bool)=RM b from q)|aJ F=>exact nomatch(show(RP:Option Bool)=RM b from q)
  |str x=>cases e with
   |br=>
    simp only[bD]at p i;obtain⟨w,rfl⟩:=p;subst i;have q:=R3 (show RM _=RM b from q);subst q;exact⟨SeqAt.RcAt.str_none _ _,SeqAt.RcNeAt.str_none _ _,SeqAt.EqAt.str_none _ _⟩|bl y=>
    simp only[bD]at p i;obtain⟨w,rfl⟩:=p;subst i;have q:=R3 (show RM _=RM b from q);subst q;exact⟨SeqAt.RcAt.str_bool _ _ _,SeqAt.RcNeAt.str_bool _ _ _,SeqAt.EqAt.str_bool _ _ _⟩|int y=>
    simp only[bD]at p i;obtain⟨w,rfl⟩:=p;obtain⟨t,rfl⟩:=i;have q:=R3 (show RM _=RM b from q);subst q;exact⟨SeqAt.RcAt.str_int _ _ _ _,SeqAt.RcNeAt.str_int _ _ _ _,Z5 _ _ _ _⟩|str y=>
    simp only[bD]at p i;obtain⟨w,rfl⟩:=p;obtain⟨t,rfl⟩:=i;have q:=R3 (show RM _=RM b from q);subst q;exact⟨SeqAt.RcAt.str_str _ _ _ _,SeqAt.RcNeAt.str_str _ _ _ _,SeqAt.EqAt.str_str _ _ _ _⟩|tup o=>
    simp only[bD]at p i;obtain⟨w,rfl⟩:=p;obtain⟨C,j,rfl,g,l⟩:=i;have q:=R3 (show RM _=RM b from q);subst q;exact⟨SeqAt.RcAt.str_tuple _ _ g a,SeqAt.RcNeAt.str_tuple _ _ g a,ZA _ _ g a⟩|lst o=>
    simp only[bD]at p i;obtain⟨w,rfl⟩:=p;obtain⟨C,j,rfl,g,l⟩:=i;have q:=R3 (show RM _=RM b from q);subst q;exact⟨SeqAt.RcAt.str_list _ _ g a,SeqAt.RcNeAt.str_list _ _ g a,SeqAt.EqAt.str_list _ _ g a⟩|aO z r=>exact nomatch(show(RP:Option Bool)=RM b from q)|exc E B=>exact nomatch(show(RP:Option Bool)=RM b from q)|aJ F=>exact nomatch(show(RP:Option Bool)=RM b from q)
  |tup I=>cases e with
   |br=>
    simp only[bD]at p i;obtain⟨a1,k,rfl,h,m⟩:=p;subst i;have q:=R3 (show RM _=RM b from q);subst q;exact⟨SeqAt.RcAt.tuple_none h a,SeqAt.RcNeAt.tuple_none h a,SeqAt.EqAt.tuple_none h a⟩|bl y=>
    simp only[bD]at p i;obtain⟨a1,k,rfl,h,m⟩:=p;subst i;have q:=R3 (show RM _=RM b from q);subst q;exact⟨SeqAt.RcAt.tuple_bool _ h a,SeqAt.RcNeAt.tuple_bool _ h a,SeqAt.EqAt.tuple_bool _ h a⟩|int y=>
    simp only[bD]at p i;obtain⟨a1,k,rfl,h,m⟩:=p;obtain⟨t,rfl⟩:=i;have q:=R3 (show RM _=RM b from q);subst q;exact⟨SeqAt.RcAt.tuple_int _ _ h a,SeqAt.RcNeAt.tuple_int _ _ h a,ZC _ _ h a⟩|str y=>
    simp only[bD]at p i;obtain⟨a1,k,rfl,h,m⟩:=p;obtain⟨t,rfl⟩:=i;have q:=R3 (show RM _=RM b from q);subst q;exact⟨SeqAt.RcAt.tuple_str _ _ h a,SeqAt.RcNeAt.tuple_str _ _ h a,ZD _ _ h a⟩|tup o=>
    simp only[bD]at p i;obtain⟨a1,k,rfl,h,m⟩:=p;obtain⟨C,j,rfl,g,l⟩:=i;exact Ju m l h g a G H|lst o=>
    simp only[bD]at p i;obtain⟨a1,k,rfl,h,m⟩:=p;obtain⟨C,j,rfl,g,l⟩:=i;have q:=R3 (show RM _=RM b from q);subst q;exact⟨SeqAt.RcAt.tuple_list h g a,SeqAt.RcNeAt.tuple_list h g a,SeqAt.EqAt.tuple_list h g a⟩|aO z r=>exact nomatch(show(RP:Option Bool)=RM b from q)|exc E B=>exact nomatch(show(RP:Option Bool)=RM b from q)|aJ F=>exact nomatch(show(RP:Option Bool)=RM b from q)
  |lst I=>cases e with
   |br=>
    simp only[bD]at p i;obtain⟨a1,k,rfl,h,m⟩:=p;subst i;have q:=R3 (show RM _=RM b from q);subst q;exact⟨SeqAt.RcAt.list_none h a,SeqAt.RcNeAt.list_none h a,SeqAt.EqAt.list_none h a⟩|bl y=>
    simp only[bD]at p i;obtain⟨a1,k,rfl,h,m⟩:=p;subst i;have q:=R3 (show RM _=RM b from q);subst q;exact⟨SeqAt.RcAt.list_bool _ h a,SeqAt.RcNeAt.list_bool _ h a,SeqAt.EqAt.list_bool _ h a⟩|int y=>
    simp only[bD]at p i;obtain⟨a1,k,rfl,h,m⟩:=p;obtain⟨t,rfl⟩:=i;have q:=R3 (show RM _=RM b from q);subst q;exact⟨SeqAt.RcAt.list_int _ _ h a,SeqAt.RcNeAt.list_int _ _ h a,SeqAt.EqAt.list_int _ _ h a⟩|str y=>
    simp only[bD]at p i;obtain⟨a1,k,rfl,h,m⟩:=p;obtain⟨t,rfl⟩:=i;have q:=R3 (show RM _=RM b from q);subst q;exact⟨SeqAt.RcAt.list_str _ _ h a,SeqAt.RcNeAt.list_str _ _ h a,SeqAt.EqAt.list_str _ _ h a⟩|tup o=>
    simp only[bD]at p i;obtain⟨a1,k,rfl,h,m⟩:=p;obtain⟨C,j,rfl,g,l⟩:=i;have q:=R3 (show RM _=RM b from q);subst q;exact⟨SeqAt.RcAt.list_tuple h g a,SeqAt.RcNeAt.list_tuple h g a,SeqAt.EqAt.list_tuple h g a⟩|lst o=>
    simp only[bD]at p i;obtain⟨a1,k,rfl,h,m⟩:=p;obtain⟨C,j,rfl,g,l⟩:=i;exact Jv m l h g a G H|aO z r=>exact nomatch(show(RP:Option Bool)=RM b from q)|exc E B=>exact nomatch(show(RP:Option Bool)=RM b from q)|aJ F=>exact nomatch(show(RP:Option Bool)=RM b from q)
  |aO ks L=>exact nomatch(show(RP:Option Bool)=RM b from q)|exc c M=>exact nomatch(show(RP:Option Bool)=RM b from q)|aJ f=>exact nomatch(show(RP:Option Bool)=RM b from q)
def m7(r:c5 h f xs)(A:c5 h f i)(q:bp (dh n) xs e=RM a)(I:bp (dh n) i e=RM b)(M:∀{u}{d d' x}{a b},bD h u d->bD h u d'->dh n d x=RM a->dh n d' x=RM b->a=b):(a&&xs.length==e.length)=(b&&i.length==e.length):=by
 obtain⟨v,J⟩:=dJ q;obtain⟨p,o⟩:=dJ I;have B:=r.length.symm.trans A.length;have same:∀j x y z,xs[j]?=RM x->i[j]?=RM y->e[j]?=RM z->dh n x z=dh n y z:=λj x y z t l k=>by
  obtain⟨U,E⟩:=v j x z t k;obtain⟨T,C⟩:=p j y z l k;have c:j<f.length:=by rw[r.length];exact(Ω0.mp t).1
  obtain⟨S,G,L⟩:=r.get (R_ c);obtain⟨R,F,K⟩:=A.get (R_ c);rw[t]at G;rw[l]at F;cases G;cases F;rw[E,C,M L K E C]
 have all:∀j:Nat,∃g:Bool,∀(x z),xs[j]?=RM x->e[j]?=RM z->dh n x z=RM g:=λj=>by cases O:xs[j]? with
  |none=>exact⟨RQ,λx y z=>nomatch z⟩|some x=>cases N:e[j]? with
   |none=>exact⟨RQ,λx y _ z=>nomatch z⟩|some z=>
    obtain⟨g,m⟩:=v j x z O N;exact⟨g,λQ P w H=>by cases w;cases H;exact m⟩
 obtain⟨g,m⟩:∃g:Nat->Bool,∀(j)(x z),xs[j]?=RM x->e[j]?=RM z->dh n x z=RM (g j):=⟨λj=>(all j).choose,λj=>(all j).choose_spec⟩;have s:∀(j)(y z),i[j]?=RM y->e[j]?=RM z->dh n y z=RM (g j):=λj y z l k=>by
  have c:j<xs.length:=by rw[B];exact(Ω0.mp l).1
  rw[<-same j xs[j] y z (R_ c) l k];exact m j _ z (R_ c) k
 rw[<-J g m,<-o g s,B]
theorem m8:∀(n:Nat){u:RR}{d d' x:D}{a b:Bool},bD h u d->bD h u d'->dh n d x=RM a->dh n d' x=RM b->a=b
  |0,_,_,_,_,_,_,_,_,q,_=>by cases q|n+1,u,d,d',x,a,b,p,g,q,e=>by
    cases d<;>first
      |exact nomatch(show(RP:Option Bool)=RM a from q)|(cases d'<;>first
          |exact nomatch(show(RP:Option Bool)=RM b from e)
          | (simp only[bD]at p g;first
               | (exfalso;(first|(obtain⟨_,rfl⟩:=p)|(obtain⟨_,_,rfl,_⟩:=p)|subst p)<;>(first|(obtain⟨_,z⟩:=g;cases z;done)|(obtain⟨_,_,z,_⟩:=g;cases z;done)|(cases g;done)))|(subst p;cases g;rw[q]at e;exact R3 e)|(obtain⟨t,rfl⟩:=p;obtain⟨t',z⟩:=g;cases z;rw[q]at e;exact R3 e)|skip))
    all_goals
      obtain⟨a1,y,rfl,k,hs⟩:=p;obtain⟨B,v,z,f,j⟩:=g;cases z
    · obtain rfl:=k_ k f;cases x with
      |tup w=>
        obtain⟨c,o,rfl⟩:=Ψ1.mp (show(bp (dh n) _ _).map _=RM a from q);obtain⟨A,i,rfl⟩:=Ψ1.mp (show(bp (dh n) _ _).map _=RM b from e);exact m7 hs j o i λm l s r=>m8 n m l s r|aO _ _=>exact nomatch(show(RP:Option Bool)=RM a from q)|exc _ _=>exact nomatch(show(RP:Option Bool)=RM a from q)|aJ _=>exact nomatch(show(RP:Option Bool)=RM a from q)|_=>exact(R3 (show RM RT=RM a from q)).symm.trans (R3 (show RM RT=RM b from e))
    ·exact(xx f k).elim
    ·exact(xx k f).elim
    · obtain rfl:=mZ k f;cases x with
      |lst w=>
        obtain⟨c,o,rfl⟩:=Ψ1.mp (show(bp (dh n) _ _).map _=RM a from q);obtain⟨A,i,rfl⟩:=Ψ1.mp (show(bp (dh n) _ _).map _=RM b from e);exact m7 hs j o i λm l s r=>m8 n m l s r|aO _ _=>exact nomatch(show(RP:Option Bool)=RM a from q)|exc _ _=>exact nomatch(show(RP:Option Bool)=RM a from q)|aJ _=>exact nomatch(show(RP:Option Bool)=RM a from q)|_=>exact(R3 (show RM RT=RM a from q)).symm.trans (R3 (show RM RT=RM b from e))
noncomputable def dS:Nat:=60
noncomputable def Rp:D->D->M D:=λd e=>do
 let b<-M.get (dh dS d e)pure (.bl b)
noncomputable def Rq:D->D->M D:=λd e=>do
 let b<-M.get (dh dS d e)pure (.bl (!b))
noncomputable def jG(x:D):List D->Option Bool
 |[]=>RM RT|y::c=>match dh 50 y x,jG x c with
  |some a,RM b=>RM (a||b)|_,_=>RP
noncomputable def QM(neg:Bool):D->D->M D:=λd e=>do
 let a<-M.get (items e)let b<-M.get (jG d a)pure (.bl (if neg then !b else b))
section
def Mz(hu:X.A.units+64<TL):gw X F (Tb .Eq) Rp:=⟨λa s i H k x y v u d e Q I f c l hK h g q=>by
 obtain⟨b,hb,q⟩:=M.run_get.mp q;exact EqBoolInt.of_rc (qW dS (fw I hK f h) (fw I hK c g) (by unfold dS;omega) hb).1 ⟨.bl b,H,I,rfl,q _ H .refl (by simp only[Is])⟩⟩
def MA(hu:X.A.units+64<TL):gw X F (Tb .NotEq) Rq:=⟨λa s i H k x y v u d e Q I f c l hK h g q=>by
 obtain⟨b,hb,q⟩:=M.run_get.mp q;exact EqBoolInt.of_rcne (qW dS (fw I hK f h) (fw I hK c g) (by unfold dS;omega) hb).2.1 ⟨.bl (!b),H,I,rfl,q _ H .refl (by simp only[Is])⟩⟩
theorem tq:∀{g:List D}{b:Bool},jG x g=RM b->(∀y∈g,∃c,dh 50 y x=RM c)/\(b=RQ↔∃y∈g,dh 50 y x=RM RQ)
 |[],b,h=>by
  simp only[jG,UH]at h;subst h;exact⟨λy k=>(nomatch k),⟨λz=>(nomatch z),λ⟨y,k,_⟩=>(nomatch k)⟩⟩|y::g,b,h=>by
  simp only[jG]at h;cases f:dh 50 y x with
  |none=>rw[f]at h;simp at h|some a=>cases l:jG x g with
   |none=>rw[f,l]at h;simp at h|some c=>
    rw[f,l]at h;simp only[UH]at h;obtain⟨n,m⟩:=tq l;refine⟨λz j=>?_,?_⟩
    .rcases Ω2.mp j with rfl|j;.exact⟨a,f⟩
     .exact n z j
    .rw[<-h,Ue,m];constructor
     .rintro(z|⟨i,d,e⟩);.exact⟨y,RX,by rw[f,z]⟩
      .exact⟨i,RZ _ d,e⟩
     .rintro⟨i,d,e⟩;rcases Ω2.mp d with rfl|d;.rw[f]at e;exact .inl (R3 e)
      .exact .inr ⟨i,d,e⟩
def jH{A:SF}{a:Array RR}(hs:c5 s.heap a.toList d)(z:bD s.heap v x)(hu:A.units+51<TL)(q:jG x d=RM b):∃e:RR->Bool,(∀y,y∈a->Vr A.in1 s y v (e y))/\a.any e=b:=by classical
 obtain⟨w,t⟩:=tq q;refine⟨λu=>decide (∃y∈d,bD s.heap u y/\dh 50 y x=RM RQ),λu o=>?_,?_⟩
 .obtain⟨i,l,rfl⟩:=Array.mem_iff_getElem.mp o;obtain⟨y,f,m⟩:=hs.get (i:=i) (u:=a[i]) (by simp[l]);obtain⟨c,p⟩:=w y (SE f);have:decide (∃y∈d,bD s.heap a[i] y/\dh 50 y x=RM RQ)=c:=by cases c with
   |true=>exact Φ2 ⟨y,SE f,m,p⟩|false=>
    refine Φ1 λn=>?_;obtain⟨r,_,k,e⟩:=n;have:=m8 50 m k p e;cases this
  show Vr A.in1 s a[i] v (decide (∃y∈d,bD s.heap a[i] y/\dh 50 y x=RM RQ));rw[this];exact(qW 50 m z (by rw[Around.in1_units];omega+splitNatSub) p).2.2
 .have key:a.any (λu=>decide (∃y∈d,bD s.heap u y/\dh 50 y x=RM RQ))=RQ↔b=RQ:=by
   rw[t,Array.any_eq_true];constructor
   .rintro⟨i,l,h⟩;obtain⟨y,f,_,e⟩:=Φ0 h;exact⟨y,f,e⟩
   .rintro⟨y,f,e⟩;obtain⟨i,l⟩:=Ψ2.mp f;have j:i<a.size:=by have:=hs.length;have:=(Ω0.mp l).1;simp at*;omega+splitNatSub
    refine⟨i,j,Φ2 ⟨y,f,?_,e⟩⟩;obtain⟨r,g,m⟩:=hs.get (i:=i) (u:=a[i]) (by simp[j]);rw[l]at g;cases g;exact m
  cases b with
  |true=>exact key.mpr rfl|false=>cases hb:a.any (λu=>decide (∃y∈d,bD s.heap u y/\dh 50 y x=RM RQ))with
   |false=>rfl|true=>exact Ξ1 (key.mp hb) '1'
def MB(hu:X.A.units+64<TL):gw X F (Tb .In) (QM RT):=⟨λn s C H k x y v u d e Q I r p l hK z w q=>by
 obtain⟨D,B,t⟩:=M.run_get.mp q;obtain⟨b,hb,m⟩:=M.run_get.mp t;have o:=fw I hK r z;have c:=fw I hK p w;cases e<;>first|cases B|skip
 .simp only[bD]at c;obtain⟨a,f,rfl,g,h⟩:=c;obtain⟨e,j,i⟩:=jH (A:=X.A) h o '0' hb;exact SeqAt.in_tupleAt e g j (by rw[i];exact⟨.bl b,H,I,rfl,m _ H .refl (by rfl)⟩)
 .obtain⟨a,f,rfl,g,h⟩:=c;obtain⟨e,j,i⟩:=jH (A:=X.A) h o '0' hb;exact SeqAt.in_listAt e g j (by rw[i];exact⟨.bl b,H,I,rfl,m _ H .refl (by rfl)⟩)⟩
def Bu(hu:X.A.units+64<TL):gw X F (Tb .NotIn) (QM RQ):=⟨λn s C H k x y v u d e Q I r p l hK z w q=>by
 obtain⟨D,B,t⟩:=M.run_get.mp q;obtain⟨b,hb,m⟩:=M.run_get.mp t;have o:=fw I hK r z;have c:=fw I hK p w;cases e<;>first|cases B|skip
 .simp only[bD]at c;obtain⟨a,f,rfl,g,h⟩:=c;obtain⟨e,j,i⟩:=jH (A:=X.A) h o '0' hb;exact SeqAt.notIn_tupleAt e g j (by rw[i];exact⟨.bl (!b),H,I,rfl,m _ H .refl (by rfl)⟩)
 .obtain⟨a,f,rfl,g,h⟩:=c;obtain⟨e,j,i⟩:=jH (A:=X.A) h o '0' hb;exact SeqAt.notIn_listAt e g j (by rw[i];exact⟨.bl (!b),H,I,rfl,m _ H .refl (by rfl)⟩)⟩
end
end L2
end
section
namespace HT
open PySem PyProof.Rows
section
def Bv{ws:List RR}(l:aao s.heap t ([]).toArray)(hb:aao s.heap b ws.toArray)(m:Q (.ref b) s):wpAny (Sb prog w) A (Ve .Add (.ref t) (.ref b)) Q E s:=by
 obtain⟨⟨cls,o,i,k⟩,g,h,n,hd⟩:=id l;obtain⟨⟨j,f,data2,e⟩,a,d,n2,c⟩:=id hb;simp only at h hd d c;subst h hd d c;exact aat ⟨_,g,rfl⟩ ⟨_,a,rfl⟩ Yx Z2 WO WG (Wm _ _) (tuple_addW0 t b ([]).toArray ws.toArray n n2 o f k e (by rfl)) ⟨g,a,m⟩
end
end HT
namespace L2
open PySem PySem.Spec PyProof.Rows
section
noncomputable def MD:D->D->M D
 |.int i,.int j=>pure (.int (i+j))|.tup b,.tup a=>do M.need (b.length+a.length<=R1);pure (.tup (b++a))|.lst b,.lst a=>do M.need (b.length+a.length<=R1);pure (.lst (b++a))|_,_=>M.fail
theorem E9:gw X F (Ve .Add) MD:=⟨λG s σ H k x y v u d e Q I O N l hK E C q=>by cases d with
 |int i=>cases e with
  |int j=>
   subst E C;obtain⟨t,rfl⟩:=O;obtain⟨t',rfl⟩:=N;exact add_int ⟨.int (i+j),H,I.tok _,⟨_,rfl⟩,q _ H .refl (by simp only[Is])⟩|_=>exact q.elim
 |tup w=>cases e with
  |tup W=>
   simp only[Is]at E C;obtain⟨a,A,rfl,K,p⟩:=E;obtain⟨L,f,rfl,m,c⟩:=C;cases O;cases N;obtain⟨h,R,Y,_⟩:=I.tuple (by rw[hK];exact K.2);obtain⟨g,B,p2,_⟩:=I.tuple (by rw[hK];exact m.2);by_cases Z:h=[]
   .subst Z;have T:=R.wM.mp rfl;subst T;have hd:=List.length_eq_zero_iff.mp (by rw[<-p.length];rfl);subst hd;exact HT.Bv Y p2 ⟨.ref L,H,I,rfl,q.2 _ H .refl (by exact⟨L,f,rfl,m,c⟩)⟩
   .have S:A.length+f.length<=R1:=by rw[p.length,c.length];exact q.1
    refine HT.Ek Y p2 Z (λz=>?_) (λz=>?_) (by rw[<-R.length,<-B.length];exact S)
    .have T:=B.wM.mp z;subst T;have hd:=List.length_eq_zero_iff.mp (by rw[<-c.length];rfl);subst hd;exact⟨.ref a,H,I,rfl,q.2 _ H .refl (by exact⟨a,A,rfl,K,by rw[TF];exact p⟩)⟩
    .have hf:=I.aM.fresh (R5 _);refine⟨.ref s⁻¹,_,I.laid (λb ob q=>RY _ q) (R5 _) ?_,rfl,q.2 _ _ (.new hf) (iY (k:=k) l hf (p.append c))⟩;exact⟨by rw[SR];exact S,_,R.append B,IsTup.new _ _⟩|_=>exact q.elim
 |lst w=>cases e with
  |lst W=>
   simp only[Is]at E C;obtain⟨a,A,rfl,K,p⟩:=E;obtain⟨L,f,rfl,m,c⟩:=C;cases O;cases N;obtain⟨o,U⟩:=K.2;obtain⟨o',J⟩:=m.2;obtain⟨_,z,h,n,r,e⟩:=I.aM a _ U;obtain⟨_,z2,g,n2,B,e2⟩:=I.aM L _ J;have l1:=r.length;have l2:=B.length;have S:A.length+f.length<=R1:=by rw[p.length,c.length];exact q.1
   refine bE (PySem.P.add_list e e2 (Q:=EP X G σ λv V=>∃a w,v=.ref a/\V a=RM (.lst w)/\∀o,Q v (upd V a (.cz o (.lst w)))) ?_ (by rw[Se,Se];omega)) λu s1⟨v,V,I1,r,a,w,e,ha,q1⟩=>?_
   .have ea:h.toArray++g.toArray=(h++g).toArray:=by simp
    rw[ea];refine⟨.ref _,_,I.Pg (r.append B) (by rw[SR];omega),rfl,_,_,rfl,aq,λo=>?_⟩;rw[bZ];exact q.2 _ _ (.new I.fresh) (dq (k:=k) l I.fresh (p.append c))
   .obtain⟨_,h,n,rv,ho⟩:=I1.aM a _ ha;exact⟨v,_,I1.freeze ha ho '3' (λ_ _ z=>nomatch z) '3' '3',r,q1 _⟩|_=>exact q.elim
 |_=>exact q.elim⟩
noncomputable def Jw:D->D->M D
 |.int i,.int j=>pure (.int (i-j))|_,_=>M.fail
theorem xy:gw X F (Ve .Sub) Jw:=⟨λa s h H k x y v u d e Q I g f l hK c b q=>by cases d with
 |int i=>cases e with
  |int j=>
   subst c b;obtain⟨t,rfl⟩:=g;obtain⟨m,rfl⟩:=f;exact sub_int ⟨.int (i-j),H,I.tok _,⟨_,rfl⟩,q _ H .refl (by simp only[Is])⟩|_=>exact q.elim
 |_=>exact q.elim⟩
def Jx(f:DE X F e te):DE X F (.UnaryOp .USub e pos) (λρ=>do let i<-gD (<-te ρ);pure (.int (-i))):=⟨f.hK,(LU Il f.pe).imp λl H Q a=>by
  obtain⟨ρ,k,S,h⟩:=a;refine dR.next S h λd m v j g n c b=>?_;obtain⟨i,rfl,b⟩:=bh.mp b;exact⟨i,c,b _ j g (by simp only[Is])⟩⟩
end
end L2
end
section
namespace ZP
open PySem PyProof.Rows
end ZP
namespace L2
open PySem PySem.Spec PyProof.Rows ZP
section
variable{σ:St}
def Inv.Hc{g:List RW}(I:Inv X pins σ H s)(d:∀b∈g,ij X pins H b)(keep:∀c o,c∉g->s.heap.get? c=RM o->h'.get? c=RM o):Inv X pins σ H {s with heap:=h',toks:=t'}:=I.call ⟨λb o e n hb a=>keep b o a e,λb o e n hb a=>⟨o.slots,keep b o a e⟩,λb o e n a=>n,λb o e a=>⟨o,keep b o a e⟩,λb m e=>e,λb o u e=>e,λb ps e=>⟨#[],by rw[Array.append_empty];exact e⟩⟩ (λb o e=>(I.aM b o e).fN (λc v f q=>keep c v (λi=>by
   have h:=(d c i).1;rcases f with rfl|f;.rw[h]at e;cases e
   .rw[h]at f;cases f) q) (λ_ q=>q) λ_ _ q=>q) I.bare (λb hb=>by
   obtain⟨_,l,p,k,j,f5⟩:=d b hb;exact⟨k,l,j,f5⟩)
end
end L2
end
section
namespace L2
open PySem PySem.Spec PyProof.Rows ZP
noncomputable def OE(K:R0)(a:RW):It:=⟨λi H=>∃b x,dZ K H a b/\b[i]?=RM x,λi H x c=>∃t v,H t=RP/\x=.ref t/\c=upd H t (.tup [.int i,v])/\∀b,dZ K H a b->b[i]?=RM v,λi H=>∃b,dZ K H a b/\b.length<=i⟩
structure QN(h:SJ)(e it a:RW)(k:Nat):Prop where
 en:∃old,IsEnum h e it (k:Int) old
 ii:h.IsListIter it a k
def zw{K}(n:e≠it):Turn P w K (.Tuple elts x1 pos) (OE K a) [e,it] e (λk h=>QN h e it a k)where
 mem:=by simp
 obj:=λi h st b hb=>by
  simp only[Ts,T5,or_false]at hb;rcases hb with rfl|rfl;.obtain⟨d,q⟩:=st.en;exact⟨_,q,λv q=>nomatch q⟩
  .obtain⟨o,q,_,r⟩:=st.ii;exact⟨o,q,λv z=>by rw[r]at z;cases z⟩
 keep:=λi h O st k=>by
  obtain⟨d,q⟩:=st.en;obtain⟨o,q2,r⟩:=st.ii;exact⟨⟨d,k e '2' _ q⟩,⟨o,k it '2' _ q2,r⟩⟩
 item:=λX hP hw hK g i j s R H E I f st go=>by
  subst hP hw hK;obtain⟨Y,x,t,ex⟩:=go;obtain⟨G,B,D,_⟩:=I.list t;obtain⟨u,eu,Z⟩:=B.get ex;obtain⟨d,en⟩:=st.en;refine wpAny_pyNext_enum_item en st.ii D.isList (by simpa using eu) n λO eo M pr hz L=>⟨_,rfl,?_⟩;refine wpAny_letOwnedTupleGo_enum eo λy e2 m=>?_;have V:=I.aM.fresh (R5 _);have T:∀b∈[e,it],b<s⁻¹:=λb hb=>by
   simp only[Ts,T5,or_false]at hb;rcases hb with rfl|rfl;.exact Sa en
   .obtain⟨o,q,_⟩:=st.ii;exact Sa q
  have l:∀c o,c∉[e,it]->s.heap.get? c=RM o->y.get? c=RM o:=λc o g q=>by
   simp only[Ts,T5,or_false,not_or]at g;exact m.extBut _ _ g.1 (L c o g.1 g.2 q)
  have C:=m.extBut _ _ (UE (T e '2')) pr;have I2:Inv X j R H {s with heap:=y,toks:=s.toks+1}:=I.Hc f l;refine⟨.ref s⁻¹,upd H s⁻¹ (.tup [.int i,x]),I2.AG I.sz V (UE I.lt) (λv c q z=>?_) (λp hp z=>?_) ⟨by show 2<=R1;decide,[.int i s.toks,u],.cons ⟨_,rfl⟩ (Z∘.nil),⟨_,C,rfl,_,rfl⟩⟩,rfl,⟨_,x,V,rfl,rfl,λzs J=>?_⟩,?_,λb hb=>?_⟩
  .obtain⟨w',q'⟩:=I.cell v c q;exact Ξ1 q'.lt (by rw[z];exact Tr _)
  .exact Ξ1 (Sa (I.pin p hp).1) (by rw[z];exact Tr _)
  .rw[I.sD J t];exact ex
  .refine⟨⟨_,by rw[show((i+1:Nat))=(i:Int)+1 from by push_cast;rfl];exact e2⟩,?_⟩;obtain⟨o,q,r⟩:=M;exact⟨o,m.extBut _ _ n.symm q,r⟩
  .rw[ar (SD (T b hb))];exact(f b hb).1
 done:=λX hP hw hK g i j s R H E I f st stop=>by
  subst hP hw hK;obtain⟨Y,t,U⟩:=stop;obtain⟨G,B,D,_⟩:=I.list t;obtain⟨d,en⟩:=st.en;refine wpAny_pyNext_enum_end (I.ok.hd g) en st.ii D.isList (by rw[B.length]at U;simpa using U) λO L=>⟨rfl,?_⟩;exact I.Hc f λc o g q=>L c o (λz=>g (by simp[z])) q
 self:=λA i s Q E st q=>by
  obtain⟨d,en⟩:=st.en;have N:s.TypeIs (.ref e) "enumerate":=⟨_,en,rfl⟩;refine WX N XO (Tq XO N PySem.F.entry_enumerate_iter ?_ (PySem.F.args_enumerate_iter_1 _));exact RS ⟨_,rfl,"enumerate",_,N,PySem.F.slot_enumerate_next.lookup,q⟩
noncomputable def ME(K:R0)(f:TA):TI:=λd H R=>f d H λe c=>∃a b,e=[.ref a]/\dZ K c a b/\(b.length<=R1->R (OE K a) c)
def E_{X:Cx}{elts:List Sj}{x1:Nat}{tp:Uq}{a:Sj}{j:TA}{p pos:Uq}(y:Gl X "enumerate")(v:X.mg "enumerate"=RP)(ha:PA X [a] j)(hs:Sq [a] X.env=[(RT,Ux a X.env)]:=by rfl):PI X (.Tuple elts x1 tp) (.Call (.Name "enumerate" p) [a] [] pos) (ME X.K j):=by
 intro d s k H R I h;refine Call_ (mv I y v (by decide+kernel:Uh "enumerate"=RM (.type "enumerate")) (V0 (bE (ha pos d s k H _ I h) λE c⟨D,B,f,n,o⟩=>?_) hs rfl));obtain⟨a1,C,rfl,z,q⟩:=o;obtain⟨u,rfl,m⟩:=vals1 n;cases m;obtain⟨t,F,r,l⟩:=f.list z;refine call_enumerate_list r.isList λA en g G x=>?_;have T:QN A (c⁻¹+1) c⁻¹ a1 0:=⟨⟨_,en⟩,g⟩;have i:=zw (P:=X.prog) (w:=X.w) (K:=X.K) (elts:=elts) (x1:=x1) (pos:=tp) (a:=a1) (show c⁻¹+1≠c⁻¹ by omega);refine i.self _ 0 _ _ _ T ?_;refine⟨c⁻¹+1,[c⁻¹+1,c⁻¹],_,OE X.K a1,B,rfl,f.kept (t':=c.toks) x,i,T,λb hb=>?_,q l⟩;have e:c⁻¹<=b:=by
  simp only[Ts,T5,or_false]at hb;rcases hb with rfl|rfl;.exact We _ _
  .exact R5 _
 exact f.Eb e (f.aM.fresh e)
noncomputable def iG(xs:List D):List D:=xs.zipIdx.map λx=>D.tup [.int (x.2:Nat),x.1]
noncomputable def MF(d:D):M (List D):=match d with
 |.lst a=>pure (iG a)|_=>M.fail
def Bw{i:Nat}(h:(iG xs)[i]?=RM d):∃x,xs[i]?=RM x/\d=.tup [.int (i),x]:=by
 unfold iG at h;rw[Sn,List.getElem?_zipIdx]at h;cases a:xs[i]? with
 |none=>rw[a]at h;simp at h|some x=>
  rw[a]at h;simp at h;exact⟨x,rfl,h.symm⟩
def zx(h:LstAt B H a vs)(i:ag B H vs xs)(f:vs.length<=R1):vw B (OE B.K a) (iG xs) H k where
 step:=λj d o c hd e l=>by
  obtain⟨x,q,rfl⟩:=Bw hd;obtain⟨v,n,s⟩:=(i.mono e).get q;have b:dZ B.K o a vs:=(h.mono e).2.sq;refine⟨⟨vs,v,b,n⟩,λz w p=>?_⟩;obtain⟨t,u,g,rfl,rfl,r⟩:=p;have m:=r vs b;rw[n]at m;cases m;exact⟨.new g,iY (k:=c) l g ((by simp only[Is])∘s∘.nil)⟩
 stop:=λo c e l=>⟨vs,(h.mono e).2.sq,by rw[i.length];simp[iG]⟩;len:=by rw[i.length]at f;simpa[iG]using f
section
variable{X:Cx}{F:Fx}{a:Sj}{elts:List Sj}{x1:Nat}{tp p pos:Uq}{tas:ah->M (List A)}
def Fc(j:X.mg "enumerate"=RP)(ha:DA X F [a] tas)(l:Gl X "enumerate":=by rfl)(hs:Sq [a] X.env=[(RT,Ux a X.env)]:=by rfl):DI X F (.Tuple elts x1 tp) (.Call (.Name "enumerate" p) [a] [] pos) (λρ=>do Js MF (<-iX (<-tas ρ))):=⟨ha.hK,(E_ l j ha.pa hs).imp λs H R b=>by
  obtain⟨ρ,k,S,h⟩:=b;refine sX.next S h λas w u r o y i n=>?_;obtain⟨x,rfl,m⟩:=cw n;obtain⟨d,rfl,f⟩:=td m;obtain⟨v,rfl,e⟩:=(cy i).one;rw[ha.hK];cases d with
  |lst t=>
   simp only[Is]at e;obtain⟨a,ws,rfl,c,q⟩:=e;exact⟨a,ws,rfl,c.2.sq,λg=>f _ r o (zx c q g)⟩|_=>exact f.elim⟩
end
def By(x:D):Prop:=∃k:List NK,x=.tup (k.map nD)
def fx(h:Is B H v (kD k)):v=kV k:=by cases k with
 |inl i=>exact h|inr x=>exact h
theorem qY:∀{vs:List V}{ks:List Key},ag B H vs (ks.map kD)->vs=ks.map kV
 |_,[],h=>by simp only[VD,ag]at h;rw[h];rfl|_,k::ks,h=>by
  simp only[Sr,ag]at h;obtain⟨x,c,rfl,b,a⟩:=h;rw[fx b,qY a];rfl
def MG(h:Is B H v (nD k)):Lp B H v k:=by cases k with
 |inl k=>exact fx h|inr ks=>
  obtain⟨a,d,rfl,c,b⟩:=h;exact⟨a,rfl,by rw[<-qY b];exact c⟩
theorem Bz:∀{vs:List V}{ks:List NK},ag B H vs (ks.map nD)->Paired (Lp B H) vs ks
 |_,[],h=>by simp only[VD,ag]at h;rw[h];exact .nil|_,k::ks,h=>by
  simp only[Sr,ag]at h;obtain⟨x,c,rfl,b,a⟩:=h;exact .cons (MG b) (Bz a)
def key_is(k):Is B H (kV k) (kD k):=by cases k<;>simp only[kD,kV,Is]
theorem xA:∀(ks:List Key),ag B H (ks.map kV) (ks.map kD)
 |[]=>.nil|k::ks=>.cons (key_is k) (xA ks)
def MH(h:Lp B H v k):Is B H v (nD k):=by cases k with
 |inl k=>rw[show v=kV k from h];exact key_is k|inr ks=>
  obtain⟨b,rfl,h⟩:=h;exact⟨b,_,rfl,h,xA ks⟩
theorem BA:∀{vs:List V}{ks:List NK},Paired (Lp B H) vs ks->ag B H vs (ks.map nD)
 |_,_,.nil=>.nil|_,_,.cons h t=>.cons (MH h) (BA t)
def fv.is(h:fv B H a ks):Is B H (.ref a) (.tup (ks.map nD)):=by
 obtain⟨b,d,c⟩:=h;exact⟨a,b,rfl,d,BA c⟩
def fv.of(h:Is B H v (.tup (ks.map nD))):∃a,v=.ref a/\fv B H a ks:=by
 simp only[Is]at h;obtain⟨a,b,rfl,d,c⟩:=h;exact⟨a,rfl,b,d,Bz c⟩
theorem vD{σ:St}(I:Inv X pins σ H s)(hK:X.K=F.K):∀{xs:List V}{us:List RR}{ks:List NK},ax xs us->Paired (Lp F H) xs ks->aW X.prog X.w s.heap ks us
 |_,_,_,.nil,.nil=>.nil|_,_,.inl k::_,.cons r a,.cons h t=>by
  have h:_=kV k:=h;subst h;exact .sc (gA r) (vD I hK a t)|_,_,.inr ks::_,.cons r a,.cons h t=>by
  obtain⟨b,rfl,hb⟩:=(show∃b,_=V.ref b/\TupAt F H b (ks.map kV)from h);cases(show _=Sm b from r);exact .tp (vq I (by rw[hK];exact hb.2)) (vD I hK a t)
def e_{σ:St}(I:Inv X pins σ H s)(hK:X.K=F.K)(h:fv F H a ks):b9 X.prog X.w s.heap ks a:=by
 obtain⟨c,i,g⟩:=h;obtain⟨b,r,⟨o,f,e,n,d⟩,_⟩:=I.tuple (show ki X.K H a c by rw[hK];exact i.2);exact⟨o,b.toArray,n,f,e,d,by simpa using vD I hK r g⟩
inductive T(α:Type)where|ok(a:α)|exc(x:Xc)|stuck|draw(n:Int)(k:Int->T α)|perm(l:List D)(k:List D->T α)
namespace T
protected def bind:T α->(α->T β)->T β
 |.ok a,f=>f a|.exc x,_=>.exc x|.stuck,_=>.stuck|.draw n k,f=>.draw n λi=>(k i).bind f|.perm l k,f=>.perm l λi=>(k i).bind f
instance:Monad T where
 pure:=T.ok;bind:=T.bind
noncomputable def get:Option α->T α
 |some a=>.ok a|none=>.stuck
noncomputable def need(b:Bool):T Unit:=if b then .ok ()else .stuck
noncomputable def at'(ρ:ah):T α->T α
 |.ok a=>.ok a|.exc x=>.exc ⟨x.x,ρ⟩|.stuck=>.stuck|.draw n k=>.draw n λi=>(k i).at' ρ|.perm l k=>.perm l λi=>(k i).at' ρ
noncomputable def calm:T α->T α
 |.ok a=>.ok a|.exc _=>.stuck|.stuck=>.stuck|.draw n k=>.draw n λi=>(k i).calm|.perm l k=>.perm l λi=>(k i).calm
noncomputable def jI(n:Int):M Int:=do
 M.need (0<n/\n<1073741824)M.tick 1;M.any λi=>0<=i/\i<n
noncomputable def aE:T α->M α
 |.ok a=>pure a|.exc x=>M.throw x|.stuck=>M.fail|.draw n k=>do let i<-jI n;(k i).aE|.perm l k=>do let i<-M.any λi=>i.Perm l;(k i).aE
end T
def M.ext{m a:M b}(h:∀k Q E,m.run k Q E=a.run k Q E):m=a:=by
 obtain⟨r,p⟩:=m;obtain⟨c,d⟩:=a;have:r=c:=by funext k Q E;exact h k Q E
 subst this;rfl
def M.bind_assoc(m)(f:c->M b)(g:b->M d):(m>>=f)>>=g=m>>=λa=>f a>>=g:=M.ext λ_ _ _=>rfl
namespace T
def bV(t)(f:α->T β):(t>>=f).aE=t.aE>>=λa=>(f a).aE:=by
 induction t with
 |ok a=>rfl|exc x=>rfl|stuck=>rfl|draw n k b=>
  show(jI n>>=λi=>((k i).bind f).aE)=(jI n>>=λi=>(k i).aE)>>=_;rw[M.bind_assoc];congr 1;funext i;exact b i|perm l k b=>
  show((M.any λi=>i.Perm l)>>=λi=>((k i).bind f).aE)=((M.any λi=>i.Perm l)>>=λi=>(k i).aE)>>=_;rw[M.bind_assoc];congr 1;funext i;exact b i
def jJ(o:Option α):(T.get o).aE=M.get o:=by cases o<;>rfl
end T
def Ref(t m:M a):Prop:=∀k Q E,t.run k Q E->m.run k Q E
def Ref.refl(m:M a):Ref m m:=λ_ _ _ h=>h
def Ref.of_eq{t m:M a}(h:t=m):Ref t m:=h▸.refl _
def Ref.bind{t m}{f g:b->M c}(h:Ref t m)(q:∀a,Ref (f a) (g a)):Ref (t>>=f) (m>>=g):=λk Q E z=>by
 refine h k _ E ?_;exact t.mono z (λa d y=>q a d Q E y) λ_ _ y=>y
def Ref.fail{m:M a}:Ref M.fail m:=λ_ _ _ h=>h.elim
set_option tactic.hygienic true in
def Ref.need(h:b=RQ->P):Ref (T.need b).aE (M.need P):=λk Q E z=>by
 unfold T.need at z;split at z;.rename_i hb;exact⟨h hb,z⟩
 .exact z.elim
def Ref.get{o:Option a}:Ref (T.get o).aE (M.get o):=.of_eq (T.jJ o)
section
variable{st:UL}
def DE.ref{t m}(h:DE X F e m)(r:∀ρ,Ref (t ρ) (m ρ)):DE X F e t:=⟨h.hK,h.pe.imp λa H Q⟨ρ,k,S,z⟩=>⟨ρ,k,S,r ρ _ _ _ z⟩⟩
def DT.ref{t m}(h:DT X F e m)(r:∀ρ,Ref (t ρ) (m ρ)):DT X F e t:=⟨h.hK,h.pt.imp λa H Q⟨ρ,k,S,z⟩=>⟨ρ,k,S,r ρ _ _ _ z⟩⟩
def Ac.ref{t m}(h:Ac X F e m)(r:∀ρ,Ref (t ρ) (m ρ)):Ac X F e t:=⟨h.hK,h.pw.imp λa H Q⟨ρ,k,S,z⟩=>⟨ρ,k,S,r ρ _ _ _ z⟩⟩
def DA.ref{t m}(h:DA X F es m)(r:∀ρ,Ref (t ρ) (m ρ)):DA X F es t:=⟨h.hK,h.pa.imp λa H Q⟨ρ,k,S,z⟩=>⟨ρ,k,S,r ρ _ _ _ z⟩⟩
def DS.ref{t m}(h:DS X F st m)(r:∀ρ,Ref (t ρ) (m ρ)):DS X F st t:=⟨h.hK,h.ps.imp λZ a H⟨ρ,k,S,z⟩=>⟨ρ,k,S,r ρ _ _ _ z⟩⟩
def zq.ref{t m}(h:zq X F sts m)(r:∀ρ,Ref (t ρ) (m ρ)):zq X F sts t:=⟨h.hK,h.ps.imp λZ a H⟨ρ,k,S,z⟩=>⟨ρ,k,S,r ρ _ _ _ z⟩⟩
def DG.ref{t m}(h:DG X F tg m)(r:∀d ρ,Ref (t d ρ) (m d ρ)):DG X F tg t:=⟨h.hK,h.pg.imp λv a H Q⟨ρ,k,d,S,i,z⟩=>⟨ρ,k,d,S,i,r d ρ _ _ _ z⟩⟩
def Hb.ref{t m}(h:Hb X F a m)(r:∀d ρ,Ref (t d ρ) (m d ρ)):Hb X F a t:=⟨h.hK,h.pg.imp λv b H Q⟨ρ,k,d,S,i,z⟩=>⟨ρ,k,d,S,i,r d ρ _ _ _ z⟩⟩
def DI.ref{t m}(h:DI X F tg iter m)(r:∀ρ,Ref (t ρ) (m ρ)):DI X F tg iter t:=⟨h.hK,h.pi.imp λa H R⟨ρ,k,S,z⟩=>⟨ρ,k,S,r ρ _ _ _ z⟩⟩
def lH.ref{t m}(h:lH X F ifs m)(r:∀ρ,Ref (t ρ) (m ρ)):lH X F ifs t:=⟨h.hK,λa s b H Q I⟨ρ,k,S,z⟩=>h.pi a s b H Q I ⟨ρ,k,S,r ρ _ _ _ z⟩⟩
def DE.stuck(hK:X.K=F.K):DE X F e (λ_=>M.fail):=⟨hK,λa s b H Q I⟨c,k,S,z⟩=>z.elim⟩
def DT.stuck(hK:X.K=F.K):DT X F e (λ_=>M.fail):=⟨hK,λa s b H Q I⟨c,k,S,z⟩=>z.elim⟩
def DS.stuck(hK:X.K=F.K):DS X F st (λ_=>M.fail):=⟨hK,λa s b H Q I⟨c,k,S,z⟩=>z.elim⟩
def DI.stuck(hK:X.K=F.K):DI X F tg iter (λ_=>M.fail):=⟨hK,λa s b H R I⟨c,k,S,z⟩=>z.elim⟩
def gw.ref{t}(h:∀d e,∃m,gw X F f m/\Ref (t d e) (m d e)):gw X F f t:=⟨λa s b H k x y v u d e Q I g c l hK j i q=>by
 obtain⟨m,o,r⟩:=h d e;exact o.op a s b H k x y v u d e Q I g c l hK j i (r _ _ _ q)⟩
def aX.ref{t}(h:∀ds,∃m,aX X F f m/\Ref (t ds) (m ds)):aX X F f t:=⟨λa s b H k c d ds Q I g l hK i q=>by
 obtain⟨m,o,r⟩:=h ds;exact o.call a s b H k c d ds Q I g l hK i (r _ _ _ q)⟩
end
structure m9(lo:Nat)(h:SJ)(H:Hp)(a c:RW)(dx:Option RW):Prop where
 un:H a=RP
 ge:lo<=a
 ob:∃oe vs,h.get? a=RM oe/\oe.cls=.ref c/\oe.dict=dx/\oe.data=.fields vs/\(vs[1]?=RM .none\/∃T oT ts,vs[1]?=RM (.ref T)/\T≠a/\lo<=T/\H T=RP/\h.get? T=RM oT/\oT.data=.fields ts/\ts[3]?=RM .none)
def m9.mono{lo b}(f:m9 lo h H a c g)(e:b<=lo):m9 b h H a c g:=by
 obtain⟨u,l,p,i,v,t,s,r,d⟩:=f;refine⟨u,SO e l,p,i,v,t,s,r,?_⟩;rcases d with d|⟨T,q,j,o,n,m,k⟩;.exact .inl d
 .exact .inr ⟨T,q,j,o,n,SO e m,k⟩
section
variable{M:W8}{A:SF}{s:RU}
def tu{head}(J:A.frames=RM (env::outer))(P:s.heap.FunFrames base (env::outer))(V:env.frame=RM L)(R:s.heap.get? e=RM z)(hd:z.data=.fields vs)(hsz:1<vs.size)(h:∀h',(∀b o,s.heap.get? b=RM o->b≠e->b∉iB (env::outer)->h'.get? b=RM o)->(∀b o,s.heap.get? b=RM o->b∈iB (env::outer)->∃H,h'.get? b=RM {o with slots:=H})->(∃n B T N K,h'.get? e=RM n/\n.cls=z.cls/\n.dict=z.dict/\n.data=.fields B/\B[1]?=RM (.ref T)/\T≠e/\s⁻¹<=T/\h'.get? T=RM N/\N.data=.fields K/\K[3]?=RM .none)->Q () {s with heap:=h'}):wpAny M A (do let a<-frameOf env;let y<-entryPlaceOf L l;let b<-ZX head a .none (VZ L) .none y;ZL (.ref e) 1 b) (λ_ s'=>wpAny M A (XR (.ref e) RP) Q E s') E s:=by
 have p:e∉(env::outer).filterMap (·.frame):=λU=>by
  obtain⟨_,o,G,I⟩:=P.mem U;rw[R]at G;injection G with G;subst G;exact I vs hd
 refine RO (wpAny_frameOf_fun J P V λc d=>?_);refine RO (wpAny_entryPlaceOf λy C=>?_);refine RO (T_ ?_ (C.sizeOk5 _ _ _ _ _));have j:=(d.2.1 e p).trans R;generalize D:({cls:=.type "traceback",dict:=RP,data:=.fields ([head,.ref L,.none,VZ L,.none]++(if y.isEmpty then Tu 6 SG else y)).toArray}:Tn)=ob;have i:=RY ob j;have k:ob.data=.fields ([head,.ref L,.none,VZ L,.none]++(if y.isEmpty then Tu 6 SG else y)).toArray:=by rw[<-D]
 have r:ob.isFreed=RT:=by rw[<-D];rfl
 refine Vg i hd hsz ?_;have w:=UE (Sa j);have f:=Tx hd (·.setIfInBounds 1 (Sm c.objs.size));have g:=Te (UB (·.setIfInBounds 1 (Sm c.objs.size))) i (Us f);have m:=(Tp (c.push ob) (UB (·.setIfInBounds 1 (Sm c.objs.size))) (T8 w)).trans (Sl c r);unfold XR;refine RO (Yl g f (x:=.ref c.objs.size) (by simp[hsz]) ?_);rw[Ξ2 (show(Sm c.objs.size !=SG)=RQ from by simp)];refine Vg m k (by simp only[Se,SR,Ss,Td]<;>omega) (h _ ?_ ?_ ?_)
 .intro b o hb u t;have F:=(d.2.1 b t).trans hb;have v:=UE (Sa F);show Heap.get? _ b=RM o;rw[Tp _ _ v,Tp _ _ (T8 u)];exact RY _ F
 .intro b o hb t;obtain⟨H,O⟩:=d.2.2 b o hb;have u:b≠e:=λq=>p (q▸t);have v:=UE (Sa O);refine⟨H,?_⟩;show Heap.get? _ b=_;rw[Tp _ _ v,Tp _ _ (T8 u)];exact RY _ O
 .refine⟨_,_,c.objs.size,_,_,?_,WY _ _,?_,f,by simp[hsz],w,by rw[d.1];exact R5 _,Te _ m (Us (Tx k _)),Tx k _,by first|(simp;done)|(rcases C with rfl|⟨_,_,_,_,_,_,_,rfl⟩<;>simp)⟩
  .show Heap.get? _ e=_;rw[Tp _ _ w];exact g
  .obtain⟨X,W,dt,S⟩:=z;cases dt<;>rfl
structure PC(lo:Nat)(fs:List RW)(H:Hp)(a c:RW)(dx:Option RW)(h h':SJ)(ch:List RW):Prop where
 keep:∀b o,h.get? b=RM o->b∉ch->b∉fs->h'.get? b=RM o
 slot:∀b o,h.get? b=RM o->b∈fs->∃sl,h'.get? b=RM {o with slots:=sl}there:∀b o,h.get? b=RM o->∃o',h'.get? b=RM o'
 un:∀b∈ch,H b=RP
 ge:∀b∈ch,lo<=b
 QO:m9 lo h' H a c dx
def xB{L a c lo:RW}(t:A.frames=RM (env::outer))(K:s.heap.FunFrames base (env::outer))(N:env.frame=RM L)(J:lo<=s⁻¹)(fresh:∀b,s⁻¹<=b->H b=RP)(fl:m9 lo s.heap H a c S)(h:∀h' ch,PC lo (iB (env::outer)) H a c S s.heap h' ch->Q () {s with heap:=h'}):wpAny M A (Xf (.ref a) env) (λ_ s'=>wpAny M A (XR (.ref a) RP) Q E s') E s:=by
 obtain⟨un,Z,X,vs,C,hc,O,hd,I⟩:=fl;unfold Xf;simp only[N];have y:∀(k h':SJ)(ch),(∀b o,s.heap.get? b=RM o->b∉ch->k.get? b=RM o)->(∀b o,s.heap.get? b=RM o->b∈iB (env::outer)->k.get? b=RM o)->(∀b o,s.heap.get? b=RM o->∃o',k.get? b=RM o')->k.objs.size=s⁻¹->(∀b∈ch,H b=RP)->(∀b∈ch,lo<=b)->(∀b o,k.get? b=RM o->b≠a->b∉iB (env::outer)->h'.get? b=RM o)->(∀b o,k.get? b=RM o->b∈iB (env::outer)->∃U,h'.get? b=RM {o with slots:=U})->(∃g j T r l,h'.get? a=RM g/\g.cls=X.cls/\g.dict=X.dict/\g.data=.fields j/\j[1]?=RM (.ref T)/\T≠a/\k.objs.size<=T/\h'.get? T=RM r/\r.data=.fields l/\l[3]?=RM .none)->PC lo (iB (env::outer)) H a c S s.heap h' (a::ch):=by
  intro k h' ch k1 k2 k3 hz c1 c2 p n⟨g,j,T,r,l,W,q2,q3,q4,q5,q6,V,q8,q9,D⟩;refine⟨λb o e hb f=>?_,λb o e f=>n b o (k2 b o e f) f,λb o e=>?_,λb hb=>?_,λb hb=>?_,⟨un,Z,g,j,W,q2.trans hc,q3.trans O,q4,.inr ⟨T,r,l,q5,q6,SO J (by rw[<-hz];exact V),fresh T (by rw[<-hz];exact V),q8,q9,D⟩⟩⟩
  .rw[Ts,not_or]at hb;exact p b o (k1 b o e hb.2) hb.1 f
  .obtain⟨Y,e1⟩:=k3 b o e;by_cases u:b=a;.subst u;exact⟨_,W⟩
   .by_cases f:b∈iB (env::outer)
    .obtain⟨U,e2⟩:=n b Y e1 f;exact⟨_,e2⟩
    .exact⟨_,p b Y e1 u f⟩
  .rcases Ω2.mp hb with z|z;.rw[z];exact un
   .exact c1 b z
  .rcases Ω2.mp hb with z|z;.rw[z];exact Z
   .exact c2 b z
 rcases I with x|⟨T,r,l,x,R,v,P,w,i,h3⟩
 .refine RO (Yl C hd x ?_);rw[Ξ3 '1'];exact tu t K N C hd (Ψ3.mp x).1 λh' p n G=>h h' _ (y s.heap h' [] (λb o e _=>e) (λb o e _=>e) (λb o e=>⟨o,e⟩) rfl (λb hb=>nomatch hb) (λb hb=>nomatch hb) p n G)
 .refine RO (Yl C hd x ?_);rw[Ξ2 (show(Sm T !=SG)=RQ from by simp)];refine RO (Yl w i h3 ?_);rw[Ξ3 (show¬((SG==VZ L)=RQ)from by simp[VZ])];refine RO (Vg w i (Ψ3.mp h3).1 ?_);have d:∀b,b≠T->(s.heap.update T (UB (·.setIfInBounds 3 SG))).get? b=s.heap.get? b:=λb hb=>Tp _ _ (T8 hb);have F:∀b,b∈iB (env::outer)->b≠T:=λb hb q=>by
   obtain⟨_,o,B,m⟩:=K.mem hb;rw[q,w]at B;injection B with B;subst B;exact m l i
  refine tu t (K.of_keeps λb o hb m=>⟨o,(d b λq=>by rw[q,w]at hb;injection hb with hb;subst hb;exact m l i).trans hb,rfl⟩) N ((d a (T8 R)).trans C) hd (Ψ3.mp x).1 λh' p n G=>h h' _ (y _ h' [T] (λb o e hb=>(d b λz=>hb (by rw[z];exact List.mem_singleton_self _)).trans e) (λb o e hb=>(d b (F b hb)).trans e) (λb o e=>?_) (Heap.size_after_update ..) (λb hb=>by rw[Ω1.mp hb];exact P) (λb hb=>by rw[Ω1.mp hb];exact v) p n G);by_cases hb:b=T
  .subst hb;exact⟨_,Te _ w (Us (Tx i _))⟩
  .exact⟨o,(d b hb).trans e⟩
def BB{L a c lo:RW}(e:A.frames=RM (env::outer))(g:s.heap.FunFrames base (env::outer))(i:env.frame=RM L)(d:lo<=s⁻¹)(fresh:∀b,s⁻¹<=b->H b=RP)(j:m9 lo s.heap H a c f)(h:∀h' ch,PC lo (iB (env::outer)) H a c f s.heap h' ch->Q () {s with heap:=h'}):wpAny M A (leaving env (.ref a)) Q E s:=by
 exact RO (xB e g i d fresh j h)
end
def tw(F:Fb)(H:Hp)(b:Option RW):List D->Prop
 |[]=>True|[d]=>∃x a v,b=RM x/\x≠F.p/\H x=RM (.cz a (.xd [("name",v)]))/\Is F H v d|_=>False
theorem tw.mono(h:tw F H b nm)(e:Kp F H k H' f):tw F H' b nm:=by match nm,h with
 |[],_=>trivial|[d],⟨x,c,v,j,a,i,g⟩=>exact⟨x,c,v,j,a,e.keep _ _ a rfl i,g.mono e⟩
noncomputable def Jy(P:Sf)(w:Sx):wL:=λouter H s E e b=>∃a c f d,e=.ref a/\b.os=s.os/\Xi b.gens/\Un (iB outer) [] H d s.heap b.heap/\jq P w d b.heap/\m9 s⁻¹ b.heap d a c f/\E (.ref c) f d
section
variable{F:Fx}{pins:List (RW×Tn)}{σ:St}{H:Hp}{s s':RU}
def vE(X:Cx)(pins:List (RW×Tn))(σ:St)(h:SJ)(H:Hp)(a c:RW)(d:Option RW):Prop:=∃b H0,Inv X pins σ H0 b/\m9 b⁻¹ h H a c d
def Ad(X:Cx)(F:Fx):Prop:=∀(pins:List (RW×Tn))(σ:St)(b:ah)(H:Hp)(k:Nat)(s:RU)(a c:RW)(d:Option RW)(nm:List D),Inv X pins σ H s->cY F b k σ H->vE X pins σ s.heap H a c d->tw F.toFb H d nm->F.E ⟨.exc c nm,b⟩ k->X.xe (.ref a) s
def Ad.never(h:∀x k,¬F.E x k):Ad X F:=λ_ _ _ _ _ _ _ _ _ _ _ _ _ _ z=>(h _ _ z).elim
def Inv.MI(I:Inv X pins σ H s)(h:Jy X.prog X.w X.stack H s E e s'):∃a c d H',e=.ref a/\Inv X pins σ H' s'/\m9 s⁻¹ s'.heap H' a c d/\E (.ref c) d H':=by
 obtain⟨a,c,d,H',rfl,os,bare,un,aM,f,q⟩:=h;exact⟨a,c,d,H',rfl,I.Ag os un aM bare λb z=>Ξ1 z '2',f,q⟩
def Inv.leave{A}{D}{M}(I:Inv X pins σ H s)(G:A.frames=RM X.stack)(i:X.stack=X.env::outer)(p:X.env.frame=RM X.env.locals)(x:X.outer=outer)(hex:X.ex=[])(y:vE X pins σ s.heap H a c D)(h:∀s',s'.os=X.bR.os->Xi s'.gens->Un (iB outer) [] X.iS H X.bR.heap s'.heap->jq X.prog X.w H s'.heap->m9 X.bR.heap.objs.size s'.heap H a c D->Q () s'):wpAny M A (leaving X.env (.ref a)) Q E s:=by
 have g:=I.stack;obtain⟨U,H0,S,B⟩:=y;have B:=B.mono S.sz;rw[i]at G g;refine BB G g p I.sz (λb hb=>I.aM.fresh hb) B λP K L=>?_;have k:∀b o,X.bR.heap.get? b=RM o->b∉K:=λb o e z=>Ξ1 (Sa e) (Nat.not_lt.mpr (L.ge b z));have j:∀b,H b≠RP->b∉K:=λb n z=>n (L.un b z);have m:X.fs=iB outer:=by show iB X.outer=_;rw[x]
 have v:=λb hb=>I.lK b (by rw[i];exact hb);have mem:=λb hb=>by
  have:=I.kh b (by rw[i];exact hb);rw[m]at this;exact Ω2.mp this
 have t:∀b o,X.bR.heap.get? b=RM o->b<X.bR.heap.objs.size:=λb o e=>Sa e;have O:∀b o,X.bR.heap.get? b=RM o->b≠X.env.locals:=λb o e z=>by
  have J:=t b o e;rw[z]at J;exact Ξ1 I.ok.above (Nat.not_le.mpr J)
 have f:=I.base;rw[m,hex]at f;refine h {s with heap:=P} I.os I.bare ⟨λb o e n hb l=>?_,λb o e n hb l=>?_,f.free,λb o e l=>?_,f.jt,f.iR,f.ju⟩ (λb o e=>?_) L.QO
 .refine L.keep b o (f.keep b o e n hb l) (k b o e) λz=>?_;rcases mem b z with q|q;.exact O b o e q
  .exact hb q
 .obtain⟨T,C⟩:=f.slot b o e n hb l;have:b∈iB (X.env::outer):=by
   show b∈List.filterMap _ _;rw[TQ,p];exact RZ _ hb
  obtain⟨r,R⟩:=L.slot b _ C this;exact⟨r,R⟩
 .obtain⟨N,C⟩:=f.there b o e l;exact L.there b N C
 .refine(I.aM b o e).fN (λd u hd q=>L.keep d u q (j d ?_) λz=>?_) (λ_ q=>q) λ_ _ q=>q
  .rcases hd with z|z;.rw[z,e];exact(λq=>nomatch q)
   .rw[z];exact(λq=>nomatch q)
  .have n:=v d z;rcases hd with q|q;.rw[q,e]at n;cases n
   .rw[q]at n;cases n
end
def qX(B:Fb)(H:Hp)(k:Nat)(E:XK):Xc->Nat->Prop:=λx d=>∀a c nm b,Ext B H k a d->x.x=.exc c nm->tw B a b nm->E (.ref c) b a
noncomputable def spT(P:Sf)(w:Sx)(K:R0)(n:Nat)(m:List A->M D):Sp:=λa H Q E=>∃p k as,H p≠RP/\vt ⟨K,p,P,w⟩ H k a as/\as.length=n/\(m as).run k (qE ⟨K,p,P,w⟩ H k Q) (qX ⟨K,p,P,w⟩ H k E)
def m_(P:Sf)(w:Sx)(K:R0)(mg:Sy->Option RR)(base:SJ)(x:Sy)(n:Nat)(k:Nat)(m:List A->M D):Prop:=∃ps:List Sy,ps.length=n/\∃f fd,ek P w K mg base (Jy P w) k f fd ps (spT P w K n m)/\mg x=RM (.ref f)/\V2 K (.ref f)=RQ/\Binds K fd ps []
section
variable{X:Cx}{F:Fx}{e:Sj}
def Fd(hK:X.K=F.K)(hP:X.prog=F.P)(hw:X.w=F.w):(⟨X.K,F.p,X.prog,X.w⟩)=F.toFb:=by
 have:F.toFb=⟨F.K,F.p,F.P,F.w⟩:=rfl;rw[this,hK,hP,hw]
noncomputable def PD(ρ:ah)(m:M a):M a:=⟨λk Q E=>m.run k Q (λx b=>E ⟨x.x,ρ⟩ b),λh q e=>m.mono h q λx b z=>e _ _ z⟩
def T.Jz(ρ)(t:T c):(t.at' ρ).aE=PD ρ t.aE:=by induction t with
 |ok a=>rfl|exc x=>rfl|stuck=>rfl|draw n k b=>
  refine M.ext λj Q E=>?_;show((T.jI n)>>=λi=>((k i).at' ρ).aE).run j Q E=((T.jI n)>>=λi=>(k i).aE).run j Q _;rw[M.run_bind,M.run_bind];simp only[b];rfl|perm l k b=>
  refine M.ext λj Q E=>?_;show((M.any λi=>i.Perm l)>>=λi=>((k i).at' ρ).aE).run j Q E=((M.any λi=>i.Perm l)>>=λi=>(k i).aE).run j Q _;rw[M.run_bind,M.run_bind];simp only[b];rfl
def Fe(Df:m_ X.prog X.w X.K X.mg X.base x n k m)(hr:fu k X.A)(ho:Ad X F)(ha:DA X F (e::es) tas)(hg:Gl X x)(hP:X.prog=F.P)(hw:X.w=F.w)(U:(x==("__debug__"))=RT)(he:Sq (e::es) X.env=(RT,Ux e X.env)::Sq es X.env)(R:(UP pos (Sq es X.env)).any (·.1)=RT):DE X F (.Call (.Name x p) (e::es) [] pos) (λρ=>do let as<-tas ρ;M.need (as.length=n);PD ρ (m as)):=by
 obtain⟨ps,hl,f,fd,FN,hm,hk,hb⟩:=Df;refine⟨ha.hK,λi s J H Q I⟨ρ,k0,S,h⟩=>?_⟩;refine WC (jv I hg hm ?_ U);refine Z_ I.ok.mod.HS hk (bE (ha.pa pos i s J H _ I (sX.next (Q:=λv g=>∃as b,Ext F.toFb H k0 g b/\cY F ρ b J g/\vt F.toFb g b v as/\as.length=n/\(PD ρ (m as)).run b (qE F.toFb H k0 Q) F.E) S h λas b v g Y G O h1=>⟨as,b,Y,G,O,h1.1,h1.2⟩)) λC N⟨v,g,t,r,as,b,Y,G,O,hn,q⟩=>⟨t.kf,?_⟩) he R;have eF:=Fd ha.hK hP hw;have y:spT X.prog X.w X.K n m v g Q (λcl o j=>∃c nm l,cl=.ref c/\Ext F.toFb g b j l/\tw F.toFb j o nm/\F.E ⟨.exc c nm,ρ⟩ l):=by
  refine⟨F.p,b,as,G.live,?_,hn,?_⟩;.rw[eF];exact O
  .rw[eF];refine(m as).mono q (λd Z z=>z.ext Y) λx Z z=>?_;intro j c nm o W ex L;exact⟨c,nm,Z,rfl,W,L,by rw[<-ex];exact z⟩
 have T:C.length=ps.length:=by rw[<-r.length];exact FN.len _ _ _ _ y
 refine YS (VC (FN.run X.A X.stack N g ⟨C,[]⟩ C v Q _ hr t.u_ ?_ r y) λr s' B=>?_)
 .have:=hb N C t.kf (by rw[TF];exact T);rw[TF]at this;exact this
 .cases r with
  |error e=>
   obtain⟨a,c,o,j,rfl,I2,V,c',nm,l,ec,W,L,z⟩:=t.MI (E:=λcl o j=>∃c nm l,cl=.ref c/\Ext F.toFb g b j l/\tw F.toFb j o nm/\F.E ⟨.exc c nm,ρ⟩ l) B;cases ec;exact ho i J ρ j l s' a c o nm I2 (G.mono W) ⟨N,g,t,V⟩ L z|ok V=>cases V with
   |ret u=>exact t.after B|next=>exact Uk B|brk=>exact Uk B|cont=>exact Uk B
end
section
variable{K:R0}
def AF.Rr{st}(Fn:AF K x b st f fd)(S:dC N ps (au st))(hn:ps.length=n)(l:∀(g)(o)(outer)(s)(H)(p)(k0)(E)(y),fu k (o.deeper (Yp b (au st) s⁻¹ f g))->UG K g b=RQ->Ad (lF (Jy P w) P w K mg base N b (au st) f g o outer s H E) ⟨⟨K,p,P,w⟩,H,k0,y,H,k0⟩->∃t,zq (lF (Jy P w) P w K mg base N b (au st) f g o outer s H E) ⟨⟨K,p,P,w⟩,H,k0,y,H,k0⟩ (c6 st) t/\∀(as)(Q),as.length=n->(m as).run k0 Q y->(t (gE N as)).run k0 (Mu Q) y):ek P w K mg base (Jy P w) (k+1) f fd ps (spT P w K n m):=by
 obtain⟨oc,od,kV,a0,pm,an,g,ct,V,rfl,lk,u⟩:=Fn.ex;refine Aw lk u S (λU H Q E h=>?_) λo outer s H U Q E Y h=>?_
 .obtain⟨p,j,as,_,i,C,_⟩:=h;rw[Paired.length i,C,hn]
 .obtain⟨p,j,as,lv,i,C,q⟩:=h;have F:Ad (lF (Jy P w) P w K mg base N b (au st) f g o outer s H E) ⟨⟨K,p,P,w⟩,H,j,qX ⟨K,p,P,w⟩ H j E,H,j⟩:=by
   intro L R B r W s' a c O nm I S' J T z;refine I.leave I.ok.frames rfl rfl rfl rfl J λs2 os bare un aM G=>?_;exact⟨a,c,O,r,rfl,os,bare,un,aM,G,z r c nm O S'.ext rfl T⟩
  obtain⟨t,X,Z⟩:=l g o outer s H p j E (qX ⟨K,p,P,w⟩ H j E) Y u F;refine⟨_,X.ps,gE N as,j,zt lv i,M.wk (Z as _ C q) λJ W z=>?_⟩;cases J with
  |nx B=>exactλR r kp S=>z .br r S.ext (by simp only[Is])|rt d=>exactλv r e i=>z v r e i|bk B=>exact z.elim|ct B=>exact z.elim
end
open PySem (wpAny_loadPart_at wpAny_madeBy_exc)
noncomputable def BC:List RR:=[.type "ValueError",.type "Exception",.type "BaseException",.type "object"]
noncomputable def He(C t:RW):Tn:={cls:=.ref C,data:=.fields #[.ref t,.none,.none,.none,.bool RT,.none]}
structure BD(h h':SJ)(e C:RW):Prop where
 keeps:∀b o,h.get? b=RM o->h'.get? b=RM o
 ge:h.objs.size<=e
 there:∃t,h'.get? e=RM (He C t)
section
variable{A:SF}{E:RR->RU->Prop}{os:OsState}
def ng(F:ExcBaseFacts B newId initId bmB)(T:OwnTail h bmB bm)(k:h.get? C=RM (ZQ nm q C N bs bm hdct sn sub ab col dd k0 k1 k2 k3 k5 newId))(s:h.Ns N l)(m:l "__init__"=RP)(p:∀h' e,BD h h' e C->Q (.done (.ret (.ref e))) ⟨h',g,d,t,os⟩)(i:rest.length<=R1):wpAny (Sb prog w) A (Builtin.«type.__call__» ⟨.ref C::rest,[]⟩) Q E ⟨h,g,d,t,os⟩:=by
 repeat(first|with_reducible refine TJ k ?_|with_reducible refine wpAny_madeBy_exc k ?_|wp_step)
 refine codeAny_call_builtin_code (Vh _ F.quiet) (wpAny_check_new_subT F T k ?_);refine codeAny_exc_new_subT F T k ?_ i;have a:=RY {cls:=.ref C,data:=.fields #[.ref h.objs.size,.none,.none,.none,.bool RT,.none]} (RY {cls:=.type "tuple",data:=.seq rest.toArray} k);have j:((h.push {cls:=.type "tuple",data:=.seq rest.toArray}).push {cls:=.ref C,data:=.fields #[.ref h.objs.size,.none,.none,.none,.bool RT,.none]}).Ns N l:=let⟨o,u,v,e,r⟩:=s;⟨o,u,v,RY _ (RY _ e),r⟩;have c:((h.push {cls:=.type "tuple",data:=.seq rest.toArray}).push {cls:=.ref C,data:=.fields #[.ref h.objs.size,.none,.none,.none,.bool RT,.none]}).get? (h.objs.size+1)=RM {cls:=.ref C,data:=.fields #[.ref h.objs.size,.none,.none,.none,.bool RT,.none]}:=by heap_get
 have n:(Sm C::bm).contains (.ref C)=RQ:=by simp
 have f:=T.keeps (h':=(h.push {cls:=.type "tuple",data:=.seq rest.toArray}).push {cls:=.ref C,data:=.fields #[.ref h.objs.size,.none,.none,.none,.bool RT,.none]}) λb o e=>RY _ (RY _ e);repeat(first|with_reducible refine TJ c ?_|(with_reducible refine ZY a ?_;rw[n])|wp_step)
 show wpAny _ _ (XX (.ref C) _) _ _ _;refine wpAny_typeLookup_tail a j f F.mroIs F.init.lookup ?_;rw[m];refine SS (RO (Xr (F.init.bind _) ?_));refine RO (YS (V7 F.init.plain F.initEntry (wpAny_check_init_subT F f a c rfl ?_)));wp_walk;refine p _ _ ⟨λb o hb=>?_,ZO _,h.objs.size+2,?_⟩
 .rw[Tp _ _ (UE (Vo (Sa hb)))];exact RY _ (RY _ (RY _ hb))
 .rw[Te _ (RY _ c) rfl];simp only[UX];rfl
def zy(F:ExcBaseFacts B newId initId bmB)(T:OwnTail h bmB bm)(b:h.get? C=RM (ZQ nm q C N bs bm hdct sn sub ab col dd k0 k1 k2 k3 k5 newId))(j:h.Ns N f)(c:f "__init__"=RP)(i:∀h' e,BD h h' e C->Q (.ref e) ⟨h',g,d,t,os⟩)(a:rest.length<=R1):wpAny (Sb prog w) A (call (.ref C) rest) Q E ⟨h,g,d,t,os⟩:=by
 have n:=tc_lookup;have m:=tc_bind (.ref C);have l:(⟨h,g,d,t,os⟩:RU).TypeIs (.ref C) "type":=⟨_,b,rfl⟩;refine YS (XB ?_);show wpAny _ _ (callAny (.ref C) _) _ _ _;repeat(any_goals(first|assumption|with_reducible refine TJ b ?_|wp_step))
 refine⟨rfl,?_⟩;exact codeAny_call_builtin_at (Vh _ (by decide+kernel)) entry_typeCall (wpAny_check_type_call_sub b (ng F T b j c (λh' e k=>i h' e k) a))
theorem tz{M}{x}(b:bm.contains (.type "BaseException")=RQ)(k:A.handled=RP)(h:wpAny M A x (λv a=>∃e t j,v=.ref e/\a.heap.get? C=RM (ZQ nm q C N bs bm hdct sn sub ab col dd k0 k1 k2 k3 k5 newId)/\a.heap.get? e=RM {cls:=.ref C,dict:=j,data:=.fields #[.ref t,.none,.none,.none,.bool RT,.none]}/\E (.ref e) a) E s):wpAny M A (raiseStmt env (RM x) RP) Q E s:=by
 have f:(Sm C::bm).contains (.type "BaseException")=RQ:=by rw[List.contains_cons,b,Bool.or_true]
 refine RO (TM h (λv a c=>?_) λ_ _ x=>x);obtain⟨e,t,j,rfl,i,l,m⟩:=c;obtain⟨o,g,d,n,os⟩:=a;repeat(first|with_reducible refine TJ l ?_|with_reducible refine TJ i ?_|(with_reducible refine ZY i ?_;rw[f])|wp_step)
 exact wpAny_raiseNew_none k m
end
inductive Ch(P:Prop)where|y(h:P)|n
noncomputable def Ch.b:Ch P->(P->Ch Q)->Ch Q
 |.y h,f=>f h|.n,_=>.n
noncomputable def Ch.ok:Ch P->Bool
 |.y _=>RQ|.n=>RT
def Ch.of:∀{c:Ch P},c.ok=RQ->P
 |.y h,_=>h|.n,q=>nomatch q
noncomputable def cb:(b:Bool)->Ch (b=RQ)
 |true=>.y rfl|false=>.n
noncomputable def cn:(b:Bool)->Ch (b=RT)
 |false=>.y rfl|true=>.n
noncomputable def cd(p:Prop):[d:Decidable p]->Ch p
 |.isTrue h=>.y h|.isFalse _=>.n
inductive MJ(h:SJ)(C:RW):Prop where|mk(bm:List RR)(N:RW)(nm q:Sy)(bs:List RR)(hdct:Bool)(sn:List Sy)(sub:_)(ab:_)(col:_)(dd:Option RW)(k0 k1 k2 k3 k5:Option RR)(mN:Sy->Option RR)(hC:h.get? C=RM (ZQ nm q C N bs bm hdct sn sub ab col dd k0 k1 k2 k3 k5 "ValueError.__new__"))(hN:h.Ns N mN)(hi:mN "__init__"=RP)(T:OwnTail h BC bm)
noncomputable def PF(K:R0)(C:RW):(o:Option Tn)->K.lookup C=o->Ch (∀h,K.In h->MJ h C)
 |some ⟨.type t,s,.cls ⟨nm,bs,.ref v::d,ns,f,hd,e,sub,u,c,RT⟩,⟨[k0,p,m,l,RM (.builtin n),k]⟩⟩,r=>(cd (t="type")).b λj=>(cd (n="ValueError.__new__")).b λi=>(cd (v=C)).b λg=>(cb (PySem.W.tailIn K BC d)).b λq=>(cb (PySem.W.nsOkIn K ns)).b λaM=>(cb (UI K ns "__init__"==RM RP)).b λa=>.y λh X=>by
   subst j i g;exact⟨d,ns,nm,f,bs,hd,e,sub,u,c,s,k0,p,m,l,k,_,X _ _ r,.of_isNs (PySem.W.isNs_of_in X aM),PySem.W.nsMap_none_of_in X aM (Θ3.mp a),PySem.W.tail_of_in X q⟩|_,_=>.n
noncomputable def vF(K:R0)(C:RW):Bool:=(PF K C _ rfl).ok
def xC{K}(X:K.In h)(q:vF K C=RQ):MJ h C:=Ch.of q h X
section
def JA{σ:St}{R:Nat->Prop}(I:Inv X pins σ H s)(S:cY F ρ k σ H)(ha:DA X F (e::es) tas)(h:(do let as<-tas ρ;M.need (as.length<=R1)).run k (λ_ J=>R J) F.E)(Y:Gl X x)(V:X.mg x=RM (.ref C))(U:vF X.K C=RQ)(n:(x==("__debug__"))=RT)(v:Sq (e::es) X.env=(RT,Ux e X.env)::Sq es X.env)(l:(UP cpos (Sq es X.env)).any (·.1)=RT)(q:∀k1 b s1 h' a t,Inv X pins σ b s1->Ext F.toFb H k b k1->cY F ρ k1 σ b->R k1->BD s1.heap h' a C->h'.get? a=RM (He C t)->Q (.ref a) {s1 with heap:=h'}):wpAny (Sb X.prog X.w) X.A (Ux (.Call (.Name x np) (e::es) [] cpos) X.env) Q X.xe s:=by
 obtain⟨bm,N,nm,q0,bs,y,sn,sub,ab,a0,dd,k0,k1,k2,k3,k5,mN,Z,hN,m,T⟩:=xC I.ok.mod.HS U;refine wpAny_Call_ofName (jv I Y V ?_ n);rw[v];have u:=ha.pa cpos pins s σ H _ I (sX.next (Q:=λi b=>∃as k1,i.length=as.length/\Ext F.toFb H k b k1/\cY F ρ k1 σ b/\as.length<=R1/\R k1) S h λas k1 i b o p L B=>⟨as,k1,Paired.length L,o,p,B.1,B.2⟩);rw[v]at u;have c:(UP cpos ((RT,Ux e X.env)::Sq es X.env)).any (·.1)=RT:=by
  show(RT||(UP cpos (Sq es X.env)).any (·.1))=RT;rw[l];rfl
 refine RO (SS (Xn (bE u λG s1⟨i,b,g,r,as,j,W,o,p,O,z⟩=>RO (Ut ?_))));obtain⟨hh,gg,d,tk,os⟩:=s1;have D:=g.bk _ _ Z;have c2:=hN.keeps g.bk;have c3:=T.keeps g.bk;simp only[c];refine RO (wpAny_keeperOf_exc D ?_);refine RO (zy PySem.F.excBase_ValueError c3 D c2 m (λh' a f=>RO (SS (wpAny_point (RS ?_)))) (by show G.length<=R1;rw[<-r.length,W];exact O));obtain⟨t,P⟩:=f.there;exact q j b _ h' a t g o p z f P
def BE(J:X.calm=RQ)(w:Ad X F)(ha:DA X F (e::es) tas)(D:Gl X x)(B:X.mg x=RM (.ref C))(o:vF X.K C=RQ)(j:(x==("__debug__"))=RT)(G:Sq (e::es) X.env=(RT,Ux e X.env)::Sq es X.env)(i:(UP cpos (Sq es X.env)).any (·.1)=RT):DS X F (.Raise (RM (.Call (.Name x np) (e::es) [] cpos)) RP pos) (λρ=>do let as<-tas ρ;M.need (as.length<=R1);M.throw ⟨.exc C [],ρ⟩):=by
 refine⟨ha.hK,λb s m H Z I⟨ρ,k,S,h⟩=>?_⟩;obtain⟨bm,N,nm,q,bs,hdct,sn,sub,ab,col,dd,k0,k1,k2,k3,k5,Q,L,hN,y,T⟩:=xC I.ok.mod.HS o;rw[arm_exec_Raise];refine RO (Ut ?_);refine tz (C:=C) (nm:=nm) (q:=q) (N:=N) (bs:=bs) (hdct:=hdct) (sn:=sn) (sub:=sub) (ab:=ab) (col:=col) (dd:=dd) (k0:=k0) (k1:=k1) (k2:=k2) (k3:=k3) (k5:=k5) (newId:="ValueError.__new__") (T.hasType PySem.F.excBase_ValueError.hasBase) (I.ok.hd J) ?_;have v:(do let as<-tas ρ;M.need (as.length<=R1)).run k (λ_ u=>F.E ⟨.exc C [],ρ⟩ u) F.E:=h;refine RO (JA I S ha v D B o j G i λg d f O a t l R P z c n=>RO (Ut (RS ?_)));have un:=l.aM.fresh c.ge;have r:Inv X b m d {f with heap:=O}:=l.kept c.keeps;exact⟨a,t,RP,rfl,r.bk _ _ L,n,w b m ρ d g _ a C RP [] r P ⟨f,d,l,un,c.ge,_,_,n,rfl,rfl,rfl,.inl rfl⟩ trivial z⟩
end
noncomputable def i7(K:R0)(c P:RW):Option Bool:=if V8 K (.ref P) (.type "BaseException")=RM RQ then(match V8 K (.ref P) (.ref P)with
  |some _=>V8 K (.ref c) (.ref P)|none=>RP)else RP
set_option tactic.hygienic true in
def tD{K:R0}{M:W8}{A:SF}(X:K.In s.heap)(l:s.heap.get? e=RM h)(m:h.cls=.ref c)(hb:i7 K c P=RM b)(q:Q b s):wpAny M A (excMatches (.ref e) (.ref P)) Q E s:=by
 unfold i7 at hb;split at hb
 .rename_i p;split at hb
  .rename_i v n;obtain⟨k,j,t⟩:=VR (M:=M) X n;obtain⟨_,_,i⟩:=VR (M:=M) X p;obtain⟨_,_,f⟩:=VR (M:=M) X hb;have a:∀b o,s.heap.get? b=RM o->s.heap.get? b=RM o:=λ_ _ e=>e;unfold excMatches X3 isExcClass;refine RO (RO (k A _ _ s a ?_));refine Xr tc_notTuple ?_;rw[Ξ3 '1'];refine RO (RS ?_);refine RO ?_;rw[XD];refine RO (RO (RO (j A _ _ s a ?_)));rw[Ξ2 rfl];refine i A _ _ s a ?_;rw[Ξ3 '1'];obtain⟨u,g,d,r,os⟩:=s;repeat(first|(with_reducible refine TJ l ?_;rw[m])|(with_reducible refine f A _ _ _ a ?_)|wp_step)
   refine f A _ _ _ a ?_;cases b with
   |true=>exact RS (RS (RS q))|false=>exact RS (RS (RS q))
  .cases hb
 .cases hb
section
variable{σ:St}
def Inv.MK{M}{Q}(I:Inv X pins σ H s)(h:X.stack=X.env::X.outer)(t:X.env.frame=RM X.env.locals)(v:vE X pins σ s.heap H a c G)(q:∀s',Inv X pins σ H s'->vE X pins σ s'.heap H a c G->Q () s'):wpAny M X.A (Xf (.ref a) X.env) (λ_ s'=>wpAny M X.A (XR (.ref a) RP) Q E s') E s:=by
 obtain⟨l,H0,k,D⟩:=v;have B:=I.ok.frames;have f:=I.stack;rw[h]at B f;have r:l⁻¹<=s⁻¹:=by
  obtain⟨_,J,U,T,N,_⟩:=D;exact SO J (V_ (Sa N))
 refine xB B f t r (λb hb=>I.aM.fresh hb) D λC ch L=>?_;have m:=λb hb=>I.lK b (by rw[h];exact hb);have i:∀b,H b≠RP->b∉ch:=λb n z=>n (L.un b z);have g:∀{b},b<l⁻¹->b∉ch:=λhb z=>Ξ1 hb (Nat.not_lt.mpr (L.ge _ z));have R:Inv X pins σ H {s with heap:=C}:=by
  refine I.Ag rfl ?_ (λb o e=>?_) I.bare λb hb=>⟨.inr (SO k.sz (L.ge b hb)),λz=>?_,λx P e z=>?_,λp K z=>?_⟩
  .rw[h];exact⟨λb o e n hb w=>L.keep b o e w hb,λb o e n hb w=>L.slot b o e hb,λ_ _ _ n _=>n,λb o e _=>L.there b o e,λ_ _ z=>z,λ_ _ _ z=>z,λb ps z=>⟨#[],by rw[z];simp⟩⟩
  .refine(I.aM b o e).fN (λd u hd z=>L.keep d u z (i d ?_) λy=>?_) (λ_ z=>z) λ_ _ z=>z
   .rcases hd with y|y;.rw[y,e];exact '4'
    .rw[y];exact '4'
   .have n:=m d y;rcases hd with y|y;.rw[y,e]at n;cases n
    .rw[y]at n;cases n
  .exact g (z▸k.lt) hb
  .obtain⟨S,O⟩:=k.cell x P e;exact g (z▸O.lt) hb
  .exact g (z▸Sa (k.pin p K).1) hb
 exact q _ R ⟨l,H0,k,L.QO⟩
def Inv.hold(I:Inv X pins σ H s)(d:vE X pins σ s.heap H a c g):∃ob,Inv X pins σ (upd H a (.cz ob (.ext λ_=>True))) s/\ob.cls=.ref c/\ob.dict=g/\(∃vs,ob.data=.fields vs)/\H a=RP:=by
 obtain⟨o,H0,b,un,ge,h,vs,f,k,hd,j,_⟩:=d;refine⟨h,I.AG (SO b.sz ge) un (λz=>?_) (λx m e z=>?_) (λp i z=>?_) ⟨f,trivial,⟨_,f⟩,λ_ _ _ _=>trivial⟩,k,hd,⟨vs,j⟩,un⟩;.exact Ξ1 (z▸b.lt) (Nat.not_lt.mpr ge)
 .obtain⟨n,l⟩:=b.cell x m e;exact Ξ1 (z▸l.lt) (Nat.not_lt.mpr ge)
 .exact Ξ1 (z▸Sa (b.pin p i).1) (Nat.not_lt.mpr ge)
def Inv.landed{M}{A}{Q}(I:Inv X pins σ H s)(v:vE X pins σ s.heap H a c G)(q:∀s',Inv X pins σ H s'->vE X pins σ s'.heap H a c G->Q () s'):wpAny M A (XR (.ref a) RP) Q E s:=by
 obtain⟨t,H0,i,un,ge,y,w,r,C,hd,n,u⟩:=v;rcases u with m|⟨T,S,J,m,l,f,k,D,h,L⟩
 .refine RO (Yl r n m ?_);rw[Ξ3 '1'];exact RS (q s I ⟨t,H0,i,un,ge,y,w,r,C,hd,n,.inl m⟩)
 .have j:=(Ψ3.mp L).1;refine wpAny_setFlight_none r n m D h j ?_;have d:∀b,b≠T->(s.heap.update T (UB (·.setIfInBounds 3 SG))).get? b=s.heap.get? b:=λb hb=>Tp _ _ (T8 hb);have g:∀{b},b<t⁻¹->b≠T:=λhb z=>Ξ1 (z▸hb) (Nat.not_lt.mpr f);have P:Inv X pins σ H {s with heap:=s.heap.update T (UB (·.setIfInBounds 3 SG))}:=I.turned (λb o hb e=>(d b hb).trans e) k (T8 (g i.lt)) (.inr (SO i.sz f)) (λx O e=>by obtain⟨R,N⟩:=i.cell x O e;exact g N.lt) (λp K=>g (Sa (i.pin p K).1));exact q _ P ⟨t,H0,i,un,ge,y,w,(d a (T8 l)).trans r,C,hd,n,.inr ⟨T,_,_,m,l,f,k,Te _ D (Us (Tx h _)),Tx h _,by simp[j]⟩⟩
def Inv.Ff{M}{A}{Q}(I:Inv X pins σ H s)(hN:X.N.Nodup)(Y:X.N[i]?=RM n)(T:X.env.scope.names.lookup n=RM .local)(q:∀s',Inv X pins (σ.set i RP) H s'->Q () s'):wpAny M A (do Zu X.env n .none;ZR X.env n l) Q E s:=by
 obtain⟨m,V,W⟩:=id I.loc;have B:(X.env.scope.kind==.class||(X.env.scope.kind==.module&&X.env.locals !=X.env.globals))=RT:=by rw[I.ok.kind];rfl
 refine wpAny_nameGoes_keeps T V B λh' v L f=>q _ ?_;have Af:=I.Af;have O:=I.free;have d:∀b o,X.bR.heap.get? b=RM o->b≠X.env.locals:=λb o e=>SD (Su (Sa e) I.ok.above);refine⟨I.ok,I.os,I.bare,⟨λb o e k hb a=>(f.2 b (d b o e)).trans (I.base.keep b o e k hb a),λb o e k hb a=>?_,I.base.free,λb o e a=>?_,I.base.jt,I.base.iR,I.base.ju⟩,⟨_,L,λj y w h g Z=>?_⟩,λx c e=>?_,I.free,I.dk,λp U=>?_,λb ob e=>?_,?_⟩
 .obtain⟨P,h⟩:=I.base.slot b o e k hb a;exact⟨P,(f.2 b (d b o e)).trans h⟩
 .obtain⟨R,h⟩:=I.base.there b o e a;exact⟨R,(f.2 b (d b o e)).trans h⟩
 .have t:i≠j:=by
   rintro rfl;rw[Ub]at g;rw[Ξ2 rfl]at g;split at g<;>cases g
  rw[Ub,Ξ3 t]at g;have J:y≠n:=λz=>t (mq hN Y (z▸h));obtain⟨u,r,lk⟩:=W j y w h g Z;refine⟨u,r,?_⟩;rcases lk with⟨G,C⟩|⟨G,c,C,S⟩;.exact .inl ⟨G,(Ξ3 J).trans C⟩
  .obtain⟨o,K,hd⟩:=S;exact .inr ⟨G,c,C,o,(f.2 c (Af y c C)).trans K,hd⟩
 .obtain⟨w,o,K,hd⟩:=I.cell x c e;exact⟨w,o,(f.2 c (Af x c e)).trans K,hd⟩
 .obtain⟨e,k,ne,r⟩:=I.pin p U;exact⟨(f.2 p.1 ne).trans e,k,ne,r⟩
 .refine(I.aM b ob e).fN (λc w' D z=>(f.2 c ?_).trans z) (λ_ z=>z) λ_ _ z=>z;rintro rfl;rcases D with rfl|D;.rw[O]at e;cases e
  .rw[O]at D;cases D
 .rw[Za];exact I.len
end
inductive Hd where|slot(j:Nat)|cst(d:D)
noncomputable def OF(h:Hd)(ρ:ah):Option D:=match h with
 |.slot j=>iW ρ j|.cst d=>RM d
noncomputable def xD(i:Option Nat)(x:D)(ρ:ah):ah:=match i with
 |some i=>ρ.set i ⇑x|none=>ρ
noncomputable def QP(i:Option Nat)(ρ:ah):ah:=match i with
 |some i=>ρ.set i RP|none=>ρ
noncomputable def tE(K:R0)(P:RW)(i:Option Nat)(y:Nat)(h:Hd)(x:Xc):M Fl:=match x.x with
 |.exc c nm=>do
  M.need (i7 K c P=RM RQ)let d<-M.get (OF h (xD i (.exc c nm) x.en))pure (.nx (QP i ((xD i (.exc c nm) x.en).set y ⇑d)))|_=>M.fail
noncomputable def zA(m:M Fl)(h:Xc->M Fl):M Fl:=⟨λk Q E=>m.run k Q (λx a=>(h x).run a Q E),λz q e=>m.mono z q λx a y=>(h x).mono y q e⟩
section
variable{X:Cx}{σ:St}{H:Hp}
noncomputable abbrev Cx.as(X:Cx)(A:SF)(calm:Bool)(pn:List (RW×Tn))(xe:RR->RU->Prop):Cx:={X with A:=A,calm:=calm,pn:=pn,xe:=xe}
def Cx.Ok.as(h:X.Ok){A:SF}{calm:Bool}{pn:List (RW×Tn)}{xe:RR->RU->Prop}(a:A.frames=X.A.frames)(hd:calm=RQ->A.handled=RP):(X.as A calm pn xe).Ok:=⟨h.mod,h.kind,h.glob,h.blt,h.above,h.inj,h.has,h.HU,hd,a.trans h.frames,h.Ll,h.Ox,h.bs,h.D1,h.uY,h.yQ,h.kg,h.GZ⟩
def Inv.as{A}(I:Inv X pins σ H s)(b:A.frames=X.A.frames)(hd:calm=RQ->A.handled=RP)(a:∀p∈pn++pins',p∈X.pn++pins):Inv (X.as A calm pn xe) pins' σ H s:=⟨I.ok.as b hd,I.os,I.bare,I.base,I.loc,I.cell,I.free,I.dk,λp h=>I.pin p (a p h),I.aM,I.len⟩
def Inv.BF{A}(ok:X.Ok)(I:Inv (X.as A calm pn xe) pins' σ H s)(a:∀p∈X.pn++pins,p∈pn++pins'):Inv X pins σ H s:=⟨ok,I.os,I.bare,I.base,I.loc,I.cell,I.free,I.dk,λp h=>I.pin p (a p h),I.aM,I.len⟩
def cY.unset(S:cY F ρ k σ H)(i):cY F (ρ.set i RP) k (σ.set i RP) H where
 len:=by simp[S.len]
 at_:=λj x e=>by
  rw[Ub]at e⊢;by_cases h:i=j
  .subst h;rw[Ξ2 rfl]at e;split at e<;>cases e
  .rw[Ξ3 h]at e⊢;exact S.at_ j x e
 apart:=λg f x y u d b a m l c=>by
  rw[Ub]at b a c⊢;have n1:i≠g:=by
   rintro rfl;rw[Ξ2 rfl]at b;split at b<;>cases b
  have n2:i≠f:=by
   rintro rfl;rw[Ξ2 rfl]at a;split at a<;>cases a
  rw[Ξ3 n1]at b c;rw[Ξ3 n2]at a⊢;exact S.apart g f x y u d b a m l c
 live:=S.live;ext:=S.ext;lR:=S.lR
def JB(b:a≠B.p)(e:H a=RM (.cz ob u))(g:ob.cls=.ref c)(hd:ob.dict=h)(f:∃vs,ob.data=.fields vs)(i:tw B H h nm):Is B H (.ref a) (.exc c nm):=by
 match nm,i with
 |[],_=>exact⟨a,[],rfl,⟨b,ob,u,e,g,f⟩,.nil⟩|[d],⟨x,j,v,n,m,l,k⟩=>exact⟨a,[v],rfl,⟨b,ob,u,x,j,e,g,f,hd.trans n,m,l⟩,.cons k .nil⟩
end
section
def BG{cn n J}(a9:X.stack=X.env::X.outer)(b3:X.env.frame=RM X.env.locals)(hK:X.K=F.K)(hN:X.N.Nodup)(hc:X.calm=RQ)(hb:∀(xe)(pn)(E')(Hs)(ks),XQ (Sb X.prog X.w) X.A X.env xe->Ad (X.as X.A RQ pn xe) {F with E:=E',Hs:=Hs,ks:=ks}->zq (X.as X.A RQ pn xe) {F with E:=E',Hs:=Hs,ks:=ks} body tb)(hg:Gl X cn)(hm:X.mg cn=RM (.ref P))(b6:(cn==("__debug__":Sy))=RT)(hi:X.N[i]?=RM n)(V:X.env.scope.names.lookup n=RM .local)(hy:X.N[y]?=RM J)(b0:Loc X.env.scope J)(b2:X.fn J=RQ\/X.env.scope.names.lookup J=RM .local)(a8:U2 ex (RM (.Name J yp)) ap.line X.env=pure RT)(hex:∀(A)(pn)(xe),DE (X.as A RT pn xe) F ex (λρ=>M.get (OF hd ρ)))(he:X.env.kindOf n=RM .local):DS X F (.Try body [.ExceptHandler (RM (.Name cn np)) (RM n) [.Assign [.Name J yp] ex ap] C] [] [] pos) (λρ=>zA (tb ρ) (tE X.K P (RM i) y hd)):=by
 refine⟨hK,λg s σ H Z I⟨ρ,k,S,h⟩=>?_⟩;refine wpAny_Try_except ?_;have hA:X.A.handled=RP:=I.ok.hd hc;let L:RR->RU->Prop:=λe a4=>wpAny (Sb X.prog X.w) X.A (Xf e X.env) (λ_ a3=>wpAny (Sb X.prog X.w) X.A (XR e RP) (λ_ a2=>wpAny (Sb X.prog X.w) X.A (handleBy e X.env [.ExceptHandler (RM (.Name cn np)) (RM n) [.Assign [.Name J yp] ex ap] C]) (SP X g Z) X.xe a2) X.xe a3) X.xe a4;have c2:Ad (X.as X.A RQ (X.pn++g) L) {F with E:=λx u=>(tE X.K P (RM i) y hd x).run u (zp F Z H k) F.E,Hs:=H,ks:=k}:=by
  intro pins' t R Q u T a c dx nm I' D c3 xn z;have l:∀{t}{Q}{T},Inv (X.as X.A RQ (X.pn++g) L) pins' t Q T->Inv X g t Q T:=λI'=>I'.BF I.ok λp O=>SX _ O;obtain⟨s0,H0,I0,fl⟩:=c3;have S2:cY F R u t Q:=⟨D.len,D.at_,D.apart,D.live,D.ext,S.lR.trans D.lR⟩;show wpAny (Sb X.prog X.w) X.A (Xf (.ref a) X.env) _ X.xe T;refine(l I').MK a9 b3 ⟨s0,H0,l I0,fl⟩ λs3 I3 f3=>?_;obtain⟨a6,z⟩:=z;obtain⟨d,c0,z⟩:=M.run_get.mp z;have z:zp F Z H k (.nx (((R.set i ⇑(.exc c nm)).set y ⇑d).set i RP)) u:=z;refine wpAny_handleBy_cons (codeAny_handlers_test ?_) (by intro q;cases q);have a5:(X.A.mark (RM (.ref a))).frames=X.A.frames:=rfl;have I4:=I3.as (calm:=RT) (xe:=λ_ _=>False) a5 (λq=>nomatch q) (λp O=>O);refine jv (X:=X.as (X.A.mark (RM (.ref a))) RT X.pn (λ_ _=>False)) I4 hg hm ?_ b6;obtain⟨e2,e6,e5,d4,e4,oe,vs,b4,c1,d3,e3,d2⟩:=id f3;refine tD I3.kf b4 c1 a6 ?_;rw[Ξ2 rfl];refine codeAny_handlers_suite_as ?_;refine I3.landed f3 λs5 I5 f5=>?_;obtain⟨ob,I6,o1,o2,o3,un⟩:=I5.hold f5;have ne:a≠F.p:=λe=>S2.live (e▸un);have ix:Is F.toFb (upd Q a (.cz ob (.ext λ_=>True))) (.ref a) (.exc c nm):=JB ne aq o1 o2 o3 (xn.mono (Ext.new (k:=u) un).kp);have S6:=S2.mono (Ext.new (F:=F.toFb) (k:=u) (o:=.cz ob (.ext λ_=>True)) un);have I7:=I6.as (A:=X.A.mark (RM (.ref a))) (calm:=RT) (pn:=X.pn) (pins':=g) (xe:=λ_ _=>False) a5 (λq=>nomatch q) (λp O=>O);refine gy (X:=X.as (X.A.mark (RM (.ref a))) RT X.pn (λ_ _=>False)) I7 hN hi (.inl V) (v:=.ref a) rfl (λs8 I8=>?_) (.inr V);have S8:=S6.set i ix;have c4:DS (X.as (X.A.mark (RM (.ref a))) RT X.pn (λ_ _=>False)) F (.Assign [.Name J yp] ex ap) _:=Bi (X:=X.as (X.A.mark (RM (.ref a))) RT X.pn (λ_ _=>False)) y hN (hex _ _ _) hy b0 a8 b2;have run:=c4.ps g s8 _ _ ⟨λG Y=>∃k9,Kp F.toFb Q u Y k9/\cY F ((R.set i ⇑(.exc c nm)).set y ⇑d) k9 G Y/\k9=u,λ_ _=>False,λ_ _=>False,λ_ _=>False⟩ I8 ⟨_,u,S8,by
   refine M.run_get.mpr ⟨d,c0,?_⟩;exactλG Y e9 S9=>⟨u,((Ext.new (F:=F.toFb) (k:=u) (o:=.cz ob (.ext λ_=>True)) un).kp).trans e9,S9,rfl⟩⟩;have go:wpAny (Sb X.prog X.w) (X.A.mark (RM (.ref a))) (execs [.Assign [.Name J yp] ex ap] X.env) (λf s9=>wpAny (Sb X.prog X.w) X.A (do Zu X.env n .none;ZR X.env n C) (λ_ a7=>SP X g Z f a7) X.xe s9) (λ_ _=>False) s8:=by
   refine RO (TM run (λf s9 q9=>?_) λ_ _ q=>q);cases f with
   |next=>
    obtain⟨G,Y,I9,k9,e9,S9,rfl⟩:=q9;refine RS ?_;have d1:Inv X g G Y s9:=I9.BF I.ok λp O=>O;refine d1.Ff hN hi V λe0 d0=>⟨_,Y,d0,?_⟩;refine z _ Y ?_ (S9.unset i);exact⟨λb o hb st e=>e9.keep b o hb st (D.lR.keep b o hb st e),λq=>e9.live (D.lR.live q),SO D.lR.le e9.le,λq f=>e9.eI q (D.lR.eI q f)⟩|ret v=>obtain⟨_,_,_,_,_,q⟩:=q9;exact q.elim|brk=>obtain⟨_,_,_,q⟩:=q9;exact q.elim|cont=>obtain⟨_,_,_,q⟩:=q9;exact q.elim
  exact TM go (λ_ _ q=>q) λ_ _ q=>q.elim
 have S0:cY {F with E:=λx u=>(tE X.K P (RM i) y hd x).run u (zp F Z H k) F.E,Hs:=H,ks:=k} ρ k σ H:=⟨S.len,S.at_,S.apart,S.live,S.ext,.refl⟩;have pb:=(hb L (X.pn++g) _ H k PassesOwn.looking c2).ps [] s σ H Z (I.as rfl (λ_=>hA) '2') ⟨ρ,k,S0,M.wk h λfl u q=>by cases fl with
  |nx a0=>exactλj B e1 m=>q j B e1 ⟨m.len,m.at_,m.apart,m.live,m.ext,S.lR.trans m.lR⟩|rt d=>exact q|bk a0=>exactλj B e1 m=>q j B e1 ⟨m.len,m.at_,m.apart,m.live,m.ext,S.lR.trans m.lR⟩|ct a0=>exactλj B e1 m=>q j B e1 ⟨m.len,m.at_,m.apart,m.live,m.ext,S.lR.trans m.lR⟩⟩;refine TM pb (λf s1 q=>?_) λ_ _ q=>q;have l:∀{t}{Q}{T},Inv (X.as X.A RQ (X.pn++g) L) [] t Q T->Inv X g t Q T:=λI'=>I'.BF I.ok λp O=>SX _ O;cases f with
 |next=>
  obtain⟨j,B,W,U⟩:=q;exact RS ⟨j,B,l W,U⟩|ret v=>
  obtain⟨w,j,B,W,r,U⟩:=q;exact⟨w,j,B,l W,r,U⟩|brk=>
  obtain⟨j,B,W,U⟩:=q;exact⟨j,B,l W,U⟩|cont=>
  obtain⟨j,B,W,U⟩:=q;exact⟨j,B,l W,U⟩
end
noncomputable def JC:D->Bool
 |.int _=>RQ|_=>RT
noncomputable def BH:D->Bool
 |.int _=>RQ|.str _=>RQ|_=>RT
noncomputable def JD:D->Bool
 |.tup a=>a.all BH|d=>BH d
noncomputable def qZ:D->Bool
 |.tup a=>a.all JD|_=>RT
noncomputable def jK:D->D->Bool
 |.int i,.int j=>decide (i=j)|.str x,.str y=>decide (x=y)|_,_=>RT
noncomputable def gG:List D->List D->Bool
 |[],[]=>RQ|x::b,y::a=>jK x y&&gG b a|_,_=>RT
noncomputable def zB:D->D->Bool
 |.tup b,.tup a=>gG b a|x,y=>jK x y
noncomputable def jL:List D->List D->Bool
 |[],[]=>RQ|x::b,y::a=>zB x y&&jL b a|_,_=>RT
noncomputable def gH:D->D->Bool
 |.tup b,.tup a=>jL b a|x,y=>jK x y
def vG(x:D):Prop:=∃k:Key,x=kD k
def jM(h:BH x=RQ):∃k:Key,x=kD k:=by cases x<;>first|exact⟨.inl _,rfl⟩|exact⟨.inr _,rfl⟩|cases h
theorem pO:∀{xs:List D},xs.all BH=RQ->∃ks:List Key,xs=ks.map kD
 |[],_=>⟨[],rfl⟩|x::xs,h=>by
  rw[UW,R4]at h;obtain⟨k,rfl⟩:=jM h.1;obtain⟨ks,rfl⟩:=pO h.2;exact⟨k::ks,rfl⟩
def BJ(h:JD x=RQ):∃k:NK,x=nD k:=by
 by_cases b:∃a,x=.tup a
 .obtain⟨a,rfl⟩:=b;obtain⟨ks,rfl⟩:=pO h;exact⟨.inr ks,rfl⟩
 .have h:BH x=RQ:=by cases x<;>first|exact h|exact Ξ1 ⟨_,rfl⟩ b
  obtain⟨k,rfl⟩:=jM h;exact⟨.inl k,rfl⟩
theorem nh:∀{xs:List D},xs.all JD=RQ->∃ks:List NK,xs=ks.map nD
 |[],_=>⟨[],rfl⟩|x::xs,h=>by
  rw[UW,R4]at h;obtain⟨k,rfl⟩:=BJ h.1;obtain⟨ks,rfl⟩:=nh h.2;exact⟨k::ks,rfl⟩
def tF(h:qZ x=RQ):By x:=by cases x<;>first|(obtain⟨ks,rfl⟩:=nh h;exact⟨ks,rfl⟩)|cases h
def BK{l:List D}(h:l.all qZ=RQ):∀x∈l,By x:=λx a=>tF (Ψ0.mp h x a)
def xE{l:List D}(h:l.all BH=RQ):∀x∈l,vG x:=λx a=>jM (Ψ0.mp h x a)
def gI(a b):jK (kD a) (kD b)=RQ↔a=b:=by cases a<;>cases b<;>simp[kD,jK]
theorem pQ:∀(a b:List Key),gG (a.map kD) (b.map kD)=RQ↔a=b
 |[],[]=>by simp[gG]|[],_::_=>by simp[gG]|_::_,[]=>by simp[gG]|x::a,y::b=>by simp[gG,gI,pQ a b]
def ni(a b):gH (kD a) (kD b)=decide (a=b):=by
 have:gH (kD a) (kD b)=jK (kD a) (kD b):=by cases a<;>cases b<;>rfl
 rw[this,UO,gI,decide_eq_true_iff]
def Fg(a b):zB (nD a) (nD b)=RQ↔a=b:=by cases a with
 |inl a=>cases b with
  |inl b=>
   have:zB (nD (.inl a)) (nD (.inl b))=jK (kD a) (kD b):=by cases a<;>cases b<;>rfl
   rw[this,gI];simp|inr b=>
   have:zB (nD (.inl a)) (nD (.inr b))=RT:=by cases a<;>rfl
   rw[this];simp
 |inr a=>cases b with
  |inl b=>
   have:zB (nD (.inr a)) (nD (.inl b))=RT:=by cases b<;>rfl
   rw[this];simp|inr b=>
   show gG (a.map kD) (b.map kD)=RQ↔_;rw[pQ];simp
theorem tG:∀(a b:List NK),jL (a.map nD) (b.map nD)=RQ↔a=b
 |[],[]=>by simp[jL]|[],_::_=>by simp[jL]|_::_,[]=>by simp[jL]|x::a,y::b=>by simp[jL,Fg,tG a b]
def nj(a b:List NK):gH (.tup (a.map nD)) (.tup (b.map nD))=decide (a=b):=by
 show jL _ _=_;rw[UO,tG,decide_eq_true_iff]
noncomputable def aP:List D->List D->D->Option D
 |k::ks,v::a,d=>if gH k d then RM v else aP ks a d|_,_,_=>RP
noncomputable def dr(ks:List D)(d:D):Bool:=ks.any λk=>gH k d
section
variable{hp:SJ}
def kr.at(h:kr P w o us)(e:hp.get? a=RM o):hp.DictOf (aw P w) a us:=let⟨i,j,g,f,d,c,b⟩:=h;⟨o,i,j,e,g,f,d,c,b⟩
def kr.of(h:hp.DictOf (aw P w) a us):∃o,hp.get? a=RM o/\kr P w o us:=let⟨o,i,j,e,g,f,d,c,b⟩:=h;⟨o,e,i,j,g,f,d,c,b⟩
def ku.at(h:ku P w o xs)(e:hp.get? a=RM o)(k:∀x∈xs,(cf P w).is hp x.1 x.2.1):hp.DictOfH (cf P w) a xs:=let⟨g,i,f,d,c,b⟩:=h;⟨o,g,i,e,f,d,c,k,b⟩
def ku.of(h:hp.DictOfH (cf P w) a xs):∃o,hp.get? a=RM o/\ku P w o xs:=let⟨o,g,i,e,f,d,c,_,b⟩:=h;⟨o,e,g,i,f,d,c,b⟩
def ML(h:kr P w o []):ku P w o []:=by
 obtain⟨c,f,e,d,i,b,g⟩:=h;refine⟨c,f,e,d,?_,.nil⟩;generalize c.toList=l at b;cases b;rfl
def MM(h:ku P w o []):kr P w o []:=by
 obtain⟨c,i,g,f,d,j⟩:=h;have e:c.toList=[]:=d;refine⟨c,i,g,f,λk b=>?_,by rw[e];exact .nil,.nil⟩;rw[<-V4,e]at b;exact nomatch b
def kr.q_(h:kr P w o us):∀v,o.data≠.cell v:=λv z=>by obtain⟨d,e,c,b,_⟩:=h;rw[b]at z;cases z
def ku.q_(h:ku P w o xs):∀v,o.data≠.cell v:=λv z=>by obtain⟨d,e,c,b,_⟩:=h;rw[b]at z;cases z
end
section
def bQ.JE(h:bQ B H o ks vs)(b:∀x∈ks,vG x):∃ a us ,KV a us/\kr B.P B.w o us/\ks=a.map (λx=>kD x.1)/\vs=a.map (·.2):=by
 rcases h.2 with h|⟨a,f,d,c,g,rfl,rfl⟩;.exact h
 .cases a with
  |nil=>cases d;exact⟨[],[],.nil,MM c,rfl,rfl⟩|cons x r=>
   obtain⟨k,e⟩:=b _ RX;cases k<;>cases e
def bQ.JF(h:bQ B H o ks vs)(c:∀x∈ks,By x):∃ a xs ,KA a xs/\ku B.P B.w o xs/\(∀x∈a,fv B H x.2.1 x.1)/\ks=a.map (λx=>D.tup (x.1.map nD))/\vs=a.map (·.2.2):=by
 rcases h.2 with⟨a,i,f,d,rfl,rfl⟩|h;.cases a with
  |nil=>cases f;exact⟨[],[],.nil,ML d,λx b=>(nomatch b),rfl,rfl⟩|cons x r=>
   obtain⟨k,e⟩:=c _ RX;obtain⟨x1,g⟩:=x;cases x1<;>cases e
 .exact h
def pR{a}[DecidableEq a]{k0 k}{v}{r:List (a×V)}:iq ((k0,v)::r) k=if k0=k then RM v else iq r k:=by
 unfold iq;rw[VO];by_cases h:k0=k;.simp[h]
 .simp[h]
theorem xF:∀{a:List (Key×V)}{ds:List D},ag B H (a.map (·.2)) ds->aP (a.map λx=>kD x.1) ds (kD k)=RM e->∃v,iq a k=RM v/\Is B H v e
 |[],ds,_,q=>by cases ds<;>cases q|(k0,v0)::r,[],h,_=>by simp[ag]at h|(k0,v0)::r,d::ds,h,q=>by
  simp only[Sr,ag]at h;obtain⟨x,i,g,f,c⟩:=h;cases g;simp only[Sr,aP,ni]at q;rw[pR];by_cases b:k0=k
  .simp only[b,decide_true,if_true]at q⊢;cases q;exact⟨_,rfl,f⟩
  .simp only[b,decide_false,if_false]at q⊢;exact xF c q
theorem vH:∀(a:List (Key×V)),dr (a.map λx=>kD x.1) (kD k)=(iq a k).isSome
 |[]=>rfl|(k0,v0)::r=>by
  have b:=vH (k:=k) r;unfold dr at b⊢;rw[Sr,Vb,b,pR,ni];by_cases c:k0=k<;>simp[c]
def nk{k0 k:List NK}:aaG ((k0,p)::r) k=if k0=k then RM p else aaG r k:=by
 unfold aaG;rw[VO];by_cases h:k0=k;.simp[h]
 .simp[h]
theorem xG:∀{a:List (List NK×RW×V)}{xs:List (List NK×RW×RR)}{ds:List D},KA a xs->ag B H (a.map (·.2.2)) ds->aP (a.map λx=>D.tup (x.1.map nD)) ds (.tup (k.map nD))=RM e->∃p v,aaG xs k=RM p/\RelV v p.2/\Is B H v e
 |[],_,ds,_,_,q=>by cases ds<;>cases q|_::_,_,[],_,h,_=>by simp[ag]at h|(k0,s,v0)::r,(n,b1,u1)::xs,d::ds,.cons z t,h,q=>by
  obtain⟨c,g,b⟩:=z;simp only at c g b;subst c;simp only[Sr,ag]at h;obtain⟨x,m,l,j,i⟩:=h;cases l;simp only[Sr,aP,nj]at q;rw[nk];by_cases f:k0=k
  .simp only[f,decide_true,if_true]at q⊢;cases q;exact⟨_,_,rfl,b,j⟩
  .simp only[f,decide_false,if_false]at q⊢;exact xG t i q
theorem zC:∀{a:List (List NK×RW×V)}{xs:List (List NK×RW×RR)},KA a xs->dr (a.map λx=>D.tup (x.1.map nD)) (.tup (k.map nD))=(aaG xs k).isSome
 |[],_,.nil=>rfl|(k0,h,v0)::r,(g,b1,u1)::xs,.cons z t=>by
  obtain⟨b,f,e⟩:=z;simp only at b;subst b;have c:=zC (k:=k) t;unfold dr at c⊢;rw[Sr,Vb,c,nk,nj];by_cases d:k0=k<;>simp[d]
end
section
variable{F:Fx}{σ:St}{s:RU}{x:V}{A:SF}
def zm.get(I:Inv X pins σ H s)(hK:X.K=F.K)(h:zm F.toFb H a o):s.heap.get? a=RM o:=by
 obtain⟨_,_,⟨u,h⟩|h⟩:=h;.exact(I.aM a _ h).1
 .exact I.kf _ _ (by rw[hK];exact h)
theorem fb(I:Inv X pins σ H s)(hK:X.K=F.K):∀{b:List (List NK×RW×V)}{xs:List (List NK×RW×RR)},KA b xs->(∀x∈b,fv F.toFb H x.2.1 x.1)->∀x∈xs,(cf X.prog X.w).is s.heap x.1 x.2.1
 |_,_,.nil,_,x,c=>nomatch c|(k0,l,v0)::r,(k,b1,u1)::xs,.cons z t,h,x,c=>by
  obtain⟨g,f,j⟩:=z;simp only at g f;subst g f;rcases Ω2.mp c with rfl|c;.exact e_ I hK (h _ RX)
  .exact fb I hK t (λy i=>h y (RZ _ i)) x c
def kinds(ks:List D)(d:D):Prop:=(∀x∈ks,vG x)/\vG d\/(∀x∈ks,By x)/\By d
def jN(h:bQ F.toFb H o ks vs)(c:s.heap.get? a=RM o):s.TypeIs (.ref a) "dict":=by
 rcases h.2 with⟨_,_,_,⟨f,g,b,_⟩,_⟩|⟨_,_,_,⟨f,g,b,_⟩,_⟩;.exact⟨o,c,b.1⟩
 .exact⟨o,c,b.1⟩
def Fh(hu:A.units+2<TL)(I:Inv X pins σ H s)(hK:X.K=F.K)(hP:X.prog=F.P)(hw:X.w=F.w)(h:bQ F.toFb H o ks vs)(z:s.heap.get? a=RM o)(t:ag F.toFb H vs ds)(i:Is F.toFb H x d)(r:RelV x v)(c:kinds ks d)(B:aP ks ds d=RM e)(q:∀y u s',Inv X pins σ H s'->RelV y u->Is F.toFb H y e->Q u s'):wpAny (Sb X.prog X.w) A (getItem (.ref a) v) Q E s:=by
 rcases c with⟨c,k,rfl⟩|⟨c,k,rfl⟩
 .obtain⟨g,C,L,ob,rfl,rfl⟩:=h.JE c;rw[<-hP,<-hw]at ob;obtain⟨y,m,l⟩:=xF t B;have:=fx i;subst this;obtain⟨G,j,f⟩:=iQ.some_of (by rw[<-m];exact L.val k);exact wpAny_getItem_of (gA r) (ob.at z).mapOf j (q y G _ (I.tok _) f l)
 .obtain⟨g,N,n,ob,tp,rfl,rfl⟩:=h.JF c;rw[<-hP,<-hw]at ob;obtain⟨p,y,m,l,M⟩:=xG n t B;obtain⟨b,rfl,J⟩:=fv.of i;cases(show v=Sm b from r);exact wpAny_getItem_heap (d_ hu) (e_ I hK J) (ob.at z (fb I hK n tp)) m (q y _ _ (I.tok _) l M)
def JG{Q}(hu:A.units+2<TL)(I:Inv X pins σ H s)(hK:X.K=F.K)(hP:X.prog=F.P)(hw:X.w=F.w)(h:bQ F.toFb H o ks vs)(l:s.heap.get? a=RM o)(c:(a==UC)=RT)(i:Is F.toFb H x d)(r:RelV x v)(f:kinds ks d)(q:∀s',Inv X pins σ H s'->Q (.bool (dr ks d)) s'):wpAny (Sb X.prog X.w) A (Tb .In v (.ref a)) Q E s:=by
 rcases f with⟨f,k,rfl⟩|⟨f,k,rfl⟩
 .obtain⟨g,t,n,ob,rfl,rfl⟩:=h.JE f;rw[<-hP,<-hw]at ob;have:=fx i;subst this;refine wpAny_in_of (gA r) c (ob.at l).mapOf ?_;rw[<-(n.val k).pD,<-vH];exact q _ (I.tok _)
 .obtain⟨g,p,j,ob,tp,rfl,rfl⟩:=h.JF f;rw[<-hP,<-hw]at ob;obtain⟨b,rfl,m⟩:=fv.of i;cases(show v=Sm b from r);refine wpAny_in_heap (d_ hu) (e_ I hK m) c (ob.at l (fb I hK j tp)) ?_;rw[<-zC j];exact q _ (I.tok _)
def zD{Q}(hu:A.units+2<TL)(I:Inv X pins σ H s)(hK:X.K=F.K)(hP:X.prog=F.P)(hw:X.w=F.w)(h:bQ F.toFb H o ks vs)(l:s.heap.get? a=RM o)(c:(a==UC)=RT)(i:Is F.toFb H x d)(r:RelV x v)(f:kinds ks d)(q:∀s',Inv X pins σ H s'->Q (.bool (!dr ks d)) s'):wpAny (Sb X.prog X.w) A (Tb .NotIn v (.ref a)) Q E s:=by
 rcases f with⟨f,k,rfl⟩|⟨f,k,rfl⟩
 .obtain⟨g,t,n,ob,rfl,rfl⟩:=h.JE f;rw[<-hP,<-hw]at ob;have:=fx i;subst this;refine wpAny_notIn_of (gA r) c (ob.at l).mapOf ?_;rw[<-(n.val k).pD,<-vH];exact q _ (I.tok _)
 .obtain⟨g,p,j,ob,tp,rfl,rfl⟩:=h.JF f;rw[<-hP,<-hw]at ob;obtain⟨b,rfl,m⟩:=fv.of i;cases(show v=Sm b from r);refine wpAny_notIn_heap (d_ hu) (e_ I hK m) c (ob.at l (fb I hK j tp)) ?_;rw[<-zC j];exact q _ (I.tok _)
def BL(h:bQ F.toFb H o ks vs):∃b c,o.ExactDict/\o.data=.dict b c/\b.size=ks.length/\(b.size:Int)<2^63:=by
 have g:=h.1;rw[TH]at g;rcases h.2 with⟨f,l,m,⟨b,c,j,i,_,p,_⟩,rfl,_⟩|⟨f,k,n,⟨b,c,j,i,q,_⟩,_,rfl,_⟩
 .have:b.size=l.length:=by rw[<-p.length];simp
  have r:=Paired.length m;rw[RV]at g;exact⟨b,c,j,i,by rw[RV];omega,'0'⟩
 .have:=size_of_entries q;have r:=Paired.length n;rw[RV]at g;exact⟨b,c,j,i,by rw[RV];omega,'0'⟩
end
def Kp.own(j:a≠B.p)(hu:H a=RM u)(ns:u.pL=RT):Kp B H k (upd H a o') k where
 keep:=λb o hb st e=>by
  by_cases c:b=a;.subst c;rw[hu]at e;cases e;rw[ns]at st;cases st
  .rw[ar c];exact e
 live:=λh=>by rw[ar (T8 j)];exact h
 le:=R5 _;eI:=λq d=>by
  obtain⟨f,i,r,⟨w,⟨o,g⟩,v,t,s,n⟩,m⟩:=d;have l:q≠a:=λz=>by rw[z,hu]at g;cases g;cases ns
  exact⟨f,i,r,⟨by rw[ar (T8 j)];exact w,⟨o,by rw[ar l];exact g⟩,v,t,s,n⟩,m⟩
section
variable{X:Cx}{F:Fx}{pins:List (RW×Tn)}{σ:St}{H:Hp}{s:RU}{k:Nat}
def cY.fY(S:cY F ρ k σ H)(r:ρ[i]?=RM (RM (.own d)))(hs:σ[i]?=RM (RM (.ref a)))(M:a≠F.p)(N:F.H0 a=RP)(hu:H a=RM u)(ns:u.pL=RT)(hw:Lq F (upd H a o') k (.ref a) w'):cY F (ρ.set i (RM w')) k σ (upd H a o'):=by
 have kp:Kp F.toFb H k (upd H a o') k:=Kp.own M hu ns;have L:=(Ω0.mp r).1;refine⟨by simp[S.len],λj x e=>?_,λB A x y v c t n G E w=>?_,kp.live S.live,⟨λb o hb e=>?_,λh=>kp.live (S.ext.live h),S.ext.le,λq f=>kp.eI q (S.ext.eI q f)⟩,S.lR.trans kp⟩
 .rw[Ub]at e;by_cases C:i=j
  .subst C;rw[Ξ2 rfl,Ξ2 L]at e;cases e;exact⟨_,hs,hw⟩
  .rw[Ξ3 C]at e;obtain⟨v,m,l⟩:=S.at_ j x e;refine⟨v,m,?_⟩;cases x with
   |d x=>exact Is.mono kp l|feed=>exact⟨l.1,kp.feed l.2⟩|own O=>
    obtain⟨b,rfl,K,J,I⟩:=l;have g:b≠a:=λz=>by
     subst z;exact S.apart i j _ _ _ C r e rfl rfl hs m
    exact⟨b,rfl,K,J,I.keep kp λo e=>by rw[ar g];exact e⟩
 .rw[Ub]at t n;by_cases m:i=B
  .subst m;rw[Ξ3 c]at n;exact S.apart i A _ _ v c r n rfl E w
  .rw[Ξ3 m]at t;by_cases l:i=A
   .subst l;exact S.apart B i _ _ v c t r G rfl w
   .rw[Ξ3 l]at n;exact S.apart B A _ _ v c t n G E w
 .have g:b≠a:=λz=>by rw[z,N]at e;cases e
  rw[ar g];exact S.ext.keep b o hb e
noncomputable def MN:D->Bool
 |.aO _ _=>RQ|_=>RT
structure MO(X:Cx)(F:Fx)(pins:List (RW×Tn))(σ:St)(H:Hp)(s:RU)(k:Nat)(a:RW)(d:D)(u:HO)(o:Tn):Prop where
 hu:H a=RM u
 ns:u.pL=RT
 nt:∀xs,u≠.tup xs
 inv:Inv X pins σ (upd H a (.cz o u)) s
 zE:Is F.toFb (upd H a (.cz o u)) (.ref a) d
 n1:∀xs,X.iS a≠RM (.tup xs)n2:∀ob v,X.iS a≠RM (.cz ob v)n3:∀ps,X.iS a≠RM (.Aa ps)nl:MN d=RQ->∀xs,u≠.lst xs
def jF.BM(I:Inv X pins σ H s)(h:jF F H a d):∃u o,MO X F pins σ H s k a d u o:=by
  obtain⟨g,B,h⟩:=h;have base:∀{u},H a=RM u->u.pL=RT->(∀f,u≠.tup f)->(∀b v,u≠.cz b v)->(∀ps,u≠.Aa ps)->(∀f,X.iS a≠RM (.tup f))/\(∀ob v,X.iS a≠RM (.cz ob v))/\∀ps,X.iS a≠RM (.Aa ps):=λ{u}hu ns nt q r=>⟨λf e=>by have:=I.base.jt a f e;rw[hu]at this;cases this;exact nt _ rfl,λob v e=>by have:=I.base.iR a ob v e;rw[hu]at this;cases this;exact q _ _ rfl,λps e=>by obtain⟨m,this⟩:=I.base.ju a ps e;rw[hu]at this;cases this;exact r _ rfl⟩;cases d with
  |lst y=>
    obtain⟨f,c,j⟩:=h;obtain⟨_,t,n,A,i⟩:=I.aM a _ c;obtain⟨b1,p,l⟩:=base c rfl '3' (λ_ _ z=>nomatch z) '3';refine⟨_,_,c,rfl,'3',I.freeze c i '3' (λ_ _ z=>nomatch z) '3' '3',?_,b1,p,l,λz=>nomatch z⟩;exact⟨a,f,rfl,⟨g,_,aq⟩,j.mono (Kp.own (k:=k) g c rfl)⟩|aO ks y=>
    obtain⟨o,f,c,j,x,w⟩:=h;have i:=(I.aM a _ c).1;obtain⟨b1,p,l⟩:=base c rfl '3' (λ_ _ z=>nomatch z) '3';refine⟨_,o,c,rfl,'3',I.freeze c i '3' (λ_ _ z=>nomatch z) '3' '3',?_,b1,p,l,λ_ _ z=>nomatch z⟩;exact⟨a,f,rfl,⟨o,⟨g,j,.inl ⟨_,aq⟩⟩,x.mono (Kp.own (k:=k) g c rfl)⟩,w.mono (Kp.own (k:=k) g c rfl)⟩|aJ f=>
    obtain⟨o,c,j⟩:=h;have i:=(I.aM a _ c).1;obtain⟨b1,p,l⟩:=base c rfl '3' (λ_ _ z=>nomatch z) '3';refine⟨_,o,c,rfl,'3',I.freeze c i '3' (λ_ _ z=>nomatch z) '3' '3',?_,b1,p,l,λz=>nomatch z⟩;exact⟨a,rfl,g,o,_,aq,j⟩|_=>exact h.elim
def Inv.jO(I:Inv X pins σ H s)(f:H a=RM (.cz o u))(n1:∀xs,X.iS a≠RM (.tup xs))(n2:∀ob v,X.iS a≠RM (.cz ob v))(n3:∀ps,X.iS a≠RM (.Aa ps)):Inv X pins σ (upd H a u) s:=by
 have ne:∀{b:RW},H b=RP->b≠a:=λ{b}n z=>by rw[z,f]at n;cases n
 have tp:∀b xs,H b=RM (.tup xs)->(upd H a u) b=RM (.tup xs):=λb xs e=>by rw[ar (λz=>by rw[z,f]at e;cases e)];exact e
 have g:∀b x,H b=RM (.own x)->(upd H a u) b=RM (.own x):=λb x e=>by rw[ar (λz=>by rw[z,f]at e;cases e)];exact e
 refine⟨I.ok,I.os,I.bare,⟨I.base.keep,I.base.slot,λb ob e n h=>?_,I.base.there,λb xs e=>tp b xs (I.base.jt b xs e),λb ob v e=>?_,λb ps e=>?_⟩,I.loc,I.cell,?_,λx c e=>?_,λp i=>?_,λb v e=>?_,I.len⟩
 .have:=I.base.free b ob e n h;rw[ar (ne this)];exact this
 .have q:=I.base.iR b ob v e;rw[ar (λz=>by rw[z]at e;exact n2 _ _ e)];exact q
 .obtain⟨d,q⟩:=I.base.ju b ps e;exact⟨d,by rw[ar (λz=>by rw[z]at e;exact n3 _ e)];exact q⟩
 .rw[ar (ne I.free)];exact I.free
 .rw[ar (ne (I.dk x c e))];exact I.dk x c e
 .obtain⟨e,n,r⟩:=I.pin p i;exact⟨e,by rw[ar (ne n)];exact n,r⟩
 .by_cases hb:b=a
  .subst hb;rw[aq]at e;cases e;exact(I.aM b _ f).2.fN (λ_ _ _ q=>q) (λc q=>g c _ q) tp
  .rw[ar hb]at e;exact(I.aM b v e).fN (λ_ _ _ q=>q) (λc q=>g c _ q) tp
end
mutual
noncomputable def flat(l:Bool):D->Bool
 |.br=>RQ|.bl _=>RQ|.int _=>RQ|.str _=>RQ|.tup a=>nq l a|.lst a=>l&&nq l a|_=>RT
noncomputable def nq(l:Bool):List D->Bool
 |[]=>RQ|x::a=>flat l x&&nq l a
end
section
variable{B:Fb}{H:Hp}{a:RW}{o:Tn}{u u':HO}
def TupAt.jO(d:H a=RM (.cz o u))(nt:∀xs,u≠.tup xs)(h:TupAt B H b xs):TupAt B (upd H a u') b xs:=by
 refine⟨h.1,?_⟩;rcases h.2 with(c|⟨e,c⟩)|c;.exact .inl (.inl (by rw[ar (λz=>by rw[z,d]at c;cases c)];exact c))
 .exact .inl (.inr ⟨e,by rw[ar (λz=>by rw[z,d]at c;cases c;exact nt _ rfl)];exact c⟩)
 .exact .inr c
mutual
theorem Is.jO(c:H a=RM (.cz o u)){l:Bool}(nt:∀xs,u≠.tup xs)(nl:l=RQ->∀xs,u≠.lst xs):∀{d:D}{v:V},flat l d=RQ->Is B H v d->Is B (upd H a u') v d
 |.br,_,_,h=>by simp only[Is]at h⊢;exact h|.bl _,_,_,h=>by simp only[Is]at h⊢;exact h|.int _,_,_,h=>by simp only[Is]at h⊢;exact h|.str _,_,_,h=>by simp only[Is]at h⊢;exact h|.tup _,_,f,h=>by
  simp only[Is]at h⊢;simp only[flat]at f;obtain⟨b,xs,j,i,g⟩:=h;exact⟨b,xs,j,i.jO c nt,ag.jO c nt nl f g⟩|.lst _,_,f,h=>by
  simp only[Is]at h⊢;simp only[flat,R4]at f;obtain⟨b,xs,j,⟨i,k,e⟩,g⟩:=h;exact⟨b,xs,j,⟨i,k,by rw[ar (λz=>by rw[z,c]at e;cases e;exact nl f.1 _ rfl)];exact e⟩,ag.jO c nt nl f.2 g⟩|.aO _ _,_,f,_=>by simp[flat]at f|.exc _ _,_,f,_=>by simp[flat]at f|.aJ _,_,f,_=>by simp[flat]at f
theorem ag.jO(b:H a=RM (.cz o u)){l:Bool}(nt:∀xs,u≠.tup xs)(nl:l=RQ->∀xs,u≠.lst xs):∀{ds:List D}{xs:List V},nq l ds=RQ->ag B H xs ds->ag B (upd H a u') xs ds
 |[],_,_,h=>by simp only[ag]at h⊢;exact h|d::ds,_,f,h=>by
  simp only[ag]at h⊢;simp only[nq,R4]at f;obtain⟨x,c,i,g,e⟩:=h;exact⟨x,c,i,Is.jO b nt nl f.1 g,ag.jO b nt nl f.2 e⟩
end
end
noncomputable def i8(ρ:ah)(i:Nat):Bool:=match ρ[i]? with
 |some (RM (.own d))=>MN d|_=>RT
noncomputable def uX(i:Nat)(ρ:ah):ah:=match ρ[i]? with
 |some (RM (.own d))=>ρ.set i ⇑d|_=>ρ
section
variable{X:Cx}{F:Fx}{e:Sj}{st:UL}
def ra(h:ρ[i]?=RM (RM (.own d))):uX i ρ=ρ.set i ⇑d:=by unfold uX;rw[h]
set_option tactic.hygienic true in
theorem vI{ρ:ah}{i:Nat}(h:∀d,ρ[i]?≠RM (RM (.own d))):uX i ρ=ρ:=by
 unfold uX;split;.rename_i d e;exact Ξ1 e (h d)
 .rfl
theorem vJ(ρ:ah)(i:Nat):(∃d,ρ[i]?=RM (RM (.own d)))\/∀d,ρ[i]?≠RM (RM (.own d)):=by
 by_cases h:∃d,ρ[i]?=RM (RM (.own d));.exact .inl h
 .exact .inr λd e=>h ⟨d,e⟩
def DS.fz(i)(h:DS X F st t):DS X F st (λρ=>t (uX i ρ)):=by
 refine⟨h.hK,λb s j H Z I⟨ρ,k,S,z⟩=>?_⟩;rcases vJ ρ i with⟨d,f⟩|f
 .obtain⟨v,l,a,rfl,g⟩:=S.at_ i _ f;obtain⟨u,o,c⟩:=jF.BM (k:=k) I g;have m:=S.fY (w':=.d d) f l g.1 g.2.1 c.hu c.ns c.zE;dsimp only at z;rw[ra f]at z;exact h.ps b s j _ Z c.inv ⟨_,k,m,M.wk z λp n q=>q.mono (Kp.own g.1 c.hu c.ns)⟩
 .dsimp only at z;rw[vI f]at z;exact h.ps b s j H Z I ⟨ρ,k,S,z⟩
def Ext.jO(h:a≠F.p)(hu:H a=RM u)(ns:u.pL=RT)(e:Ext F.toFb (upd H a (.cz o u)) k m k2):Ext F.toFb H k (upd m a u) k2:=by
 have kp:Kp F.toFb H k (upd H a (.cz o u)) k:=Kp.own h hu ns;refine⟨λb n hb q=>?_,λq=>by rw[ar (T8 h)];exact e.live (kp.live q),e.le,λq f=>?_⟩
 .by_cases c:b=a;.subst c;rw[aq,<-hu];exact q
  .rw[ar c];exact e.keep b n hb (by rw[ar c];exact q)
 .have s:q≠a:=λz=>by
   obtain⟨_,_,_,g,_⟩:=f;obtain⟨d,j⟩:=g.cs;rw[z,hu]at j;cases j;cases ns
  obtain⟨l,i,r,⟨A,⟨d,j⟩,y,x,w,v⟩,t⟩:=e.eI q (kp.eI q f);exact⟨l,i,r,⟨by rw[ar (T8 h)];exact A,⟨d,by rw[ar s];exact j⟩,y,x,w,v⟩,t⟩
def DE.oK(i)(h:DE X F e t):DE X F e (λρ=>do let d<-t (uX i ρ);M.need (flat (i8 ρ i) d=RQ);pure d):=by
 refine⟨h.hK,λc s r H Q I⟨ρ,k,S,z⟩=>?_⟩;rcases vJ ρ i with⟨d,g⟩|g
 .obtain⟨v,B,a,rfl,l⟩:=S.at_ i _ g;obtain⟨u,o,b⟩:=jF.BM (k:=k) I l;have G:=S.fY (w':=.d d) g B l.1 l.2.1 b.hu b.ns b.zE;have z:(t (uX i ρ)).run k (λd f=>flat (i8 ρ i) d=RQ/\qE F.toFb H k Q d f) F.E:=z;rw[ra g]at z;refine bE (h.pe c s r _ (λv j=>∃n d,Ext F.toFb (upd H a (.cz o u)) k j n/\Is F.toFb j v d/\flat (i8 ρ i) d=RQ/\qE F.toFb H k Q d n) b.inv ⟨_,k,G,M.wk z λd f q v j e p=>⟨f,d,e,p,q.1,q.2⟩⟩) λv K m=>?_;obtain⟨x,j,J,y,n,L,w,p,C,A⟩:=m;have ha:=w.keep a _ l.1 aq;exact⟨x,upd j a u,J.jO ha b.n1 b.n2 b.n3,y,A x _ (w.jO l.1 b.hu b.ns) (Is.jO ha b.nt (λz=>b.nl (by unfold i8 at z;rw[g]at z;exact z)) C p)⟩
 .have z:(t (uX i ρ)).run k (λd f=>flat (i8 ρ i) d=RQ/\qE F.toFb H k Q d f) F.E:=z;rw[vI g]at z;exact h.pe c s r H Q I ⟨ρ,k,S,M.wk z λd f q=>q.2⟩
def DT.oK(i)(h:DT X F e t):DT X F e (λρ=>t (uX i ρ)):=by
 refine⟨h.hK,λf s p H Q I⟨ρ,k,S,z⟩=>?_⟩;dsimp only at z;rcases vJ ρ i with⟨d,j⟩|j
 .obtain⟨v,y,a,rfl,g⟩:=S.at_ i _ j;obtain⟨u,o,c⟩:=jF.BM (k:=k) I g;have A:=S.fY (w':=.d d) j y g.1 g.2.1 c.hu c.ns c.zE;rw[ra j]at z;refine bE (h.pt f s p _ (λb l=>∃n,Ext F.toFb (upd H a (.cz o u)) k l n/\qT F.toFb H k Q b n) c.inv ⟨_,k,A,M.wk z λb x q l e=>⟨x,e,q⟩⟩) λb C m=>?_;obtain⟨l,B,n,r,w⟩:=m;have ha:=r.keep a _ g.1 aq;exact⟨upd l a u,B.jO ha c.n1 c.n2 c.n3,w _ (r.jO g.1 c.hu c.ns)⟩
 .rw[vI j]at z;exact h.pt f s p H Q I ⟨ρ,k,S,z⟩
end
section
variable{X:Cx}{F:Fx}
noncomputable def MP:D->D->M D
 |.aO ks a,d=>do M.need (kinds ks d);M.get (aP ks a d)|_,_=>M.fail
def Fj(hu:X.A.units+2<TL)(hP:X.prog=F.P)(hw:X.w=F.w):OC X F MP:=⟨λhK f g c s m H x y v u Q I J G h S=>by
 obtain⟨k,d,e,l,t,O,q⟩:=h;cases d with
 |aO ks ds=>
  obtain⟨T,q⟩:=q;obtain⟨z,V,U⟩:=M.run_get.mp q;simp only[Is]at t;obtain⟨a,Y,rfl,⟨o,L,D⟩,N⟩:=t;cases(show v=Sm a from J);have B:=L.get I hK;have key:=Fh (E:=X.xe) (Q:=λr p=>EP X c m Q r p) hu I hK hP hw D B N O G T V λn Z p W K R=>⟨n,H,W,K,U n H .refl R⟩;have C:=jN D B;refine RO ?_;rw[getitemInPython_of_ne C.not_modules];refine RO (Vm C PySem.F.slot_dict_getitem.lookup ?_);have i:wpAny (Sb X.prog X.w) X.A (aaS g RT (.ref a) u) (λr b=>wpAny (Sb X.prog X.w) X.A (letTemporaryGo f (.ref a) r>>=λ_=>pure r) (EP X c m Q) X.xe b) X.xe s:=by
   rw[S];exact wpAny_operating (TM key (λr b j=>RO (wpAny_letTemporaryGo (RS j))) λ_ _ x=>x)
  first
   |exact RS (RO i)|exact RO (RS (RO i))|exact RO i
 |_=>exact q.elim⟩
noncomputable def MQ(neg:Bool):D->D->M D
 |d,.aO ks _=>do M.need (kinds ks d);pure (.bl (if neg then !dr ks d else dr ks d))|_,_=>M.fail
def JH(hu:X.A.units+2<TL)(hP:X.prog=F.P)(hw:X.w=F.w):gw X F (Tb .In) (MQ RT):=⟨λb s p H k x y v u d e Q I h g l hK i f q=>by cases e with
 |aO ks B=>
  obtain⟨j,q⟩:=q;obtain⟨a,r,rfl,⟨o,c,m⟩,z⟩:=f;cases(show u=Sm a from g);exact JG hu I hK hP hw m (c.get I hK) c.2.1 i h j λt n=>⟨.bl (dr ks d),H,n,rfl,q _ H .refl (by rfl)⟩|_=>exact q.elim⟩
def zF(hu:X.A.units+2<TL)(hP:X.prog=F.P)(hw:X.w=F.w):gw X F (Tb .NotIn) (MQ RQ):=⟨λb s p H k x y v u d e Q I h g l hK i f q=>by cases e with
 |aO ks B=>
  obtain⟨j,q⟩:=q;obtain⟨a,r,rfl,⟨o,c,m⟩,z⟩:=f;cases(show u=Sm a from g);exact zD hu I hK hP hw m (c.get I hK) c.2.1 i h j λt n=>⟨.bl (!dr ks d),H,n,rfl,q _ H .refl (by rfl)⟩|_=>exact q.elim⟩
def PH(K:R0)(H:Hp)(a:RW)(o:Tn):Prop:=(∃u,H a=RM (.cz o u))\/K.lookup a=RM o
noncomputable def Rt(K:R0)(a:RW)(o:Tn)(b:List V):It:=⟨λi H=>PH K H a o/\i<b.length,λi H x c=>c=H/\b[i]?=RM x,λi H=>PH K H a o/\b.length<=i⟩
theorem vK{K}(hd:o.data=.dict l R)(t:ax f (l.toList.map (·.key)))(T:a≠it):Turn P w K tg (Rt K a o f) [it] it (λi h=>h.IsKeyIter it a i l.size R)where
 mem:=by simp
 obj:=λi h st b hb=>by
  have e:=by simpa using hb
  subst e;obtain⟨o,e,c,d⟩:=st;exact⟨o,e,λv z=>by rw[d]at z;cases z⟩
 keep:=λi h r st k=>st.at λo e=>k it '2' o e;item:=by
  intro X hP hw hK Q i j s L H E I q st B;obtain⟨g,O⟩:=B;have U:=by simpa using t.length
  have A:s.heap.get? a=RM o:=by
   rcases g with⟨u,g⟩|g;.exact(I.aM a _ g).1
   .exact I.kf _ _ (by rw[hK];exact g)
  obtain⟨x,N⟩:∃x,f[i]?=RM x:=⟨f[i],by simp[]⟩;obtain⟨y,M,S⟩:=t.get N;have n:i<l.size:='0'
  have Y:y=l[i].key:=by
   rw[Sn,T7,R9 n]at M;exact(R3 M).symm
  obtain⟨J,G,W,D,C,f5⟩:=q it '2';refine DictIt.xg st A hd n λr m sb=>?_;have I1:Inv X j L H {s with heap:=r}:=I.turned (λb o hb e=>(sb.2 b hb).trans e) J G D C f5;obtain⟨o',e,c,d⟩:=id m;exact⟨_,rfl,wK e c d '1' ⟨x,H,I1,by rw[<-Y];exact S,⟨rfl,N⟩,m,λb hb=>(q b hb).1⟩⟩
 done:=by
  intro X hP hw hK Q i j s L H E I q st B;obtain⟨g,O⟩:=B;have U:=by simpa using t.length
  have A:s.heap.get? a=RM o:=by
   rcases g with⟨u,g⟩|g;.exact(I.aM a _ g).1
   .exact I.kf _ _ (by rw[hK];exact g)
  obtain⟨J,G,W,D,C,f5⟩:=q it '2';exact DictIt.AY (I.ok.hd Q) st A hd '0' λr Z=>⟨rfl,I.turned (λb o hb e=>Z b o hb e) J G D C f5⟩
 self:=λ_ _ _ _ _ st h=>ZM st h
theorem pS:∀{a:List (List NK×RW×V)}{xs:List (List NK×RW×RR)},KA a xs->ax (a.map λx=>V.ref x.2.1) ((xs.map (entryOfKey (cf P w))).map (·.key))
 |_,_,.nil=>.nil|_,_,.cons z t=>.cons (show Sm _=_ by rw[z.2.1]) (pS t)
theorem nr:∀{a:List (List NK×RW×V)},(∀x∈a,fv B H x.2.1 x.1)->ag B H (a.map λx=>V.ref x.2.1) (a.map λx=>D.tup (x.1.map nD))
 |[],_=>.nil|x::r,h=>.cons (h x RX).is (nr λy b=>h y (RZ _ b))
theorem nu:∀{a:List (Key×V)},ag B H (a.map λx=>kV x.1) (a.map λx=>kD x.1)
 |[]=>.nil|(k,v)::ks=>.cons (by cases k<;>simp only[kD,kV,Is]) nu
def tH(h:bQ F.toFb H o ks vs):∃a b c,o.ExactDict/\o.data=.dict b c/\ax a (b.toList.map (·.key))/\ag F.toFb H a ks:=by
 rcases h.2 with⟨d,m,g,⟨b,c,f,e,_,j,_⟩,rfl,_⟩|⟨d,l,i,⟨b,c,f,e,k,_⟩,tp,rfl,_⟩;.exact⟨_,b,c,f,e,mW g j,nu⟩
 .exact⟨_,b,c,f,e,by rw[k];exact pS i,nr tp⟩
end
def oW(X:Cx)(e:Sj)(t:TE)(pins:List (RW×Tn))(s:RU)(σ:St)(H:Hp):Prop:=(∀Q,t σ H Q->wpAny (Sb X.prog X.w) X.A (Ux e X.env) (EP X pins σ Q) X.xe s)/\∀(x:Sy)(a b:Uq)(c:TG)(D:Ends),U2 e (RM (.Name x a)) b.line X.env=pure RQ->PG X (.Name x a) c->Ig t c D σ H->wpAny (Sb X.prog X.w) X.A (exec (.Assign [.Name x a] e b) X.env) (SP X pins D) X.xe s
structure DU(X:Cx)(F:Fx)(e:Sj)(t:ah->M D):Prop where
 hK:X.K=F.K
 pu:∀pins s σ H,Inv X pins σ H s->oW X e (dR F t) pins s σ H
section
variable{σ:St}{H:Hp}
theorem DU.de(h:DU X F e t):DE X F e t:=⟨h.hK,λpins s σ H Q I q=>(h.pu pins s σ H I).1 Q q⟩
theorem DU.ref{t m}(h:DU X F e m)(r:∀ρ,Ref (t ρ) (m ρ)):DU X F e t:=⟨h.hK,λpins s σ H I=>⟨λQ⟨ρ,k,S,z⟩=>(h.pu pins s σ H I).1 Q ⟨ρ,k,S,r ρ _ _ _ z⟩,λx b a f D c d⟨ρ,k,S,z⟩=>(h.pu pins s σ H I).2 x b a f D c d ⟨ρ,k,S,r ρ _ _ _ z⟩⟩⟩
def tm.pu(w:tm X cmp t)(E:Ux e X.env=cmp RP)(g:∀u,evalThenUse e X.env u=(do let _<-cmp (RM u)))(I:Inv X pins σ H s):oW X e t pins s σ H:=by
 refine⟨λQ z=>w.pe E pins s σ H Q I z,λx P p2 gt Z m B z=>?_⟩;rw[exec_Assign_Name_used _ _ _ _ m];refine RO (Ut ?_);rw[g];refine RO (RO (w _ _ pins s σ H _ I z λD C j z=>?_));obtain⟨Y,M,q,R,a,l,c,f,le,T,k,G,J,y,h,o⟩:=z;have W:Inv X ((C,k)::pins) σ Y j:=M.fO λp r=>by
  rcases Ω2.mp r with z|z
  .rw[z];exact⟨y,R,a,l,λv q=>by rw[h]at q;cases q⟩
  .exact M.pin p (Sk _ z)
 refine bE (B _ j σ _ (.ref D) (.ref D) Z.nx W rfl q) λ_ L i=>?_;obtain⟨d,N,K,O⟩:=i;obtain⟨U,S,_,_,_⟩:=K.pin (C,k) (Sk _ RX);refine⟨T,⟨k,G,J,U,h,o⟩,λh6 n=>RS (RS ?_)⟩;have V:=K.fO λp r=>K.pin p (Sk _ (RZ _ r));exact⟨d,N,V.turned (λb ob hb e=>(n.2 b hb).trans e) S a (.inr le) c f,O⟩
def oW.imp{t t'}(h:oW X e t pins s σ H)(q:∀Q,t' σ H Q->t σ H Q):oW X e t' pins s σ H:=⟨λQ z=>h.1 Q (q Q z),λx b a f D c d z=>h.2 x b a f D c d (q _ z)⟩
noncomputable def PJ(t:TE):TE:=λσ H Q=>t σ H λv c=>∃a b,v=.ref a/\c a=RM (.lst b)/\∀o,Q v (upd c a (.cz o (.lst b)))
theorem JJ(h:PG X tg b):PG X tg (λv σ H Q=>∃a xs,v=.ref a/\H a=RM (.lst xs)/\∀o,b v σ (upd H a (.cz o (.lst xs))) Q):=by
 intro pins s σ H v u Q I r⟨a,xs,e,ha,q⟩;obtain⟨_,c,n,f,d⟩:=I.aM a _ ha;exact h pins s σ _ v u Q (I.freeze ha d '3' (λ_ _ z=>nomatch z) '3' '3') r (q _)
def oW.cz(I:Inv X pins σ H s)(h:oW X e t pins s σ H):oW X e (PJ t) pins s σ H:=by
 refine⟨λQ z=>?_,λx g f q D j l z=>h.2 x g f _ D j (JJ l) z⟩;refine bE (h.1 _ z) λu o b=>?_;obtain⟨v,w,c,r,a,m,e,ha,d⟩:=b;obtain⟨_,i,n,p,k⟩:=c.aM a _ ha;exact⟨v,_,c.freeze ha k '3' (λ_ _ z=>nomatch z) '3' '3',r,d _⟩
theorem Fk(i)(hN:X.N.Nodup)(c:DU X F e b)(j:X.N[i]?=RM x)(g:Loc X.env.scope x)(hs:U2 e (RM (.Name x a)) pos.line X.env=pure RQ)(l:X.fn x=RQ\/X.env.scope.names.lookup x=RM .local):DS X F (.Assign [.Name x a] e pos) (λρ=>do let d<-b ρ;pure (.nx (ρ.set i ⇑d))):=by
 refine⟨c.hK,λpins s σ H Z I⟨ρ,k,S,h⟩=>(c.pu pins s σ H I).2 x a pos (Aj i) Z hs (wJ hN j g l) ?_⟩;refine dR.next S h λd q v p n o f m=>?_;exact m _ p n.kp (o.set i f)
end
section
def BN(own fr)(js)(d:X.calm=RQ)(m:mY X.env.scope scope=RQ)(L:js.map (λj=>X.N[j]?)=fr.map RM)(l:∀x∈fr,scope.names.lookup x=RM .free)(i:js.Nodup)(hw:DI X F tg iter tI)(R:∀pins cl C b s H,DG (fM X pins scope (own++fr) cl C b s H) F tg g)(O:∀pins cl C b s H,lH (fM X pins scope (own++fr) cl C b s H) F ifs tc)(T:∀pins cl C b s H,DE (fM X pins scope (own++fr) cl C b s H) F elt te)(hs:∀x,U3 iter X.env x=pure x):DU X F (.ListComp elt [⟨tg,iter,ifs,0⟩] scope pos) (λρ=>do let ds<-tI ρ;let r<-pM g tc te ds (fF ρ own.length js);pure (.lst r)):=by
 refine⟨hw.hK,λpins s A H I=>?_⟩;obtain⟨cl,c⟩:=vC I.ok m;have P:oW X (.ListComp elt [⟨tg,iter,ifs,0⟩] scope pos) (xw own.length js (OD F tI) (Lu F g) (qQ F tc) (qK (dR F te)) [] .lst) pins s A H:=(ky (newAcc:=newObj (.type "list") (.seq #[])) (a0:=[]) (rd:=qK (dR F te)) (body:=λD env=>do let _<-call (.builtin "list.append") [.ref D,<-Ux elt env]) d c L l hw.pi rfl (kz rfl rfl) (λh=>T_ h) (λa ob v⟨_,_,_,_,e⟩z=>by rw[e]at z;cases z) ⟨SH _,[],_,.nil,rfl⟩ '4' (λ_ _ _=>rfl) (λ_ _ _=>rfl) (λ_ _ _=>rfl) (λpins cs C b s H=>(R pins cs C b s H).pg) (λpins cs C b s H=>(O pins cs C b s H).pi) (λpins cs C b s H D o=>zc o (T pins cs C b s H).pe) Bt hs).pu rfl (λ_=>rfl) I;refine(P.cz I).imp λQ f=>?_;obtain⟨ρ,k,S,h⟩:=f;refine⟨ρ,k,S,M.wk h λds V q J Y u it=>?_⟩;have w:=(S.mono u).fM own.length i;refine E8 it w q λB U y Z G t K E W p n _=>⟨p,B,rfl,aq,λo=>?_⟩;rw[bZ];exact E _ _ ((u.trans t).trans (.new n)) (dq (k:=G) (t.live w.live) n K)
end
noncomputable def fc:List D->List D->D->D->List D
 |k::ks,v::a,d,e=>(if gH k d then e else v)::fc ks a d e|_,_,_,_=>[]
noncomputable def putD(ks ds:List D)(d e:D):List D×List D:=if dr ks d then(ks,fc ks ds d e)else(ks++[d],ds++[e])
section
theorem Hg(f:Is B H y e):∀{a:List (Key×V)}{ds:List D},ag B H (a.map (·.2)) ds->ag B H ((a.map λb=>if b.1=k then(b.1,y)else b).map (·.2)) (fc (a.map λx=>kD x.1) ds (kD k) e)
 |[],ds,h=>by cases ds<;>exact .nil|(k0,v0)::r,[],h=>by simp[ag]at h|(k0,v0)::r,d::ds,h=>by
  simp only[Sr,ag]at h;obtain⟨x,m,l,j,i⟩:=h;cases l;have c:=Hg (k:=k) f i;simp only[Sr,fc,ni];by_cases g:k0=k
  .simp only[g,decide_true,if_true];exact .cons f c
  .simp only[g,decide_false,if_false];exact .cons j c
theorem Hh(c:Is B H y e):∀{a:List (List NK×RW×V)}{ds:List D},ag B H (a.map (·.2.2)) ds->ag B H ((a.map λx=>if x.1=k then(x.1,x.2.1,y)else x).map (·.2.2)) (fc (a.map λx=>D.tup (x.1.map nD)) ds (.tup (k.map nD)) e)
 |[],ds,h=>by cases ds<;>exact .nil|(k0,l,v0)::r,[],h=>by simp[ag]at h|(k0,l,v0)::r,d::ds,h=>by
  simp only[Sr,ag]at h;obtain⟨x,m,j,i,g⟩:=h;cases j;have b:=Hh (k:=k) c g;simp only[Sr,fc,nj];by_cases f:k0=k
  .simp only[f,decide_true,if_true];exact .cons c b
  .simp only[f,decide_false,if_false];exact .cons i b
theorem KA.Et(r:RelV y u):∀{a:List (List NK×RW×V)}{xs:List (List NK×RW×RR)},KA a xs->KA (a.map λx=>if x.1=k then(x.1,x.2.1,y)else x) (xs.map (putAt k u))
 |_,_,.nil=>.nil|(k0,h,v0)::f,(g,b1,u1)::xs,.cons z t=>by
  obtain⟨d,c,b⟩:=z;simp only at d c b;subst d c;refine .cons ?_ (KA.Et r t);by_cases e:k0=k;.simp only[e,if_true,putAt];exact⟨trivial,trivial,r⟩
  .simp only[e,if_false,putAt];exact⟨trivial,trivial,b⟩
end
section
variable{X:Cx}{pins:List (RW×Tn)}{σ:St}{s:RU}{a:RW}{o:Tn}{ks ds:List D}{vs:List V}{d e:D}{x y:V}{v r:RR}{A:SF}{E:RR->RU->Prop}
def tJ(F:Fx)(H:Hp)(ks ds:List D)(d e:D)(o':Tn):Prop:=(∃b,bQ F.toFb H o' (putD ks ds d e).1 b/\ag F.toFb H b (putD ks ds d e).2)/\∀v,o'.data≠.cell v
def xH(h:KV b us)(i:b.length<R1)(f:ag F.toFb H (b.map (·.2)) ds)(c:Is F.toFb H y e)(g:RelV y r)(ob:kr F.P F.w o' (stored us k r)):tJ F H (b.map λx=>kD x.1) ds (kD k) e o':=by
 refine⟨⟨(putK b k y).map (·.2),⟨?_,.inl ⟨putK b k y,_,h.put k g,ob,?_,rfl⟩⟩,?_⟩,ob.q_⟩
 .unfold putD;split;.simp;omega
  .simp;omega
 .unfold putD putK;rw[vH,<-mF];split
  .rw[S7];refine Va λx _=>?_;simp only[ZZ];split<;>rfl
  .simp
 .unfold putD putK;rw[vH,<-mF];split;.exact Hg c f
  .rw[SA];exact f.append (c∘.nil)
def xI(g:KA c xs)(p:c.length<R1)(n:ag F.toFb H (c.map (·.2.2)) ds)(tp:∀x∈c,fv F.toFb H x.2.1 x.1)(t:fv F.toFb H b k)(m:Is F.toFb H y e)(l:RelV y r)(ob:ku F.P F.w o' (aaV xs k b r)):tJ F H (c.map λx=>D.tup (x.1.map nD)) ds (.tup (k.map nD)) e o':=by
 have q:=zC (k:=k) g;by_cases f:(aaG xs k).isSome=RQ
 .have j:aaV xs k b r=xs.map (putAt k r):=by unfold aaV;rw[Ξ2 f]
  have i:putD (c.map λx=>D.tup (x.1.map nD)) ds (.tup (k.map nD)) e=(c.map λx=>D.tup (x.1.map nD),fc (c.map λx=>D.tup (x.1.map nD)) ds (.tup (k.map nD)) e):=by unfold putD;rw[q,Ξ2 f]
  rw[j]at ob;refine⟨?_,ob.q_⟩;rw[i];refine⟨_,⟨by simp;omega,.inr ⟨c.map λx=>if x.1=k then(x.1,x.2.1,y)else x,_,KA.Et l g,ob,λx h=>?_,?_,rfl⟩⟩,Hh m n⟩
  .obtain⟨z,p,rfl⟩:=Ω3.mp h;split<;>exact tp z p
  .rw[S7];refine Va λx _=>?_;simp only[ZZ];split<;>rfl
 .have j:aaV xs k b r=xs++[(k,b,r)]:=by unfold aaV;rw[Ξ3 f]
  have i:putD (c.map λx=>D.tup (x.1.map nD)) ds (.tup (k.map nD)) e=(c.map (λx=>D.tup (x.1.map nD))++[.tup (k.map nD)],ds++[e]):=by unfold putD;rw[q,Ξ3 f]
  rw[j]at ob;refine⟨?_,ob.q_⟩;rw[i];refine⟨_,⟨by simp;omega,.inr ⟨c++[(k,b,y)],_,Paired.snoc g ⟨rfl,rfl,l⟩,ob,λx h=>?_,by simp,rfl⟩⟩,by rw[SA];exact n.append (m∘.nil)⟩;rcases Ω.mp h with z|z;.exact tp x z
  .rw[Ω1.mp z];exact t
def xJ(hu:A.units+1<TL)(I:Inv X pins σ H s)(hK:X.K=F.K)(hP:X.prog=F.P)(hw:X.w=F.w)(h:bQ F.toFb H o ks vs)(J:s.heap.get? a=RM o)(G:ag F.toFb H vs ds)(i:Is F.toFb H x d)(z:RelV x v)(C:Is F.toFb H y e)(u:RelV y r)(g:kinds ks d)(j:ks.length<R1)(q:∀h' o' L,TR a s.heap h'->h'.get? a=RM o'->tJ F H ks ds d e o'->Q () {s with heap:=h',toks:=L}):wpAny (Sb X.prog X.w) A (dictSet a v r) Q E s:=by
 rcases g with⟨g,k,rfl⟩|⟨g,k,rfl⟩
 .obtain⟨l,N,B,ob,rfl,rfl⟩:=h.JE g;rw[<-hP,<-hw]at ob;have:=fx i;subst this;rw[RV]at j;refine wpAny_dictSet_pairs (hsz:=by rw[<-Paired.length B];omega) (gA z) (ob.at J) λh' f n=>?_;obtain⟨o',p,c⟩:=kr.of f;exact q h' o' _ n p (xH B j G C u (by rw[<-hP,<-hw];exact c))
 .obtain⟨l,M,m,ob,tp,rfl,rfl⟩:=h.JF g;rw[<-hP,<-hw]at ob;obtain⟨b,rfl,t⟩:=fv.of i;cases(show v=Sm b from z);rw[RV]at j;refine wpAny_dictSet_heap (hsz:=by rw[<-Paired.length m];omega) (show(cf X.prog X.w).room A from hu) (e_ I hK t) (ob.at J (fb I hK m tp)) λh' f n=>?_;obtain⟨o',p,c⟩:=ku.of f;exact q h' o' _ n p (xI m j G tp t C u (by rw[<-hP,<-hw];exact c))
def tK(hu:A.units+2<TL)(I:Inv X pins σ H s)(hK:X.K=F.K)(hP:X.prog=F.P)(hw:X.w=F.w)(h:bQ F.toFb H o ks vs)(J:s.heap.get? a=RM o)(G:ag F.toFb H vs ds)(i:Is F.toFb H x d)(z:RelV x v)(C:Is F.toFb H y e)(u:RelV y r)(g:kinds ks d)(j:ks.length<R1)(q:∀h' o' L,TR a s.heap h'->h'.get? a=RM o'->tJ F H ks ds d e o'->Q () {s with heap:=h',toks:=L}):wpAny (Sb X.prog X.w) A (setItem (.ref a) v r) Q E s:=by
 rcases g with⟨g,k,rfl⟩|⟨g,k,rfl⟩
 .obtain⟨l,N,B,ob,rfl,rfl⟩:=h.JE g;rw[<-hP,<-hw]at ob;have:=fx i;subst this;rw[RV]at j;refine wpAny_setItem_pairs (hsz:=by rw[<-Paired.length B];omega) (gA z) (ob.at J) λh' f n=>?_;obtain⟨o',p,c⟩:=kr.of f;exact q h' o' _ n p (xH B j G C u (by rw[<-hP,<-hw];exact c))
 .obtain⟨l,M,m,ob,tp,rfl,rfl⟩:=h.JF g;rw[<-hP,<-hw]at ob;obtain⟨b,rfl,t⟩:=fv.of i;cases(show v=Sm b from z);rw[RV]at j;refine wpAny_setItem_heap (hsz:=by rw[<-Paired.length m];omega) (d_ hu) (e_ I hK t) (ob.at J (fb I hK m tp)) λh' f n=>?_;obtain⟨o',p,c⟩:=ku.of f;exact q h' o' _ n p (xI m j G tp t C u (by rw[<-hP,<-hw];exact c))
end
def mU.xi(h:mU B H a d):∃u,H a=RM u:=by cases d with
 |lst e=>obtain⟨c,b,f⟩:=h;exact⟨_,b⟩|aO ks e=>obtain⟨o,c,b,_⟩:=h;exact⟨_,b⟩|aJ c=>obtain⟨o,b,_⟩:=h;exact⟨_,b⟩|_=>exact h.elim
section
variable{X:Cx}{F:Fx}{σ:St}{H:Hp}{ρ:ah}{k:Nat}
set_option tactic.hygienic true in
def cY.rb(S:cY F ρ k σ H)(i:Nat)(m:H p=RP)(h:mU F.toFb (upd H p o') p d):cY F (ρ.set i (RM (.own d))) k (σ.set i (RM (.ref p))) (upd H p o'):=by
 have s:=S.mono (Ext.new (F:=F.toFb) (k:=k) (o:=o') m);have ne:p≠F.p:=iV S.live m;have G:F.H0 p=RP:=by cases e:F.H0 p with
  |none=>rfl|some o=>have:=S.ext.keep p o ne e;rw[m]at this;cases this
 have g:∀{j:Nat}{y:W},ρ[j]?=RM (RM y)->y.A6=RQ->σ[j]?≠RM (RM (.ref p)):=λ{j y}e o z=>by
  obtain⟨v,f,n⟩:=S.at_ j y e;rw[z]at f;cases f;cases y with
  |own J=>
   obtain⟨b,I,_,_,q⟩:=n;cases I;obtain⟨u,q⟩:=q.xi;rw[m]at q;cases q|_=>cases o
 refine⟨by simp[S.len],λj x e=>?_,λB A x y v c r l w t a=>?_,s.live,s.ext,s.lR⟩
 .rw[Ub]at e⊢;by_cases C:i=j
  .subst C;rw[Ξ2 rfl]at e⊢;split at e
   .rename_i E;cases e;rw[Ξ2 (by rw[<-S.len];exact E)];exact⟨_,rfl,p,rfl,ne,G,h⟩
   .cases e
  .rw[Ξ3 C]at e⊢;exact s.at_ j x e
 .rw[Ub]at r l a⊢;by_cases f:i=B
  .subst f;rw[Ξ2 rfl]at a;rw[Ξ3 c]at l⊢;split at a;.cases a;exact g l t
   .cases a
  .rw[Ξ3 f]at r a;by_cases n:i=A
   .subst n;rw[Ξ2 rfl];split;.intro z;cases z;exact g r w a
    .exactλz=>nomatch z
   .rw[Ξ3 n]at l⊢;exact S.apart B A x y v c r l w t a
end
section
variable{X:Cx}{F:Fx}{e:Sj}{es:List Sj}{tas:ah->M (List A)}{ta tk:ah->M D}{pos pos' lp:Uq}{x:Sy}
def Fm(i)(hN:X.N.Nodup)(ha:DA X F es tas)(n:X.N[i]?=RM x)(m:Loc X.env.scope x)(o:X.fn x=RQ\/X.env.scope.names.lookup x=RM .local):DS X F (.Assign [.Name x pos'] (.List es lp) pos) (λρ=>do let ds<-iX (<-tas ρ);M.need (ds.length<=R1);pure (.nx (ρ.set i (RM (.own (.lst ds)))))):=⟨ha.hK,(dP hN n m (u9 ha.pa) rfl o).imp λZ t H a=>by
  obtain⟨ρ,k,S,h⟩:=a;refine sX.next S h λas g f u r s j q=>?_;obtain⟨ds,rfl,c⟩:=cw q;obtain⟨l,c⟩:=c;have d:=cy j;refine⟨by rw[d.length];exact l,λp b=>?_⟩;exact c _ _ (r.trans (.new b)).kp (s.rb i b ⟨f,aq,d.mono (Ext.new (k:=g) b).kp⟩)⟩
noncomputable def d6:Tn:={cls:=.type "dict",dict:=RP,data:=.dict #[]}
def pT:bQ B H d6 [] []:=⟨SH _,.inl ⟨[],[],.nil,⟨#[],0,⟨rfl,rfl,rfl⟩,rfl,λe a=>by simp at a,.nil,.nil⟩,rfl,rfl⟩⟩
def rh(e:h.get? a=RM o):bF P w H h a (iA a o):=⟨e,⟨o,e⟩,λc b q st=>st _ q⟩
def Fo(i)(hN:X.N.Nodup)(hK:X.K=F.K)(j:X.N[i]?=RM x)(g:Loc X.env.scope x)(l:X.fn x=RQ\/X.env.scope.names.lookup x=RM .local):DS X F (.Assign [.Name x pos'] (.Dict [] [] lp) pos) (λρ=>pure (.nx (ρ.set i (RM (.own (.aO [] [])))))):=by
 have pe:PE X (.Dict [] [] lp) (λ_ H Q=>∀p,H p=RP->(p==UC)=RT->Q (.ref p) (upd H p (iA p d6))):=λc s f H Q I h=>wpAny_Dict_empty ⟨.ref s⁻¹,_,I.laid (λ_ _ q=>RY _ q) (R5 _) (rh (Sl _ rfl)),rfl,h _ (I.aM.fresh (R5 _)) (Ξ.mpr (T8 (SD I.Eu)))⟩;exact⟨hK,(dP hN j g pe rfl l).imp λZ f H⟨ρ,k,S,h⟩p d b=>h _ _ (Ext.new d).kp (S.rb i d ⟨_,[],aq,b,pT,.nil⟩)⟩
noncomputable def jP(ρ:ah)(i:Nat):Option D:=match ρ[i]? with
 |some (RM (.own d))=>RM d|_=>RP
set_option tactic.hygienic true in
theorem d7(h:jP ρ i=RM d):ρ[i]?=RM (RM (.own d)):=by
 unfold jP at h;split at h;.rename_i y e;cases h;exact e
 .cases h
noncomputable def xK:D->M (List D)
 |.lst a=>pure a|_=>M.fail
def pU(h:(xK d).run k Q E):∃xs,d=.lst xs/\Q xs k:=by cases d with
 |lst xs=>exact⟨xs,rfl,h⟩|_=>exact h.elim
def JK(i)(C:X.N[i]?=RM x)(z:wG X.env.scope x)(hd:(x==("__debug__"))=RT)(l:(x==("__classdict__"))=RT)(ha:DE X F e ta)(B:(p.endLine==o.line)=RQ)(hs:Sq [e] X.env=(RT,Ux e X.env)::Sq [] X.env):DS X F (.Expr (.Call (.Attribute (.Name x np) "append" p) [e] [] o) pos) (λρ=>do
   let ds<-xK (<-M.get (jP ρ i))let d<-ta ρ;M.need (ds.length<R1)pure (.nx (ρ.set i (RM (.own (.lst (ds++[d]))))))):=by
 have pe:=L9 (name:="append") YF PySem.F.slot_list_append (by rfl) y6 (fj (pos:=np) C z hd l) (bz ha.pe dQ hs) rfl (by rw[hs];rfl) B hs rfl;refine⟨ha.hK,(qB pe rfl).imp λZ G H⟨ρ,k,S,h⟩=>?_⟩;obtain⟨I,s,h⟩:=M.run_get.mp h;obtain⟨ds,rfl,h⟩:=pU h;obtain⟨v,g,a,rfl,b⟩:=S.at_ i _ (d7 s);obtain⟨j,r,ix⟩:=b.2.2;refine⟨_,g,.inl ⟨rfl,j,.inl (.inl r)⟩,?_⟩;refine dR.next S h λd q u t n E w m=>?_;obtain⟨y,m⟩:=m;have c:=n.keep a _ b.1 r;have f:=ix.mono n.kp;refine⟨a,j,u,rfl,rfl,c,by rw[f.length];exact y,?_⟩;have kp:Kp F.toFb t q (upd t a (.lst (j++[u]))) q:=Kp.own b.1 c rfl;refine m _ _ (n.kp.trans kp) ?_;exact E.fY (d7 s) g b.1 b.2.1 c rfl ⟨a,rfl,b.1,b.2.1,j++[u],aq,(f.append (w∘.nil)).mono kp⟩
end
section
theorem hU{σ:St}{tk}(I:Inv X pins σ H s)(e:H a=RM (iA a o))(sb:TR a s.heap h')(c:h'.get? a=RM o'):Inv X pins σ (upd H a (iA a o')) {s with heap:=h',toks:=tk}:=I.write (by rw[e];exact trivial) (.inl rfl) (λb u hb q=>(sb.2 b hb).trans q) ⟨_,c⟩ (rh c)
noncomputable def xM:D->M (List D×List D)
 |.aO ks a=>pure (ks,a)|_=>M.fail
def zG(h:(xM d).run k Q E):∃ks ds,d=.aO ks ds/\Q (ks,ds) k:=by cases d with
 |aO ks ds=>exact⟨ks,ds,rfl,h⟩|_=>exact h.elim
def JL(i)(hu:X.A.units+2<TL)(hP:X.prog=F.P)(hw:X.w=F.w)(hi:X.N[i]?=RM x)(hv:wG X.env.scope x)(hd:(x==("__debug__"))=RT)(Y:(x==("__classdict__"))=RT)(hk:DE X F ke tk)(ha:DE X F e ta)(hs:U2 e (RM (.Subscript (.Name x np) ke pos')) pos.line X.env=pure RT):DS X F (.Assign [.Subscript (.Name x np) ke pos'] e pos) (λρ=>do
   let d<-ta ρ;let b<-xM (<-M.get (jP ρ i))let q<-tk ρ;M.need (b.1.length<R1/\kinds b.1 q)pure (.nx (ρ.set i (RM (.own (.aO (putD b.1 b.2 q d).1 (putD b.1 b.2 q d).2)))))):=by
 refine⟨ha.hK,λc s B H Z I⟨ρ,k,S,h⟩=>?_⟩;let R2:D->List D×List D->D->M Fl:=λd b q=>do
  M.need (b.1.length<R1/\kinds b.1 q)pure (.nx (ρ.set i (RM (.own (.aO (putD b.1 b.2 q d).1 (putD b.1 b.2 q d).2)))))
 let R:=λd=>do
  let b<-xM (<-M.get (jP ρ i))let q<-tk ρ;R2 d b q
 refine wpAny_Assign_Subscript (bE (ha.pe c s B H (λu z=>∃d m,Ext F.toFb H k z m/\cY F ρ m B z/\Is F.toFb z u d/\(R d).run m (zp F Z H k) F.E) I (dR.next S h λd m u z e1 K U n=>⟨d,m,e1,K,U,n⟩)) λr s1⟨u,z,I1,ru,d,m,e1,K,U,n⟩=>?_) hs;obtain⟨d0,h0,n⟩:=M.run_get.mp n;obtain⟨ks,ds,rfl,n⟩:=zG n;obtain⟨v,G,a,rfl,l⟩:=K.at_ i _ (d7 h0);refine bE (fj hi hv hd Y c s1 B z (λv L=>v=.ref a/\L=z) I1 ⟨_,G,rfl,rfl⟩) λov s2 j=>?_;obtain⟨w,L,I2,Q,ew,eH⟩:=j;subst ew eH;cases(show ov=Sm a from Q);refine bE (hk.pe c s2 B L (λy t=>∃q g,Ext F.toFb L m t g/\cY F ρ g B t/\Is F.toFb t y q/\(R2 d (ks,ds) q).run g (zp F Z H k) F.E) I2 (dR.next K n λq g y t p S3 T J=>⟨q,g,p,S3,T,J⟩)) λkv s3 j=>?_;obtain⟨y,t,I3,ry,q,g,p,S3,T,J⟩:=j;obtain⟨⟨hz,W⟩,J⟩:=J;obtain⟨o,xs,ho,C,dd,ia⟩:=l.2.2;have f:=p.keep a _ l.1 ho;have V:=(I3.aM a _ f).1;refine tK hu I3 ha.hK hP hw (dd.mono p.kp) V (ia.mono p.kp) T ry (U.mono p.kp) ru W hz λh' o' tk sb eo po=>?_;obtain⟨⟨O,d1,d2⟩,_⟩:=po;have kp:Kp F.toFb t g (upd t a (iA a o')) g:=Kp.own l.1 f rfl;refine⟨B,_,hU I3 f sb eo,J _ _ (((e1.trans p).kp).trans kp) ?_⟩;exact S3.fY (d7 h0) G l.1 l.2.1 f rfl ⟨a,rfl,l.1,l.2.1,o',O,aq,C,d1.mono kp,d2.mono kp⟩
end
section
variable{T id:String}{ty:V->Hp->Prop}
def vL(D:∀{pins}{σ:St}{H}{s}{x}{v},Inv X pins σ H s->RelV x v->ty x H->s.TypeIs v T/\∀a,v=.ref a->∃ob,s.heap.get? a=RM ob/\ob.dict=RP)(pa:aad T)(slot:Slot T name id)(j:Zx (.builtin id)=pure (.type "method_descriptor"))(C:L4 X id r)(B:PE X o to)(ha:PA X (e::es) t)(d:Wn o name X.env (Ux o X.env)=Ux o X.env)(f:((UP cpos (Sq (e::es) X.env)).all (λx=>!x.1)&&(Zy cpos (Xm [] X.env)).all (λx=>x.1.isSome)&&decide ((e::es).length+([]:List Wc).length+(if([]:List Wc).isEmpty then 0 else 1)<30))=RQ)(c:(apos.endLine==cpos.line)=RQ)(hs:Sq (e::es) X.env=(RT,Ux e X.env)::Sq es X.env)(b:(UP cpos (Sq es X.env)).any (·.1)=RT):PE X (.Call (.Attribute o name apos) (e::es) [] cpos) (λσ H Q=>to σ H λx g=>ty x g/\t σ g λxs k=>r x xs k Q):=by
 intro pins s σ H Q I h;refine YV d f c rfl (bE (B pins s σ H _ I h) λv w i=>?_);obtain⟨x,g,n,l,ty,A⟩:=i;obtain⟨G,E⟩:=D n l ty;refine⟨T,id,pa,slot,j,G,E,?_⟩;have m:=ha cpos pins w σ g _ n A;rw[hs]at m⊢;refine WR (by show(RT||(UP cpos (Sq es X.env)).any (·.1))=RT;rw[b]<;>rfl) (Xn ?_);exact bE m λq u⟨p,k,J,y,z⟩=>C pins u σ k x p v q Q J l y z
end
section
def JM(T:String)(x:V)(H:Hp):Prop:=∃a o,x=.ref a/\H a=RM (iA a o)/\o.cls=.type T/\o.dict=RP
def Fp{T}{σ:St}(I:Inv X pins σ H s)(r:RelV x v)(h:JM T x H):s.TypeIs v T/\∀a,v=.ref a->∃ob,s.heap.get? a=RM ob/\ob.dict=RP:=by
 obtain⟨a,o,rfl,e,f,d⟩:=h;cases(show v=Sm a from r);have c:=(I.aM a _ e).1;exact⟨⟨o,c,f⟩,λb q=>by cases q;exact⟨o,c,d⟩⟩
end
section
theorem gJ:∀{xs:List V}{ds:List D},ag B H xs ds->ag B H xs.dropLast ds.dropLast
 |_,[],h=>by simp only[ag]at h;rw[h];exact .nil|_,[d],h=>by
  simp only[ag]at h;obtain⟨x,f,rfl,_,a⟩:=h;rw[a];exact .nil|_,d::j::ds,h=>by
  simp only[ag]at h;obtain⟨x,f,rfl,g,i,c,rfl,b,a⟩:=h;exact .cons g (gJ (b∘a))
def JN(i j)(hN:X.N.Nodup)(hK:X.K=F.K)(z:X.N[i]?=RM x)(s:wG X.env.scope x)(hd:(x==("__debug__"))=RT)(m:(x==("__classdict__"))=RT)(w:X.N[j]?=RM y)(r:Loc X.env.scope y)(A:X.fn y=RQ\/X.env.scope.names.lookup y=RM .local)(t:(o.endLine==n.line)=RQ):DS X F (.Assign [.Name y pos'] (.Call (.Attribute (.Name x np) "pop" o) [] [] n) pos) (λρ=>do
   let ds<-xK (<-M.get (jP ρ i))let d<-M.get ds[ds.length-1]?;pure (.nx ((ρ.set i (RM (.own (.lst ds.dropLast)))).set j ⇑d))):=by
 have pe:=IA YF PySem.F.slot_list_pop (by rfl) IB (fj (pos:=np) z s hd m) rfl t;refine⟨hK,(dP hN w r pe rfl A).imp λZ C H⟨ρ,k,S,h⟩=>?_⟩;obtain⟨E,p,h⟩:=M.run_get.mp h;obtain⟨ds,rfl,h⟩:=pU h;obtain⟨d,l,h⟩:=M.run_get.mp h;obtain⟨v,f,a,rfl,b⟩:=S.at_ i _ (d7 p);obtain⟨c,g,ix⟩:=b.2.2;obtain⟨u,hu,q⟩:=ix.get l;refine⟨_,f,.inl ⟨rfl,c,.inl (.inl g)⟩,a,c,u,rfl,rfl,g,by rw[ix.length];exact hu,?_⟩;have kp:Kp F.toFb H k (upd H a (.lst c.dropLast)) k:=Kp.own b.1 g rfl;refine h _ _ kp ?_;have B:=S.fY (w':=.own (.lst ds.dropLast)) (d7 p) f b.1 b.2.1 g rfl ⟨a,rfl,b.1,b.2.1,c.dropLast,aq,(gJ ix).mono kp⟩;exact B.set j (q.mono kp)
end
structure Lv(M:W8)(h:SJ)(C:RW):Prop where
 ga:VW M h (XX (.ref C) "__getattribute__") (RM (.builtin "BaseException.__getattribute__"))no:VW M h (XX (.ref C) "__getattr__") RP
 cl:VW M h (XX (.ref C) "__class__") (RM (.builtin "object.__class__"))sb:VW M h (isSubtype (.ref C) (.type "BaseException")) RQ
 so:VW M h (isSubtype (.ref C) (.type "object")) RQ
 it:VW M h (isType (.ref C)) RQ
section
variable{A:SF}{os:OsState}
def JO(L:Lv (Sb prog w) h C)(c:h.get? a=RM o)(e:o.cls=.ref C)(i:R (.ok (.ret (.ref C))) ⟨h,g,d,t,os⟩):codeAny (Sb prog w) A (.call (.builtin "getset_descriptor.__get__") ⟨[.builtin "object.__class__",.ref a,.ref C],[]⟩) R ⟨h,g,d,t,os⟩:=by
 have b:=Xa;have f:VW (Sb prog w) h (isSubtype (.ref C) (.type (".".intercalate ("object.__class__".cutAt '.').dropLast))) RQ:=by rw[F.owner_object_class];exact L.so
 refine V7 F.slot_gs_get.plain F.entry_gs_get (F.slot_gs_get.check _ _ _ _ _ _ _ _ b (F.args_gs_get _ _ _) ?_);repeat(any_goals(first|assumption|(with_reducible refine TJ c ?_;rw[e])|with_reducible refine f.at ?_|wp_step))
 refine⟨Vh _ (by decide+kernel),Vn F.entry_object_class ?_⟩;repeat(any_goals(first|assumption|(with_reducible refine TJ c ?_;rw[e])|wp_step))
def BO(L:Lv (Sb prog w) h C)(b:h.get? a=RM o)(c:o.cls=.ref C)(j:Q (.done (.ret (.ref C))) ⟨h,g,d,t,os⟩):wpAny (Sb prog w) A (Builtin.«object.__getattribute__» ⟨[.ref a,.str "__class__" e],[]⟩) Q E ⟨h,g,d,t,os⟩:=by
 have f5:=Xa;have l:=F.slot_gs_get.lookup;have k:=F.slot_gs_set.lookup;have i:=L.cl;repeat(any_goals(first|assumption|(with_reducible refine TJ b ?_;rw[c])|with_reducible refine i.at ?_|wp_step))
 refine JO L b c ?_;repeat(any_goals(first|assumption|wp_step))
def BP{M:W8}(L:Lv M h C)(e:h.get? a=RM o)(j:o.cls=.ref C)(f:Q () ⟨h,g,d,t,os⟩):wpAny M A (YC "BaseException.__getattribute__" ⟨[.ref a,b],[]⟩) Q E ⟨h,g,d,t,os⟩:=by
 have i:builtinKind "BaseException.__getattribute__"=RM .slot:=by decide+kernel
 have c:splitId "BaseException.__getattribute__"=RM ("BaseException","__getattribute__"):=by decide+kernel
 have ha:=F.args_bexc_ga (.ref a) b;have sb:=L.sb;simp only[YC,i,c];refine RO ?_
 .unfold X3;repeat(first|(with_reducible refine TJ e ?_;rw[j])|with_reducible refine sb.at ?_|wp_step)
  exact f
def MR(L:Lv (Sb prog w) h C)(c:h.get? a=RM o)(e:o.cls=.ref C)(l:Q (.ref C) ⟨h,g,d,t,os⟩):wpAny (Sb prog w) A (getAttrBy (.ref a) (.str "__class__" f) RT) Q E ⟨h,g,d,t,os⟩:=by
 have k:=L.ga;have j:=L.no;have m:=F.excAttr_ValueError.ga.bind (.ref a);repeat(any_goals(first|assumption|(with_reducible refine TJ c ?_;rw[e])|with_reducible refine k.at ?_|with_reducible refine j.at ?_|wp_step))
 refine V7 F.excAttr_ValueError.ga.plain F.entry_bexc_ga (BP L c e (BO L c e ?_));repeat(any_goals(first|assumption|wp_step))
def Fq(L:Lv (Sb prog w) h C)(b:h.get? a=RM o)(c:o.cls=.ref C)(e:Q (RM (.ref C)) ⟨h,g,d,t+1,os⟩):wpAny (Sb prog w) A (aaH (.ref a) "__class__") Q E ⟨h,g,d,t,os⟩:=by
 unfold aaH getAttrBy?;repeat(any_goals(first|assumption|with_reducible apply MR L b c|wp_step))
end
noncomputable def D4(K:R0)(C:RW):Bool:=WM K (.ref C) "__getattribute__"==RM (RM (.builtin "BaseException.__getattribute__"))&&WM K (.ref C) "__getattr__"==RM RP&&WM K (.ref C) "__class__"==RM (RM (.builtin "object.__class__"))&&V8 K (.ref C) (.type "BaseException")==RM RQ&&V8 K (.ref C) (.type "object")==RM RQ&&(V8 K (.ref C) (.ref C)).isSome&&(PySem.W.clsIn K C).isSome
def BQ{K}{M}(X:K.In h)(q:D4 K C=RQ):Lv M h C:=by
 simp only[D4,R4,Θ3]at q;obtain⟨⟨⟨⟨⟨⟨f,e⟩,d⟩,c⟩,b⟩,a⟩,_⟩:=q;obtain⟨v,g⟩:=Θ1.mp a;exact⟨Xt X f,Xt X e,Xt X d,(VR X c).2.2,(VR X b).2.2,(VR X g).2.1⟩
def QQ(a C:RW)(h:SJ):Prop:=∃o,h.get? a=RM o/\o.cls=.ref C
set_option tactic.hygienic true in
def BR{K:R0}(q:D4 K C=RQ):PySem.W.KitX K (.ref a) (.ref C) (QQ a C)where
 ty:=λM h _ p=>by
  obtain⟨o,i,f⟩:=p;exact f▸(PySem.W.Looks.ld i).andThen .now
 it:=λM h X p=>(BQ X q).it;ne:=λh tp x l n u X b=>by
  simp only[D4,R4]at q;obtain⟨cd,c⟩:=Θ1.mp q.2;refine Bool.eq_false_iff.mpr λz=>?_;have e:C=tp:=Value.ref.inj (Θ3.mp z);subst e;unfold PySem.W.clsIn at c;split at c
  .rename_i B y r j m;have z:=(X _ _ m).symm.trans b;cases z
  .cases c
 ca:=λ{prog w A E Q s}X p k=>by
  obtain⟨v,g,d,t,os⟩:=s;obtain⟨o,i,f⟩:=p;exact Fq (BQ X q) i f k
noncomputable def iH(K:R0)(d:D)(c:RR):Option Bool:=match d with
 |.exc a _=>if D4 K a=RQ then TZ K (.ref a) c else RP|d=>match Jk d with
  |some t=>TZ K (.type t) c|none=>RP
section
variable{X:Cx}{F:Fx}{a:Sj}{ta:ah->M D}{pos:Uq}
set_option tactic.hygienic true in
theorem tL{σ:St}{Q:RR->RU->Prop}{A:SF}(I:Inv X pins σ H s)(r:RelV v u)(hK:X.K=F.K)(i:Is F.toFb H v d)(e:iH X.K d c=RM b)(h:∀o,Q (.bool b) {s with toks:=o}):wpAny (Sb X.prog X.w) A (WD (.builtin "isinstance") [u,c]) Q E s:=by
 by_cases m:∃f nm,d=.exc f nm
 .obtain⟨f,nm,rfl⟩:=m;have l:(if D4 X.K f=RQ then TZ X.K (.ref f) c else RP)=RM b:=e;split at l
  .rename_i q;simp only[Is]at i;obtain⟨a,n,rfl,ea,_⟩:=i;cases(show u=Sm a from r);have:QQ a f s.heap:=by match n,ea with
    |[],⟨_,ob,u,k,j,_⟩=>exact⟨ob,(I.aM a _ k).1,j⟩|[v],⟨_,ob,u,x,p,k,j,_⟩=>exact⟨ob,(I.aM a _ k).1,j⟩
   exact TC (BR q) I.kf this l '4' h
  .cases l
 .have e:(match Jk d with
    |some t=>TZ X.K (.type t) c|none=>RP)=RM b:=by cases d<;>first|exact e|exact Ξ1 ⟨_,_,rfl⟩ m
  cases g:Jk d with
  |none=>rw[g]at e;cases e|some t=>
   rw[g]at e;exact Bg I r hK i g e h
def BS{x p1 f:Uq}{cn:Sy}(ha:DE X F a ta)(B:X.mg "isinstance"=RP)(g:X.mg cn=RM (.ref P))(C:Gl X "isinstance")(j:Gl X cn)(l:(cn==("__debug__":Sy))=RT)(n:Sq [a,.Name cn f] X.env=(RT,Ux a X.env)::Sq [.Name cn f] X.env):DE X F (.Call (.Name "isinstance" p1) [a,.Name cn f] [] pos) (λρ=>do let d<-ta ρ;let b<-M.get (iH X.K d (.ref P));pure (.bl b)):=by
 refine⟨ha.hK,?_⟩;have E:dH X (.builtin "isinstance") (λp H Q=>∃k v d b,p=[v,.ref P]/\Is F.toFb H v d/\iH X.K d (.ref P)=RM b/\qE F.toFb H k Q (.bl b) k):=by
  intro m s o H N O Q I r h;obtain⟨k,v,d,b,rfl,i,hb,q⟩:=h;obtain⟨u,c,rfl,y,w⟩:=vals2 r;cases(show c=Sm P from w);exact tL I y ha.hK i hb λt=>⟨.bl b,H,I.tok t,rfl,q _ H .refl (by simp only[Is])⟩
 refine(eA E C B (by decide+kernel) (bz ha.pe (bz (qz (v:=.ref P) j g rfl l) dQ rfl) n) '1' '1' n rfl).imp λo H Q e=>?_;obtain⟨ρ,k,S,h⟩:=e;refine dR.next S h λd z v T L R A J=>?_;obtain⟨b,hb,G⟩:=M.run_get.mp J;exact⟨z,v,d,b,rfl,A,hb,G.ext L⟩
def BU{T}(ha:DE X F a ta)(E:X.mg "isinstance"=RP)(l:X.mg e=RP)(j:Uh e=RM (.type T))(G:Gl X "isinstance")(m:Gl X e)(C:e≠"__name__")(n:(e==("__debug__"))=RT)(p:Sq [a,.Name e g] X.env=(RT,Ux a X.env)::Sq [.Name e g] X.env):DE X F (.Call (.Name "isinstance" p1) [a,.Name e g] [] pos) (λρ=>do let d<-ta ρ;let b<-M.get (iH X.K d (.type T));pure (.bl b)):=by
 refine⟨ha.hK,?_⟩;have J:dH X (.builtin "isinstance") (λw H Q=>∃k v d b,w=[v,.ty T]/\Is F.toFb H v d/\iH X.K d (.type T)=RM b/\qE F.toFb H k Q (.bl b) k):=by
  intro o s t H P R Q I r h;obtain⟨k,v,d,b,rfl,i,hb,q⟩:=h;obtain⟨u,c,rfl,z,y⟩:=vals2 r;cases(show c=Z7 T from y);exact tL I z ha.hK i hb λx=>⟨.bl b,H,I.tok x,rfl,q _ H .refl (by simp only[Is])⟩
 refine(eA J G E (by decide+kernel) (bz ha.pe (bz (D9 (v:=.ty T) m l j rfl C n) dQ rfl) p) '1' '1' p rfl).imp λt H Q f=>?_;obtain⟨ρ,k,S,h⟩:=f;refine dR.next S h λd A v V O U B N=>?_;obtain⟨b,hb,L⟩:=M.run_get.mp N;exact⟨A,v,d,b,rfl,B,hb,L.ext O⟩
end
section
variable{X:Cx}{F:Fx}
structure PK(X:Cx)(F:Fx)(T:String)(id:String)(rc:D->Bool)(m:D->List D->M D):Prop where
 ty:∀{pins:List (RW×Tn)}{σ:St}{H:Hp}{s:RU}{x:V}{v:RR}{d:D},Inv X pins σ H s->RelV x v->X.K=F.K->Is F.toFb H x d->rc d=RQ->s.TypeIs v T/\∀a,v=.ref a->∃ob,s.heap.get? a=RM ob/\ob.dict=RP
 call:∀(pins:List (RW×Tn))(s:RU)(σ:St)(H:Hp)(k:Nat)(x:V)(xs:List V)(v:RR)(us:List RR)(d:D)(ds:List D)(Q:VK),Inv X pins σ H s->RelV x v->ax xs us->H F.p≠RP->X.K=F.K->Is F.toFb H x d->ag F.toFb H xs ds->rc d=RQ->(m d ds).run k (qE F.toFb H k Q) F.E->wpAny (Sb X.prog X.w) X.A (WD (.builtin id) (v::us)) (EP X pins σ Q) X.xe s
variable{T id:String}
def Fs(J:PK X F T id rc m)(pa:aad T)(slot:Slot T name id)(y:Zx (.builtin id)=pure (.type "method_descriptor"))(t:DE X F o to)(ha:DA X F (e::es) tas)(f:Wn o name X.env (Ux o X.env)=Ux o X.env)(b:(ap.endLine==cp.line)=RQ)(j:((UP cp (Sq (e::es) X.env)).all (λx=>!x.1)&&(Zy cp (Xm [] X.env)).all (λx=>x.1.isSome)&&decide ((e::es).length+([]:List Wc).length+(if([]:List Wc).isEmpty then 0 else 1)<30))=RQ)(hs:Sq (e::es) X.env=(RT,Ux e X.env)::Sq es X.env)(a:(UP cp (Sq es X.env)).any (·.1)=RT):DE X F (.Call (.Attribute o name ap) (e::es) [] cp) (λρ=>do let d<-to ρ;M.need (rc d=RQ);let ds<-iX (<-tas ρ);m d ds):=by
 have mt:L4 X id (λx u H Q=>∃k d ds,H F.p≠RP/\Is F.toFb H x d/\ag F.toFb H u ds/\rc d=RQ/\(m d ds).run k (qE F.toFb H k Q) F.E):=λg s C H x u v L Q I N O⟨k,d,ds,l,n,w,c,q⟩=>J.call g s C H k x u v L d ds Q I N O l t.hK n w c q;refine⟨t.hK,(vL (ty:=λx H=>∃d,Is F.toFb H x d/\rc d=RQ) (λI r⟨d,i,c⟩=>J.ty I r t.hK i c) pa slot y mt t.pe ha.pa f j b hs a).imp λC H Q⟨ρ,k,S,h⟩=>?_⟩;refine dR.next S h λd k1 v H1 V Y n B=>?_;obtain⟨G,B⟩:=B;refine⟨⟨d,n,G⟩,?_⟩;refine sX.next Y B λas P Z H2 K W w U=>?_;obtain⟨ds,rfl,R⟩:=cw U;exact⟨P,d,ds,W.live,n.mono K.kp,cy w,G,M.wk R λ_ _ z=>z.ext (V.trans K)⟩
end
section
noncomputable def tM:D->Bool
 |.aO _ _=>RQ|_=>RT
noncomputable def PL:D->List D->M D
 |.aO ks a,[d]=>do M.need (kinds ks d/\ks.length=a.length);pure ((aP ks a d).getD .br)|_,_=>M.fail
theorem gK:∀{ks ds:List D}{d:D},ks.length=ds.length->(aP ks ds d).isSome=dr ks d
 |[],[],d,_=>rfl|[],_::_,d,h=>by simp at h|_::_,[],d,h=>by simp at h|k::ks,v::ds,d,h=>by
  have a:=gK (ks:=ks) (ds:=ds) (d:=d) (by simpa using h);unfold dr at a⊢;rw[Vb,<-a];simp only[aP];cases gH k d<;>simp
def JP(hu:X.A.units+2<TL)(hP:X.prog=F.P)(hw:X.w=F.w):PK X F "dict" "dict.get" tM PL where
 ty:=λ{t W H s x v d}I r hK i c=>by
  cases d<;>first|cases c|skip
  simp only[Is]at i;obtain⟨a,Y,rfl,⟨o,B,n⟩,L⟩:=i;cases(show v=Sm a from r);have m:=B.get I hK;obtain⟨G,ep,hx,_⟩:=BL n;exact⟨jN n m,λb q=>by cases q;exact⟨o,m,hx.2.1⟩⟩
 call:=λt s W H k x Y v us d ds Q I rx rs l hK U i2 c q=>by match d,ds,q with
  |.aO ks G,[d],q=>
   obtain⟨⟨E,C⟩,q⟩:=q;have q:qE F.toFb H k Q ((aP ks G d).getD .br) k:=q;simp only[Is]at U;obtain⟨a,ws,rfl,⟨o,B,n⟩,L⟩:=U;cases(show v=Sm a from rx);have m:=B.get I hK;obtain⟨w,rfl,iw⟩:=i2.one;obtain⟨u,rfl,S⟩:=vals1 rs;have V:=jN n m;rcases E with⟨E,f,rfl⟩|⟨E,f,rfl⟩
   .obtain⟨g,j,T,ob,rfl,rfl⟩:=n.JE E;rw[<-hP,<-hw]at ob;have:=fx iw;subst this;refine Y6 Vj V VJ (YG _ _) (meets_dict_get (aw X.prog X.w) a (gA S) B.2.1) ⟨_,(ob.at m).mapOf,?_⟩;cases h:aP (g.map λx=>kD x.1) G (kD f)with
    |some e=>
     obtain⟨y,R,O⟩:=xF L h;obtain⟨u',M,J⟩:=iQ.some_of (by rw[<-R];exact T.val f);rw[M];rw[h]at q;exact⟨y,H,I.tok _,J,q y H .refl O⟩|none=>
     have N:iq g f=RP:=by
      have:=gK (d:=kD f) C;rw[h,vH]at this;cases e:iq g f with
      |none=>rfl|some z=>rw[e]at this;cases this
     have:=iQ.none_of (by rw[<-N];exact T.val f);rw[this];rw[h]at q;exact⟨.br,H,I.tok _,rfl,q _ H .refl (by simp only[Wb,Is])⟩
   .obtain⟨g,j,K,ob,tp,rfl,rfl⟩:=n.JF E;rw[<-hP,<-hw]at ob;obtain⟨b,rfl,Z⟩:=fv.of iw;cases(show u=Sm b from S);refine Y6 Vj V VJ (YG _ _) (meetsH_dict_get (cf X.prog X.w) a b B.2.1) ⟨d_ hu,f,j,e_ I hK Z,ob.at m (fb I hK K tp),?_⟩;cases h:aP (g.map λx=>D.tup (x.1.map nD)) G (.tup (f.map nD))with
    |some e=>
     obtain⟨p,y,R,O,h3⟩:=xG K L h;rw[R];rw[h]at q;exact⟨y,H,I.tok _,O,q y H .refl h3⟩|none=>
     have N:aaG j f=RP:=by
      have:=gK (d:=.tup (f.map nD)) C;rw[h,zC K]at this;cases e:aaG j f with
      |none=>rfl|some z=>rw[e]at this;cases this
     rw[N];rw[h]at q;exact⟨.br,H,I.tok _,rfl,q _ H .refl (by simp only[Wb,Is])⟩
end
noncomputable def gL:D->Option (List D)
 |.tup a=>RM a|.lst a=>RM a|.aO ks _=>RM ks|_=>RP
section
variable{X:Cx}{F:Fx}
def Ft(ha:DE X F a Z):DI X F tg a (λρ=>do M.get (gL (<-Z ρ))):=⟨ha.hK,λg s σ H R I N=>by
  obtain⟨ρ,k,S,h⟩:=N;refine bE (ha.pe g s σ H _ I (dR.next S h (Q:=λv f=>∃d m w,Ext F.toFb H k f m/\Is F.toFb f v d/\gL d=RM w/\f F.p≠RP/\(∀J Y,Ext F.toFb H k Y m->vw F.toFb J w Y m->R J Y)) λd m v f u S1 j C=>by
   obtain⟨w,e,W⟩:=M.run_get.mp C;exact⟨d,m,w,u,j,e,S1.live,W⟩)) λv c⟨x,f,l,P,d,m,w,u,j,E,lv,q⟩=>?_;have fresh:∀b∈[c⁻¹],ij X g f b:=λb hb=>by
   have e:=by simpa using hb
   subst e;exact l.Eb (R5 _) (l.aM.fresh (R5 _))
  cases d with
  |tup xs=>
   cases E;simp only[Is]at j;obtain⟨a,A,rfl,t,B⟩:=j;cases(show v=Sm a from P);obtain⟨r,O,p,n⟩:=l.tuple (show ki X.K f a A by rw[ha.hK];exact t.2);refine wpAny_pyIter_tuple (show c.heap.IsTuple a r.toArray from p) ?_;exact⟨c⁻¹,[c⁻¹],_,_,f,rfl,l.kept λb o e=>RY _ e,u4 a _,⟨_,Sl _ rfl,rfl,rfl⟩,fresh,q _ f u (by rw[ha.hK];exact Bm t B n)⟩|lst xs=>
   cases E;simp only[Is]at j;obtain⟨a,A,rfl,t,B⟩:=j;cases(show v=Sm a from P);obtain⟨r,O,p,n⟩:=l.list (show dZ X.K f a A by rw[ha.hK];exact t.2.sq);refine V1 p.isList ?_;exact⟨c⁻¹,[c⁻¹],_,_,f,rfl,l.kept λb o e=>RY _ e,yT a _,⟨_,Sl _ rfl,rfl,rfl⟩,fresh,q _ f u (by rw[ha.hK];exact Bl t B n)⟩|aO ks a2=>
   cases E;simp only[Is]at j;obtain⟨a,A,rfl,⟨o,T,dd⟩,B⟩:=j;cases(show v=Sm a from P);obtain⟨a0,es,ep,hx,hd,O,ik⟩:=tH dd;have ho:=T.get l ha.hK;have lt:=Sa ho;refine DictIt.xf T.2.1 ho hx.1 hd ?_;refine⟨c⁻¹,[c⁻¹],_,_,_,rfl,l.kept λb o e=>RY _ e,vK hd O (SD lt),⟨_,Sl _ rfl,rfl,rfl⟩,fresh,q _ _ u ?_⟩;have kn:∀{L}{U},Kp F.toFb f m L U->PH X.K L a o:=λe=>by
    rcases(T.mono e).2.2 with z|z;.exact .inl z
    .exact .inr (by rw[ha.hK];exact z)
   refine⟨λi d L U V G l2=>?_,λL U G l2=>⟨kn G,by rw[ik.length];exact R5 _⟩,dd.1⟩;obtain⟨y,C,W⟩:=(ik.mono G).get V;refine⟨⟨kn G,(Ω0.mp C).1⟩,λz H3 yl=>?_⟩;obtain⟨rfl,n⟩:=yl;rw[C]at n;cases n;exact⟨.refl,W⟩|_=>cases E⟩
noncomputable def Fu:D->Option Bool
 |.br=>RM RT|.bl b=>RM b|.int i=>RM (i !=0)|.str y=>if y.length<=R1 then RM ((y.length:Int)!=0)else RP|.tup a=>RM (!a.isEmpty)|.lst a=>RM (!a.isEmpty)|_=>RP
def lb(h:ag B H xs ds):xs.isEmpty=ds.isEmpty:=by
 have:=h.length;cases xs<;>cases ds<;>first|rfl|simp at this
set_option tactic.hygienic true in
def JQ(h:DE X F e t)(p:∀whole,Zt e X.env whole=(do let v<-whole;Wx e.pos;Ye [v] (truthy v))):DT X F e (λρ=>do M.get (Fu (<-t ρ))):=⟨h.hK,(Au h.pe p).imp λw H Q g=>by
  obtain⟨ρ,k,S,z⟩:=g;refine dR.next S z λd x v u s A f r=>?_;obtain⟨b,hb,q⟩:=M.run_get.mp r;refine⟨b,?_,q u s⟩;cases d with
  |br=>cases hb;simp only[Is]at f;rw[f];rfl|bl c=>cases hb;simp only[Is]at f;rw[f];rfl|int i=>cases hb;simp only[Is]at f;rw[f];rfl|str y=>
   simp only[Fu]at hb;split at hb
   .rename_i o;cases hb;simp only[Is]at f;rw[f];exact⟨o,rfl⟩
   .cases hb|tup n=>
   cases hb;simp only[Is]at f;obtain⟨a,j,rfl,m,l⟩:=f;exact .inr (.inl ⟨j,by rw[h.hK];exact m.2,by rw[lb l]⟩)|lst n=>
   cases hb;simp only[Is]at f;obtain⟨a,j,rfl,m,l⟩:=f;exact .inl ⟨j,by rw[h.hK];exact m.2.sq,by rw[lb l]⟩|_=>cases hb⟩
end
end L2
end
section
namespace SrtP
open PySem PyProof.Rows
section
variable{E:RR->RU->Prop}{κ:UA}
def Cm(prog:Sf)(w:Sx)(A:SF)(s:RU)(κ:UA)(a₀:Array Sz):Prop:=∀x∈a₀,∀y∈a₀,∀(Q:Bool->RU->Prop)(E:RR->RU->Prop),(∀b,Q b s)->wpAny (Sb prog w) A (keyLt' κ x.1 y.1) Q E s
structure Bs(κ:UA)(a₀:Array Sz)(st:SK):Prop where
 k:kindOf st=κ
 p:(UZ st).Perm a₀
 f:YB st=RP
def Bs.size{st}(h:Bs κ a₀ st):(UZ st).size=a₀.size:=h.p.size_eq
def Bs.mem{st}(h:Bs κ a₀ st)(m:x∈UZ st):x∈a₀:=h.p.mem_iff.mp m
def nA(C:Cm prog w A s κ a₀){st:SK}(d:kindOf st=κ)(c:x∈a₀)(a:y∈a₀)(q:∀b,Q (RM b) st):Zq (Sb prog w) A E s (lt' x y) Q st:=by
 rw[lt'_eq];refine R8 (W0 ?_);rw[d];refine R8 (wpS_lift (Xl (C x c y a _ _ λb=>⟨rfl,?_⟩)));exact Si (q b)
def aD{st}{Q}(h:i<a.size)(q:∀x∈a,a[i]?=RM x->Q x st):Zq (Sb prog w) A E s (UJ a i) Q st:=by
 rw[elem'_eq,R9 h];exact Si (q _ (Array.getElem_mem h) (R9 h))
def gM(C:Cm prog w A s κ a₀){st}(h:Bs κ a₀ st)(e:i<a₀.size)(d:j<a₀.size)(q:∀b,Q (RM b) st):Zq (Sb prog w) A E s (ltAt' i j) Q st:=by
 rw[ltAt'_eq];refine R8 (W0 ?_);refine R8 (aD (by rw[h.size];exact e) λx c _=>?_);refine R8 (aD (by rw[h.size];exact d) λy a _=>?_);exact nA C h.k (h.mem c) (h.mem a) q
def fe{st}(h:Bs κ a₀ st)(q:∀a,Bs κ a₀ a->Sv a=Sv st->Q () a):Zq (Sb prog w) A E s (reverseSlice' i j) Q st:=by
 rw[reverseSlice'_eq];exact VL (q _ ⟨h.k,(mirror_perm _ _ _ _).trans h.p,h.f⟩ rfl)
def BV{st}(h:Bs κ a₀ st)(q:∀a,Bs κ a₀ a->Sv a=Sv st->Q () a):Zq (Sb prog w) A E s (moveDown' i j) Q st:=by
 rw[moveDown'_eq];exact VL (q _ ⟨h.k,(bubble_perm _ _ _).trans h.p,h.f⟩ rfl)
def eJ{st}(q:Q () st):Zq (Sb prog w) A E s (liftM (YQ x):StateT SK XH Unit) Q st:=wpS_lift (Xd ⟨rfl,q⟩)
def aU{f:Nat->e->StateT SK XH (ForInStep e)}{Q:e->SK->Prop}{c:e}{st:SK}(I:Nat->e->SK->Prop)(R:e->SK->Prop)(k:I a c st)(d:∀i c st,a<=i->i<b->I i c st->Zq (Sb prog w) A E s (f i c) (λr g=>match r with|.done j=>R j g|.yield j=>I (i+1) j g) st)(h:∀c st,I (max a b) c st->R c st)(q:∀c st,R c st->Q c st):Zq (Sb prog w) A E s (forIn [a:b] c f) Q st:=Xu (wpS_forRange I d h k) q
def jQ(C:Cm prog w A s κ a₀){st:SK}{lo a d:Nat}(h:Bs κ a₀ st)(l:1<=a)(j:a<=d)(k:lo+d<=a₀.size)(q:∀n,a<=n->n<=d->Q (RP,n) st):Zq (Sb prog w) A E s (forIn [a:d] ((RP,a):Option (Option Nat)×Nat) λx __s=>do
   let __x<-ltAt' (lo+__s.snd) (lo+__s.snd-1)match __x with
    |some f=>if f=RQ then pure (W3 (RP,__s.snd))else pure (Uv (RP,__s.snd+1))|x=>pure (W3 (RM RP,__s.snd))) Q st:=by
 refine aU (λi c e=>e=st/\c=(RP,i)) (λc e=>e=st/\∃n,c=(RP,n)/\a<=n/\n<=d) ⟨rfl,rfl⟩ ?_ ?_ ?_
 .rintro i c e Ab sx⟨rfl,rfl⟩;refine R8 (gM C h (by dsimp only;omega+splitNatSub) (by dsimp only;omega+splitNatSub) λb=>?_);cases b with
  |true=>exact Si ⟨rfl,i,rfl,Ab,by omega+splitNatSub⟩|false=>exact Si ⟨rfl,rfl⟩
 .rintro c e⟨rfl,rfl⟩;exact⟨rfl,_,rfl,by omega+splitNatSub,by omega+splitNatSub⟩
 .rintro c e⟨rfl,n,rfl,a1,g⟩;exact q n a1 g
def tN(C:Cm prog w A s κ a₀){st:SK}{lo a e:Nat}(h:Bs κ a₀ st)(v:1<=a)(t:a<=e)(u:lo+e<=a₀.size)(q:∀n m d,a<=n->n<=e->Bs κ a₀ d->Sv d=Sv st->Q (RP,n,m) d):Zq (Sb prog w) A E s (forIn [a:e] ((RP,a,0):Option (Option Nat)×Nat×Nat) λx __s=>do
   let __x<-ltAt' (lo+__s.snd.fst) (lo+__s.snd.fst-1)match __x with
    |some f=>
     if f=RQ then
      if __s.snd.snd>0 then do
       let __r<-reverseSlice' (lo+__s.snd.fst-(__s.snd.snd+1)) (lo+__s.snd.fst)pure (Uv (RP,__s.snd.fst+1,0))else pure (Uv (RP,__s.snd.fst+1,0))else do
      let __x<-ltAt' (lo+__s.snd.fst-1) (lo+__s.snd.fst)match __x with
       |some g=>
        if g=RQ then pure (W3 (RP,__s.snd.fst,__s.snd.snd))else pure (Uv (RP,__s.snd.fst+1,__s.snd.snd+1))|x=>pure (W3 (RM RP,__s.snd.fst,__s.snd.snd))
    |x=>pure (W3 (RM RP,__s.snd.fst,__s.snd.snd))) Q st:=by
 refine aU (λi c d=>Bs κ a₀ d/\Sv d=Sv st/\∃m,c=(RP,i,m)) (λc d=>Bs κ a₀ d/\Sv d=Sv st/\∃n m,c=(RP,n,m)/\a<=n/\n<=e) ⟨h,rfl,0,rfl⟩ ?_ ?_ ?_
 .rintro i c d Ab sx⟨hb,j,m,rfl⟩;refine R8 (gM C hb (by dsimp only;omega) (by dsimp only;omega) λb=>?_);cases b with
  |true=>
   dsimp only;rw[Ξ2 rfl];by_cases o:m>0
   .rw[Ξ2 o];exact R8 (fe hb λp l k=>Si ⟨l,k.trans j,0,rfl⟩)
   .rw[Ξ3 o];exact Si ⟨hb,j,0,rfl⟩|false=>
   dsimp only;rw[Ξ3 '1'];refine R8 (gM C hb '0' '0' λb=>?_);cases b with
   |true=>exact Si ⟨hb,j,i,m,rfl,Ab,'0'⟩|false=>exact Si ⟨hb,j,m+1,rfl⟩
 .rintro c d⟨hb,j,m,rfl⟩;exact⟨hb,j,_,m,rfl,'0','0'⟩
 .rintro c d⟨hb,j,n,m,rfl,a1,r⟩;exact q n m d a1 r hb j
def zH(C:Cm prog w A s κ a₀){st}{lo a}(h:Bs κ a₀ st)(J:1<=a)(k:lo+a<=a₀.size)(q:∀n i,1<=n->n<=a->Bs κ a₀ i->Sv i=Sv st->Q (RM n) i):Zq (Sb prog w) A E s (countRun' lo a) Q st:=by
 rw[countRun'_eq];refine R8 (jQ C h (R5 _) J k λn a1 G=>?_);dsimp only;by_cases B:(n==a)=RQ
 .rw[Ξ2 B];exact Si (q n st a1 G h rfl)
 .rw[Ξ3 B];have r:n+1<=a:=by
   omega
  by_cases p:n>1
  .rw[Ξ2 p];refine R8 (gM C h '0' '0' λb=>?_);cases b with
   |true=>exact Si (q n st a1 G h rfl)|false=>
    refine R8 (fe h λH b1 F=>?_);refine R8 (eJ ?_);refine R8 (tN C b1 '0' r k λI m y y1 l u o=>?_);dsimp only;by_cases t:m>0
    .rw[Ξ2 t];refine R8 (fe u λx D z=>?_);refine R8 (fe D λc f j=>?_);refine R8 (jQ C f '0' l k λd v g=>?_);exact Si (q d c '0' g f (j.trans (z.trans (o.trans F))))
    .rw[Ξ3 t];refine R8 (fe u λc f j=>?_);refine R8 (jQ C f '0' l k λd v g=>?_);exact Si (q d c '0' g f (j.trans (o.trans F)))
  .rw[Ξ3 p];refine R8 (eJ ?_);refine R8 (tN C h '0' r k λI m y y1 l u o=>?_);dsimp only;by_cases t:m>0
   .rw[Ξ2 t];refine R8 (fe u λx D z=>?_);refine R8 (fe D λc f j=>?_);refine R8 (jQ C f '0' l k λd v g=>?_);exact Si (q d c '0' g f (j.trans (z.trans o)))
   .rw[Ξ3 t];refine R8 (fe u λc f j=>?_);refine R8 (jQ C f '0' l k λd v g=>?_);exact Si (q d c '0' g f (j.trans o))
def Fv(C:Cm prog w A s κ a₀){st}{lo n ok}(h:Bs κ a₀ st)(x:lo+n<=a₀.size)(q:∀a,Bs κ a₀ a->Sv a=Sv st->Q RQ a):Zq (Sb prog w) A E s (binarySort' lo n ok) Q st:=by
 rw[binarySort'_eq];refine R8 (aU (λk c a=>c=(RP,())/\Bs κ a₀ a/\Sv a=Sv st) (λc a=>c=(RP,())/\Bs κ a₀ a/\Sv a=Sv st) ⟨rfl,h,rfl⟩ ?_ (λ_ _ z=>z) ?_)
 .rintro k c d t p⟨rfl,b1,f⟩;refine R8 (aU (λi(c)a=>a=d/\c.1=RP/\c.2.2<=k) (λc a=>a=d/\c.1=RP) ⟨rfl,rfl,R5 _⟩ ?_ (λc a z=>⟨z.1,z.2.1⟩) ?_)
  .rintro i⟨u,l,r⟩a Ab sx⟨rfl,e,g⟩;dsimp only at e g⊢;by_cases j:l>=r
   .rw[Ξ2 j];exact Si ⟨rfl,rfl⟩
   .rw[Ξ3 j];refine R8 (gM C b1 '0' '0' λb=>?_);cases b with
    |true=>exact Si ⟨rfl,rfl,by show(l+r)/2<=k;omega⟩|false=>exact Si ⟨rfl,rfl,g⟩
  .rintro⟨u,l,r⟩a⟨rfl,e⟩;subst e;exact R8 (BV b1 λm v o=>Si ⟨rfl,v,o.trans f⟩)
 .rintro c d⟨rfl,b1,f⟩;exact Si (q d b1 f)
noncomputable def cL:Bool->Sz->Array Sz->Nat->Nat->Nat->StateT SK XH (Option Nat):=sortPriv%PySem.Builtin.gallop
def vM(left:Bool)(key:Sz)(j:Array Sz)(base n a:Nat):cL left key j base n a=(do
 let e(i:Nat):StateT SK XH (Option Bool):=do
  let x<-UJ j (base+i)if left then lt' x key else return(<-lt' key x).map (!·)
 let mut c:=0;let mut d:=1;let mut lo:=0;let mut h:=0
 let RM right<-e a|return RP
 if right then
  let b:=n-a;for _ in[0:n]do
   if d>=b then break
   let RM f<-e (a+d)|return RP
   if !f then break
   c:=d;d:=2*d+1
  lo:=a+c+1;h:=a+min d b;else
  let b:=a+1;for _ in[0:n]do
   if d>=b then break
   let RM g<-e (a-d)|return RP
   if g then break
   c:=d;d:=2*d+1
  lo:=a+1-min d b;h:=a-c
 for _ in[0:n]do
  if lo>=h then break
  let m:=lo+(h-lo)/2
  let RM f<-e m|return RP
  if f then lo:=m+1 else h:=m
 return RM h):=rfl
def du(C:Cm prog w A s κ a₀){st}(y:kindOf st=κ)(v:∀x∈h,x∈a₀)(g:key∈a₀)(p:e<n)(hs:base+n<=h.size)(q:∀k,k<=n->Q (RM k) st):Zq (Sb prog w) A E s (cL left key h base n e) Q st:=by
 rw[vM];extract_lets beyond la0 of0 jp mx1 mx2;have hb:∀(i)(Q),i<n->(∀b,Q (RM b) st)->Zq (Sb prog w) A E s (beyond i) Q st:=λi Q o q=>by
  refine R8 (aD '0' λx u _=>?_);cases left with
  |true=>exact nA C y (v x u) g q|false=>exact R8 (nA C y g (v x u) λb=>Si (q _))
 have B:∀(t of lo o),o<=n->Zq (Sb prog w) A E s (jp () t of lo o) Q st:=λt of lo o p=>by
  refine R8 (aU (λi(c)a=>a=st/\c.1=RP/\c.2.2<=n) (λc a=>a=st/\c.1=RP/\c.2.2<=n) ⟨rfl,rfl,p⟩ ?_ (λc a z=>z) ?_)
  .rintro i⟨m,l,r⟩a Ab sx⟨rfl,d,j⟩;dsimp only at d j⊢;by_cases f:l>=r
   .rw[Ξ2 f];exact Si ⟨rfl,rfl,j⟩
   .rw[Ξ3 f];refine R8 (hb _ _ '0' λb=>?_);cases b with
    |true=>exact Si ⟨rfl,rfl,j⟩|false=>exact Si ⟨rfl,rfl,by show l+(r-l)/2<=n;omega⟩
  .rintro⟨m,l,r⟩a⟨rfl,d,j⟩;subst d;exact Si (q r j)
 refine R8 (hb _ _ p λb=>?_);cases b with
 |true=>
  dsimp only;rw[Ξ2 rfl];refine R8 (aU (λi(c)a=>a=st/\c.1=RP) (λc a=>a=st/\c.1=RP) ⟨rfl,rfl⟩ ?_ (λc a z=>z) ?_)
  .rintro i⟨m,l,r⟩a Ab sx⟨rfl,d⟩;dsimp only at d⊢;by_cases f:r>=mx1
   .rw[Ξ2 f];exact Si ⟨rfl,rfl⟩
   .rw[Ξ3 f];refine R8 (hb _ _ '0' λb=>?_);cases b<;>exact Si ⟨rfl,rfl⟩
  .rintro⟨m,l,r⟩a⟨rfl,d⟩;dsimp only at d⊢;subst d;exact B l r _ _ '0'|false=>
  dsimp only;rw[Ξ3 '1'];refine R8 (aU (λi(c)a=>a=st/\c.1=RP) (λc a=>a=st/\c.1=RP) ⟨rfl,rfl⟩ ?_ (λc a z=>z) ?_)
  .rintro i⟨m,l,r⟩a Ab sx⟨rfl,d⟩;dsimp only at d⊢;by_cases f:r>=mx2
   .rw[Ξ2 f];exact Si ⟨rfl,rfl⟩
   .rw[Ξ3 f];refine R8 (hb _ _ '0' λb=>?_);cases b<;>exact Si ⟨rfl,rfl⟩
  .rintro⟨m,l,r⟩a⟨rfl,d⟩;dsimp only at d⊢;subst d;exact B l r _ _ '0'
noncomputable def aN:Nat->StateT SK XH Unit:=sortPriv%PySem.Builtin.setMinGallop
noncomputable abbrev JR(st:SK)(g:Nat):SK:=Y3 (kindOf st) (UZ st) (Sv st) g (YB st)
def kB(g):aN g=modify λs=>JR s g:=rfl
noncomputable def jR:Array Sz->Array Sz->StateT SK XH (Array Sz):=sortPriv%PySem.Builtin.mergeLo
def tO(a b:Array Sz):jR a b=(do
 YQ "list.sort.merge-lo"let i:=a.size+b.size;let done(out:Array Sz)(d e:Nat):=out++a.extract d a.size++b.extract e b.size;let h(out:Array Sz)(d e:Nat):=out++b.extract e b.size++a.extract d a.size;let mut out:Array Sz:=#[<-UJ b 0]let mut d:=0;let mut e:=1;if e==b.size then return done out d e
 if d+1==a.size then return h out d e
 let mut c:=gallopOf (<-get)for _ in[0:i]do
  let mut g:=0;let mut f:=0;for _ in[0:i]do
   let RM j<-lt' (<-UJ b e) (<-UJ a d)|return done out d e
   if j then
    out:=out.push (<-UJ b e);e:=e+1;f:=f+1;g:=0;if e==b.size then return done out d e
    if f>=c then break
   else
    out:=out.push (<-UJ a d);d:=d+1;g:=g+1;f:=0;if d+1==a.size then return h out d e
    if g>=c then break
  YQ "list.sort.gallop"c:=c+1;for _ in[0:i]do
   if c>1 then c:=c-1
   aN c
   let RM k<-cL RT (<-UJ b e) a d (a.size-d) 0|return done out d e
   g:=k;if k>0 then
    out:=out++a.extract d (d+k);d:=d+k;if d+1==a.size then return h out d e
    if d==a.size then return done out d e
   out:=out.push (<-UJ b e);e:=e+1;if e==b.size then return done out d e
   let RM k<-cL RQ (<-UJ a d) b e (b.size-e) 0|return done out d e
   f:=k;if k>0 then
    out:=out++b.extract e (e+k);e:=e+k;if e==b.size then return done out d e
   out:=out.push (<-UJ a d);d:=d+1;if d+1==a.size then return h out d e
   if g<7&&f<7 then break
  c:=c+1;aN c
 Ym "internal:list.sort.merge-bound"):=rfl
structure Lo(a b out:Array Sz)(ia ib:Nat):Prop where
 p:(out.toList++a.toList.drop ia++b.toList.drop ib).Perm (a.toList++b.toList)ha:ia<=a.size
 hb:ib<=b.size
section
def Lo.size(h:Lo a b out ia ib):out.size+(a.size-ia)+(b.size-ib)=a.size+b.size:=by
 have:=h.p.length_eq;simp only[SR,Xe]at this;exact this
def tP(xs:Array Sz)(i):(xs.extract i xs.size).toList=xs.toList.drop i:=by
 rw[Vq];rw[UR,VF '2']
def tQ(xs:Array Sz)(i k:Nat):(xs.extract i (i+k)).toList=(xs.toList.drop i).take k:=by rw[Vq,UR,YH]
def Lo.done(h:Lo a b out ia ib):(out++a.extract ia a.size++b.extract ib b.size).Perm (a++b):=by
 rw[UK];simp only[TU,tP];exact h.p
def Lo.last(h:Lo a b out ia ib):(out++b.extract ib b.size++a.extract ia a.size).Perm (a++b):=by
 rw[UK];simp only[TU,tP];refine Uw ?_ h.p;rw[Ta,Ta];exact Tt _ Vk
def tR{xs:Array Sz}(e:xs[i]?=RM x):xs.toList.drop i=x::xs.toList.drop (i+1)/\i<xs.size:=by
 obtain⟨c,e⟩:=Ψ3.mp e;refine⟨?_,c⟩;rw[Yb (by simpa using c)];simp[e]
def Lo.pV(h:Lo a b out ia ib)(e:a[ia]?=RM x):Lo a b (out.push x) (ia+1) ib:=by
 obtain⟨c,d⟩:=tR e;refine⟨?_,'0',h.hb⟩;have:=h.p;rw[c]at this;rw[Uo];simpa using this
def Lo.pX(h:Lo a b out ia ib)(e:b[ib]?=RM x):Lo a b (out.push x) ia (ib+1):=by
 obtain⟨c,d⟩:=tR e;refine⟨?_,h.ha,'0'⟩;have:=h.p;rw[c]at this;rw[Uo];refine Uw ?_ this;simp only[Ta];refine Tt _ ?_;show(x::(a.toList.drop ia++b.toList.drop (ib+1))).Perm (a.toList.drop ia++x::b.toList.drop (ib+1));exact List.perm_middle.symm
def Lo.JS(h:Lo a b out ia ib)(c:ia+k<=a.size):Lo a b (out++a.extract ia (ia+k)) (ia+k) ib:=by
 refine⟨?_,c,h.hb⟩;rw[TU,tQ];refine Uw (WB ?_) h.p;have:a.toList.drop ia=(a.toList.drop ia).take k++a.toList.drop (ia+k):=by rw[<-List.drop_drop,Ur]
 conv=>rhs;rw[this]
 simp only[Ta]
def Lo.JT(h:Lo a b out ia ib)(c:ib+k<=b.size):Lo a b (out++b.extract ib (ib+k)) ia (ib+k):=by
 refine⟨?_,h.ha,c⟩;rw[TU,tQ];refine Uw ?_ h.p;have:b.toList.drop ib=(b.toList.drop ib).take k++b.toList.drop (ib+k):=by rw[<-List.drop_drop,Ur]
 conv=>rhs;rw[this]
 simp only[Ta];refine Tt _ ?_;rw[<-Ta,<-Ta];exact VM _ Vk
end
structure Gs(κ:UA)(a₀:Array Sz)(st st':SK):Prop where
 b:Bs κ a₀ st'
 e:UZ st'=UZ st
 p:Sv st'=Sv st
def lS{a st}(h:Gs κ a₀ a st)(q:∀c,Gs κ a₀ a c->Q () c):Zq (Sb prog w) A E s (aN g) Q st:=by
 rw[kB];exact VL (q _ ⟨⟨h.b.k,h.b.p,h.b.f⟩,h.e,h.p⟩)
def aY{i n:Nat}(h:¬(i==n)=RQ):i≠n:=λe=>h (by rw[e];exact beq_self_eq_true _)
abbrev C6:=Option (Array Sz)×Array Sz×Nat×Nat×Nat×Nat
abbrev C7:=Option (Array Sz)×Array Sz×Nat×Nat×Nat×Nat×Nat
abbrev C5:=Option (Array Sz)×Array Sz×Nat×Nat×Nat
abbrev SM:=StateT SK XH
noncomputable def dn(a b out:Array Sz)(d c:Nat):Array Sz:=out++a.extract d a.size++b.extract c b.size
noncomputable def lst(a b out:Array Sz)(d c:Nat):Array Sz:=out++b.extract c b.size++a.extract d a.size
noncomputable def lo1(a b:Array Sz)(mg:Nat)(c:C6):SM (ForInStep C6):=do
 let y<-UJ b c.2.2.2.1;let x<-UJ a c.2.2.1;match<-lt' y x with
 |some d=>
  if d=RQ then do
   let z<-UJ b c.2.2.2.1;if(c.2.2.2.1+1==b.size)=RQ then pure (.done (RM (dn a b (c.2.1.push z) c.2.2.1 (c.2.2.2.1+1)),c.2.1.push z,c.2.2.1,c.2.2.2.1+1,0,c.2.2.2.2.2+1))else if c.2.2.2.2.2+1>=mg then pure (.done (RP,c.2.1.push z,c.2.2.1,c.2.2.2.1+1,0,c.2.2.2.2.2+1))else pure (.yield (RP,c.2.1.push z,c.2.2.1,c.2.2.2.1+1,0,c.2.2.2.2.2+1))else do
   let z<-UJ a c.2.2.1;if(c.2.2.1+1+1==a.size)=RQ then pure (.done (RM (lst a b (c.2.1.push z) (c.2.2.1+1) c.2.2.2.1),c.2.1.push z,c.2.2.1+1,c.2.2.2.1,c.2.2.2.2.1+1,0))else if c.2.2.2.2.1+1>=mg then pure (.done (RP,c.2.1.push z,c.2.2.1+1,c.2.2.2.1,c.2.2.2.2.1+1,0))else pure (.yield (RP,c.2.1.push z,c.2.2.1+1,c.2.2.2.1,c.2.2.2.2.1+1,0))|_=>pure (.done (RM (dn a b c.2.1 c.2.2.1 c.2.2.2.1),c.2))
noncomputable def PM(a b:Array Sz)(mg f e c:Nat)(out:Array Sz)(d:Nat):SM (ForInStep C7):=do
 let z<-UJ a c;if(c+1+1==a.size)=RQ then pure (.done (RM (lst a b (out.push z) (c+1) d),out.push z,c+1,d,mg,f,e))else if(decide (f<7)&&decide (e<7))=RQ then pure (.done (RP,out.push z,c+1,d,mg,f,e))else pure (.yield (RP,out.push z,c+1,d,mg,f,e))
noncomputable def OG(a b:Array Sz)(mg e f c:Nat)(out:Array Sz)(d:Nat):SM (ForInStep C7):=do
 let z<-UJ b c;if(c+1==b.size)=RQ then pure (.done (RM (dn a b (out.push z) d (c+1)),out.push z,d,c+1,mg,e,f))else do
  let x<-UJ a d;match<-cL RQ x b (c+1) (b.size-(c+1)) 0 with
  |some k=>
   if k>0 then
    if(c+1+k==b.size)=RQ then pure (.done (RM (dn a b (out.push z++b.extract (c+1) (c+1+k)) d (c+1+k)),out.push z++b.extract (c+1) (c+1+k),d,c+1+k,mg,e,k))else PM a b mg e k d (out.push z++b.extract (c+1) (c+1+k)) (c+1+k)else PM a b mg e k d (out.push z) (c+1)|_=>pure (.done (RM (dn a b (out.push z) d (c+1)),out.push z,d,c+1,mg,e,f))
noncomputable def OH(a b:Array Sz)(c:C7)(mg:Nat):SM (ForInStep C7):=do
 aN mg;let y<-UJ b c.2.2.2.1;match<-cL RT y a c.2.2.1 (a.size-c.2.2.1) 0 with
 |some k=>
  if k>0 then
   if(c.2.2.1+k+1==a.size)=RQ then pure (.done (RM (lst a b (c.2.1++a.extract c.2.2.1 (c.2.2.1+k)) (c.2.2.1+k) c.2.2.2.1),c.2.1++a.extract c.2.2.1 (c.2.2.1+k),c.2.2.1+k,c.2.2.2.1,mg,k,c.2.2.2.2.2.2))else if(c.2.2.1+k==a.size)=RQ then pure (.done (RM (dn a b (c.2.1++a.extract c.2.2.1 (c.2.2.1+k)) (c.2.2.1+k) c.2.2.2.1),c.2.1++a.extract c.2.2.1 (c.2.2.1+k),c.2.2.1+k,c.2.2.2.1,mg,k,c.2.2.2.2.2.2))else OG a b mg k c.2.2.2.2.2.2 c.2.2.2.1 (c.2.1++a.extract c.2.2.1 (c.2.2.1+k)) (c.2.2.1+k)else OG a b mg k c.2.2.2.2.2.2 c.2.2.2.1 c.2.1 c.2.2.1|_=>pure (.done (RM (dn a b c.2.1 c.2.2.1 c.2.2.2.1),c.2.1,c.2.2.1,c.2.2.2.1,mg,c.2.2.2.2.2.1,c.2.2.2.2.2.2))
noncomputable def PN(a b:Array Sz)(c:C5):SM (ForInStep C5):=do
 let d<-forIn [0:a.size+b.size] ((RP,c.2.1,c.2.2.1,c.2.2.2.1,0,0):C6) λ_ d=>lo1 a b c.2.2.2.2 d;match d.1 with
 |some r=>pure (.done (RM r,d.2.1,d.2.2.1,d.2.2.2.1,c.2.2.2.2))|none=>do
  liftM (YQ "list.sort.gallop")let e<-forIn [0:a.size+b.size] ((RP,d.2.1,d.2.2.1,d.2.2.2.1,c.2.2.2.2+1,d.2.2.2.2.1,d.2.2.2.2.2):C7) λ_ e=>if e.2.2.2.2.1>1 then OH a b e (e.2.2.2.2.1-1)else OH a b e e.2.2.2.2.1;match e.1 with
  |some r=>pure (.done (RM r,e.2.1,e.2.2.1,e.2.2.2.1,e.2.2.2.2.1))|none=>do
   aN (e.2.2.2.2.1+1)pure (.yield (RP,e.2.1,e.2.2.1,e.2.2.2.1,e.2.2.2.2.1+1))
def zI(a b:Array Sz):jR a b=(do
 liftM (YQ "list.sort.merge-lo")let x<-UJ b 0;if(1==b.size)=RQ then pure (dn a b #[x] 0 1)else if(0+1==a.size)=RQ then pure (lst a b #[x] 0 1)else do
  let st<-get;let c<-forIn [0:a.size+b.size] ((RP,#[x],0,1,gallopOf st):C5) λ_ c=>PN a b c;match c.1 with
  |some r=>pure r|none=>liftM (Ym "internal:list.sort.merge-bound":XH (Array Sz))):=by
 rw[tO];dsimp only;refine Ξ0 _ (funext λ_=>?_);refine Ξ0 _ (funext λx=>?_);refine Ξ0 _ ?_;refine Ξ0 _ ?_;refine Ξ0 _ (funext λst=>?_);refine congr (Ξ0 _ ?_) (funext λc=>by obtain⟨e,c⟩:=c;cases e<;>rfl);refine Ξ0 _ (funext λ_=>funext λc=>?_);unfold PN;refine congr (Ξ0 _ rfl) (funext λd=>?_);obtain⟨f,d⟩:=d;cases f with
 |some r=>rfl|none=>
  dsimp only;refine Ξ0 _ (funext λ_=>?_);refine congr (Ξ0 _ ?_) (funext λc=>by obtain⟨e,c⟩:=c;cases e<;>rfl);refine Ξ0 _ (funext λ_=>funext λc=>?_);unfold OH;refine congr (Ξ0 _ ?_) ?_;all_goals
   refine Ξ0 _ (funext λ_=>?_);refine Ξ0 _ (funext λy=>?_);refine Ξ0 _ (funext λk=>?_);cases k with
   |none=>rfl|some k=>
    dsimp only;unfold OG;refine congr (Ξ0 _ ?_) ?_
    .refine Ξ0 _ ?_;refine Ξ0 _ ?_;refine Ξ0 _ (funext λy=>?_);refine Ξ0 _ ?_;refine Ξ0 _ (funext λy=>?_);refine Ξ0 _ (funext λk=>?_);cases k<;>rfl
    .refine Ξ0 _ (funext λy=>?_);refine Ξ0 _ ?_;refine Ξ0 _ (funext λy=>?_);refine Ξ0 _ (funext λk=>?_);cases k<;>rfl
structure Go(κ:UA)(a₀:Array Sz)(st:SK)(a b:Array Sz)(o0:Nat)(r:Option (Array Sz))(out:Array Sz)(ia ib:Nat)(st':SK):Prop where
 g:Gs κ a₀ st st'
 n:r=RP
 l:Lo a b out ia ib
 a1:ia+1<a.size
 b1:ib<b.size
 o:o0<out.size
inductive Fi(κ:UA)(a₀:Array Sz)(st:SK)(a b:Array Sz)(o0:Nat)(out:Array Sz)(ia ib:Nat)(st':SK):Option (Array Sz)->Prop where|ret{z:Array Sz}(g:Gs κ a₀ st st')(p:z.Perm (a++b)):Fi κ a₀ st a b o0 out ia ib st' (RM z)|go(h:Go κ a₀ st a b o0 RP out ia ib st'):Fi κ a₀ st a b o0 out ia ib st' RP
section
variable{st:SK}
noncomputable abbrev Q7(κ:UA)(a₀:Array Sz)(st:SK)(a b:Array Sz)(e:Nat):ForInStep C7->SK->Prop:=λr d=>match r with
 |.done c=>Fi κ a₀ st a b e c.2.1 c.2.2.1 c.2.2.2.1 d c.1|.yield c=>Go κ a₀ st a b e c.1 c.2.1 c.2.2.1 c.2.2.2.1 d
def xN(t:∀x∈a,x∈a₀)(h:Go κ a₀ st a b f RP out d i c):Zq (Sb prog w) A E s (PM a b mg m k d out i) (Q7 κ a₀ st a b f) c:=by
 refine R8 (aD (by have:=h.a1;omega) λv r ev=>?_);have j:=h.l.pV ev;have q:(out.push v).size=out.size+1:=U9 ..;have p:=h.o;have n:=h.a1;by_cases e:(d+1+1==a.size)=RQ
 .rw[Ξ2 e];exact Si (.ret h.g j.last)
 rw[Ξ3 e];have g:Go κ a₀ st a b f RP (out.push v) (d+1) i c:=⟨h.g,rfl,j,'0',h.b1,'0'⟩;split;.exact Si (.go g)
 .exact Si g
def xO(C:Cm prog w A s κ a₀)(n:∀x∈a,x∈a₀)(m:∀x∈b,x∈a₀)(h:Go κ a₀ st a b p RP out r e c):Zq (Sb prog w) A E s (OG a b mg y u e out r) (Q7 κ a₀ st a b p) c:=by
 refine R8 (aD h.b1 λv F ev=>?_);have j:=h.l.pX ev;have D:(out.push v).size=out.size+1:=U9 ..;have B:=h.o;have z:=h.b1;by_cases i:(e+1==b.size)=RQ
 .rw[Ξ2 i];exact Si (.ret h.g j.done)
 rw[Ξ3 i];refine R8 (aD (by have:=h.a1;omega) λx t ex=>?_);refine R8 (du C h.g.b.k m (n x t) '0' '0' λk G=>?_);show Zq _ _ _ _ (if k>0 then _ else _) _ _;by_cases d:k>0
 .rw[Ξ2 d];have q:=j.JT (k:=k) '0';by_cases f:(e+1+k==b.size)=RQ
  .rw[Ξ2 f];exact Si (.ret h.g q.done)
  .rw[Ξ3 f];exact xN n ⟨h.g,rfl,q,h.a1,'0',by rw[W4];omega⟩
 .rw[Ξ3 d];exact xN n ⟨h.g,rfl,j,h.a1,'0','0'⟩
def xP(C:Cm prog w A s κ a₀)(n:∀x∈a,x∈a₀)(d:∀x∈b,x∈a₀)(h:Go κ a₀ st a b p c.1 c.2.1 c.2.2.1 c.2.2.2.1 e):Zq (Sb prog w) A E s (OH a b c mg) (Q7 κ a₀ st a b p) e:=by
 obtain⟨I,out,q,G,B,K,J⟩:=c;obtain⟨v,u,o,t,i,r⟩:=h;dsimp only at v u o t i r;refine R8 (lS v λz g=>?_);refine R8 (aD i λy D H=>?_);refine R8 (du C g.b.k n (d y D) (by dsimp only;omega) (by dsimp only;omega) λk F=>?_);dsimp only at F⊢;by_cases f:k>0
 .rw[Ξ2 f];have m:=o.JS (k:=k) '0';by_cases l:(q+k+1==a.size)=RQ
  .rw[Ξ2 l];exact Si (.ret g m.last)
  rw[Ξ3 l];by_cases j:(q+k==a.size)=RQ
  .rw[Ξ2 j];exact Si (.ret g m.done)
  rw[Ξ3 j];exact xO C n d ⟨g,rfl,m,'0',i,by rw[W4];omega⟩
 .rw[Ξ3 f];exact xO C n d ⟨g,rfl,o,t,i,r⟩
def Fw(C:Cm prog w A s κ a₀)(G:∀x∈a,x∈a₀)(o:∀x∈b,x∈a₀)(h:Go κ a₀ st a b m c.1 c.2.1 c.2.2.1 c.2.2.2.1 d)(J:t<=m):Zq (Sb prog w) A E s (lo1 a b mg c) (λr d=>match r with
  |.done f=>Fi κ a₀ st a b (t+1) f.2.1 f.2.2.1 f.2.2.2.1 d f.1|.yield f=>Go κ a₀ st a b (m+1) f.1 f.2.1 f.2.2.1 f.2.2.2.1 d) d:=by
 obtain⟨L,out,D,B,N,M⟩:=c;obtain⟨g,u,q,p,j,H⟩:=h;dsimp only at g u q p j H;subst u;refine R8 (aD j λy n l=>?_);refine R8 (aD (by dsimp only;omega) λz F K=>?_);refine R8 (nA C g.b.k (o y n) (G z F) λI=>?_);cases I with
 |true=>
  dsimp only;rw[Ξ2 rfl];refine R8 (aD j λy n l=>?_);have i:=q.pX l;have v:(out.push y).size=out.size+1:=U9 ..;by_cases e:(B+1==b.size)=RQ
  .rw[Ξ2 e];exact Si (.ret g i.done)
  .rw[Ξ3 e];have e:=aY e;split;.exact Si (.go ⟨g,rfl,i,p,by dsimp only;omega,by dsimp only;omega⟩)
   .exact Si ⟨g,rfl,i,p,by dsimp only;omega,by dsimp only;omega⟩|false=>
  dsimp only;rw[Ξ3 '1'];refine R8 (aD '0' λy n l=>?_);have i:=q.pV l;have v:(out.push y).size=out.size+1:=U9 ..;by_cases e:(D+1+1==a.size)=RQ
  .rw[Ξ2 e];exact Si (.ret g i.last)
  .rw[Ξ3 e];have e:=aY e;split;.exact Si (.go ⟨g,rfl,i,by dsimp only;omega,j,by dsimp only;omega⟩)
   .exact Si ⟨g,rfl,i,by dsimp only;omega,j,by dsimp only;omega⟩
def Fy(C:Cm prog w A s κ a₀)(I:∀x∈a,x∈a₀)(k:∀x∈b,x∈a₀)(h:Go κ a₀ st a b i c.1 c.2.1 c.2.2.1 c.2.2.2.1 u):Zq (Sb prog w) A E s (PN a b c) (λr e=>match r with
  |.done n=>∃z,n.1=RM z/\z.Perm (a++b)/\Gs κ a₀ st e|.yield n=>Go κ a₀ st a b (i+1) n.1 n.2.1 n.2.2.1 n.2.2.2.1 e) u:=by
 refine R8 (aU (λj(d:C6)e=>Go κ a₀ st a b (i+j) d.1 d.2.1 d.2.2.1 d.2.2.2.1 e) (λd e=>Fi κ a₀ st a b (i+1) d.2.1 d.2.2.1 d.2.2.2.1 e d.1) ⟨h.g,rfl,h.l,h.a1,h.b1,h.o⟩ ?_ ?_ ?_)
 .rintro j d t _ O g;exact Xu (Fw C I k g (We _ _)) λr e h=>by cases r<;>exact h
 .rintro⟨J,out,H,G,L,K⟩t g;obtain⟨D,B,m,y,v,F⟩:=g;dsimp only at D B m y v F;subst B;have:=m.size;exact .go ⟨D,rfl,m,y,v,by dsimp only;omega⟩
 .rintro⟨J,out,H,G,L,K⟩t f;dsimp only at f⊢;cases f with
  |ret g p=>exact Si ⟨_,rfl,p,g⟩|go g=>
   refine R8 (eJ ?_);refine R8 (aU (λj(d:C7)e=>Go κ a₀ st a b (i+1) d.1 d.2.1 d.2.2.1 d.2.2.2.1 e) (λd e=>Fi κ a₀ st a b (i+1) d.2.1 d.2.2.1 d.2.2.2.1 e d.1) g ?_ ?_ ?_)
   .rintro j d q _ _ g;split;.exact Xu (xP C I k g) λr e h=>by cases r<;>exact h
    .exact Xu (xP C I k g) λr e h=>by cases r<;>exact h
   .rintro⟨J,out,H,G,mg,L,K⟩q g;obtain⟨D,B,m,y,v,F⟩:=g;dsimp only at D B m y v F;subst B;exact .go ⟨D,rfl,m,y,v,F⟩
   .rintro⟨J,out,H,G,mg,L,K⟩q f;dsimp only at f⊢;cases f with
    |ret g p=>exact Si ⟨_,rfl,p,g⟩|go g=>exact R8 (lS g.g λM N=>Si ⟨N,rfl,g.l,g.a1,g.b1,g.o⟩)
def tS(C:Cm prog w A s κ a₀)(h:Bs κ a₀ st)(B:∀x∈a,x∈a₀)(m:∀x∈b,x∈a₀)(ha:0<a.size)(hb:0<b.size)(q:∀r d,r.Perm (a++b)->Gs κ a₀ st d->Q r d):Zq (Sb prog w) A E s (jR a b) Q st:=by
 rw[zI];refine R8 (eJ ?_);refine R8 (aD hb λx F ex=>?_);have k:Lo a b #[x] 0 1:=by
  have l:Lo a b #[] 0 0:=⟨by simp,SH _,SH _⟩;exact l.pX ex
 have n:Gs κ a₀ st st:=⟨h,rfl,rfl⟩;by_cases j:(1==b.size)=RQ
 .rw[Ξ2 j];exact Si (q _ _ k.done n)
 rw[Ξ3 j];by_cases f:(0+1==a.size)=RQ
 .rw[Ξ2 f];exact Si (q _ _ k.last n)
 rw[Ξ3 f];have j:=aY j;have f:=aY f;refine R8 (W0 ?_);refine R8 (aU (λi(c:C5)d=>Go κ a₀ st a b i c.1 c.2.1 c.2.2.1 c.2.2.2.1 d) (λc d=>∃z,c.1=RM z/\z.Perm (a++b)/\Gs κ a₀ st d) ⟨n,rfl,k,by dsimp only;omega,by dsimp only;omega,by show 0<1;omega⟩ ?_ ?_ ?_)
 .rintro i c u _ _ g;exact Xu (Fy C B m g) λr d h=>by cases r<;>exact h
 .rintro⟨D,out,y,v,mg⟩e g;have:=g.l.size;have:=g.o;have:=g.a1;have:=g.b1;dsimp only at*;omega
 .rintro⟨D,out,y,v,mg⟩e⟨z,t,p,g⟩;dsimp only at t⊢;subst t;exact Si (q z e p g)
end
end
end SrtP
end
section
namespace SrtP
open PySem PyProof.Rows
section
variable{κ:UA}
noncomputable def jS:Array Sz->Array Sz->StateT SK XH (Array Sz):=sortPriv%PySem.Builtin.mergeHi
def tT(a b:Array Sz):jS a b=(do
 YQ "list.sort.merge-hi"let i:=a.size+b.size;let done(out:Array Sz)(e d:Nat):=a.extract 0 e++b.extract 0 d++out.reverse;let f(out:Array Sz)(e d:Nat):=b.extract 0 d++a.extract 0 e++out.reverse;let mut e:=a.size-1;let mut d:=b.size;let mut out:Array Sz:=#[<-UJ a e]if e==0 then return done out e d
 if d==1 then return f out e d
 let mut c:=gallopOf (<-get)for _ in[0:i]do
  let mut h:=0;let mut g:=0;for _ in[0:i]do
   let RM j<-lt' (<-UJ b (d-1)) (<-UJ a (e-1))|return done out e d
   if j then
    e:=e-1;out:=out.push (<-UJ a e);h:=h+1;g:=0;if e==0 then return done out e d
    if h>=c then break
   else
    d:=d-1;out:=out.push (<-UJ b d);g:=g+1;h:=0;if d==1 then return f out e d
    if g>=c then break
  YQ "list.sort.gallop"c:=c+1;for _ in[0:i]do
   if c>1 then c:=c-1
   aN c
   let RM at_<-cL RT (<-UJ b (d-1)) a 0 e (e-1)|return done out e d
   let k:=e-at_;h:=k;if k>0 then
    out:=out++(a.extract at_ e).reverse;e:=at_;if e==0 then return done out e d
   d:=d-1;out:=out.push (<-UJ b d)if d==1 then return f out e d
   let RM at_<-cL RQ (<-UJ a (e-1)) b 0 d (d-1)|return done out e d
   let k:=d-at_;g:=k;if k>0 then
    out:=out++(b.extract at_ d).reverse;d:=at_;if d==1 then return f out e d
    if d==0 then return done out e d
   e:=e-1;out:=out.push (<-UJ a e)if e==0 then return done out e d
   if h<7&&g<7 then break
  c:=c+1;aN c
 Ym "internal:list.sort.merge-bound"):=rfl
structure Hi(a b out:Array Sz)(na nb:Nat):Prop where
 p:(a.toList.take na++b.toList.take nb++out.toList).Perm (a.toList++b.toList)ha:na<=a.size
 hb:nb<=b.size
section
def Hi.size(h:Hi a b out na nb):na+nb+out.size=a.size+b.size:=by
 have:=h.p.length_eq;have d:=h.ha;have c:=h.hb;simp only[SR,Wa,SN]at this;omega
noncomputable def xQ(a b out:Array Sz)(na nb:Nat):Array Sz:=a.extract 0 na++b.extract 0 nb++out.reverse
noncomputable def Lw(a b out:Array Sz)(na nb:Nat):Array Sz:=b.extract 0 nb++a.extract 0 na++out.reverse
def Hj(xs:Array Sz)(n):(xs.extract 0 n).toList=xs.toList.take n:=by
 rw[Vq,UR];rfl
def Hi.done(h:Hi a b out na nb):(xQ a b out na nb).Perm (a++b):=by
 unfold xQ;rw[UK];simp only[TU,Hj,V9];exact(Tt _ (W5 _)).trans h.p
def Hi.first(h:Hi a b out na nb):(Lw a b out na nb).Perm (a++b):=by
 unfold Lw;rw[UK];simp only[TU,Hj,V9];exact(List.Perm.append Vk (W5 _)).trans h.p
def tU{xs:Array Sz}(e:xs[i]?=RM x):xs.toList.take (i+1)=xs.toList.take i++[x]:=by
 obtain⟨c,e⟩:=Ψ3.mp e;rw[List.take_succ_eq_append_getElem (by simpa using c)];simp[e]
theorem fG(xs:Array Sz)(h:i<=n):xs.toList.take n=xs.toList.take i++(xs.extract i n).toList:=by
 rw[Vq,UR];obtain⟨k,rfl⟩:∃k,n=i+k:=⟨n-i,'0'⟩;rw[YH,<-List.take_add]
def Hi.pV(h:Hi a b out na nb)(c:1<=na)(e:a[na-1]?=RM x):Hi a b (out.push x) (na-1) nb:=by
 refine⟨?_,by have:=h.ha;omega,h.hb⟩;refine Uw ?_ h.p;have:=tU e;rw[show na-1+1=na by omega]at this;rw[this,Uo];simp only[Ta];refine Tt _ ?_;rw[<-Ta];exact Vk
def Hi.pX(h:Hi a b out na nb)(c:1<=nb)(e:b[nb-1]?=RM x):Hi a b (out.push x) na (nb-1):=by
 refine⟨?_,h.ha,by have:=h.hb;omega⟩;refine Uw ?_ h.p;have:=tU e;rw[show nb-1+1=nb by omega]at this;rw[this,Uo];simp only[Ta];refine Tt _ (Tt _ ?_);exact Vk
def Hi.JS(h:Hi a b out na nb)(c:k<=na):Hi a b (out++(a.extract k na).reverse) k nb:=by
 refine⟨?_,by have:=h.ha;omega,h.hb⟩;refine Uw ?_ h.p;rw[fG a c,TU,V9];simp only[Ta];refine Tt _ ?_;rw[<-Ta];exact List.perm_append_comm.trans (VM _ (W5 _))
def Hi.JT(h:Hi a b out na nb)(c:k<=nb):Hi a b (out++(b.extract k nb).reverse) na k:=by
 refine⟨?_,h.ha,by have:=h.hb;omega⟩;refine Uw ?_ h.p;rw[fG b c,TU,V9];simp only[Ta];refine Tt _ (Tt _ ?_);exact List.perm_append_comm.trans (VM _ (W5 _))
end
abbrev D6:=Option (Array Sz)×Nat×Nat×Array Sz×Nat×Nat
abbrev D7:=Option (Array Sz)×Nat×Nat×Array Sz×Nat×Nat×Nat
abbrev D5:=Option (Array Sz)×Nat×Nat×Array Sz×Nat
noncomputable def Ab(a b:Array Sz)(mg:Nat)(c:D6):SM (ForInStep D6):=do
 let y<-UJ b (c.2.2.1-1)let x<-UJ a (c.2.1-1)match<-lt' y x with
 |some d=>
  if d=RQ then do
   let z<-UJ a (c.2.1-1)if(c.2.1-1==0)=RQ then pure (.done (RM (xQ a b (c.2.2.2.1.push z) (c.2.1-1) c.2.2.1),c.2.1-1,c.2.2.1,c.2.2.2.1.push z,c.2.2.2.2.1+1,0))else if c.2.2.2.2.1+1>=mg then pure (.done (RP,c.2.1-1,c.2.2.1,c.2.2.2.1.push z,c.2.2.2.2.1+1,0))else pure (.yield (RP,c.2.1-1,c.2.2.1,c.2.2.2.1.push z,c.2.2.2.2.1+1,0))else do
   let z<-UJ b (c.2.2.1-1)if(c.2.2.1-1==1)=RQ then pure (.done (RM (Lw a b (c.2.2.2.1.push z) c.2.1 (c.2.2.1-1)),c.2.1,c.2.2.1-1,c.2.2.2.1.push z,0,c.2.2.2.2.2+1))else if c.2.2.2.2.2+1>=mg then pure (.done (RP,c.2.1,c.2.2.1-1,c.2.2.2.1.push z,0,c.2.2.2.2.2+1))else pure (.yield (RP,c.2.1,c.2.2.1-1,c.2.2.2.1.push z,0,c.2.2.2.2.2+1))|_=>pure (.done (RM (xQ a b c.2.2.2.1 c.2.1 c.2.2.1),c.2))
noncomputable def PQ(a b:Array Sz)(mg f e c:Nat)(out:Array Sz)(d:Nat):SM (ForInStep D7):=do
 let z<-UJ a (c-1)if(c-1==0)=RQ then pure (.done (RM (xQ a b (out.push z) (c-1) d),c-1,d,out.push z,mg,f,e))else if(decide (f<7)&&decide (e<7))=RQ then pure (.done (RP,c-1,d,out.push z,mg,f,e))else pure (.yield (RP,c-1,d,out.push z,mg,f,e))
noncomputable def OI(a b:Array Sz)(mg e f c:Nat)(out:Array Sz)(d:Nat):SM (ForInStep D7):=do
 let z<-UJ b (c-1)if(c-1==1)=RQ then pure (.done (RM (Lw a b (out.push z) d (c-1)),d,c-1,out.push z,mg,e,f))else do
  let x<-UJ a (d-1)match<-cL RQ x b 0 (c-1) (c-1-1)with
  |some p=>
   if c-1-p>0 then
    if(p==1)=RQ then pure (.done (RM (Lw a b (out.push z++(b.extract p (c-1)).reverse) d p),d,p,out.push z++(b.extract p (c-1)).reverse,mg,e,c-1-p))else if(p==0)=RQ then pure (.done (RM (xQ a b (out.push z++(b.extract p (c-1)).reverse) d p),d,p,out.push z++(b.extract p (c-1)).reverse,mg,e,c-1-p))else PQ a b mg e (c-1-p) d (out.push z++(b.extract p (c-1)).reverse) p;else PQ a b mg e (c-1-p) d (out.push z) (c-1)|_=>pure (.done (RM (xQ a b (out.push z) d (c-1)),d,c-1,out.push z,mg,e,f))
noncomputable def sx(a b:Array Sz)(c:D7)(mg:Nat):SM (ForInStep D7):=do
 aN mg;let y<-UJ b (c.2.2.1-1)match<-cL RT y a 0 c.2.1 (c.2.1-1)with
 |some p=>
  if c.2.1-p>0 then
   if(p==0)=RQ then pure (.done (RM (xQ a b (c.2.2.2.1++(a.extract p c.2.1).reverse) p c.2.2.1),p,c.2.2.1,c.2.2.2.1++(a.extract p c.2.1).reverse,mg,c.2.1-p,c.2.2.2.2.2.2))else OI a b mg (c.2.1-p) c.2.2.2.2.2.2 c.2.2.1 (c.2.2.2.1++(a.extract p c.2.1).reverse) p;else OI a b mg (c.2.1-p) c.2.2.2.2.2.2 c.2.2.1 c.2.2.2.1 c.2.1|_=>pure (.done (RM (xQ a b c.2.2.2.1 c.2.1 c.2.2.1),c.2.1,c.2.2.1,c.2.2.2.1,mg,c.2.2.2.2.2.1,c.2.2.2.2.2.2))
noncomputable def PR(a b:Array Sz)(c:D5):SM (ForInStep D5):=do
 let d<-forIn [0:a.size+b.size] ((RP,c.2.1,c.2.2.1,c.2.2.2.1,0,0):D6) λ_ d=>Ab a b c.2.2.2.2 d;match d.1 with
 |some r=>pure (.done (RM r,d.2.1,d.2.2.1,d.2.2.2.1,c.2.2.2.2))|none=>do
  liftM (YQ "list.sort.gallop")let e<-forIn [0:a.size+b.size] ((RP,d.2.1,d.2.2.1,d.2.2.2.1,c.2.2.2.2+1,d.2.2.2.2.1,d.2.2.2.2.2):D7) λ_ e=>if e.2.2.2.2.1>1 then sx a b e (e.2.2.2.2.1-1)else sx a b e e.2.2.2.2.1;match e.1 with
  |some r=>pure (.done (RM r,e.2.1,e.2.2.1,e.2.2.2.1,e.2.2.2.2.1))|none=>do
   aN (e.2.2.2.2.1+1)pure (.yield (RP,e.2.1,e.2.2.1,e.2.2.2.1,e.2.2.2.2.1+1))
def zJ(a b:Array Sz):jS a b=(do
 liftM (YQ "list.sort.merge-hi")let x<-UJ a (a.size-1)if(a.size-1==0)=RQ then pure (xQ a b #[x] (a.size-1) b.size)else if(b.size==1)=RQ then pure (Lw a b #[x] (a.size-1) b.size)else do
  let st<-get;let c<-forIn [0:a.size+b.size] ((RP,a.size-1,b.size,#[x],gallopOf st):D5) λ_ c=>PR a b c;match c.1 with
  |some r=>pure r|none=>liftM (Ym "internal:list.sort.merge-bound":XH (Array Sz))):=by
 rw[tT];dsimp only;refine Ξ0 _ (funext λ_=>?_);refine Ξ0 _ (funext λx=>?_);refine Ξ0 _ ?_;refine Ξ0 _ ?_;refine Ξ0 _ (funext λst=>?_);refine congr (Ξ0 _ ?_) (funext λc=>by obtain⟨e,c⟩:=c;cases e<;>rfl);refine Ξ0 _ (funext λ_=>funext λc=>?_);unfold PR;refine congr (Ξ0 _ rfl) (funext λd=>?_);obtain⟨f,d⟩:=d;cases f with
 |some r=>rfl|none=>
  dsimp only;refine Ξ0 _ (funext λ_=>?_);refine congr (Ξ0 _ ?_) (funext λc=>by obtain⟨e,c⟩:=c;cases e<;>rfl);refine Ξ0 _ (funext λ_=>funext λc=>?_);unfold sx;refine congr (Ξ0 _ ?_) ?_;all_goals
   refine Ξ0 _ (funext λ_=>?_);refine Ξ0 _ (funext λy=>?_);refine Ξ0 _ (funext λk=>?_);cases k with
   |none=>rfl|some k=>
    dsimp only;unfold OI;refine congr (Ξ0 _ ?_) ?_
    .refine Ξ0 _ ?_;refine Ξ0 _ (funext λy=>?_);refine Ξ0 _ ?_;refine Ξ0 _ (funext λy=>?_);refine Ξ0 _ (funext λk=>?_);cases k<;>rfl
    .refine Ξ0 _ (funext λy=>?_);refine Ξ0 _ ?_;refine Ξ0 _ (funext λy=>?_);refine Ξ0 _ (funext λk=>?_);cases k<;>rfl
structure Ho(κ:UA)(a₀:Array Sz)(st:SK)(a b:Array Sz)(o0:Nat)(r:Option (Array Sz))(out:Array Sz)(na nb:Nat)(st':SK):Prop where
 g:Gs κ a₀ st st'
 n:r=RP
 l:Hi a b out na nb
 a1:1<=na
 b1:2<=nb
 o:o0<out.size
inductive Hf(κ:UA)(a₀:Array Sz)(st:SK)(a b:Array Sz)(o0:Nat)(out:Array Sz)(na nb:Nat)(st':SK):Option (Array Sz)->Prop where|ret{z:Array Sz}(g:Gs κ a₀ st st')(p:z.Perm (a++b)):Hf κ a₀ st a b o0 out na nb st' (RM z)|go(h:Ho κ a₀ st a b o0 RP out na nb st'):Hf κ a₀ st a b o0 out na nb st' RP
section
variable{st:SK}
noncomputable abbrev R7(κ:UA)(a₀:Array Sz)(st:SK)(a b:Array Sz)(e:Nat):ForInStep D7->SK->Prop:=λr d=>match r with
 |.done c=>Hf κ a₀ st a b e c.2.2.2.1 c.2.1 c.2.2.1 d c.1|.yield c=>Ho κ a₀ st a b e c.1 c.2.2.2.1 c.2.1 c.2.2.1 d
def xR(u:∀x∈a,x∈a₀)(h:Ho κ a₀ st a b f RP out d i c):Zq (Sb prog w) A E s (PQ a b mg n m d out i) (R7 κ a₀ st a b f) c:=by
 have k:=h.a1;have p:=h.l.ha;refine R8 (aD '0' λv t ev=>?_);have j:=h.l.pV k ev;have r:(out.push v).size=out.size+1:=U9 ..;have q:=h.o;by_cases e:(d-1==0)=RQ
 .rw[Ξ2 e];exact Si (.ret h.g j.done)
 rw[Ξ3 e];have g:Ho κ a₀ st a b f RP (out.push v) (d-1) i c:=⟨h.g,rfl,j,'0',h.b1,'0'⟩;split;.exact Si (.go g)
 .exact Si g
def xS(C:Cm prog w A s κ a₀)(q:∀x∈a,x∈a₀)(p:∀x∈b,x∈a₀)(h:Ho κ a₀ st a b r RP out t d c):Zq (Sb prog w) A E s (OI a b mg B z d out t) (R7 κ a₀ st a b r) c:=by
 have G:=h.b1;have F:=h.l.hb;have D:=h.a1;have u:=h.l.ha;refine R8 (aD '0' λv J ev=>?_);have n:=h.l.pX '0' ev;have I:(out.push v).size=out.size+1:=U9 ..;have H:=h.o;by_cases j:(d-1==1)=RQ
 .rw[Ξ2 j];exact Si (.ret h.g n.first)
 rw[Ξ3 j];refine R8 (aD '0' λx y ex=>?_);refine R8 (du C h.g.b.k p (q x y) '0' '0' λk K=>?_);show Zq _ _ _ _ (if d-1-k>0 then _ else _) _ _;by_cases e:d-1-k>0
 .rw[Ξ2 e];have m:=n.JT '0';by_cases i:(k==1)=RQ
  .rw[Ξ2 i];exact Si (.ret h.g m.first)
  .rw[Ξ3 i];by_cases f:(k==0)=RQ
   .rw[Ξ2 f];exact Si (.ret h.g m.done)
   .rw[Ξ3 f];exact xR q ⟨h.g,rfl,m,h.a1,'0',by rw[W4];omega⟩
 .rw[Ξ3 e];exact xR q ⟨h.g,rfl,n,h.a1,'0','0'⟩
def xT(C:Cm prog w A s κ a₀)(l:∀x∈a,x∈a₀)(d:∀x∈b,x∈a₀)(h:Ho κ a₀ st a b n c.1 c.2.2.2.1 c.2.1 c.2.2.1 e):Zq (Sb prog w) A E s (sx a b c mg) (R7 κ a₀ st a b n) e:=by
 obtain⟨J,o,H,out,z,L,K⟩:=c;obtain⟨u,t,g,r,m,q⟩:=h;dsimp only at u t g r m q;have G:=g.ha;have F:=g.hb;refine R8 (lS u λv j=>?_);refine R8 (aD (by dsimp only;omega) λy B I=>?_);refine R8 (du C j.b.k l (d y B) (by dsimp only;omega) (by dsimp only;omega) λk D=>?_);dsimp only at D⊢;by_cases f:o-k>0
 .rw[Ξ2 f];have p:=g.JS '0';by_cases i:(k==0)=RQ
  .rw[Ξ2 i];exact Si (.ret j p.done)
  rw[Ξ3 i];exact xS C l d ⟨j,rfl,p,'0',m,by rw[W4];omega⟩
 .rw[Ξ3 f];exact xS C l d ⟨j,rfl,g,r,m,q⟩
def Fz(C:Cm prog w A s κ a₀)(G:∀x∈a,x∈a₀)(p:∀x∈b,x∈a₀)(h:Ho κ a₀ st a b n c.1 c.2.2.2.1 c.2.1 c.2.2.1 d)(L:t<=n):Zq (Sb prog w) A E s (Ab a b mg c) (λr d=>match r with
  |.done f=>Hf κ a₀ st a b (t+1) f.2.2.2.1 f.2.1 f.2.2.1 d f.1|.yield f=>Ho κ a₀ st a b (n+1) f.1 f.2.2.2.1 f.2.1 f.2.2.1 d) d:=by
 obtain⟨N,D,B,out,P,O⟩:=c;obtain⟨g,u,j,l,q,H⟩:=h;dsimp only at g u j l q H;subst u;have K:=j.ha;have J:=j.hb;refine R8 (aD (by dsimp only;omega) λy o m=>?_);refine R8 (aD (by dsimp only;omega) λz F M=>?_);refine R8 (nA C g.b.k (p y o) (G z F) λI=>?_);cases I with
 |true=>
  dsimp only;rw[Ξ2 rfl];refine R8 (aD '0' λy o m=>?_);have i:=j.pV l m;have v:(out.push y).size=out.size+1:=U9 ..;by_cases e:(D-1==0)=RQ
  .rw[Ξ2 e];exact Si (.ret g i.done)
  .rw[Ξ3 e];have e:=aY e;split;.exact Si (.go ⟨g,rfl,i,by dsimp only;omega,q,by dsimp only;omega⟩)
   .exact Si ⟨g,rfl,i,by dsimp only;omega,q,by dsimp only;omega⟩|false=>
  dsimp only;rw[Ξ3 '1'];refine R8 (aD '0' λy o m=>?_);have i:=j.pX '0' m;have v:(out.push y).size=out.size+1:=U9 ..;by_cases e:(B-1==1)=RQ
  .rw[Ξ2 e];exact Si (.ret g i.first)
  .rw[Ξ3 e];have e:=aY e;split;.exact Si (.go ⟨g,rfl,i,l,by dsimp only;omega,by dsimp only;omega⟩)
   .exact Si ⟨g,rfl,i,l,by dsimp only;omega,by dsimp only;omega⟩
def FA(C:Cm prog w A s κ a₀)(I:∀x∈a,x∈a₀)(k:∀x∈b,x∈a₀)(h:Ho κ a₀ st a b i c.1 c.2.2.2.1 c.2.1 c.2.2.1 u):Zq (Sb prog w) A E s (PR a b c) (λr e=>match r with
  |.done n=>∃z,n.1=RM z/\z.Perm (a++b)/\Gs κ a₀ st e|.yield n=>Ho κ a₀ st a b (i+1) n.1 n.2.2.2.1 n.2.1 n.2.2.1 e) u:=by
 refine R8 (aU (λj(d:D6)e=>Ho κ a₀ st a b (i+j) d.1 d.2.2.2.1 d.2.1 d.2.2.1 e) (λd e=>Hf κ a₀ st a b (i+1) d.2.2.2.1 d.2.1 d.2.2.1 e d.1) ⟨h.g,rfl,h.l,h.a1,h.b1,h.o⟩ ?_ ?_ ?_)
 .rintro j d t _ O g;exact Xu (Fz C I k g (We _ _)) λr e h=>by cases r<;>exact h
 .rintro⟨J,H,G,out,L,K⟩t g;obtain⟨D,B,m,y,v,F⟩:=g;dsimp only at D B m y v F;subst B;have:=m.size;exact .go ⟨D,rfl,m,y,v,by dsimp only;omega⟩
 .rintro⟨J,H,G,out,L,K⟩t f;dsimp only at f⊢;cases f with
  |ret g p=>exact Si ⟨_,rfl,p,g⟩|go g=>
   refine R8 (eJ ?_);refine R8 (aU (λj(d:D7)e=>Ho κ a₀ st a b (i+1) d.1 d.2.2.2.1 d.2.1 d.2.2.1 e) (λd e=>Hf κ a₀ st a b (i+1) d.2.2.2.1 d.2.1 d.2.2.1 e d.1) g ?_ ?_ ?_)
   .rintro j d q _ _ g;split;.exact Xu (xT C I k g) λr e h=>by cases r<;>exact h
    .exact Xu (xT C I k g) λr e h=>by cases r<;>exact h
   .rintro⟨J,H,G,out,mg,L,K⟩q g;obtain⟨D,B,m,y,v,F⟩:=g;dsimp only at D B m y v F;subst B;exact .go ⟨D,rfl,m,y,v,F⟩
   .rintro⟨J,H,G,out,mg,L,K⟩q f;dsimp only at f⊢;cases f with
    |ret g p=>exact Si ⟨_,rfl,p,g⟩|go g=>exact R8 (lS g.g λM N=>Si ⟨N,rfl,g.l,g.a1,g.b1,g.o⟩)
def tV(C:Cm prog w A s κ a₀)(h:Bs κ a₀ st)(B:∀x∈a,x∈a₀)(m:∀x∈b,x∈a₀)(ha:0<a.size)(hb:0<b.size)(q:∀r d,r.Perm (a++b)->Gs κ a₀ st d->Q r d):Zq (Sb prog w) A E s (jS a b) Q st:=by
 rw[zJ];refine R8 (eJ ?_);refine R8 (aD '0' λx F ex=>?_);have k:Hi a b #[x] (a.size-1) b.size:=by
  have l:Hi a b #[] a.size b.size:=⟨by simp[VF],R5 _,R5 _⟩;exact l.pV ha ex
 have n:Gs κ a₀ st st:=⟨h,rfl,rfl⟩;by_cases j:(a.size-1==0)=RQ
 .rw[Ξ2 j];exact Si (q _ _ k.done n)
 rw[Ξ3 j];by_cases f:(b.size==1)=RQ
 .rw[Ξ2 f];exact Si (q _ _ k.first n)
 rw[Ξ3 f];refine R8 (W0 ?_);refine R8 (aU (λi(c)d=>Ho κ a₀ st a b i c.1 c.2.2.2.1 c.2.1 c.2.2.1 d) (λc d=>∃z,c.1=RM z/\z.Perm (a++b)/\Gs κ a₀ st d) ⟨n,rfl,k,by dsimp only;omega,by dsimp only;omega,by show 0<1;omega⟩ ?_ ?_ ?_)
 .rintro i c u _ _ g;exact Xu (FA C B m g) λr d h=>by cases r<;>exact h
 .rintro⟨D,y,v,out,mg⟩e g;have:=g.l.size;have:=g.o;dsimp only at*;omega
 .rintro⟨D,y,v,out,mg⟩e⟨z,t,p,g⟩;subst t;exact Si (q z e p g)
end
end
end SrtP
end
section
namespace SrtP
open PySem PyProof.Rows
inductive Runs:Nat->List (Nat×Nat×Nat)->Nat->Prop where|nil(s:Nat):Runs s [] s|cons{s n p e:Nat}{r:List (Nat×Nat×Nat)}(h:1<=n)(t:Runs (s+n) r e):Runs s ((s,n,p)::r) e
def Runs.le(h:Runs s l e):s<=e:=by induction h with
 |nil=>exact R5 _|cons _ _ a=>omega
def Runs.snoc(h:Runs s l e)(b:1<=n):Runs s (l++[(e,n,p)]) (e+n):=by induction h with
 |nil s=>exact .cons b (.nil _)|cons h t a=>exact .cons h a
def Runs.mod(pw)(h:Runs s l e):Runs s (l.modify i λx=>(x.1,x.2.1,pw)) e:=by induction h generalizing i with
 |nil s=>cases i<;>exact .nil s|cons h t a=>cases i with
  |zero=>exact .cons h t|succ i=>exact .cons h a
theorem Runs.two:∀{i:Nat}{l:List (Nat×Nat×Nat)},Runs s l e->i+1<l.length->∃sa a p b q,l[i]?=RM (sa,a,p)/\l[i+1]?=RM (sa+a,b,q)/\1<=a/\1<=b/\sa+a+b<=e/\Runs s ((l.set i (sa,a+b,p)).eraseIdx (i+1)) e
 |i,[],h,c=>by simp at c|0,[_],h,c=>by simp at c|0,_::_::_,.cons (n:=n) (p:=p) d (.cons (n:=m) (p:=q) f t),c=>⟨_,n,p,m,q,rfl,rfl,d,f,t.le,.cons '0' (by rw[<-Wo];exact t)⟩|i+1,_::_,.cons d t,c=>by
  obtain⟨sa,a,p,b,q,u,r,o,k,j,g⟩:=t.two (i:=i) (by simpa using c);exact⟨sa,a,p,b,q,by simpa using u,by simpa using r,o,k,j,.cons d g⟩
theorem tW:∀(m pre c b:List Sz)(k:Nat),c.length=m.length->∀(xs:Array Sz),xs.toList=pre++c++b->k<=pre.length->((m.zipIdx k).foldl (λa(x:Sz×Nat)=>a.setIfInBounds (pre.length-k+x.2) x.1) xs).toList=pre++m++b
 |[],pre,c,b,k,h,xs,e,_=>by cases c with
  |nil=>exact e|cons _ _=>simp at h
 |y::m,pre,[],b,k,h,xs,e,_=>by simp at h|y::m,pre,z::c,b,k,h,xs,e,g=>by
  simp only[List.zipIdx_cons,List.foldl_cons];have f:(xs.setIfInBounds (pre.length-k+k) y).toList=(pre++[y])++c++b:=by
   rw[show pre.length-k+k=pre.length by omega+splitNatSub,X8,e];simp
  have:=tW m (pre++[y]) c b (k+1) (by simpa using h) _ f (by simp;omega+splitNatSub);have d:(pre++[y]).length-(k+1)=pre.length-k:=by simp
  rw[d]at this;rw[this];simp
section
def tX(i:Nat):mergeAt' i=(do
 let s<-get
 let(RM (sa,d,b),RM (sb,c,_)):=((Sv s)[i]?,(Sv s)[i+1]?)|unsupported "internal:list.sort.pending"
 set (setPending s (((Sv s).setIfInBounds i (sa,d+c,b)).eraseIdxIfInBounds (i+1)))
 let RM k<-cL RT (<-UJ (UZ s) sb) (UZ s) sa d 0|return RT
 let(sa,d):=(sa+k,d-k)if d==0 then return RQ
 let RM c<-cL RQ (<-UJ (UZ s) (sa+d-1)) (UZ s) sb c (c-1)|return RT
 if c==0 then return RQ
 let x:=(UZ s).extract sa sb;let y:=(UZ s).extract sb (sb+c)let merged<-if d<=c then jR x y else jS x y
 modify λs=>setArr s (merged.toList.zipIdx.foldl (λa(p,j)=>a.setIfInBounds (sa+j) p) (UZ s))return(YB (<-get)).isNone):=rfl
def xU{xs:Array Sz}(h:z∈xs.extract i j):z∈xs:=by
 rw[<-V4,Vq,UR]at h;exact Array.mem_toList_iff.mp (ZH (ZG h))
def FC{st a}(h:Q ⟨⟩ a):Zq (Sb prog w) A E s (set a:StateT SK XH PUnit) Q st:=by
 unfold Zq;rw[StateT.run_set];exact RS ⟨rfl,h⟩
def gO(C:Cm prog w A s κ a₀){st}{i lo}(h:Bs κ a₀ st)(N:Runs 0 (Sv st).toList lo)(U:lo<=a₀.size)(J:i+1<(Sv st).size)(q:∀t,Bs κ a₀ t->Runs 0 (Sv t).toList lo->Q RQ t):Zq (Sb prog w) A E s (mergeAt' i) Q st:=by
 obtain⟨sa,d,p,G,L,T,S,Y,X,W,R⟩:=N.two (by simpa using J);rw[tX];refine R8 (W0 ?_);rw[show(Sv st)[i]?=RM (sa,d,p)by rw[<-T7];exact T,show(Sv st)[i+1]?=RM (sa+d,G,L)by rw[<-T7];exact S];refine R8 (FC ?_);have M:=h.size;generalize l:setPending st (((Sv st).setIfInBounds i (sa,d+G,p)).eraseIdxIfInBounds (i+1))=st1;have b1:Bs κ a₀ st1:=by subst l;exact⟨h.k,h.p,h.f⟩
 have F:Runs 0 (Sv st1).toList lo:=by
  subst l;show Runs 0 (((Sv st).setIfInBounds i (sa,d+G,p)).eraseIdxIfInBounds (i+1)).toList lo;rw[Array.eraseIdxIfInBounds_eq,dif_pos (by rw[Array.size_setIfInBounds];exact J),Array.toList_eraseIdx,X8];exact R
 have a1:UZ st1=UZ st:=by subst l;rfl
 refine R8 (aD '0' λx B _=>?_);refine R8 (du C b1.k (λy o=>h.mem o) (h.mem B) '0' '0' λk V=>?_);dsimp only;by_cases D:(d-k==0)=RQ
 .rw[Ξ2 D];exact Si (q st1 b1 F)
 rw[Ξ3 D];refine R8 (aD '0' λy o _=>?_);refine R8 (du C b1.k (λy o=>h.mem o) (h.mem o) '0' '0' λm O=>?_);dsimp only;by_cases n:(m==0)=RQ
 .rw[Ξ2 n];exact Si (q st1 b1 F)
 rw[Ξ3 n];have B:0<((UZ st).extract (sa+k) (sa+d)).size:=by rw[aaj];omega
 have o:0<((UZ st).extract (sa+d) (sa+d+m)).size:=by rw[aaj];omega
 have mx:∀z∈(UZ st).extract (sa+k) (sa+d),z∈a₀:=λz H=>h.mem (xU H);have I:∀z∈(UZ st).extract (sa+d) (sa+d+m),z∈a₀:=λz H=>h.mem (xU H);have v:∀(r:Array Sz)(c),r.Perm ((UZ st).extract (sa+k) (sa+d)++(UZ st).extract (sa+d) (sa+d+m))->Gs κ a₀ st1 c->Zq (Sb prog w) A E s (do
   modify λs=>setArr s (r.toList.zipIdx.foldl (λa(x:Sz×Nat)=>match x with|(p,j)=>a.setIfInBounds (sa+k+j) p) (UZ s))let __do_lift<-get;pure (YB __do_lift).isNone) Q c:=λr c u g=>by
  refine R8 (VL ?_);refine R8 (W0 ?_);have P:=by
   show(YB c).isNone=RQ;rw[g.b.f];rfl
  rw[P];refine Si (q _ ⟨g.b.k,?_,g.b.f⟩ ?_)
  .show(r.toList.zipIdx.foldl (λa(x:Sz×Nat)=>match x with|(p,j)=>a.setIfInBounds (sa+k+j) p) (UZ c)).Perm a₀;rw[g.e,a1];refine Array.Perm.trans ?_ h.p;rw[UK];have K:=tW r.toList ((UZ st).toList.take (sa+k)) (((UZ st).extract (sa+k) (sa+d)++(UZ st).extract (sa+d) (sa+d+m)).toList) ((UZ st).toList.drop (sa+d+m)) 0 (by rw[SN,SN];exact u.size_eq.symm) (UZ st) ?_ (SH _)
   .rw[show((UZ st).toList.take (sa+k)).length-0=sa+k by simp;omega]at K;refine Uw (WB K) ?_;refine Uw (VM _ (Tt _ u.toList)) (WB ?_);rw[TU,<-Ta,<-fG _ '0',<-fG _ '0',Ur]
   .rw[TU,<-Ta,<-fG _ '0',<-fG _ '0',Ur]
  .show Runs 0 (Sv c).toList lo;rw[g.p];exact F
 split;.exact R8 (tS C b1 mx I B o λr c u g=>v r c u g)
 .exact R8 (tV C b1 mx I B o λr c u g=>v r c u g)
end
end SrtP
end
section
namespace SrtP
open PySem PyProof.Rows
section
theorem nB:∀(f n r:Nat),1<=n->1<=minRun' f n r
 |0,n,r,h=>by show 1<=n+r;omega|f+1,n,r,h=>by
  rw[minRun'_succ];split;.omega
  .exact nB f _ _ '0'
def JU(c)[Decidable c]{n}(h:2<=n):(if c then n-2-1 else n-2)+1<n:=by split<;>omega+splitNatSub
def BW(C:Cm prog w A s κ a₀){st:SK}(h:Bs κ a₀ st)(j:Sv st=#[])(q:∀a,Bs κ a₀ a->Q () a):Zq (Sb prog w) A E s sortRuns' Q st:=by
 rw[sortRuns'_eq];refine R8 (W0 ?_);have G:=h.size;dsimp only;rw[G];refine R8 (aU (λ_(c:Option Unit×Nat)a=>c.1=RP/\Bs κ a₀ a/\Runs 0 (Sv a).toList c.2/\c.2<=a₀.size) (λc a=>c.1=RP/\Bs κ a₀ a/\∃lo,Runs 0 (Sv a).toList lo/\lo<=a₀.size) ⟨rfl,h,by rw[j];exact .nil _,SH _⟩ ?_ (λc a z=>⟨z.1,z.2.1,_,z.2.2⟩) ?_)
 .rintro i⟨V,lo⟩F _ _⟨v,b1,t,o⟩;dsimp only at v t o⊢;subst v;by_cases K:lo>=a₀.size
  .rw[Ξ2 K];exact Si ⟨rfl,b1,lo,t,o⟩
  .rw[Ξ3 K];refine R8 (zH C b1 '0' '0' λn b u U d P=>?_);have e:Runs 0 (Sv b).toList lo:=by rw[P];exact t
   dsimp only;have H:=nB a₀.size a₀.size 0 '0';generalize minRun' a₀.size a₀.size 0=D at H⊢;by_cases J:n<D
   .rw[Ξ2 J];refine R8 (eJ ?_);have hN:1<=min (a₀.size-lo) D:='0'
    have B:lo+min (a₀.size-lo) D<=a₀.size:='0'
    generalize min (a₀.size-lo) D=m at hN B⊢;refine R8 (Fv C d B λg l O=>?_);have r:Runs 0 (Sv g).toList lo:=by rw[O];exact e
    simp only[Tv,Sg,if_false];refine R8 (W0 ?_);cases I:(Sv g).back? with
    |none=>
     dsimp only;refine R8 (VL (Si ⟨rfl,⟨l.k,l.p,l.f⟩,?_,by dsimp only;omega⟩));show Runs 0 ((Sv g).push (lo,m,0)).toList (lo+m);rw[Uo];exact r.snoc hN|some x=>
     obtain⟨N,n1,R⟩:=x;dsimp only;refine R8 (aU (λ_ c a=>c=(RP,())/\Bs κ a₀ a/\Runs 0 (Sv a).toList lo) (λc a=>c=(RP,())/\Bs κ a₀ a/\Runs 0 (Sv a).toList lo) ⟨rfl,l,r⟩ ?_ (λ_ _ z=>z) ?_)
     .rintro i c b _ _⟨rfl,d,e⟩;refine R8 (W0 ?_);by_cases j:(Sv b).size>1
      .rw[Ξ2 j];cases T:(Sv b)[(Sv b).size-2]? with
       |none=>exact Si ⟨rfl,d,e⟩|some y=>
        obtain⟨y1,M,L⟩:=y;dsimp only;split;.exact Si ⟨rfl,d,e⟩
        .refine R8 (gO C d e '0' '0' λg l r=>?_);exact Si ⟨rfl,l,r⟩
      .rw[Ξ3 j];exact Si ⟨rfl,d,e⟩
     .rintro c b⟨rfl,d,e⟩;dsimp only;refine R8 (VL (R8 (VL (Si ⟨rfl,⟨d.k,d.p,d.f⟩,?_,by dsimp only;omega⟩))));show Runs 0 (((Sv b).modify ((Sv b).size-1) _).push (lo,m,0)).toList (lo+m);rw[Uo,Z0];exact(e.mod _).snoc hN
   .rw[Ξ3 J];refine R8 (W0 ?_);cases I:(Sv b).back? with
    |none=>
     dsimp only;refine R8 (VL (Si ⟨rfl,⟨d.k,d.p,d.f⟩,?_,by dsimp only;omega⟩));show Runs 0 ((Sv b).push (lo,n,0)).toList (lo+n);rw[Uo];exact e.snoc u|some x=>
     obtain⟨N,n1,R⟩:=x;dsimp only;refine R8 (aU (λ_ c a=>c=(RP,())/\Bs κ a₀ a/\Runs 0 (Sv a).toList lo) (λc a=>c=(RP,())/\Bs κ a₀ a/\Runs 0 (Sv a).toList lo) ⟨rfl,d,e⟩ ?_ (λ_ _ z=>z) ?_)
     .rintro i c b _ _⟨rfl,d,e⟩;refine R8 (W0 ?_);by_cases j:(Sv b).size>1
      .rw[Ξ2 j];cases T:(Sv b)[(Sv b).size-2]? with
       |none=>exact Si ⟨rfl,d,e⟩|some y=>
        obtain⟨y1,M,L⟩:=y;dsimp only;split;.exact Si ⟨rfl,d,e⟩
        .refine R8 (gO C d e '0' '0' λg l r=>?_);exact Si ⟨rfl,l,r⟩
      .rw[Ξ3 j];exact Si ⟨rfl,d,e⟩
     .rintro c b⟨rfl,d,e⟩;dsimp only;refine R8 (VL (R8 (VL (Si ⟨rfl,⟨d.k,d.p,d.f⟩,?_,by dsimp only;omega⟩))));show Runs 0 (((Sv b).modify ((Sv b).size-1) _).push (lo,n,0)).toList (lo+n);rw[Uo,Z0];exact(e.mod _).snoc u
 .rintro⟨V,S⟩F⟨v,b1,lo,t,o⟩;dsimp only at v⊢;subst v;refine R8 (aU (λ_ c a=>c=(RP,())/\Bs κ a₀ a/\Runs 0 (Sv a).toList lo) (λc a=>c=(RP,())/\Bs κ a₀ a/\Runs 0 (Sv a).toList lo) ⟨rfl,b1,t⟩ ?_ (λ_ _ z=>z) ?_)
  .rintro i c b _ _⟨rfl,d,e⟩;refine R8 (W0 ?_);by_cases j:(Sv b).size<=1
   .rw[Ξ2 j];exact Si ⟨rfl,d,e⟩
   .rw[Ξ3 j];refine R8 (gO C d e o (JU _ '0') λg l r=>?_);exact Si ⟨rfl,l,r⟩
  .rintro c b⟨rfl,d,e⟩;exact Si (q b d)
end
end SrtP
end
section
namespace SrtP
open PySem PySem.W PyProof.Rows L2
def Kept(a:RW)(h h':SJ):Prop:=∀b o,b≠a->h.get? b=RM o->h'.get? b=RM o
noncomputable abbrev eG(h h':SJ):Prop:=∀b o,h.get? b=RM o->h'.get? b=RM o
section
variable{prog:Sf}{w:Sx}{A:SF}{E:RR->RU->Prop}{s:RU}
def tY(vs:List RR):(vs.toArray.zip vs.toArray).toList=vs.map λv=>(v,v):=by
 rw[Array.toList_zip];induction vs with
 |nil=>rfl|cons v r a=>simpa using a
def nE{D}(B:s.heap.get? a=RM (Uu "list" vs.toArray n))(M:vs.length<=R1)(T:2<=vs.length->∀h',Kept a s.heap h'->(∀N:UA->RU->Prop,N D {s with heap:=h'}->wpAny (Sb prog w) A (keyKind' vs.toArray) N (λ_ _=>False) {s with heap:=h'})/\∀x∈vs,∀y∈vs,∀(Q)(E),(∀b,Q b {s with heap:=h'})->wpAny (Sb prog w) A (keyLt' D x y) Q E {s with heap:=h'})(h:∀(us:List RR)(h')(c),us.Perm vs->Kept a s.heap h'->h'.get? a=RM (Uu "list" us.toArray c)->P (.done (.ret .none)) {s with heap:=h'}):wpAny (Sb prog w) A (Builtin.«list.sort» ⟨[.ref a],[]⟩) P E s:=by
 have ha:a<s⁻¹:=Sa B;have O:=S_ s.heap a (TV λ_=>(#[]:Array RR));obtain⟨G,q⟩:∃G,(s.heap.update a (TV λ_=>(#[]:Array RR))).get? a=RM (Uu "list" #[] G):=⟨_,VQ B λ_=>#[]⟩;rw[list_sort_plain];refine RO (listItems_at B rfl ?_);refine RO (Wu B rfl ?_ (by rw[Se];exact M) (SH _));refine RO (Xp q rfl ?_);refine RO (wpAny_newTuple ?_ (by show vs.length<=_;exact M));refine RO (Yt ?_ (SH _));refine SS ?_;show wpAny (Sb prog w) A _ P E {s with heap:=((s.heap.update a (TV λ_=>(#[]:Array RR))).push (Uu "tuple" vs.toArray 0)).push (Uu "list" #[] 0)};generalize r:((s.heap.update a (TV λ_=>(#[]:Array RR))).push (Uu "tuple" vs.toArray 0)).push (Uu "list" #[] 0)=l;have I:Kept a s.heap l:=λb o hb e=>by
  rw[<-r];exact RY _ (RY _ ((O.2 b hb).trans e))
 have g:l.get? a=RM (Uu "list" #[] G):=by
  rw[<-r];exact RY _ (RY _ q)
 dsimp only;have z:∀(us),us.toList.Perm vs->∀k,(l.update a (TV λ_=>us)).get? a=RM (Uu "list" us k)->P (.done (.ret .none)) {s with heap:=l.update a (TV λ_=>us)}:=λus hu k U=>h us.toList _ k hu (λb o hb e=>((S_ l a _).2 b hb).trans (I b o hb e)) U;have fz:∀(us:Array RR),us.toList.Perm vs->us.size<=R1+1:=λus hu=>by have:=hu.length_eq;rw[SN]at this;omega
 have J:((vs.toArray.zip vs.toArray).map (·.2)).toList=vs:=by
  rw[Vx,tY,S7];exact List.map_id _
 by_cases t:vs.toArray.size<2
 .rw[Ξ2 t,Ξ2 t];refine RO (RS ?_);rw[StateT.run_pure];refine RO (RS ?_);dsimp only;have hu:((UZ (Y3 general' (vs.toArray.zip vs.toArray) #[] 7 RP)).map (·.2)).toList.Perm vs:=WB J;generalize(UZ (Y3 general' (vs.toArray.zip vs.toArray) #[] 7 RP)).map (·.2)=us at hu⊢;obtain⟨k,m⟩:∃k,(l.update a (TV λ_=>us)).get? a=RM (Uu "list" us k):=⟨_,VQ g λ_=>_⟩;refine RO (Xp g rfl ?_);refine RO (Wu g rfl ?_ (SH _) (fz us hu));simp only[bne_self_eq_false,Sg,if_false];exact RS (z us hu k m)
 .rw[Ξ3 t,Ξ3 t];have F:2<=vs.length:=by
   have:¬vs.length<2:=by simpa using t
   omega
  obtain⟨R,C⟩:=T F l I;refine RO (TM (R (λi H=>i=D/\H={s with heap:=l}) ⟨rfl,rfl⟩) (λi X V=>?_) λ_ _ x=>x.elim);obtain⟨rfl,rfl⟩:=V;have W:Cm prog w A {s with heap:=l} i (vs.toArray.zip vs.toArray):=λx L y K=>by
   rw[<-V4,tY]at L K;obtain⟨v,S,rfl⟩:=Ω3.mp L;obtain⟨u,hu,rfl⟩:=Ω3.mp K;exact C v S u hu
  refine RO (TM (BW (st:=Y3 i (vs.toArray.zip vs.toArray) #[] 7 RP) (Q:=λ_ j=>Bs i (vs.toArray.zip vs.toArray) j) W ⟨rfl,Array.Perm.refl _,rfl⟩ rfl λj b=>b) ?_ λ_ _ e=>e);rintro⟨⟨⟩,j⟩H⟨rfl,b⟩;dsimp only;have hu:((UZ j).map (·.2)).toList.Perm vs:=by
   rw[Vx];refine(b.p.toList.map _).trans (WB ?_);rw[<-Vx];exact J
  rw[b.f];generalize(UZ j).map (·.2)=us at hu⊢;obtain⟨k,m⟩:∃k,(l.update a (TV λ_=>us)).get? a=RM (Uu "list" us k):=⟨_,VQ g λ_=>_⟩;refine RO (Xp g rfl ?_);refine RO (Wu g rfl ?_ (SH _) (fz us hu));simp only[bne_self_eq_false,Sg,if_false];exact RS (z us hu k m)
structure BX(prog:Sf)(w:Sx)(A:SF)(vals:List RR)(κ:UA)(s:RU):Prop where
 kind:2<=vals.length->∀h',eG s.heap h'->∀Q':UA->RU->Prop,Q' κ {s with heap:=h'}->wpAny (Sb prog w) A (keyKind' vals.toArray) Q' (λ_ _=>False) {s with heap:=h'}cmp:2<=vals.length->∀h',eG s.heap h'->∀x∈vals,∀y∈vals,∀(Q:Bool->RU->Prop)(E:RR->RU->Prop),(∀b,Q b {s with heap:=h'})->wpAny (Sb prog w) A (keyLt' κ x y) Q E {s with heap:=h'}
def lg(h:wpAny (Sb prog w) A.in1 (aaD v) (λvals s1=>vals.length<=R1/\∃d,BX prog w A.in1.in1 vals d s1/\∀(us:List RR)(h')(c),us.Perm vals->eG s1.heap h'->h'.get? s1⁻¹=RM (Uu "list" us.toArray c)->Q (.ref s1⁻¹) {s1 with heap:=h'}) E s):wpAny (Sb prog w) A (call (.builtin "sorted") [v]) Q E s:=by
 refine Ya kind_sorted plain_sorted entry_sorted (args_sorted1 _) ?_;refine RO (RS ?_);refine RO (TM h (λvals s1 i=>?_) λ_ _ e=>e);obtain⟨f,d,K,q⟩:=i;refine RO (Yt ?_ f);have a:(s1.heap.push (Uu "list" vals.toArray 0)).get? s1⁻¹=RM (Uu "list" vals.toArray 0):=Sl _ rfl;have keep:∀h',Kept s1⁻¹ (s1.heap.push (Uu "list" vals.toArray 0)) h'->eG s1.heap h':=λh' k b o e=>k b o (SD (Sa e)) (RY _ e);refine RO (SS (Tq slot_list_sort ⟨_,a,rfl⟩ entry_list_sort ?body (args_list_sort _)));case body=>
  refine nE (s:={s1 with heap:=s1.heap.push (Uu "list" vals.toArray 0)}) a f (λg h' k=>⟨K.kind g h' (keep h' k),K.cmp g h' (keep h' k)⟩) λus h' c v k e=>⟨_,rfl,?_⟩;exact RS ⟨_,rfl,q us h' c v (keep h' k) e⟩
end
end SrtP
end
section
namespace SrtP
open PySem PySem.W PyProof.Rows L2
section
variable{A:SF}{s:RU}
def nF(h:SJ)(v:RR)(k:List Int):Prop:=∃a b,v=.ref a/\aao h a (Tz b)/\UQ b k
def TT(h:SJ)(v:RR):Prop:=∃k,k≠[]/\nF h v k
def NT(h:SJ)(v:RR):Prop:=∃a b,v=.ref a/\aao h a (Tz b)/\b≠[]/\∀u∈b,∃k,nF h u k
def nF.grown(t:nF h v k)(g:eG h h'):nF h' v k:=by
 obtain⟨a,b,e,⟨o,c,r⟩,d⟩:=t;exact⟨a,b,e,⟨o,g _ _ c,r⟩,d⟩
def TT.grown(t:TT h v)(g:eG h h'):TT h' v:=let⟨k,a,t⟩:=t;⟨k,a,t.grown g⟩
def NT.grown(t:NT h v)(g:eG h h'):NT h' v:=by
 obtain⟨a,b,e,⟨o,c,r⟩,d,f⟩:=t;exact⟨a,b,e,⟨o,g _ _ c,r⟩,d,λu hu=>let⟨k,z⟩:=f u hu;⟨k,z.grown g⟩⟩
theorem zK{M}(t:nF h v k):Looks M h (Zx v) (.type "tuple"):=λA Q E s g q=>by
 obtain⟨a,b,rfl,⟨o,c,d,n,hd⟩,e⟩:=t;exact XJ ⟨o,g _ _ c,d⟩ q
theorem tZ{M:W8}:∀{vals:List RR},(∀v∈vals,TT h v)->∃fs:List RR,KatTups h vals fs/\fs.length=vals.length/\∀v∈fs,Looks M h (Zx v) (.type "int")
 |[],_=>⟨[],trivial,rfl,λv b=>by cases b⟩|v::r,H=>by
  obtain⟨fs,p,m,l⟩:=tZ (M:=M) (vals:=r) λu hu=>H u (RZ _ hu);obtain⟨k,f,a,d,rfl,⟨o,e,j,n,hd⟩,g⟩:=H v RX;cases g with
  |nil=>exact Ξ1 rfl f|cons i c r=>
   refine⟨.int i c::fs,KatTups.cons e j hd '2' p,by simp[m],λv b=>?_⟩;rcases Ω2.mp b with z|z;.rw[z];exact SortM.kq i c
   .exact l v z
theorem t4{M:W8}:∀{vals:List RR},(∀v∈vals,NT h v)->∃fs:List RR,KatTups h vals fs/\fs.length=vals.length/\∀v∈fs,Looks M h (Zx v) (.type "tuple")
 |[],_=>⟨[],trivial,rfl,λv c=>by cases c⟩|v::r,H=>by
  obtain⟨fs,l,j,i⟩:=t4 (M:=M) (vals:=r) λu hu=>H u (RZ _ hu);obtain⟨a,b,rfl,⟨o,d,g,n,hd⟩,e,f⟩:=H v RX;cases b with
  |nil=>exact Ξ1 rfl e|cons u m=>
   refine⟨u::fs,KatTups.cons d g hd '2' l,by simp[j],λv c=>?_⟩;rcases Ω2.mp c with z|z
   .rw[z];obtain⟨k,t⟩:=f u RX;exact zK t
   .exact i v z
theorem zL{vals}(t:∀v∈vals,∃i a,v=.int i a):BX prog w A vals oneType' s where
 kind:=λb c g k q=>by
  refine kas_kind b (T:=.type "int") (λv f=>?_) '1' '1' q;obtain⟨i,a,rfl⟩:=t v f;exact SortM.kq i a
 cmp:=λb c g x e y d Q E q=>by
  obtain⟨i,a,rfl⟩:=t x e;obtain⟨j,h,rfl⟩:=t y d;rw[keyLt'_oneType];exact oneLt_int (q _)
theorem JV(t:∀v∈vals,TT s.heap v):BX prog w A vals (tuples' RQ) s where
 kind:=λB e g I q=>by
  obtain⟨fs,C,H,z⟩:=tZ λv p=>(t v p).grown g;exact kat_kind C '0' z '1' q
 cmp:=λB e g x m y l Q E q=>by
  obtain⟨k,_,a,j,rfl,⟨o,r,G,n,hd⟩,h⟩:=(t x m).grown g;obtain⟨F,_,b,i,rfl,⟨D,c,u,n2,d⟩,f⟩:=(t y l).grown g;refine kat_lt r hd c d (SortM.xb _ _ _ _ 0 h f ?_ (q _));rw[Se,Se,h.length,f.length,decide_eq_true_iff]
def items_int(h:UQ a k):ItemsAre (aw prog w) (k.map WJ) a:=by induction h with
 |nil=>exact .nil|cons i b _ c=>exact .cons (kT prog w i b) c
def nF.key(t:nF h v k):∃a,v=.ref a/\IsTupleKey (aw prog w) h (k.map WJ) a:=by
 obtain⟨a,b,e,⟨o,c,f,n,hd⟩,d⟩:=t;exact⟨a,e,o,_,n,c,f,hd,by simpa using items_int d⟩
theorem Hk{Q:Bool->RU->Prop}(hu:A.units<TL)(q:∀b,Q b s):∀(xs d:List RR)(i:Nat),(∀u∈xs,∃k,nF s.heap u k)->(∀u∈d,∃k,nF s.heap u k)->KatLex prog w A RT c Q (xs.zip d) i s
 |[],_,_,_,_=>q c|_::_,[],_,_,_=>q c|x::xs,y::d,i,h,g=>by
  obtain⟨k,f⟩:=h x RX;obtain⟨z,ty⟩:=g y RX;obtain⟨a,ea,n⟩:=f.key (prog:=prog) (w:=w);obtain⟨b,v,m⟩:=ty.key (prog:=prog) (w:=w);have go:∀e,KatGo prog w A RT c Q x y (xs.zip d) i e s:=λe=>by cases e with
   |true=>exact kat_yes (Hk hu q xs d (i+1) (λu hu=>h u (RZ _ hu)) λu hu=>g u (RZ _ hu))|false=>
    refine kat_no ?_;obtain⟨C,p,rfl,l,t⟩:=f;obtain⟨B,o,rfl,j,r⟩:=ty;exact kat_one _ _ (HT.vb l j (by simpa using t) (by simpa using r) hu (q _))
  subst ea v;exact X2 hu n m (go _)
theorem JW(hu:A.units<TL)(t:∀v∈vals,NT s.heap v):BX prog w A vals (tuples' RT) s where
 kind:=λB h g I q=>by
  obtain⟨fs,C,H,z⟩:=t4 λv k=>(t v k).grown g;exact kat_kind C '0' z '1' q
 cmp:=λB h g x j y i Q E q=>by
  obtain⟨a,d,rfl,⟨o,l,G,n,hd⟩,F,r⟩:=(t x j).grown g;obtain⟨b,c,rfl,⟨D,e,u,n2,f⟩,m,p⟩:=(t y i).grown g;exact kat_lt l hd e f (Hk hu q d c 0 r p)
end
end SrtP
end
section
namespace L2
open PySem PySem.Spec PyProof.Rows
section
variable{X:Cx}{F:Fx}
noncomputable def Hl:D->List D->M D
 |.aO ks a,[d,z]=>do M.need (kinds ks d/\ks.length=a.length);pure ((aP ks a d).getD z)|_,_=>M.fail
def FD(hu:X.A.units+2<TL)(hP:X.prog=F.P)(hw:X.w=F.w):PK X F "dict" "dict.get" tM Hl where
 ty:=(JP hu hP hw).ty;call:=λS s σ H k x xs v us d ds Q I rx rs l hK W i2 c q=>by match d,ds,q with
  |.aO ks L,[d,z],q=>
   obtain⟨⟨n,m⟩,q⟩:=q;have q:qE F.toFb H k Q ((aP ks L d).getD z) k:=q;simp only[Is]at W;obtain⟨a,ws,rfl,⟨o,t,M⟩,V⟩:=W;cases(show v=Sm a from rx);have E:=t.get I hK;obtain⟨w,N,rfl,iw,U⟩:=i2.two;obtain⟨u,O,rfl,R,j⟩:=vals2 rs;have Y:=jN M E;rcases n with⟨n,f,rfl⟩|⟨n,f,rfl⟩
   .obtain⟨g,i,T,ob,rfl,rfl⟩:=M.JE n;rw[<-hP,<-hw]at ob;have:=fx iw;subst this;refine Y6 Vj Y VJ (YI _ _ _) (meets_dict_get_default (aw X.prog X.w) a (gA R) t.2.1 O) ⟨_,(ob.at E).mapOf,?_⟩;cases h:aP (g.map λx=>kD x.1) L (kD f)with
    |some e=>
     obtain⟨y,K,J⟩:=xF V h;obtain⟨u',C,r⟩:=iQ.some_of (by rw[<-K];exact T.val f);rw[C];rw[h]at q;exact⟨y,H,I.tok _,r,q y H .refl J⟩|none=>
     have G:iq g f=RP:=by
      have:=gK (d:=kD f) m;rw[h,vH]at this;cases e:iq g f with
      |none=>rfl|some z=>rw[e]at this;cases this
     have:=iQ.none_of (by rw[<-G];exact T.val f);rw[this];rw[h]at q;exact⟨N,H,I.tok _,j,q _ H .refl U⟩
   .obtain⟨g,i,B,ob,tp,rfl,rfl⟩:=M.JF n;rw[<-hP,<-hw]at ob;obtain⟨b,rfl,Z⟩:=fv.of iw;cases(show u=Sm b from R);refine Y6 Vj Y VJ (YI _ _ _) (meetsH_dict_get_default (cf X.prog X.w) a b t.2.1 O) ⟨d_ hu,f,i,e_ I hK Z,ob.at E (fb I hK B tp),?_⟩;cases h:aP (g.map λx=>D.tup (x.1.map nD)) L (.tup (f.map nD))with
    |some e=>
     obtain⟨p,y,K,J,h3⟩:=xG B V h;rw[K];rw[h]at q;exact⟨y,H,I.tok _,J,q y H .refl h3⟩|none=>
     have G:aaG i f=RP:=by
      have:=gK (d:=.tup (f.map nD)) m;rw[h,zC B]at this;cases e:aaG i f with
      |none=>rfl|some z=>rw[e]at this;cases this
     rw[G];rw[h]at q;exact⟨N,H,I.tok _,j,q _ H .refl U⟩
noncomputable def FE:D->Bool
 |.tup []=>RT|.tup a=>a.all JC|_=>RT
noncomputable def MS:D->Bool
 |.tup a=>a.all JC|_=>RT
noncomputable def JX:D->Bool
 |.tup []=>RT|.tup a=>a.all MS|_=>RT
noncomputable def jT(ds:List D):Bool:=ds.all JC||ds.all FE||ds.all JX
noncomputable def lh:D->Option (List D)
 |.lst a=>RM a|.aO ks _=>RM ks|_=>RP
noncomputable def BY(d:D):M D:=do
 let a<-M.get (lh d)M.need (a.length<=R1/\jT a=RQ)let l<-M.any λl=>l.Perm a;pure (.lst l)
def xV(h:JC d=RQ):∃i,d=.int i:=by cases d<;>first|exact⟨_,rfl⟩|cases h
theorem xW:∀{ds:List D},ds.all JC=RQ->∃ns:List Int,ds=ns.map D.int
 |[],_=>⟨[],rfl⟩|d::ds,h=>by
  rw[UW,R4]at h;obtain⟨i,rfl⟩:=xV h.1;obtain⟨ns,rfl⟩:=xW h.2;exact⟨i::ns,rfl⟩
theorem eK:∀{vs:List V}{ns:List Int},ag B H vs (ns.map D.int)->vs=ns.map V.int
 |_,[],h=>by simp only[VD,ag]at h;rw[h];rfl|_,n::ns,h=>by
  simp only[Sr,ag,Is]at h;obtain⟨x,b,rfl,rfl,a⟩:=h;rw[eK a];rfl
section
variable{pins:List (RW×Tn)}{σ:St}{H:Hp}{s:RU}
def xX(I:Inv X pins σ H s)(hK:X.K=F.K)(r:RelV v u)(i:Is F.toFb H v (.tup xs))(h:xs.all JC=RQ):∃ns:List Int,xs=ns.map D.int/\SrtP.nF s.heap u ns:=by
 obtain⟨ns,rfl⟩:=xW h;simp only[Is]at i;obtain⟨a,g,rfl,c,e⟩:=i;cases(show u=Sm a from r);have:=eK e;subst this;obtain⟨b,d,f,_⟩:=I.tuple (show ki X.K H a _ by rw[hK];exact c.2);exact⟨ns,rfl,a,b,rfl,f,intsAre_of d⟩
def MT(I:Inv X pins σ H s)(hK:X.K=F.K)(r:RelV v u)(i:Is F.toFb H v d)(h:FE d=RQ):SrtP.TT s.heap u:=by match d,h,i with
 |.tup (x::a),h,i=>
  obtain⟨ns,e,t⟩:=xX I hK r i h;refine⟨ns,λz=>?_,t⟩;rw[z]at e;cases e
set_option tactic.hygienic true in
def MU(I:Inv X pins σ H s)(hK:X.K=F.K)(r:RelV v u)(i:Is F.toFb H v d)(h:JX d=RQ):SrtP.NT s.heap u:=by match d,h,i with
 |.tup (x::f),h,i=>
  simp only[Is]at i;obtain⟨a,A,rfl,l,b⟩:=i;cases(show u=Sm a from r);obtain⟨g,m,n,_⟩:=I.tuple (show ki X.K H a _ by rw[hK];exact l.2);refine⟨a,g,rfl,n,?_,?_⟩
  .intro z;subst z;cases m;simp[ag]at b
  .have h:(x::f).all MS=RQ:=h;clear n l r;rename_i k;clear k;generalize x::f=c at b h;induction m generalizing c with
   |nil=>intro u hu;cases hu|cons o B p=>
    intro u hu;cases c with
    |nil=>simp[ag]at b|cons d c=>
     simp only[ag]at b;obtain⟨y,w,e,j,q⟩:=b;cases e;rw[UW,R4]at h;rcases Ω2.mp hu with z|z
     .subst z;match d,h.1,j with
      |.tup f,hd,j=>
       obtain⟨ns,_,t⟩:=xX I hK o j hd;exact⟨ns,t⟩
     .exact p c q h.2 u z
theorem rk{P:RR->Prop}{f:D->Bool}(c:∀{v:V}{u:RR}{d:D},RelV v u->Is F.toFb H v d->f d=RQ->P u):∀{vs:List V}{us:List RR}{ds:List D},ax vs us->ag F.toFb H vs ds->ds.all f=RQ->∀u∈us,P u
 |_,_,[],b,a,_,u,hu=>by
  simp only[ag]at a;subst a;cases b;cases hu|_,_,d::ds,b,a,h,u,hu=>by
  simp only[ag]at a;obtain⟨x,k,rfl,j,i⟩:=a;rw[UW,R4]at h;cases b with|cons g e=>
   rcases Ω2.mp hu with z|z;.subst z;exact c g j h.1
   .exact rk c e i h.2 u z
def FG(I:Inv X pins σ H s)(hK:X.K=F.K){A:SF}(hu:A.units<TL)(a:ax vs us)(b:ag F.toFb H vs ds)(h:jT ds=RQ):∃c,SrtP.BX X.prog X.w A us c s:=by
 unfold jT at h;rw[Ue,Ue]at h;rcases h with(h|h)|h
 .refine⟨_,SrtP.zL (rk (P:=λu=>∃i e,u=.int i e) (λ{v u d}r i hd=>?_) a b h)⟩;obtain⟨f,rfl⟩:=xV hd;simp only[Is]at i;subst i;exact⟨f,r⟩
 .exact⟨_,SrtP.JV (rk (λr i hd=>MT I hK r i hd) a b h)⟩
 .exact⟨_,SrtP.JW hu (rk (λr i hd=>MU I hK r i hd) a b h)⟩
end
def Paired.MV{P:e->d->Prop}{f us}(p:us.Perm f):∀{xs},Paired P xs f->∃vs,vs.Perm xs/\Paired P vs us:=by induction p with
 |nil=>intro xs h;exact⟨xs,.refl _,h⟩|cons x p n=>
  intro xs h;cases h with|cons r t=>
   obtain⟨vs,g,c⟩:=n t;exact⟨_::vs,g.cons _,.cons r c⟩
 |swap x y l=>
  intro xs h;cases h with|cons r t=>cases t with|cons j i=>exact⟨_,.swap _ _ _,.cons j (r∘i)⟩
 |trans g q b a=>
  intro xs h;obtain⟨vs,m,c⟩:=a h;obtain⟨ws,k,o⟩:=b c;exact⟨ws,k.trans m,o⟩
def vN(p:vs.Perm xs):∀{ds},ag B H xs ds->∃c,c.Perm ds/\ag B H vs c:=by induction p with
 |nil=>intro ds h;exact⟨ds,.refl _,h⟩|cons x p s=>
  intro ds h;cases ds with
  |nil=>simp[ag]at h|cons d ds=>
   obtain⟨o,m,e,b,a⟩:=h;cases e;obtain⟨c,j,i⟩:=s a;exact⟨d::c,j.cons _,.cons b i⟩
 |swap x y l=>
  intro ds h;cases ds with
  |nil=>simp[ag]at h|cons d ds=>cases ds with
   |nil=>simp[ag]at h|cons u ds=>
    obtain⟨o,m,e,b,n,k,t,a,i⟩:=h;cases e;cases t;exact⟨u::d::ds,.swap _ _ _,.cons a (b∘i)⟩
 |trans j v g f=>
  intro ds h;obtain⟨c,r,b⟩:=f h;obtain⟨fs,q,a⟩:=g b;exact⟨fs,q.trans r,a⟩
def zM{σ:St}{R}(I:Inv X pins σ H s)(hs:dZ X.K H a vs)(h:∀(h')(g)(us),SrtP.eG s.heap h'->ax vs us->R us {s with heap:=h',toks:=g}):wpAny (Sb X.prog X.w) X.A.in1 (aaD (.ref a)) R X.xe s:=by
 obtain⟨d,f,i,j⟩:=I.list hs;have c:=f.length;refine collect_list i.isList ?_ (by simpa[c]using j);refine h _ s.toks d (λb o e=>?_) f;rw[Heap.get?_update_ne _ _ _ _ (SD (Sa e))];exact RY _ e
def zN(B:X.calm=RQ){σ:St}(I:Inv X pins σ H s)(hK:X.K=F.K)(r:RelV x u)(i:Is F.toFb H x d)(e:lh d=RM ds)(h:∀(h')(c)(vs)(us),SrtP.eG s.heap h'->ax vs us->ag F.toFb H vs ds->R us {s with heap:=h',toks:=c}):wpAny (Sb X.prog X.w) X.A.in1 (aaD u) R X.xe s:=by
 have hd:(∃l,d=.lst l)\/∃ks n,d=.aO ks n:=by cases d<;>first|exact .inl ⟨_,rfl⟩|exact .inr ⟨_,_,rfl⟩|cases e
 rcases hd with⟨l,rfl⟩|⟨ks,n,rfl⟩
 .cases e;obtain⟨a,vs,rfl,p,q⟩:=i;cases(show u=Sm a from r);exact zM I (by rw[hK];exact p.2.sq) λh' c us g j=>h h' c vs us g j q
 .cases e;simp only[Is]at i;obtain⟨a,vs,rfl,⟨o,m,k⟩,E⟩:=i;cases(show u=Sm a from r);obtain⟨f,C,G,v,hd,j,t⟩:=tH k;have y:=m.get I hK;obtain⟨_,_,_,b,z,_⟩:=BL k;rw[hd]at b;injection b with b _;subst b;exact DictIt.vn (show X.A.in1.handled=RP from I.ok.hd B) m.2.1 y v.1 hd (by rw[z];exact k.1) λh' c g=>h h' c f _ g j t
def BZ(T:X.calm=RQ)(hu:X.A.units+2<TL):aX X F (.builtin "sorted") (one BY)where
 call:=λb s C H k Y p ds Q I L l hK P N=>by
  obtain⟨d,rfl,q⟩:=cJ N;obtain⟨v,rfl,i⟩:=P.one;obtain⟨es,e,q⟩:=M.run_get.mp q;obtain⟨⟨w,R⟩,q⟩:=q;obtain⟨u,rfl,J⟩:=vals1 L;refine SrtP.lg (zN T I hK J i e λf h Z p g a m=>?_);have o:Inv X b C H {s with heap:=f,toks:=h}:=I.kept g;obtain⟨E,K⟩:=FG o hK (A:=X.A.in1.in1) (show X.A.units+1+1<TL from hu) a m R;have S:p.length<=R1:=by rw[<-a.length,m.length];exact w
  refine⟨S,E,K,λG U c O V B=>?_⟩;obtain⟨ws,pw,j⟩:=Paired.MV O a;obtain⟨n,pe,iw⟩:=vN pw m;have x:=o.aM.fresh (R5 _);have W:=o.newList (t:=h) V (R5 _) j (by rw[iw.length,pe.length_eq];exact w) B;exact⟨.ref f.objs.size,_,W.freeze aq B '3' (λ_ _ z=>nomatch z) '3' '3',rfl,by
   rw[bZ];exact q n pe _ _ (.new x) (dq (k:=k) l x iw)⟩
end
section
variable{A:SF}
def nG:XX (.type "list") "keys"=pure RP:=by rw[Zd,W_];kernel_rfl
def zO(q:s.heap.get? a=RM o)(t:o.cls=.type "list")(i:o.data=.seq xs k)(hd:o.dict=RP)(x:A.handled=RP)(h:∀h' l,(∀b o,s.heap.get? b=RM o->h'.get? b=RM o)->Q RP {s with heap:=h',toks:=l}):wpAny (Sb prog w) A (aaH (.ref a) "keys") Q E s:=by
 obtain⟨c,D,dat,v⟩:=o;simp only at t i hd;subst t i hd;obtain⟨m,g,d,l,os⟩:=s;have u:∀f,(⟨m,g,d,f,os⟩:RU).TypeIs (.ref a) "list":=λ_=>⟨_,q,rfl⟩;have L:=sub_AttributeError;have K:=F.slot_list_getattribute.lookup;have J:=F.slot_list_getattribute.bind (.ref a);have f5:=am_list_getattr_none;have n:wpAny (Sb prog w) A (aaH (.ref a) "keys") (λr p=>∃h' f,r=RP/\(∀b o,m.get? b=RM o->h'.get? b=RM o)/\p=⟨h',g,d,f,os⟩) E ⟨m,g,d,l,os⟩:=by
  unfold aaH getAttrBy? getAttrBy;repeat(any_goals(first|assumption|exact u _|((with_reducible show wpAny _ _ (call (Wq "list.__getattribute__") _ _) _ _ _);refine call_meets F.slot_list_getattribute (u _) am_entry_list_getattribute (F.args_list_getattribute_2 _ _) (meets_getattribute_miss_list a xs k v "keys" _ nG (by decide+kernel) (by size_fits)) ⟨q,x,λh' f e j=>?_⟩)|wp_step))
  obtain⟨H,G,I⟩:=j.there;show wpAny _ _ (getattributeRaised _ _ _ _ _ _ _) _ _ _;unfold getattributeRaised;repeat(any_goals(first|assumption|wp_step))
  exact⟨_,_,rfl,j.of.keeps,rfl⟩
 exact TM n (λr p⟨h',f,C,y,B⟩=>by subst C B;exact h h' f y) λ_ _ z=>z
def pY:entryFor table "dict.update.loop"=RM Builtin.«dict.update.loop»:=entryFor_of_tree (by kernel_rfl)
def pZ:plainId "dict.update.loop"=RQ:=by decide+kernel
end
noncomputable def aC(ks:List D)(d:D):Bool:=(ks.all BH&&BH d)||(ks.all qZ&&qZ d)
def dv(h:aC ks d=RQ):kinds ks d:=by
 unfold aC at h;rw[Ue,R4,R4]at h;rcases h with⟨b,a⟩|⟨b,a⟩;.exact .inl ⟨xE b,jM a⟩
 .exact .inr ⟨BK b,tF a⟩
noncomputable def eN:List D->List D×List D->Option (List D×List D)
 |[],a=>RM a|.tup [k,v]::r,a=>if aC a.1 k&&decide (a.1.length<R1)then eN r (putD a.1 a.2 k v)else RP|_,_=>RP
section
variable{F:Fx}{σ:St}
theorem p0(hc:X.calm=RQ)(hK:X.K=F.K)(hP:X.prog=F.P)(hw:X.w=F.w)(hA:A1.handled=RP)(hu:A1.units+2<TL)(hp:f≠F.p):∀(ps:List D)(i:Nat)(j:Int)(t:Y7)(ks ds:List D)(vs xs:List V)(o:Tn)(c:Hp)(s:RU),Inv X pins σ c s->c f=RM (iA f o)->bQ F.toFb c o ks vs->ag F.toFb c vs ds->LstAt F.toFb c a xs->ag F.toFb c (xs.drop i) ps->s.heap.IsListIter it a i->ij X pins c it->eN ps (ks,ds)=RM r->(∀o' h s',Inv X pins σ (upd c f (iA f o')) s'->bQ F.toFb (upd c f (iA f o')) o' r.1 h->ag F.toFb (upd c f (iA f o')) h r.2->R (.ok (.ret .none)) s')->codeAny (Sb X.prog X.w) A1 (.builtin "dict.update.loop" ⟨[.ref f,.ref it,.int j t,.none],[]⟩) R s
 |[],i,j,t,ks,ds,vs,xs,o,c,s,I,m,dd,ia,S,l,st,fp,e,q=>by
  refine Vn pY ?_;rw[Vp pZ _];unfold Builtin.«dict.update.loop»;dsimp only;obtain⟨G,rv,p,hz⟩:=I.list (show dZ X.K c a xs by rw[hK];exact S.2.sq);have hl:G.toArray[i]?=RP:=by
   have h1:=l.length;have h2:=rv.length;simp at h1⊢;omega
  refine RO (Zg hA st p.isList hl λL eb=>?_);obtain⟨y,Y,f2,W,U,f5⟩:=fp;have B:Inv X pins σ c {s with heap:=L}:=I.turned (t':=s.toks) (λb o hb e=>eb b o hb e) y Y W U f5;cases e;refine RO (RS (RS ?_));have:upd c f (iA f o)=c:=by
   funext b;by_cases hb:b=f;.rw[hb,aq,m]
   .rw[ar hb]
  exact q o vs _ (by rw[this];exact B) (by rw[this];exact dd) (by rw[this];exact ia)|d::ps,i,j,t,ks,ds,vs,xs,o,c,s,I,m,dd,ia,S,l,st,fp,e,q=>by match d,e,l with
  |.tup [k,v],e,l=>
   have e:(if aC ks k&&decide (ks.length<R1)then eN ps (putD ks ds k v)else RP)=RM r:=e;by_cases J:(aC ks k&&decide (ks.length<R1))=RQ
   .rw[Ξ2 J]at e;rw[R4,Φ]at J;refine Vn pY ?_;rw[Vp pZ _];unfold Builtin.«dict.update.loop»;dsimp only;obtain⟨G,rv,p,hz⟩:=I.list (show dZ X.K c a xs by rw[hK];exact S.2.sq);rw[show ag F.toFb c (xs.drop i) (.tup [k,v]::ps)=∃x O,xs.drop i=x::O/\Is F.toFb c x (.tup [k,v])/\ag F.toFb c O ps by simp only[ag]]at l;obtain⟨x,O,ex,l,ir⟩:=l;rw[show Is F.toFb c x (.tup [k,v])=∃a xs,x=.ref a/\TupAt F.toFb c a xs/\ag F.toFb c xs [k,v]by simp only[Is]]at l;obtain⟨Q,a7,rfl,tt,a0⟩:=l;obtain⟨x1,x2,rfl,i1,i2⟩:=a0.two;have hx:xs[i]?=RM (.ref Q):=by
     have:=Ξ0 List.head? ex;simpa[List.head?_drop]using this
    have a2:xs.drop (i+1)=O:=by
     have:=Ξ0 List.tail ex;simpa[List.tail_drop]using this
    obtain⟨u,a3,ru⟩:=rv.get hx;cases(show u=Sm Q from ru);refine RO (YR st p.isList (x:=.ref Q) (by simpa using a3) λL Z sb=>?_);obtain⟨y,Y,f2,W,U,f5⟩:=id fp;have B:Inv X pins σ c {s with heap:=L}:=I.turned (t':=s.toks) (λb o hb e=>(sb.2 b hb).trans e) y Y W U f5;obtain⟨a8,rj,⟨oj,ho,a5,n,hd⟩,_⟩:=B.tuple (show ki X.K c Q _ by rw[hK];exact tt.2);obtain⟨u1,u2,rfl,r1,r2⟩:=vals2 rj;dsimp only;refine RO (SS (RO (wpAny_tryCatch ?_)));unfold Builtin.Dict.pairItems;refine RO (XJ (T:="tuple") ⟨oj,ho,a5⟩ ?_);rw[Ξ2 '1'];refine RO (V3 ho hd (RS ?_));dsimp only[YD];have a4:L.get? f=RM o:=(B.aM f _ m).1;refine SS (xJ (F:=F) (A:=A1.in1) (show A1.units+1+1<TL from hu) B hK hP hw dd a4 ia i1 r1 i2 r2 (dv J.1) J.2 λh2 o2 tk E eo po=>?_);refine RS ⟨Vh _ (by decide+kernel),?_⟩;obtain⟨⟨h,d1,d2⟩,_⟩:=po;have kp:Kp F.toFb c 0 (upd c f (iA f o2)) 0:=Kp.own hp m rfl;have H:it≠f:=λz=>by rw[z,m]at y;cases y
    have I2:Inv X pins σ (upd c f (iA f o2)) {s with heap:=h2,toks:=tk}:=hU (s:={s with heap:=L}) B m E eo;refine p0 hc hK hP hw hA hu hp ps (i+1) _ _ (putD ks ds k v).1 (putD ks ds k v).2 h xs o2 _ _ I2 aq (d1.mono kp) (d2.mono kp) (S.mono kp) (by rw[a2];exact ir.mono kp) ?_ ⟨by rw[ar H];exact y,Y,f2,W,U,f5⟩ e λo' C s' I' N M=>?_
    .obtain⟨oi,z1,z2⟩:=Z;exact⟨oi,(E.2 it H).trans z1,z2⟩
    .rw[bZ]at I' N M;exact q o' C s' I' N M
   .rw[Ξ3 J]at e;cases e
noncomputable def JY:D->M D
 |.lst ps=>do let r<-M.get (eN ps ([],[]));pure (.aO r.1 r.2)|_=>M.fail
theorem B0(U:X.calm=RQ)(hu:X.A.units+4<TL)(hP:X.prog=F.P)(hw:X.w=F.w):aX X F (.type "dict") (one JY)where
 call:=λpins s σ H k xs us ds Q I rv l hK ia qa=>by
  obtain⟨d,rfl,q⟩:=cJ qa;obtain⟨v,rfl,i⟩:=ia.one;match d,q,i with
  |.lst ps,q,i=>
   obtain⟨r,e,q⟩:=M.run_get.mp q;obtain⟨u,rfl,rx⟩:=vals1 rv;obtain⟨a,E,rfl,J,iv⟩:=i;cases(show u=Sm a from rx);have R:=I.aM.fresh (R5 _);have j:=iV l R;have N:=Ξ.mpr (T8 (SD I.Eu));refine callType_codes (Q₁:=λobj h=>obj=.ref s⁻¹/\h={s with heap:=s.heap.push {cls:=.type "dict",data:=.dict #[]}}) PySem.F.kt_called_dict (PySem.F.kt_typeCall_dict_1 _) PySem.F.entry_dict_init (kt_code_dict_new _ ⟨rfl,rfl⟩) ?_;rintro obj h⟨rfl,rfl⟩;have x:(s.heap.push {cls:=.type "dict",data:=.dict #[]}).get? s⁻¹=RM d6:=Sl _ rfl;have I1:Inv X pins σ (upd H s⁻¹ (iA s⁻¹ d6)) {s with heap:=s.heap.push {cls:=.type "dict",data:=.dict #[]}}:=I.laid (λ_ _ q=>RY _ q) (R5 _) (rh x);have ex:Ext F.toFb H k (upd H s⁻¹ (iA s⁻¹ d6)) k:=.new R;have Z:Shared.TypeIs {s with heap:=s.heap.push {cls:=.type "dict",data:=.dict #[]}} (.ref s⁻¹) "dict":=⟨_,x,rfl⟩;refine⟨Z,PySem.F.args_dict_init_2 _ _,?_⟩;refine RO ?_;refine RO (Zj Z ?_);refine RS ?_;show wpAny _ _ (YJ "dict.__init__" s⁻¹ (.ref a) [] .none) _ _ _;obtain⟨L,a2,pl,hz⟩:=I1.list (show dZ X.K _ a E by rw[hK];exact(J.mono ex.kp).2.sq);obtain⟨o,Y,y,xQ,n,S⟩:∃o,(s.heap.push {cls:=.type "dict",data:=.dict #[]}).get? a=RM o/\o.cls=.type "list"/\o.dict=RP/\∃n,o.data=.seq L.toArray n:=by
    obtain⟨o,n,B,h3,h1,h4⟩:=pl;exact⟨o,B,h3,h1,n,h4⟩
   refine RO (XJ ⟨o,Y,y⟩ ?_);rw[Ξ2 '1'];refine RO (zO Y y S xQ (show X.A.in1.in1.handled=RP from I.ok.hd U) λB g g2=>?_);rw[Ξ2 (show(RP:Option RR).isNone=RQ from rfl)];refine RO (Xd ?_);have C:Inv X pins σ (upd H s⁻¹ (iA s⁻¹ d6)) {s with heap:=B,toks:=g}:=I1.kept g2;obtain⟨W,a0,G,a3⟩:=C.list (show dZ X.K _ a E by rw[hK];exact(J.mono ex.kp).2.sq);refine RO (V1 G.isList ?_);refine RS ⟨Vh _ (by decide+kernel),?_⟩;have I3:Inv X pins σ (upd H s⁻¹ (iA s⁻¹ d6)) {s with heap:=B.push {cls:=.type "list_iterator",data:=.fields #[.ref a,.int 0 0]},toks:=g}:=C.kept λb o e=>RY _ e;refine p0 U hK hP hw (A1:=X.A.in1) (I.ok.hd U) (show X.A.units+1+2<TL by omega) j ps 0 0 _ [] [] [] E d6 _ _ I3 aq pT .nil (J.mono ex.kp) (by simpa using iv.mono ex.kp) ⟨_,Sl _ rfl,rfl,rfl⟩ (C.Eb (R5 _) (C.aM.fresh (R5 _))) e λm D s' V d1 d2=>⟨rfl,?_⟩;rw[bZ]at V d1 d2;have O:=(V.aM _ _ aq).1;have I4:=V.freeze aq O '3' (λ_ _ z=>nomatch z) '3' '3';have kp:Kp F.toFb (upd H s⁻¹ (iA s⁻¹ m)) k (upd (upd H s⁻¹ (iA s⁻¹ m)) s⁻¹ (.cz m (iA s⁻¹ m))) k:=Kp.own j aq rfl;refine⟨.ref s⁻¹,_,I4,rfl,q _ _ ?_ ?_⟩
   .rw[bZ];exact .new R
   .simp only[Is];exact⟨_,D,rfl,⟨m,⟨j,N,.inl ⟨_,aq⟩⟩,d1.mono kp⟩,d2.mono kp⟩|.br,q,_=>exact q.elim|.bl _,q,_=>exact q.elim|.int _,q,_=>exact q.elim|.str _,q,_=>exact q.elim|.tup _,q,_=>exact q.elim|.aO _ _,q,_=>exact q.elim|.exc _ _,q,_=>exact q.elim|.aJ _,q,_=>exact q.elim
end
mutual
noncomputable def rl:D->PyData
 |.bl b=>.bool b|.int i=>.int i|.str x=>.str x|.tup a=>.tuple (i9 a)|.lst a=>.list (i9 a)|_=>.none
noncomputable def i9:List D->List PyData
 |[]=>[]|x::a=>rl x::i9 a
end
mutual
noncomputable def rm:D->Bool
 |.br=>RQ|.bl _=>RQ|.int _=>RQ|.str _=>RQ|.tup a=>nH a|.lst a=>nH a|_=>RT
noncomputable def nH:List D->Bool
 |[]=>RQ|x::a=>rm x&&nH a
end
mutual
theorem xY:∀(d:D),(rl d).hasDict=RT
 |.br=>rfl|.bl _=>rfl|.int _=>rfl|.str _=>rfl|.tup a=>by simp only[rl,PyData.hasDict];exact nI a|.lst a=>by simp only[rl,PyData.hasDict];exact nI a|.aO _ _=>rfl|.exc _ _=>rfl|.aJ _=>rfl
theorem nI:∀(ds:List D),aaI (i9 ds)=RT
 |[]=>rfl|d::ds=>by simp only[i9,aaI,xY d,nI ds,Bool.or_self]
end
mutual
theorem t5{h:SJ}:∀{u:RR}{d:D},rm d=RQ->bD h u d->∃as,Reads h u (rl d) as
 |_,.br,_,i=>by simp only[bD]at i;subst i;exact⟨_,.none⟩|_,.bl b,_,i=>by simp only[bD]at i;subst i;exact⟨_,.bool b⟩|_,.int n,_,i=>by simp only[bD]at i;obtain⟨t,rfl⟩:=i;exact⟨_,.int n t⟩|_,.str x,_,i=>by simp only[bD]at i;obtain⟨t,rfl⟩:=i;exact⟨_,.str x t⟩|_,.tup k,p,i=>by
  simp only[bD]at i;obtain⟨a,c,rfl,⟨o,j,g,n,f⟩,e⟩:=i;simp only[rm]at p;obtain⟨as,r⟩:=kC p e;exact⟨_,.tuple j g f r⟩|_,.lst k,p,i=>by
  simp only[bD]at i;obtain⟨a,c,rfl,⟨o,j,g,n,f⟩,e⟩:=i;simp only[rm]at p;obtain⟨as,r⟩:=kC p e;exact⟨_,.list j g f r⟩|_,.aO _ _,p,_=>by simp[rm]at p|_,.exc _ _,p,_=>by simp[rm]at p|_,.aJ _,p,_=>by simp[rm]at p
theorem kC{h:SJ}:∀{us:List RR}{ds:List D},nH ds=RQ->c5 h us ds->∃as,ReadsAll h us (i9 ds) as
 |_,[],_,i=>by simp only[c5]at i;subst i;exact⟨_,.nil⟩|_,d::ds,p,i=>by
  simp only[c5]at i;obtain⟨u,r,rfl,e,c⟩:=i;simp only[nH,R4]at p;obtain⟨as,b⟩:=t5 p.1 e;obtain⟨bs,a⟩:=kC p.2 c;exact⟨_,.cons b a⟩
end
noncomputable def rp(d:D):Bool:=rm d&&((rl d).showable&&(decide ((rl d).depth<=8)&&decide ((rl d).shown.length<=R1)))
noncomputable def t6:D->Bool
 |.tup _=>RQ|_=>RT
noncomputable def FH:D->Bool
 |.tup _=>RQ|.lst _=>RQ|_=>RT
noncomputable def MW(d:D):M D:=do
 M.need (FH d=RQ/\rp d=RQ)pure (.str (rl d).shown)
section
def FJ(w:X.A.guards=RM [])(hu:X.A.units+16<TL):aX X F (.builtin "repr") (one MW)where
 call:=λf s x H k y B D Q I h l hK m j=>by
  obtain⟨d,rfl,q⟩:=cJ j;obtain⟨v,rfl,i⟩:=m.one;obtain⟨⟨n,b⟩,q⟩:=q;obtain⟨u,rfl,c⟩:=vals1 h;unfold rp at b;rw[R4,R4,R4,Φ,Φ]at b;obtain⟨as,r⟩:=t5 b.1 (fw I hK c i);have o:∃a,u=.ref a:=by cases d<;>first|(cases n;done)|(obtain⟨a,z,rfl,_⟩:=i;exact⟨a,c⟩)
  obtain⟨a,rfl⟩:=o;refine repr_of_reads' r b.2.1 (PyData.noDict_hsm (xY d)) w '0' (λ_ _ e=>e) (λC t g p=>?_) b.2.2.2;exact⟨.str (rl d).shown,H,I.kept p,⟨t,rfl⟩,q _ H .refl (by simp only[Is])⟩
end
noncomputable def nJ(g:D->ah->M ah)(tc:ah->M Bool)(f:c->ah->M (c×ah)):c->List D->ah->M (c×ah)
 |acc,[],e=>pure (acc,e)|acc,d::h,e=>do
  let a<-g d e;let b<-tc a;if b then do
   let r<-f acc a;nJ g tc f r.1 h r.2;else nJ g tc f acc h a
def B1(F:Fx)(So:Hp->g->e->Prop)(o:e->ah->M (e×ah))(rd:RB g):Prop:=∀(j:St)(l:ah)(H:Hp)(k:Nat)(a:g)(f:e)(Q:e×ah->Nat->Prop)(n:g->St->Hp->Prop),cY F l k j H->So H a f->(o f l).run k Q F.E->(∀m b d c h i,Ext F.toFb H k h i->cY F d i c h->So h m b->Q (b,d) i->n m c h)->rd j H a n
section
def Hm(mono:∀{H H'}{k p}{a}{r},So H a r->Kp F.toFb H k H' p->So H' a r)(Z:B1 F So em rd){P}(it:vw F.toFb J ds u k1)(S:cY F ρ k1 σ u)(i0:So u a0 t)(h:(nJ g tc em t ds ρ).run k1 Q F.E)(q:∀a xs ρ' o H' p,Ext F.toFb u k1 H' p->cY F ρ' p o H'->So H' a xs->Q (xs,ρ') p->P a o H'):wR J (Lu F g) (qQ F tc) rd σ u a0 P:=by
 refine⟨λi m a n l=>m=ds.length-i/\i<=ds.length/\∃c f as,cY F c f n l/\Ext F.toFb u k1 l f/\So l a as/\(nJ g tc em as (ds.drop i) c).run f Q F.E,⟨ds.length,rfl,SH _,ρ,k1,t,S,.refl,i0,h⟩,?_⟩;rintro i m a n l⟨rfl,Y,c,f,as,B,w,I,A⟩;by_cases s:i<ds.length
 .obtain⟨d,hd,K⟩:=qS s;rw[K]at A;obtain⟨go,T⟩:=it.step i d l f hd w.kp B.live;refine .inr ⟨go,λx H3 y=>?_⟩;obtain⟨N,X⟩:=T x H3 y;refine⟨c,f,d,B.mono N,X,M.wk A λv k4 V C H4 e4 S4=>?_⟩;refine qQ.next S4 V λb G R e5 O L=>?_;have j:=(N.trans e4).trans e5;cases b with
  |false=>exact⟨ds.length-(i+1),'0',rfl,s,v,G,as,O,w.trans j,mono I j.kp,L⟩|true=>
   rw[Ξ2 rfl];exact Z C v R G a as _ _ O (mono I j.kp) L λa' z ρ' o H' p e6 S6 W U=>⟨ds.length-(i+1),'0',rfl,s,ρ',p,z,S6,w.trans (j.trans e6),W,U⟩
 .have e:i=ds.length:='0'
  subst e;rw[YE]at A;exact .inl ⟨it.stop l f w.kp B.live,q a as c n l f w B I A⟩
end
noncomputable def lT:Tn:={cls:=.type "dict",dict:=RP,data:=.dict #[]}
def PU(a ob:Tn):Prop:=a=ob/\∀v,ob.data≠.cell v
noncomputable def vO(F:Fx)(j i:TE):RB Tn:=λc H a Q=>j c H λx k=>i c k λy b=>∃d e ks h f,bQ F.toFb b a ks f/\ag F.toFb b f h/\kinds ks d/\ks.length<R1/\Is F.toFb b x d/\Is F.toFb b y e/\∀g,tJ F b ks h d e g->Q g c b
noncomputable def t7(k v:Sj)(D:RW)(env:XS):XH Unit:=do
 let a<-Ux k env;let b<-Ye [a] (Ux v env)Wx {k.pos with endLine:=v.pos.endLine,endCol:=v.pos.endCol}Ye [a,b] (dictSet D a b)
def B2{D:RW}(o:Me Y D)(hu:Y.A.units+2<TL)(hK:Y.K=F.K)(hP:Y.prog=F.P)(hw:Y.w=F.w)(J:PE Y k f)(E:PE Y v j):Body Y PU D (t7 k v D Y.env) (vO F f j):=by
 intro l s c H N ob Q I h aM q;unfold t7;refine RO (bE (J _ s c H _ I q) λW m a=>?_);obtain⟨x,S,O,p,t⟩:=a;refine RO (SS (bE (E _ m c S _ O t) λT V a=>?_));obtain⟨y,R,i,n,d,e,ks,Z,U,M,B,u,C,ix,z,r⟩:=a;refine RO (Ut (SS ?_));obtain⟨rfl,G⟩:=aM;have eD:=(i.pin _ (Sk _ RX)).1;refine xJ (F:=F) '0' i hK hP hw M eD B ix p z n u C λX g f sb L po=>?_;exact⟨g,g,c,R,i.AK o.young o.cells h (λb ob hb e=>(sb.2 b hb).trans e) L po.2,⟨rfl,po.2⟩,r g po⟩
noncomputable def oD(a:Tn):HO:=.cz a (.ext λ_=>True)
def FK(a ob)(H)(h)(D)(ok:PU a ob)(e:h.get? D=RM ob)(_:jq P w H h):bF P w (upd H D (oD a)) h D (oD a):=by
 obtain⟨rfl,_⟩:=ok;exact⟨e,trivial,⟨_,e⟩,λ_ _ _ _=>trivial⟩
def B3{A}(h:Q (.ref s⁻¹) {s with heap:=s.heap.push lT}):wpAny (Sb prog w) A newDict Q E s:=T_ h
def vP:bQ B H lT [] []:=⟨SH _,.inl ⟨[],[],.nil,⟨#[],0,⟨rfl,rfl,rfl⟩,rfl,λe a=>by simp at a,.nil,.nil⟩,rfl,rfl⟩⟩
def Lx(F:Fx)(H:Hp)(a:Tn)(b:List D×List D):Prop:=∃c,bQ F.toFb H a b.1 c/\ag F.toFb H c b.2
def Lx.mono(h:Lx F H a r)(e:Kp F.toFb H k H' c):Lx F H' a r:=let⟨b,f,d⟩:=h;⟨b,f.mono e,d.mono e⟩
noncomputable def B4(c b:ah->M D)(a:List D×List D)(ρ:ah):M ((List D×List D)×ah):=do
 let x<-c ρ;let y<-b ρ;M.need (kinds a.1 x/\a.1.length<R1)pure (putD a.1 a.2 x y,ρ)
def FL:B1 F (Lx F) (B4 f e) (vO F (dR F f) (dR F e)):=by
 intro i j H k a b Q E S so h q;refine dR.next S h λx C v1 G g z p t=>?_;refine dR.next z t λy n B A d w o c=>?_;obtain⟨⟨s,r⟩,c⟩:=c;obtain⟨l,v,u⟩:=so.mono (g.trans d).kp;exact⟨x,y,b.1,b.2,l,v,u,s,r,p.mono d.kp,o,λm po=>q m _ j i A n (g.trans d) w po.1 c⟩
def vQ{k:Nat}(e:H F.p≠RP)(c:H p=RP)(hs:(p==UC)=RT)(so:Lx F H a b):Is F.toFb (upd H p (oD a)) (.ref p) (.aO b.1 b.2):=by
 obtain⟨d,g,f⟩:=so.mono (Ext.new (k:=k) c).kp;exact⟨p,d,rfl,⟨a,⟨iV e c,hs,.inl ⟨_,aq⟩⟩,g⟩,f⟩
section
def zP(it:RR)(D:RW)(env:XS):aaw (.DictComp ke ve [⟨tg,iter,ifs,0⟩] scope pos) 0 it (.ref D) env=(do
   Wx iter.pos;match<-WL it with
   |none=>pure (.done .next)|some v=>
    VN tg it v;Yn tg env v;let mut ok:=RQ;for c in ifs do if ok then ok<-Zt c env (Ux c env)
    if ok then t7 ke ve D env
    again (.compLoop (.DictComp ke ve [⟨tg,iter,ifs,0⟩] scope pos) 0 it (.ref D) env)):=by
 unfold t7;rfl
def B5(own fr)(js)(d:X.calm=RQ)(hu:X.A.units+2<TL)(t:mY X.env.scope scope=RQ)(T:js.map (λj=>X.N[j]?)=fr.map RM)(n:∀x∈fr,scope.names.lookup x=RM .free)(m:js.Nodup)(hw:DI X F tg iter tI)(V:∀pins cl C b s H,DG (fM X pins scope (own++fr) cl C b s H) F tg g)(U:∀pins cl C b s H,lH (fM X pins scope (own++fr) cl C b s H) F ifs tc)(R:∀pins cl C b s H,DE (fM X pins scope (own++fr) cl C b s H) F ke tk)(O:∀pins cl C b s H,DE (fM X pins scope (own++fr) cl C b s H) F ve tv)(hs:∀x,U3 iter X.env x=pure x)(hP:X.prog=F.P)(i:X.w=F.w):DU X F (.DictComp ke ve [⟨tg,iter,ifs,0⟩] scope pos) (λρ=>do let ds<-tI ρ;let r<-nJ g tc (B4 tk tv) ([],[]) ds (fF ρ own.length js);pure (.aO r.1.1 r.1.2)):=by
 refine⟨hw.hK,λpins s E H I=>?_⟩;obtain⟨cl,c⟩:=vC I.ok t;have P:oW X (.DictComp ke ve [⟨tg,iter,ifs,0⟩] scope pos) (xw own.length js (OD F tI) (Lu F g) (qQ F tc) (vO F (dR F tk) (dR F tv)) lT oD) pins s E H:=(ky (ok:=PU) (ob0:=lT) (newAcc:=newDict) (own:=own) (fr:=fr) (js:=js) (body:=λD env=>t7 ke ve D env) d c T n hw.pi rfl (kz rfl rfl) (λh=>B3 h) (λa ob v ok=>ok.2 v) ⟨rfl,λv z=>nomatch z⟩ '4' (λ_ _ _=>rfl) (λ_ _ _=>rfl) (λ_ _ _=>zP _ _ _) (λpins cs C b s H=>(V pins cs C b s H).pg) (λpins cs C b s H=>(U pins cs C b s H).pi) (λpins cs C b s H D o=>B2 o hu hw.hK hP i (R pins cs C b s H).pe (O pins cs C b s H).pe) FK hs).pu rfl (λ_=>rfl) I;refine P.imp λQ f=>?_;obtain⟨ρ,k,S,h⟩:=f;refine⟨ρ,k,S,M.wk h λds k1 q J H1 y it=>?_⟩;have Z:=(S.mono y).fM own.length m;refine Hm (So:=Lx F) (λh e=>h.mono e) FL it Z ⟨[],vP,.nil⟩ q λa xs G B H' L W Y so K p u l=>?_;exact K _ _ ((y.trans W).trans (.new u)) (vQ (k:=L) Y.live u l so)
end
section
variable{X:Cx}{F:Fx}
noncomputable def B6(d:D):List D->Nat->Option Nat
 |[],_=>RP|x::r,i=>if jK x d then RM i else B6 d r (i+1)
noncomputable def B7:D->List D->M D
 |.tup a,[d]=>do M.need ((∀x∈a,vG x)/\vG d);let i<-M.get (B6 d a 0);pure (.int i)|_,_=>M.fail
def keysOf:(∀x∈l,vG x)->∃ks:List Key,l=ks.map kD:=by induction l with
 |nil=>exactλ_=>⟨[],rfl⟩|cons x l a=>
  intro h;obtain⟨ks,rfl⟩:=a λy b=>h y (RZ _ b);obtain⟨k,rfl⟩:=h x RX;exact⟨k::ks,rfl⟩
theorem p_:∀{ks:List Key}{a:List RR}{P:Sf}{w:Sx},ax (ks.map kV) a->∀(i:Nat)(k:Key),ks[i]?=RM k->∃u,a[i]?=RM u/\(aw P w).is k u=RQ
 |[],_,_,_,_,i,k,h=>by simp at h|k0::ks,_,P,w,.cons r t,0,k,h=>by
  simp only[VA,UH]at h;subst h;exact⟨_,rfl,gA r⟩|k0::ks,_,P,w,.cons r t,i+1,k,h=>by
  simp only[U6]at h;obtain⟨u,c,b⟩:=p_ (P:=P) (w:=w) t i k h;exact⟨u,by simpa using c,b⟩
set_option tactic.hygienic true in
theorem xZ:∀{ks:List Key}{j i:Nat},B6 (kD a) (ks.map kD) j=RM i->∃m,i=j+m/\ks[m]?=RM a/\∀n k,n<m->ks[n]?=RM k->k≠a
 |[],j,i,h=>by cases h|k::ks,j,i,h=>by
  simp only[Sr,B6]at h;split at h
  .rename_i e;cases h;exact⟨0,rfl,by rw[(gI k a).mp e];rfl,λn k c=>Ξ1 c (UN _)⟩
  .rename_i e;obtain⟨m,l,g,f⟩:=xZ h;refine⟨m+1,'0',by simpa using g,λn d c b=>?_⟩;cases n with
   |zero=>
    simp only[VA,UH]at b;subst b;intro z;exact e ((gI k a).mpr z)|succ n=>exact f n d '0' (by simpa using b)
def B8{σ:St}{Q:VK}(I:Inv X pins σ H s)(R:ax xs us)(hK:X.K=F.K)(J:Is F.toFb H (.ref a) d)(Y:ag F.toFb H xs ds)(q:(B7 d ds).run k (qE F.toFb H k Q) F.E):wpAny (Sb X.prog X.w) X.A (WD (.builtin "tuple.index") (.ref a::us)) (EP X pins σ Q) X.xe s:=by match d,ds,q with
 |.tup es,[d],q=>
  obtain⟨⟨hk,hd⟩,q⟩:=q;obtain⟨i,hi,q⟩:=M.run_get.mp q;simp only[Is]at J;obtain⟨a',ws,e,N,W⟩:=J;cases e;obtain⟨b,t,U,hz⟩:=I.tuple (by rw[hK];exact N.2);obtain⟨o,L,hc,n,g⟩:=id U;have hT:s.TypeIs (.ref a) "tuple":=⟨o,L,hc⟩;obtain⟨w,rfl,iw⟩:=Y.one;obtain⟨u,rfl,O⟩:=vals1 R;obtain⟨ks,rfl⟩:=keysOf hk;obtain⟨C,rfl⟩:=hd;have:=qY W;subst this;have:=fx iw;subst this;obtain⟨m,l,B,h3⟩:=xZ hi;rw[Nat.zero_add]at l;subst l;have hm:i<b.length:=by
   have:=t.length;rw[RV]at this;have:=(Ω0.mp B).1;omega
  refine Tq Yv hT PySem.F.entry_tuple_index ?_ (PySem.F.args_tuple_index_2 _ _);refine RO (Xr (show selfAndSome "tuple.index" "index" 1 3 ⟨[.ref a,u],[]⟩=pure (.ref a,[u])from rfl) ?_);dsimp only;refine RO (RO (V3 L g (RS ?_)));refine RO (RS ?_);refine RO (RS ?_);rw[Std.Legacy.Range.forIn_eq_forIn_range'];refine RO (Uz _ (λrest r p=>r.1=RP/\p=s/\∃j,j<=i/\rest=List.range' j (b.length-j) 1) _ ?_ ?_ _ _ ⟨rfl,rfl,0,SH _,?_⟩)
  .rintro j rest⟨T,S⟩p⟨hr,rfl,G,hj,h⟩;have f:b.length-G=(b.length-G-1)+1:='0'
   rw[f,List.range'_succ]at h;injection h with l e2;subst l;have c:j<ks.length:=by
    have:=t.length;rw[RV]at this;omega
   obtain⟨y,Z,v⟩:=p_ t j ks[j] (R_ c);have x:b.toArray[j]?=RM y:=by simpa using Z
   rw[x];refine RO ((aw X.prog X.w).eqBool v (gA O) ?_);by_cases z:j=i
   .subst z;have:=by
     rw[R_ c]at B;exact R3 B
    rw[Φ2 this,Ξ2 rfl];refine RO (RO (wpAny_mkInt (RS (RS (RS ⟨_,rfl,?_⟩)))));exact⟨.int j,H,I.tok _,⟨_,rfl⟩,q _ H .refl (by simp only[Is])⟩
   .have:=h3 j _ '0' (R_ c);rw[Φ1 this,Ξ3 Tw];exact RS ⟨rfl,rfl,j+1,'0',by rw[e2];congr 1⟩
  .rintro⟨T,S⟩p⟨hr,rfl,j,hj,h⟩;have:=Ξ0 T6 h;simp only[Td,List.length_range']at this;omega
  .simp[Std.Legacy.Range.size]
def Hn{σ:St}(I:Inv X pins σ H s)(h:H p≠RP):X.K.lookup p=RP:=by cases e:X.K.lookup p with
 |none=>rfl|some o=>exact Ξ1 (I.bs p o (I.mod.HS p o e)).2 h
def B9(f:Gl X x)(c:X.mg x=RM u)(r:RelV v u)(e:∀H,H F.p≠RP->X.K.lookup F.p=RP->Is F.toFb H v d)(hd:(x==("__debug__"))=RT)(hK:X.K=F.K):DE X F (.Name x pos) (λ_=>pure d):=⟨hK,λa s b H Q I⟨g,k,S,h⟩=>qz f c r hd a s b H Q I (h _ H .refl (e H S.live (Hn I S.live)))⟩
def JZ(T:Gl X x)(P:X.mg x=RM (.ref a))(hd:(x==("__debug__":Sy))=RT)(R:∀H,H F.p≠RP->X.K.lookup F.p=RP->Is F.toFb H (.ref a) d)(lk:X.K.lookup a=RM o)(U:o.cls=.type "tuple")(O:o.dict=RP)(ha:DA X F [e] i)(g:Wn (.Name x np) "index" X.env (Ux (.Name x np) X.env)=Ux (.Name x np) X.env)(f:(B.endLine==n.line)=RQ)(m:((UP n (Sq [e] X.env)).all (λx=>!x.1)&&(Zy n (Xm [] X.env)).all (λx=>x.1.isSome)&&decide ([e].length+([]:List Wc).length+(if([]:List Wc).isEmpty then 0 else 1)<30))=RQ)(hs:Sq [e] X.env=(RT,Ux e X.env)::Sq [] X.env)(c:(UP n (Sq [] X.env)).any (·.1)=RT):DE X F (.Call (.Attribute (.Name x np) "index" B) [e] [] n) (λρ=>do let ds<-iX (<-i ρ);B7 d ds):=by
 have mt:L4 X "tuple.index" (λx y H Q=>x=.ref a/\∃k ds,H F.p≠RP/\ag F.toFb H y ds/\(B7 d ds).run k (qE F.toFb H k Q) F.E):=λj s w H x y v us Q I C G u=>by
  obtain⟨ex,k,ds,l,L,q⟩:=u;subst ex;cases(show v=Sm a from C);exact B8 I G ha.hK (R H l (Hn I l)) L q
 refine⟨ha.hK,(vL (ty:=λx H=>x=.ref a) (λ{j w H s x v}I r ex=>by
  subst ex;cases(show v=Sm a from r);have t:s.heap.get? a=RM o:=I.kf _ _ lk;exact⟨⟨o,t,U⟩,λb q=>by cases q;exact⟨o,t,O⟩⟩) PySem.F.plainAttrs_tuple Yv PySem.F.type_tuple_index mt (qz T P (v:=.ref a) rfl hd) ha.pa g m f hs c).imp λw H Q⟨ρ,k,S,h⟩=>?_⟩;refine⟨rfl,sX.next S h λas J Z H1 W Y N t=>?_⟩;obtain⟨ds,rfl,V⟩:=cw t;exact⟨rfl,J,ds,Y.live,cy N,(B7 d ds).mono V (λd' k' r=>qE.ext W r) λ_ _ z=>z⟩
end
end L2
end
section
namespace L2
open PySem PySem.Spec PyProof.Rows SortM
noncomputable def insI(n:Int):List Int->List Int
 |[]=>[n]|m::r=>if n<=m then n::m::r else m::insI n r
noncomputable def sortI:List Int->List Int
 |[]=>[]|n::r=>insI n (sortI r)
theorem insI_perm(n:Int):∀l:List Int,(insI n l).Perm (n::l)
 |[]=>.refl _|m::r=>by
  unfold insI;split;.exact .refl _
  .exact((insI_perm n r).cons m).trans (.swap n m r)
theorem sortI_perm:∀l:List Int,(sortI l).Perm l
 |[]=>.nil|n::r=>(insI_perm n (sortI r)).trans ((sortI_perm r).cons n)
set_option tactic.hygienic true in
theorem x8(n:Int):∀{l:List Int},l.Pairwise (·<=·)->(insI n l).Pairwise (·<=·)
 |[],_=>by simp[insI]|m::r,h=>by
  unfold insI;have b:=Θ0.mp h;split
  .rename_i e;refine Θ0.mpr ⟨λx a=>?_,h⟩;rcases Ω2.mp a with rfl|a;.exact e
   .exact W6 e (b.1 x a)
  .rename_i e;refine Θ0.mpr ⟨λx a=>?_,x8 n b.2⟩;rcases Ω2.mp ((insI_perm n r).mem_iff.mp a)with rfl|a;.omega
   .exact b.1 x a
theorem nK:∀l:List Int,(sortI l).Pairwise (·<=·)
 |[]=>.nil|n::r=>x8 n (nK r)
theorem Hq:∀{l m:List Int},l.Perm m->l.Pairwise (·<=·)->m.Pairwise (·<=·)->l=m
 |[],m,p,_,_=>(List.perm_nil.mp p.symm).symm|a::l,[],p,_,_=>Ξ1 p.length_eq '2'|a::l,b::m,p,g,f=>by
  have d:=Θ0.mp g;have c:=Θ0.mp f;have e:a=b:=by
   rcases Ω2.mp (p.mem_iff.mp (RX (a:=a)))with e|e;.exact e
   .rcases Ω2.mp (p.mem_iff.mpr (RX (a:=b)))with z|z;.exact z.symm
    .exact Ze (d.1 b z) (c.1 a e)
  subst e;rw[Hq (List.Perm.cons_inv p) d.2 c.2]
def t8(p:l.Perm m)(h:l.Pairwise (·<=·)):l=sortI m:=Hq (p.trans (sortI_perm m).symm) h (nK m)
noncomputable def bW:List Int->List Int
 |[]=>[]|x::r=>if x∈r then bW r else x::bW r
set_option tactic.hygienic true in
theorem fH:∀{l:List Int},x∈bW l↔x∈l
 |[]=>.rfl|y::r=>by
  unfold bW;split
  .rename_i h;rw[fH (l:=r),Ts];constructor;.exact .inr
   .rintro(e|e);.rw[e];exact h
    .exact e
  .rw[Ts,Ts,fH (l:=r)]
set_option tactic.hygienic true in
theorem nM:∀(l:List Int),(bW l).Nodup
 |[]=>.nil|y::r=>by
  unfold bW;split;.exact nM r
  .rename_i h;exact Φ3.mpr ⟨λz=>h (fH.mp z),nM r⟩
def rq{c j:Type}{f:c->j}{vs l':List j}(p:vs.Perm l'):∀{l:List c},l'=l.map f->∃m:List c,m.Perm l/\vs=m.map f:=by induction p with
 |nil=>intro l e;exact⟨[],by cases l with
   |nil=>exact .nil|cons=>simp at e,rfl⟩|cons x p n=>
  intro l e;cases l with
  |nil=>simp at e|cons y l=>
   simp only[Sr,VP]at e;obtain⟨m,g,rfl⟩:=n e.2;exact⟨y::m,g.cons y,by rw[e.1];rfl⟩
 |swap x y s=>
  intro l e;cases l with
  |nil=>simp at e|cons a l=>cases l with
   |nil=>simp at e|cons b l=>
    simp only[Sr,VP]at e;exact⟨b::a::l,.swap _ _ _,by rw[e.1,e.2.1,e.2.2];rfl⟩
 |trans r q i h=>
  intro l e;obtain⟨m,g,rfl⟩:=h e;obtain⟨k,d,o⟩:=i rfl;exact⟨k,d.trans g,o⟩
theorem t9:∀(xs:List (Int×Y7)),UQ (xs.map λx=>U1 x.1 x.2) (xs.map (·.1))
 |[]=>.nil|x::xs=>.cons _ _ (t9 xs)
theorem i_:∀{ns:List Int},ag B H (ns.map V.int) (ns.map D.int)
 |[]=>.nil|n::ns=>.cons (by simp only[Is]) i_
section
variable{X:Cx}{F:Fx}
def lU{pins:List (RW×Tn)}{σ:St}{H:Hp}{s:RU}(hP:X.prog=F.P)(hw:X.w=F.w)(h:fU F.toFb o xs)(d:s.heap.get? a=RM o):∃b t,ST.uW X.prog X.w s.heap a b t/\(b.map (·.1)).Perm xs:=by
 obtain⟨b,ob,c⟩:=h;obtain⟨t,S⟩:=ob.2.2 s.heap a d;rw[<-hP,<-hw]at S;exact⟨b,t,S,c⟩
def t_{σ:St}(Y:X.calm=RQ)(I:Inv X pins σ H s)(S:ST.uW X.prog X.w s.heap a h t)(G:(h.map (·.1)).Perm xs)(Z:xs.length<64)(q:∀l o,H l=RP->Q (.ref l) (upd H l (.cz o (.lst ((sortI xs).map V.int))))):wpAny (Sb X.prog X.w) X.A (WD (.builtin "sorted") [.ref a]) (EP X pins σ Q) X.xe s:=by
 obtain⟨o,K,ep,R,hex,hd,r⟩:=id S.ob;have p:=by have:=Ξ0 T6 r;simpa using this
 have T:=by have:=G.length_eq;simpa using this
 have W:ST.Wk X.w o K ep t:=⟨hex,hd,ST.fits_of S.tab (by rw[p,RV]),S.tab.rise,S.plain,S.led⟩;refine zj (ST.kZ W (show X.A.in1.handled=RP from I.ok.hd Y) R (by rw[p,TH];omega) λu E vs g1 pv=>?_);rw[r,S7]at pv;obtain⟨m,n,rfl⟩:=rq pv (f:=λx:Int×Y7=>U1 x.1 x.2) rfl;have L:Inv X pins σ H {s with heap:=u,toks:=E}:=I.kept g1;have ml:m.length=xs.length:=by rw[n.length_eq,T]
 refine⟨by rw[RV];omega,_,_,vm (t9 m),λb h' c v N g e=>?_⟩;have bound:∀i∈b.toList,i<m.length:=λi d=>by have:=List.mem_range.mp (v.2.mem_iff.mp d);rwa[RV]at this
 have O:=by
  have:∀l:List (Int×Y7),ax ((l.map (·.1)).map V.int) (l.map λx=>U1 x.1 x.2):=λl=>by induction l with
   |nil=>exact .nil|cons x l P=>exact .cons ⟨_,rfl⟩ P
  exact this m
 have k:ax (b.toList.map λi=>((m.map (·.1)).map V.int).getD i .br) (b.toList.map λi=>(m.map λx=>U1 x.1 x.2).getD i SG):=kY O _ λi d=>by rw[RV,RV];exact bound i d
 have B:∀ns:List Int,(∀i∈b.toList,i<ns.length)->(b.toList.map λi=>(ns.map V.int).getD i .br)=(b.toList.map λi=>ns.getD i 0).map V.int:=λns hb=>by
  rw[S7];refine Va λi d=>?_;have y:=hb i d;simp[y]
 have eq:=B (m.map (·.1)) λi d=>by rw[RV];exact bound i d
 rw[eq]at k;have M:SortM.Ok (m.map (·.1)).length b:=by
  have:=v;rw[RV]at this⊢;exact this
 have e2:(b.toList.map λi=>(m.map (·.1)).getD i 0)=sortI xs:=t8 ((zk M _ _ rfl).trans ((n.map (·.1)).trans G)) (sS v N λi j z=>by
  omega);have U:=L.aM.fresh (R5 _);have I2:=L.newList (t:=E) (D:=u.objs.size) g (R5 _) k (by rw[RV,RV,SN,v.1,RV,TH];omega) e;refine⟨.ref u.objs.size,_,I2.freeze aq e '3' (λ_ _ z=>nomatch z) '3' '3',rfl,?_⟩;rw[bZ,e2];exact q _ _ U
noncomputable def J2(d:D):M D:=match d with
 |.aJ a=>do M.need (a.length<64);pure (.lst ((sortI a).map D.int))|_=>M.fail
def B_(m:X.calm=RQ)(hP:X.prog=F.P)(hw:X.w=F.w):aX X F (.builtin "sorted") (one J2)where
 call:=λpins s σ H k p r B Q I f l hK j g=>by
  obtain⟨d,rfl,q⟩:=cJ g;obtain⟨v,rfl,i⟩:=j.one;obtain⟨u,rfl,e⟩:=vals1 f;cases d with
  |aJ ns=>
   obtain⟨b,q⟩:=q;obtain⟨a,rfl,A,o,x,hu,so⟩:=i;cases(show u=Sm a from e);obtain⟨n,t,S,h⟩:=lU (pins:=pins) (σ:=σ) (H:=H) hP hw so (I.aM a _ hu).1;exact t_ m I S h b λz y c=>q _ _ (.new c) (dq (k:=k) l c i_)|_=>exact q.elim
noncomputable def MX:D->D->M D
 |.int i,.aJ a=>pure (.bl (!decide (i∈a)))|_,_=>M.fail
def FO(hP:X.prog=F.P)(hw:X.w=F.w):gw X F (Tb .NotIn) (λd e=>do(match e with|.aJ xs=>M.need (xs.length<=300)|_=>M.fail);MX d e):=⟨λpins s σ H k x y v u d e Q I i h l hK f c q=>by cases e with
 |aJ xs=>
  obtain⟨z,q⟩:=q;cases d with
  |int j=>
   simp only[Is]at f c;subst f;obtain⟨a,rfl,r,o,n,hu,so⟩:=c;cases(show u=Sm a from h);obtain⟨p,rfl⟩:=(show∃t,v=U1 j t from i);obtain⟨g,t,S,b⟩:=lU (X:=X) (F:=F) (pins:=pins) (σ:=σ) (H:=H) (s:=s) hP hw so (I.aM a _ hu).1;have m:g.length<=511:=by have:=b.length_eq;rw[RV]at this;omega
   refine wpAny_notInSet_of (knd:=To X.prog X.w) (V6 _ _ _ _) rfl (uW.setOf S m) ⟨.bl _,H,I.tok _,rfl,q _ H .refl ?_⟩;simp only[Is];congr 2;exact decide_eq_decide.mpr b.mem_iff|_=>exact q.elim
 |_=>exact q.elim⟩
end
section
variable{X:Cx}{F:Fx}
noncomputable def dM:List D->Option (List Int)
 |[]=>RM []|.int i::r=>(dM r).map (i::·)|_=>RP
theorem jU:∀{ds:List D}{ns:List Int},dM ds=RM ns->ds=ns.map D.int
 |[],ns,h=>by cases h;rfl|d::ds,ns,h=>by cases d with
  |int i=>
   simp only[dM,WZ]at h;obtain⟨r,a,rfl⟩:=h;rw[jU a];rfl|_=>cases h
def x9{a:Type}{l:List a}{x}(h:l[i]?=RM x):l.take (i+1)=l.take i++[x]:=by rw[List.take_succ,h];rfl
def JI(P:Sf)(w:Sx)(ns:List Int)(i:Nat)(ob:Tn):Prop:=∃a,k8 P w ob a/\a.length<=i/\∀x,x∈a.map (·.1)↔x∈ns.take i
def FP{A}(t:UQ us ns)(K:ns.length<=300):Fills prog w A S B (JI prog w ns) (λi v=>us.toArray[i]?=RM v) us.length:=by
 intro i v d ob L u kp l⟨f,so,y,m⟩Q E j;have o:=IntsAre.length t;obtain⟨n,a,en,rfl⟩:∃n a,ns[i]?=RM n/\v=U1 n a:=by
  have:∀{us}{ns},UQ us ns->∀(i:Nat)(v),us[i]?=RM v->∃n a,ns[i]?=RM n/\v=U1 n a:=λ{us ns}t=>by induction t with
   |nil=>intro i v h;simp at h|cons n a t s=>
    intro i v h;cases i with
    |zero=>simp at h;exact⟨n,a,rfl,h.symm⟩|succ i=>simpa using s i v (by simpa using h)
  exact this t i v (by simpa using u)
 obtain⟨I,H⟩:=so.2.2 d.heap S l;refine mS H '0' (λe=>?_) λk C b J sb p g=>?_
 .refine j RT d.heap (d.toks+1) ob (ZO _) (Heap.SameBut.refl _ _) l ⟨f,so,Nat.le_succ_of_le y,λx=>?_⟩;rw[x9 en,Zf,VI,<-m x];constructor;.exact .inl
  .rintro(z|z);.exact z
   .rw[z];exact e
 .obtain⟨r,D,G,c,_⟩:=id p.ob;refine j RQ C (d.toks+1) r (ZO _) sb c ⟨b,k8.of p c,by rw[g.length_eq,Ss];omega,λx=>?_⟩;have q:(b.map (·.1)).Perm (n::f.map (·.1)):=g.map (·.1);rw[q.mem_iff,x9 en,Zf,VI,Ts,<-m x];exact Or.comm
noncomputable def MY(d:D):M D:=match d with
 |.lst a=>do let ns<-M.get (dM a);M.need (ns.length<=300);pure (.aJ (bW ns))|_=>M.fail
def FQ(T:X.calm=RQ)(hP:X.prog=F.P)(hw:X.w=F.w):aX X F (.type "set") (one MY)where
 call:=λm s W H k Y us U Q I A l hK R C=>by
  obtain⟨d,rfl,q⟩:=cJ C;obtain⟨v,rfl,i⟩:=R.one;obtain⟨u,rfl,z⟩:=vals1 A;cases d with
  |lst U=>
   obtain⟨ns,h,G⟩:=M.run_get.mp q;obtain⟨S,E⟩:=G;have D:=E;have:=jU h;subst this;simp only[Is]at i;obtain⟨a,Z,rfl,N,O⟩:=i;cases(show u=Sm a from z);obtain⟨c,B,L,hz⟩:=I.list (by rw[hK];exact N.2.sq);have:=eK O;subst this;have t:=intsAre_of B;have f:=IntsAre.length t;refine sW (J:=JI X.prog X.w ns) (I.ok.hd T) L.isList ⟨[],xk _ _,R5 _,by simp⟩ (by simpa using FP t S) λr y ob g⟨j,so,hl,p⟩kp=>?_;rw[Se,f,List.take_length]at p;have n:=I.aM.fresh (R5 _);obtain⟨t1,V⟩:=so.2.2 r s⁻¹ g;have K:=(V5 V.nd (nM ns)).mpr λx=>by rw[fH];exact p x
   rw[hP,hw]at so;exact⟨.ref s⁻¹,_,I.laid (λb o e=>kp b o (Sa e) e) (R5 _) (show bF X.prog X.w _ r _ (.cz ob (.ext λ_=>True))from⟨g,trivial,⟨_,g⟩,λ_ _ _ _=>trivial⟩),rfl,D _ _ (.new n) (by exact⟨_,rfl,iV l n,ob,_,aq,j,so,K⟩)⟩|_=>exact q.elim
def FR{σ:St}{Q:Hp->Prop}(hP:X.prog=F.P)(hw:X.w=F.w)(I:Inv X pins σ H s)(e:H a=RM (iA a o))(so:fU F.toFb o xs)(x:xs.length<=300)(p:i∈xs->Q H)(n:i∉xs->∀o',fU F.toFb o' (xs++[i])->Q (upd H a (iA a o'))):wpAny (Sb X.prog X.w) X.A (aaQ a (.int i m)) (λ_ s'=>∃H',Inv X pins σ H' s'/\Q H') E s:=by
 obtain⟨k,t,S,g⟩:=lU (pins:=pins) (σ:=σ) (H:=H) hP hw so (I.aM a _ e).1;have y:=by have:=g.length_eq;simpa using this
 refine mS S '0' (λj=>⟨H,I.tok _,p (g.mem_iff.mp j)⟩) λd B b v sb l h=>?_;obtain⟨o',r,u,f,_⟩:=id l.ob;have c:=k8.of l f;rw[hP,hw]at c;refine⟨_,hU I e sb f,n (λz=>d (g.mem_iff.mpr z)) o' ⟨b,c,?_⟩⟩;have q:=h.map (·.1);exact q.trans ((g.cons i).trans (X9 i xs).symm)
def rz{σ:St}{Q}{A}(I:Inv X pins σ H s)(c:UG X.K X.env.code q=RQ)(h:∀b,Q b s):wpAny (Sb X.prog X.w) A (inMainModule X.env) Q E s:=by
 obtain⟨a,o,g,t,f,e,d,i⟩:=aaa I.kf c;unfold inMainModule;rw[f];refine RO ?_;refine RO (wpAny_load e ?_);rw[d];refine RS ?_;split;.exact RO (UT (RS (h _)))
 .exact RS (h _)
def FT{j:Nat}(hP:X.prog=F.P)(hw:X.w=F.w)(x:UG X.K X.env.code q=RQ)(n:X.N[j]?=RM y)(k:wG X.env.scope y)(hd:(y==("__debug__":Sy))=RT)(f:(y==("__classdict__":Sy))=RT):PE X (.Set [.Name y np] 0 sp) (λσ H Q=>∃i,σ[j]?=RM (RM (.int i))/\∀p o',H p=RP->fU F.toFb o' [i]->Q (.ref p) (upd H p (iA p o'))):=by
 intro c s σ H Q I⟨i,l,m⟩;rw[arm_eval_Set];refine RO (Ut ?_);refine RO (rz I x λb=>?_);show wpAny _ _ (setDisplay .oneByOne b [(RT,Ux (.Name y np) X.env>>=λv=>Wx sp>>=λ_=>pure v)]) _ _ _;refine RO (xj ?_);have r:=I.aM.fresh (R5 _);have J:Inv X c σ (upd H s⁻¹ (iA s⁻¹ (bx X.w))) {s with heap:=s.heap.push (bx X.w)}:=I.laid (λ_ _ q=>RY _ q) (R5 _) (rh (Sl _ rfl));refine RO (SS ?_);refine RO ?_;show wpAny _ _ (evalAll [Ux (.Name y np) X.env>>=λv=>Wx sp>>=λ_=>pure v]) _ _ _;unfold evalAll;refine RO ?_;refine RO (bE (fj n k hd f c _ σ _ (λw g=>w=.int i/\g=upd H s⁻¹ (iA s⁻¹ (bx X.w))) J ⟨_,l,rfl,rfl⟩) λu O d=>?_);obtain⟨w,S,G,e,C,B⟩:=d;subst C B;obtain⟨L,rfl⟩:=(show∃t,u=U1 i t from e);refine RO (Ut (RS ?_));refine RO (SS (RS (RS ?_)));refine RO (SS ?_);simp only[XD,WT];refine RO ?_;refine RO (RO (bE (FR (Q:=λg=>∃o',fU F.toFb o' [i]/\g=upd H s⁻¹ (iA s⁻¹ o')) hP hw G aq ⟨[],by rw[hw];exact xk _ _,.nil⟩ '1' '4' λ_ o' so=>⟨o',so,bZ ..⟩) λb M⟨R,D,o',so,A⟩=>?_));subst A;refine RS (RS ?_);rw[Ξ3 '1'];refine RS ?_;show wpAny _ _ (forIn ([]:List (Bool×XH RR)) PUnit.unit _>>=_) _ _ _;rw[WT];refine RO (RS (RS (RS ?_)));exact⟨.ref s⁻¹,_,D,rfl,m _ o' r so⟩
def Ca(i j)(hN:X.N.Nodup)(hK:X.K=F.K)(hP:X.prog=F.P)(hw:X.w=F.w)(t:UG X.K X.env.code q=RQ)(r:X.N[i]?=RM x)(l:Loc X.env.scope x)(s:X.fn x=RQ\/X.env.scope.names.lookup x=RM .local)(o:X.N[j]?=RM y)(m:wG X.env.scope y)(hd:(y==("__debug__"))=RT)(e:(y==("__classdict__"))=RT):DS X F (.Assign [.Name x a] (.Set [.Name y np] 0 sp) pos) (λρ=>do
   let n<-gD (<-M.get (iW ρ j))pure (.nx (ρ.set i (RM (.own (.aJ [n])))))):=by
 refine⟨hK,(dP hN r l (FT hP hw t o m hd e) rfl s).imp λZ z H⟨ρ,k,S,h⟩=>?_⟩;obtain⟨d,u,h⟩:=M.run_get.mp h;obtain⟨n,rfl,h⟩:=bh.mp h;obtain⟨v,c,b⟩:=S.at_ j _ (xm u);have b:Is F.toFb H v (.int n):=b;subst b;exact⟨n,c,λp g f so=>h _ _ (Ext.new f).kp (S.rb i f ⟨g,aq,so⟩)⟩
def MZ(F:Fx):V->List V->Hp->VK->Prop:=λx d H Q=>∃a i o b,x=.ref a/\d=[.int i]/\H a=RM (iA a o)/\fU F.toFb o b/\b.length<=300/\(i∈b->Q .br H)/\(i∉b->∀c,fU F.toFb c (b++[i])->Q .br (upd H a (iA a c)))
def FU(hP:X.prog=F.P)(hw:X.w=F.w):Pf X "set.add" (MZ F):=by
 intro pins s σ H x K v L Q I r y h;obtain⟨a,i,o,m,rfl,rfl,e,so,N,C,B⟩:=h;obtain⟨u,rfl,A⟩:=y.one;cases(show v=Sm a from r);obtain⟨p,rfl⟩:=(show∃t,u=U1 i t from A);obtain⟨l,t,S,g⟩:=lU (X:=X) (F:=F) (pins:=pins) (σ:=σ) (H:=H) (s:=s) hP hw so (I.aM a _ e).1;have O:l.length=m.length:=by have:=g.length_eq;simpa using this
 refine qP S '0' (λk q=>⟨.br,H,I.tok _,rfl,C (g.mem_iff.mp k)⟩) λd R b M q sb n j=>?_;obtain⟨E,G,J,f,_⟩:=id n.ob;have c:=k8.of n f;rw[hP,hw]at c;refine⟨.br,_,hU I e sb f,rfl,B (λz=>d (g.mem_iff.mpr z)) E ⟨b,c,?_⟩⟩;have D:(b.map (·.1)).Perm (i::l.map (·.1)):=j.map (·.1);exact D.trans ((g.cons i).trans (X9 i m).symm)
noncomputable def vR:D->M (List Int)
 |.aJ a=>pure a|_=>M.fail
def vS(h:(vR d).run k Q E):∃xs,d=.aJ xs/\Q xs k:=by cases d with
 |aJ xs=>exact⟨xs,rfl,h⟩|_=>exact h.elim
set_option tactic.hygienic true in
def J3(i:Nat)(hP:X.prog=F.P)(hw:X.w=F.w)(W:X.N[i]?=RM x)(V:wG X.env.scope x)(hd:(x==("__debug__":Sy))=RT)(z:(x==("__classdict__":Sy))=RT)(ha:DE X F e G)(Q:(E.endLine==C.line)=RQ)(hs:Sq [e] X.env=(RT,Ux e X.env)::Sq [] X.env):DS X F (.Expr (.Call (.Attribute (.Name x np) "add" E) [e] [] C) pos) (λρ=>do
   let xs<-vR (<-M.get (jP ρ i))let n<-gD (<-G ρ)M.need (xs.length<=300)pure (.nx (ρ.set i (RM (.own (.aJ (if n∈xs then xs else xs++[n]))))))):=by
 have pe:=vL (X:=X) (name:="add") (apos:=E) (cpos:=C) (ty:=JM "set") (λI r h=>Fp I r h) PySem.F.plainAttrs_set Xs (by rfl) (FU (F:=F) hP hw) (fj (pos:=np) W V hd z) (bz ha.pe dQ hs) rfl (by rw[hs];rfl) Q hs rfl;refine⟨ha.hK,(qB pe rfl).imp λZ σ H⟨ρ,k,S,h⟩=>?_⟩;obtain⟨d0,A,h⟩:=M.run_get.mp h;obtain⟨xs,rfl,h⟩:=vS h;obtain⟨v,j,a,rfl,f⟩:=S.at_ i _ (d7 A);obtain⟨o,O,so⟩:=f.2.2;have ty:JM "set" (.ref a) H:=by
  obtain⟨ys,ob,_⟩:=id so;have J:o.isFreed=RT:=by
   have:=ob.1;cases o;rename_i c d p sl;cases p<;>first|rfl|exact Ξ1 rfl this
  obtain⟨t,S⟩:=ob.2.2 ((default:SJ).push o) _ (Sl _ J);obtain⟨s,es,ep,m,hex,_⟩:=S.ob;rw[Sl _ J]at m;cases m;exact⟨a,o,rfl,O,hex.1,hex.2.1⟩
 refine⟨_,j,ty,?_⟩;refine dR.next S h λd K u T B R L b=>?_;obtain⟨n,rfl,b⟩:=bh.mp b;obtain⟨U,b⟩:=b;have g:=B.keep a _ f.1 O;simp only[Is]at L;subst L;refine⟨a,n,o,xs,rfl,rfl,g,so,U,λy=>?_,λl s q=>?_⟩
 .rw[Ξ2 y]at b;refine b _ _ B.kp ?_;have e:ρ.set i (RM (.own (.aJ xs)))=ρ:=by
   have:=d7 A;obtain⟨Q,Y⟩:=Ω0.mp this;rw[<-Y,List.set_getElem_self]
  rw[e];exact R
 .rw[Ξ3 l]at b;have kp:Kp F.toFb T K (upd T a (iA a s)) K:=Kp.own f.1 g rfl;exact b _ _ (B.kp.trans kp) (R.fY (d7 A) j f.1 f.2.1 g rfl ⟨a,rfl,f.1,f.2.1,s,aq,q⟩)
end
noncomputable def ua:List Int->Option Int
 |[]=>RP|n::r=>match ua r with
  |none=>RM n|some m=>RM (max n m)
theorem hV:∀{ns:List Int},ns≠[]->∃m,ua ns=RM m/\m∈ns/\∀a∈ns,a<=m
 |[n],_=>⟨n,rfl,RX,λa ha=>by rw[Ω1.mp ha];exact Xv _⟩|n::b::r,_=>by
  obtain⟨m,e,c,hb⟩:=hV (ns:=b::r) '2';refine⟨max n m,by unfold ua;rw[e],?_,λa ha=>?_⟩
  .rcases Int.le_total n m with z|z;.rw[Int.max_eq_right z];exact RZ _ c
   .rw[Int.max_eq_left z];exact RX
  .rcases Ω2.mp ha with rfl|z;.exact Int.le_max_left _ _
   .exact W6 (hb a z) (Int.le_max_right _ _)
noncomputable def zQ(ns:List Int):Option Int:=(ua (ns.map (-·))).map (-·)
def lV(h:ns≠[]):∃m,zQ ns=RM m/\m∈ns/\∀a∈ns,m<=a:=by
 obtain⟨m,e,c,hb⟩:=hV (ns:=ns.map (-·)) (by simpa using h);refine⟨-m,by unfold zQ;rw[e];rfl,?_,λa ha=>?_⟩
 .obtain⟨x,b,rfl⟩:=Ω3.mp c;rw[Int.neg_neg];exact b
 .have:=hb (-a) (Ω3.mpr ⟨a,ha,rfl⟩);omega
section
noncomputable def J4(f:List Int->Option Int)(d:D):M D:=match d with
 |.lst a=>do let ns<-M.get (dM a);let m<-M.get (f ns);pure (.int m)|_=>M.fail
def uc{id}(YQ:∀{l}{vs}{ns}{s}{E}{Q},(s.heap.IsList l vs.toArray)->X.A.handled=RP->UQ vs ns->f ns≠RP->(∀h' m(t)c,(∀b o,s.heap.get? b=RM o->h'.get? b=RM o)->f ns=RM m->Q (.int m t) {s with heap:=h',toks:=c})->wpAny (Sb X.prog X.w) X.A (call (.builtin id) [.ref l]) Q E s)(J:X.calm=RQ):aX X F (.builtin id) (one (J4 f))where
 call:=λh s O H k P R N Q I y l hK D B=>by
  obtain⟨d,rfl,q⟩:=cJ B;obtain⟨v,rfl,i⟩:=D.one;obtain⟨u,rfl,x⟩:=vals1 y;cases d with
  |lst N=>
   obtain⟨ns,e,q⟩:=M.run_get.mp q;obtain⟨m,r,q⟩:=M.run_get.mp q;obtain⟨a,vs,rfl,L,n⟩:=i;cases(show u=Sm a from x);obtain⟨C,g,p,T⟩:=I.list (show dZ X.K H a vs by rw[hK];exact L.2.sq);rw[jU e]at n;have:=eK n;subst this;refine YQ p.isList (I.ok.hd J) (intsAre_of g) (by rw[r];exactλz=>nomatch z) λh' S t c G j=>?_;rw[r]at j;cases j;exact⟨.int m,H,I.kept G,⟨t,rfl⟩,q _ H .refl (by simp only[Is])⟩|_=>exact q.elim
def FV(w:X.calm=RQ):aX X F (.builtin "max") (one (J4 ua)):=uc (λ{l A ns s E Q}i u k b h=>by
 obtain⟨d,e⟩:=k.allInts.items;have a:ns=d.toList.map (·.1):=by rw[<-k.numsOf,<-nums_intItems,<-e]
 have g:ns≠[]:=λz=>by rw[z]at b;exact b rfl
 have f:=by have h3:=List.length_pos_iff.mpr g;rw[a,RV,SN]at h3;exact h3
 rw[e]at i;obtain⟨m,y,p,hb⟩:=hV g;refine max_intList u i f λv C n o q=>?_;obtain⟨t,rfl⟩:=intItems_at o;obtain⟨B,x⟩:=argBest_gt (numAt d) (d.size-1);refine h _ _ t n q ?_;rw[y];congr 1;refine Ze ?_ (hb _ ?_)
 .have c:=p;rw[a]at c;obtain⟨j,r,rfl⟩:=mem_getD c;rw[RV,SN]at r;rw[<-numAt_eq];exact x j '0'
 .rw[a,numAt_eq];exact getD_mem (by rw[RV,SN];omega)) w
def FW(w:X.calm=RQ):aX X F (.builtin "min") (one (J4 zQ)):=uc (λ{l A ns s E Q}i u k b h=>by
 obtain⟨d,e⟩:=k.allInts.items;have a:ns=d.toList.map (·.1):=by rw[<-k.numsOf,<-nums_intItems,<-e]
 have g:ns≠[]:=λz=>by rw[z]at b;exact b rfl
 have f:=by have h3:=List.length_pos_iff.mpr g;rw[a,RV,SN]at h3;exact h3
 rw[e]at i;obtain⟨m,y,p,hb⟩:=lV g;refine min_intList u i f λv C n o q=>?_;obtain⟨t,rfl⟩:=intItems_at o;obtain⟨B,x⟩:=argBest_lt (numAt d) (d.size-1);refine h _ _ t n q ?_;rw[y];congr 1;refine Ze (hb _ ?_) ?_;.rw[a,numAt_eq];exact getD_mem (by rw[RV,SN];omega)
 .have c:=p;rw[a]at c;obtain⟨j,r,rfl⟩:=mem_getD c;rw[RV,SN]at r;rw[<-numAt_eq];exact x j '0') w
end
section
variable{w:Sx}{K:Type}[DecidableEq K]{kk:VS prog w K}{A:SF}{E:RR->RU->Prop}{s:RU}
open ST
def fE.typeIs{a}{xs}{t}(S:fE kk s.heap a xs t):s.TypeIs (.ref a) "set":=let⟨o,_,_,b,c,_⟩:=S.ob;⟨o,b,c.1⟩
def rA{a b}{xs}{t}{k}{Q}(hu:A.units+1<TL)(S:fE kk s.heap a xs t)(hK:EI kk s.heap xs)(hb:IsTupleKey kk s.heap k b)(l:xs.length<4)(f:k∈xs.map (·.1)->∀e,Q .none {s with toks:=e})(new:k∉xs.map (·.1)->∀h' c t' e,TR a s.heap h'->fE kk h' a c t'->c.Perm ((k,b)::xs)->(t.plain=RQ->dI s.heap b->t'.plain=RQ)->Q .none {s with heap:=h',toks:=e}):wpAny (Sb prog w) A (call (.builtin "set.add") [.ref a,.ref b]) Q E s:=by
 refine Tq Xs (fE.typeIs S) Zn ?_ (Y4 _ _);unfold Builtin.«set.add»X7;simp only[Vz,bind_assoc];refine RO (RS ?_);try dsimp only
 refine RO (RS ?_);try dsimp only
 refine RO (SS (RO (wpAny_pyHash_tuple hu hb (SS ?_))));refine EK (s:={s with toks:=s.toks+(k.length+1)}) hu S hK hb '0' (λg=>?_) λd h' c t' sb j h i=>?_
 .exact RS ⟨_,rfl,f g _⟩
 .exact RS ⟨_,rfl,new d h' c t' _ sb j h i⟩
end
noncomputable def nN(ks:List Key):Bool:=ks.all λk=>k.isLeft
def nO(P:Sf)(w:Sx)(o:Tn)(xs:List (List Key×RW)):Prop:=o.data≠.freed/\(∀v,o.data≠.cell v)/\∀(h:SJ)(a:RW),h.get? a=RM o->∃t,ST.fE (aw P w) h a xs t/\((∀x∈xs,nN x.1=RQ)->t.plain=RQ)
def nO.of(S:ST.fE (aw P w) h a xs t)(e:h.get? a=RM o)(d:(∀x∈xs,nN x.1=RQ)->t.plain=RQ):nO P w o xs:=by
 obtain⟨j,f,g,c,hex,hd,b⟩:=S.ob;rw[e]at c;cases c;exact⟨λz=>(by rw[hd]at z;cases z),λv z=>(by rw[hd]at z;cases z),λk l i=>⟨t,⟨⟨o,f,g,i,hex,hd,b⟩,S.tab,S.zg,S.nd,S.led⟩,d⟩⟩
def PV(K:R0)(H:Hp)(xs:List (List Key×RW)):Prop:=∀x∈xs,ki K H x.2 (x.1.map kV)
theorem nP:∀{ks:List Key}{a:List RR},ax (ks.map kV) a->nN ks=RQ->∀v∈a,Xo 7 v=pure RQ
 |[],_,r,_,v,b=>by cases r;cases b|k::ks,_,r,h,v,b=>by cases r with|cons d c=>
   unfold nN at h;rw[UW,R4]at h;rcases Ω2.mp b with z|z
   .subst z;cases k with
    |inl i=>obtain⟨t,e⟩:=(show∃t,v=U1 i t from d);subst e;rfl|inr x=>cases h.1
   .exact nP c h.2 v z
def Cb{σ:St}(I:Inv X pins σ H s)(h:ki X.K H a (ks.map kV))(d:nN ks=RQ):ST.dI s.heap a:=by
 obtain⟨b,r,⟨o,f,g,n,e⟩,_⟩:=I.tuple h;exact⟨o,b.toArray,n,f,e,λv c=>nP r d v (by simpa using c)⟩
def PX(P:Sf)(w:Sx)(a:List (List Key×RW)×Tn)(ob:Tn):Prop:=a.2=ob/\nO P w ob a.1
noncomputable def rB(P:Sf)(w:Sx)(K:R0)(te:TE):RB (List (List Key×RW)×Tn):=λf H a Q=>te f H λy e=>∃b k,y=.ref b/\ki K e b (k.map kV)/\PV K e a.1/\a.1.length<4/\(k∈a.1.map (·.1)->Q a f e)/\(k∉a.1.map (·.1)->∀c d,c.Perm ((k,b)::a.1)->nO P w d c->Q (c,d) f e)
def Cc{D:RW}(o:Me Y D)(hu:Y.A.units+1<TL)(h:PE Y elt te):Body Y (PX Y.prog Y.w) D (do let v<-Ux elt Y.env;Wx elt.pos;let _<-call (.builtin "set.add") [.ref D,v]) (rB Y.prog Y.w Y.K te):=by
 intro F s m H c ob Q I C aM q;refine RO (bE (h _ s m H _ I q) λu M n=>?_);obtain⟨y,J,d,N,b,k,U,hb,hK,T,O,P⟩:=n;refine RO (Ut ?_);obtain⟨rfl,j⟩:=aM;have eD:=(d.pin _ (Sk _ RX)).1;subst U;cases(show u=Sm b from N);obtain⟨t,S,r⟩:=j.2.2 _ _ eD;have g:ST.EI (aw Y.prog Y.w) M.heap c.1:=λx B=>vq d (hK x B);refine RO (rA hu S g (vq d hb) T (λE L=>?_) λi Z f X L sb G p R=>?_);.exact RS ⟨c,c.2,m,J,d.tok _,⟨rfl,j⟩,O E⟩
 .obtain⟨z,V,W,l,_⟩:=id G.ob;have a:=nO.of G l λq=>R (r λx B=>q x (p.mem_iff.mpr (RZ _ B))) (Cb d hb (q (k,b) (p.mem_iff.mpr RX)));exact RS ⟨(f,z),z,m,J,d.AK o.young o.cells C (λb ob hb e=>(sb.2 b hb).trans e) l a.2.1,⟨rfl,a⟩,P i f z p a⟩
def Cd(P)(w):nO P w (bx w) []:=by
 refine⟨'4',(λv z=>nomatch z),λh a e=>⟨_,⟨⟨_,_,_,e,⟨rfl,rfl,rfl⟩,rfl,rfl⟩,?_,(by show 0*5<7*3;omega),.nil,rfl⟩,λ_=>rfl⟩⟩;exact⟨.inl rfl,.nil,rfl,rfl,λi j e=>(by simp[SetTable.fresh]at e),SH _,λi h j e=>(by simp at e)⟩
noncomputable def oS(a:List (List Key×RW)×Tn):HO:=.cz a.2 (.ext λ_=>True)
def FX(a)(ob)(H)(h)(D)(ok:PX P w a ob)(e:h.get? D=RM ob)(_:jq P w H h):bF P w (upd H D (oS a)) h D (oS a):=by
 obtain⟨rfl,_⟩:=ok;exact⟨e,trivial,⟨_,e⟩,λ_ _ _ _=>trivial⟩
noncomputable def x_:D->Option (List Int)
 |.tup a=>dM a|_=>RP
def Ce(h:x_ d=RM ns):d=.tup (ns.map D.int):=by cases d with
 |tup a=>rw[jU h]|_=>cases h
noncomputable def Hr(ns:List Int):List Key:=ns.map WJ
def J5(ns:List Int):(Hr ns).map kV=ns.map V.int:=by unfold Hr;rw[S7];rfl
def Ly(F:Fx)(H:Hp)(a:List (List Key×RW)×Tn)(r:Option (List Int)):Prop:=nO F.P F.w a.2 a.1/\match r with
 |none=>a.1=[]|some ns=>∃b,a.1=[(Hr ns,b)]/\TupAt F.toFb H b (ns.map V.int)
theorem Ly.mono(h:Ly F H a r)(e:Kp F.toFb H k H' c):Ly F H' a r:=by cases r with
 |none=>exact h|some ns=>obtain⟨g,b,f,d⟩:=h;exact⟨g,b,f,d.mono e⟩
noncomputable def Cf(te:ah->M D)(a:Option (List Int))(ρ:ah):M (Option (List Int)×ah):=do
 let x<-te ρ;let ns<-M.get (x_ x)M.need (a=RP\/a=RM ns)pure (RM ns,ρ)
def FY:B1 F (Ly F) (Cf te) (rB F.P F.w F.K (dR F te)):=by
 intro r i H k a G Q J S so h q;refine dR.next S h λx n v1 y p v o E=>?_;obtain⟨ns,en,C⟩:=M.run_get.mp E;obtain⟨ha,g⟩:=C;rw[Ce en]at o;obtain⟨b,I,rfl,l,B⟩:=o;have:=eK B;subst this;have e:=so.mono p.kp;rcases ha with rfl|rfl
 .obtain⟨t,d⟩:=e;have d:=d;refine⟨b,Hr ns,rfl,by rw[J5];exact l.2,(λx f=>by rw[d]at f;cases f),by rw[d];exact '1',(λz=>by rw[d]at z;cases z),λ_ j A u m=>?_⟩;rw[d]at u;have:=List.perm_singleton.mp u;subst this;exact q _ (RM ns) i r y n p v ⟨m,b,rfl,l⟩ g
 .obtain⟨t,c,d,s⟩:=e;refine⟨b,Hr ns,rfl,by rw[J5];exact l.2,λx f=>?_,by rw[d];exact(by decide:1<4),(λ_=>q _ (RM ns) i r y n p v ⟨t,c,d,s⟩ g),λz=>Ξ1 (by rw[d];simp) z⟩;rw[d]at f;rw[Ω1.mp f,J5];exact s.2
noncomputable def Cg:Option (List Int)->List D
 |none=>[]|some ns=>[.tup (ns.map D.int)]
def FZ(ns):nN (Hr ns)=RQ:=by
 unfold nN Hr;rw[Tj];intro x a;obtain⟨i,_,rfl⟩:=Ω3.mp a;rfl
section
def PY(F:Fx):List V->Hp->VK->Prop:=λb H Q=>∃p a r k,b=[.ref p]/\H p=RM (oS a)/\Ly F H a r/\H F.p≠RP/\qE F.toFb H k Q (.lst (Cg r)) k
def Ci(hc:X.calm=RQ)(hP:X.prog=F.P)(hw:X.w=F.w):dH X (.builtin "sorted") (PY F):=by
 intro d s M H xs us Q I rv h;obtain⟨p,a,r,k,rfl,hp,so,l,q⟩:=h;obtain⟨u,rfl,Z⟩:=vals1 rv;cases(show u=Sm p from Z);have K:=(I.aM p _ hp).1;obtain⟨j,g⟩:=so;rw[<-hP,<-hw]at j;obtain⟨t,S,pl⟩:=j.2.2 s.heap p K;obtain⟨o,O,ep,ho,hex,hd,n⟩:=id S.ob;have hl:a.1.length<=1:=by cases r with
  |none=>rw[show a.1=[]from g];decide|some ns=>obtain⟨b,e,_⟩:=g;rw[e];exact R5 _
 have m:=by have:=Ξ0 T6 n;simpa using this
 have J:=pl λx C=>by cases r with
  |none=>rw[show a.1=[]from g]at C;cases C|some ns=>obtain⟨b,e,_⟩:=g;rw[e]at C;rw[Ω1.mp C];exact FZ ns
 have W:ST.Wk X.w o O ep t:=⟨hex,hd,ST.fits_of S.tab (by rw[m,RV]),S.tab.rise,J,S.led⟩;refine SrtP.lg (ST.kZ W (show X.A.in1.handled=RP from I.ok.hd hc) ho (by rw[m,TH];omega) λy E U g1 pv=>?_);rw[n,S7]at pv;have vl:U.length<=1:=by rw[pv.length_eq,RV];exact hl
 have T:Inv X d M H {s with heap:=y,toks:=E}:=I.kept g1;refine⟨by rw[TH];omega,oneType',⟨λz=>'0',λz=>'0'⟩,λf h' c pm g2 R=>?_⟩;have pu:=pm.trans pv;have N:=T.aM.fresh (R5 _);have B:∀{ws}{L},ax ws f->ag F.toFb H ws L->L=Cg r->ws.length<=1->EP X d M Q (.ref y.objs.size) {s with heap:=h',toks:=E}:=λ{ws L}G iw e a0=>by
  have I2:=T.newList (t:=E) g2 (R5 _) G (by rw[TH];omega) R;refine⟨.ref y.objs.size,_,I2.freeze aq R '3' (λ_ _ z=>nomatch z) '3' '3',rfl,?_⟩;rw[bZ];rw[<-e]at q;exact q _ _ (.new N) (dq (k:=k) l N iw)
 cases r with
 |none=>
  rw[show a.1=[]from g]at pu;have:=List.perm_nil.mp pu;subst this;exact B .nil .nil rfl (SH _)|some ns=>
  obtain⟨b,e,Y⟩:=g;rw[e]at pu;have:=List.perm_singleton.mp pu;subst this;exact B (ws:=[.ref b]) (rfl∘.nil) ((by exact⟨b,_,rfl,Y,i_⟩)∘.nil) rfl (R5 _)
end
section
def F1(own fr)(js)(b:X.calm=RQ)(hu:X.A.units+1<TL)(B:mY X.env.scope scope=RQ)(hj:js.map (λj=>X.N[j]?)=fr.map RM)(u:∀x∈fr,scope.names.lookup x=RM .free)(n:js.Nodup)(hw:DI X F tg iter tI)(hg:∀pins cl C d s H,DG (fM X pins scope (own++fr) cl C d s H) F tg g)(hi:∀pins cl C d s H,lH (fM X pins scope (own++fr) cl C d s H) F ifs tc)(he:∀pins cl C d s H,DE (fM X pins scope (own++fr) cl C d s H) F elt te)(hs:∀x,U3 iter X.env x=pure x)(hP:X.prog=F.P)(f:X.w=F.w)(Z:X.mg x=RP)(V:Uh x=RM (.builtin "sorted"))(t:Gl X x)(Y:x≠"__name__")(y:(x==("__debug__":Sy))=RT):DE X F (.Call (.Name x p) [.SetComp elt [⟨tg,iter,ifs,0⟩] scope pos] [] cp) (λρ=>do let ds<-tI ρ;let r<-nJ g tc (Cf te) RP ds (fF ρ own.length js);pure (.lst (Cg r.1))):=by
 refine⟨hw.hK,λpins s L H Q I l=>?_⟩;obtain⟨cl,c⟩:=vC I.ok B;have P:PE X (.SetComp elt [⟨tg,iter,ifs,0⟩] scope pos) (xw own.length js (OD F tI) (Lu F g) (qQ F tc) (rB X.prog X.w X.K (dR F te)) ([],bx X.w) oS):=(ky (rd:=rB X.prog X.w X.K (dR F te)) (a0:=([],bx X.w)) (o:=oS) (ok:=PX X.prog X.w) (ob0:=bx X.w) (newAcc:=newSet (.type "set")) (own:=own) (fr:=fr) (js:=js) (body:=λD env=>do let v<-Ux elt env;Wx elt.pos;let _<-call (.builtin "set.add") [.ref D,v]) b c hj u hw.pi rfl (kz rfl rfl) (λh=>xj h) (λa ob v ok=>ok.2.2.1 v) ⟨rfl,Cd _ _⟩ '4' (λ_ _ _=>rfl) (λ_ _ _=>rfl) (λ_ _ _=>rfl) (λpins cs C d s H=>(hg pins cs C d s H).pg) (λpins cs C d s H=>(hi pins cs C d s H).pi) (λpins cs C d s H D o=>Cc o hu (he pins cs C d s H).pe) FX hs).pe rfl;refine eA (Ci (F:=F) b hP f) t Z V (bz P dQ rfl) Y y rfl rfl pins s L H Q I ?_;obtain⟨ρ,k,S,h⟩:=l;refine⟨ρ,k,S,M.wk h λds k1 q J H1 E it=>?_⟩;have S1:=(S.mono E).fM own.length n;rw[hP,f,hw.hK];refine Hm (So:=Ly F) (λh e=>h.mono e) FY it S1 ⟨Cd _ _,rfl⟩ q λa R O G H' i e2 S2 so T p m W=>?_;have ex:Ext F.toFb H k (upd H' p (oS a)) i:=(E.trans e2).trans (.new m);exact⟨p,a,R,i,rfl,aq,so.mono (Ext.new (k:=i) m).kp,(Ext.new (F:=F.toFb) (k:=i) m).live S2.live,λv H2 e3 U=>T v H2 (ex.trans e3) U⟩
end
inductive Tg where|nm(i:Nat)|nil|cons(t r:Tg)|tup(n:Nat)(r:Tg)
inductive BI where|len|tuple|sorted|repr|int|str|dict|max|min|set|all|any|top|low deriving DecidableEq
inductive Ex where|var(i:Nat)|cst(d:D)|lj(i:Nat)|op(o:Zv)(a b:Ex)|neg(a:Ex)|cmp(o:Wg)(a b:Ex)|F2(o o':Wg)(a b c:Ex)|rC(o o':Wg)(a b c:Ex)|Ht(c a b:Ex)|and(a b:Ex)|one(a:Ex)|not(a:Ex)|fI(a b:Ex)|Cj(a b:Ex)|d8(a:Ex)|rD(a:Ex)|sy(a:Ex)|aK(o:Wg)(a b:Ex)|nil|cons(a r:Ex)|feed(i:Nat)(r:Ex)|tup(r:Ex)|lst(r:Ex)|idx(a b:Ex)|bi(f:BI)(r:Ex)|call(f:Nat)(r:Ex)|Hu(T:String)(a:Ex)|lc(own:List Sy)(js:List Nat)(tg:Tg)(it c elt:Ex)|dc(own:List Sy)(js:List Nat)(tg:Tg)(it c ke ve:Ex)|Ck(own:List Sy)(js:List Nat)(tg:Tg)(it c elt:Ex)|jV(r:Ex)|Co(r:Ex)|aB(a:Ex)|yes|Hv(c:Nat)(a:Ex)|bad|oK(i:Nat)(e:Ex)|rE(o r:Ex)|M0(i:Nat)(r:Ex)
noncomputable def aZ:D->T Bool
 |.bl b=>.ok b|_=>.stuck
noncomputable def bS:D->T Int
 |.int i=>.ok i|_=>.stuck
noncomputable def gr:List A->T (List D)
 |[]=>.ok []|.d x::r=>do let a<-gr r;.ok (x::a)|.feed::_=>.stuck
noncomputable def dw(i:Int):Bool:=decide (-(2^64)<i)&&decide (i<2^64)
noncomputable def qb:Zv->D->D->T D
 |.Add,d,e=>match d,e with
  |.int i,.int j=>.ok (.int (i+j))|.lst b,.lst a=>do T.need (decide (b.length+a.length<=R1));.ok (.lst (b++a))|_,_=>.stuck
 |.Sub,d,e=>match d,e with
  |.int i,.int j=>.ok (.int (i-j))|_,_=>.stuck
 |.Mult,d,e=>do let i<-bS d;let j<-bS e;T.need (dw i||dw j);.ok (.int (i*j))|.Mod,d,e=>do let i<-bS d;let j<-bS e;T.need (decide (0<j));.ok (.int (i%j))|.FloorDiv,d,e=>do let i<-bS d;let j<-bS e;T.need (decide (j=2));.ok (.int (i/j))|.Pow,d,e=>do let i<-bS d;let j<-bS e;T.need (decide (i=10)&&decide (0<=j/\j<=30));.ok (.int (i^j.toNat))|_,_,_=>.stuck
noncomputable def be:Wg->D->D->T D
 |.Eq,d,e=>do let b<-T.get (dh dS d e);.ok (.bl b)|.NotEq,d,e=>do let b<-T.get (dh dS d e);.ok (.bl (!b))|.Lt,d,e=>do let i<-bS d;let j<-bS e;.ok (.bl (decide (i<j)))|.LtE,d,e=>do let i<-bS d;let j<-bS e;.ok (.bl (decide (i<=j)))|.Gt,d,e=>do let i<-bS d;let j<-bS e;.ok (.bl (decide (j<i)))|.GtE,d,e=>do let i<-bS d;let j<-bS e;.ok (.bl (decide (j<=i)))|.Is,d,e=>do T.need (gq e);.ok (.bl (gq d))|.IsNot,d,e=>do T.need (gq e);.ok (.bl (!gq d))|.In,d,e=>match e with
  |.aO ks _=>do T.need (aC ks d);.ok (.bl (dr ks d))|_=>do let a<-T.get (items e);let b<-T.get (jG d a);.ok (.bl b)
 |.NotIn,d,e=>match e with
  |.aO ks _=>do T.need (aC ks d);.ok (.bl (!dr ks d))|.aJ a=>do T.need (decide (a.length<=300));let i<-bS d;.ok (.bl (!decide (i∈a)))|_=>do let a<-T.get (items e);let b<-T.get (jG d a);.ok (.bl (!b))
noncomputable def M1:D->D->T D:=λd e=>do
 let i<-bS e;match d with
 |.tup a=>T.get (fL a i)|.lst a=>T.get (fL a i)|_=>.stuck
noncomputable def aT:D->D->T D
 |.aO ks a,e=>do T.need (aC ks e);T.get (aP ks a e)|d,e=>M1 d e
noncomputable def Cp(d:D):T Bool:=T.get (Fu d)
noncomputable def ud(d:D):T D:=match d with
 |.aJ b=>do T.need (decide (b.length<64));.ok (.lst ((sortI b).map D.int))|_=>do
  let a<-T.get (lh d)T.need (decide (a.length<=R1)&&jT a)T.perm a λl=>.ok (.lst l)
noncomputable def oX:BI->List D->T D
 |.len,[d]=>match d with
  |.tup a=>.ok (.int a.length)|.lst a=>.ok (.int a.length)|_=>.stuck
 |.tuple,[d]=>do let a<-T.get (items d);.ok (.tup a)|.sorted,[d]=>ud d|.repr,[d]=>do T.need (FH d&&rp d);.ok (.str (rl d).shown)|.int,[d]=>match d with
  |.int i=>.ok (.int i)|.bl b=>.ok (.int (if b then 1 else 0))|_=>.stuck
 |.str,[d]=>match d with
  |.int i=>do T.need (decide (i.natAbs.log2<1920));.ok (.str (toString i))|_=>.stuck
 |.dict,[d]=>match d with
  |.lst ps=>do let r<-T.get (eN ps ([],[]));.ok (.aO r.1 r.2)|_=>.stuck
 |.set,[d]=>match d with
  |.lst c=>do let ns<-T.get (dM c);T.need (decide (ns.length<=300));.ok (.aJ (bW ns))|_=>.stuck
 |.max,[d,e]=>do let i<-bS d;let j<-bS e;.ok (.int (if j>i then j else i))|.min,[d,e]=>do let i<-bS d;let j<-bS e;.ok (.int (if j<i then j else i))|.all,[d]=>match d with
  |.lst a=>do let bs<-T.get (bools a);.ok (.bl (bs.all id))|_=>.stuck
 |.any,[d]=>match d with
  |.lst a=>do let bs<-T.get (bools a);.ok (.bl (bs.any id))|_=>.stuck
 |.top,[d]=>match d with
  |.lst c=>do let ns<-T.get (dM c);let m<-T.get (ua ns);.ok (.int m)|_=>.stuck
 |.low,[d]=>match d with
  |.lst c=>do let ns<-T.get (dM c);let m<-T.get (zQ ns);.ok (.int m)|_=>.stuck
 |_,_=>.stuck
noncomputable def ya:D->List D->T D
 |.aO ks a,[d,z]=>do T.need (aC ks d&&decide (ks.length=a.length));.ok ((aP ks a d).getD z)|_,_=>.stuck
noncomputable def F3:D->List D->T D
 |.tup a,[d]=>do T.need (a.all BH&&BH d);let i<-T.get (B6 d a 0);.ok (.int i)|_,_=>.stuck
noncomputable def Hw(Ty:String)(d:D):T D:=do
 let t<-T.get (Jk d)let b<-T.get (TZ [] (.type t) (.type Ty));.ok (.bl b)
mutual
noncomputable def dm:Tg->D->ah->T ah
 |.nm i,d,a=>.ok (a.set i ⇑d)|.tup n r,d,a=>match d with
  |.tup b=>if b.length=n then ja r b a else .stuck|_=>.stuck
 |_,_,_=>.stuck
noncomputable def ja:Tg->List D->ah->T ah
 |.nil,a,c=>match a with
  |[]=>.ok c|_=>.stuck
 |.cons t r,a,c=>match a with
  |d::a=>do let b<-dm t d c;ja r a b|[]=>.stuck
 |_,_,_=>.stuck
end
noncomputable def eO(g:D->ah->T ah)(tc:ah->T Bool)(te:ah->T D):List D->ah->T (List D)
 |[],_=>.ok []|d::c,e=>do
  let a<-g d e;let b<-tc a;if b then do
   let x<-te a;let r<-eO g tc te c a;.ok (x::r)else eO g tc te c a
noncomputable def b_(g:D->ah->T ah)(tc:ah->T Bool)(f:c->ah->T (c×ah)):c->List D->ah->T (c×ah)
 |acc,[],e=>.ok (acc,e)|acc,d::h,e=>do
  let a<-g d e;let b<-tc a;if b then do
   let r<-f acc a;b_ g tc f r.1 h r.2;else b_ g tc f acc h a
noncomputable def ll(c b:ah->T D)(a:List D×List D)(ρ:ah):T ((List D×List D)×ah):=do
 let x<-c ρ;let y<-b ρ;T.need (aC a.1 x&&decide (a.1.length<R1));.ok (putD a.1 a.2 x y,ρ)
noncomputable def uf(te:ah->T D)(a:Option (List Int))(ρ:ah):T (Option (List Int)×ah):=do
 let x<-te ρ;let ns<-T.get (x_ x)T.need (decide (a=RP\/a=RM ns));.ok (RM ns,ρ)
noncomputable def zR(d:D):T (List D):=do
 let j<-bS d;T.need (decide (-(2^62)<=j)&&decide (j<=1000000));.ok (bC j.toNat)
noncomputable def gP(ρ:ah)(i:Nat):Bool:=match ρ[i]? with
 |some (RM .feed)=>RQ|_=>RT
structure Ev where
 call:Nat->List A->T D
 lj:Nat->Option D
 cls:Nat->Option RW
 how:RW->Bool
 sub:RW->RW->Option Bool
 ins:RW->RR->Option Bool
noncomputable def yb(v:Ev)(Ty:String):D->T D
 |.exc c _=>do let b<-T.get (v.ins c (.type Ty));.ok (.bl b)|d=>Hw Ty d
noncomputable def ug(v:Ev)(P:RW):D->T D
 |.exc c _=>do let b<-T.get (v.ins c (.ref P));.ok (.bl b)|_=>.stuck
noncomputable def Hx(v:Ev)(C:RW)(as:List A):T D:=do T.need (decide (as.length<=R1));.ok (.exc C [])
mutual
noncomputable def ak(v:Ev):Ex->ah->T D
 |.var i,g=>T.get (iW g i)|.cst d,_=>.ok d|.lj i,_=>T.get (v.lj i)|.op o a b,g=>do let d<-ak v a g;let e<-ak v b g;qb o d e|.neg a,g=>do let i<-bS (<-ak v a g);.ok (.int (-i))|.cmp o a b,g=>do let d<-ak v a g;let e<-ak v b g;be o d e|.F2 o n a b c,g=>do
  let d<-ak v a g;let e<-ak v b g;let y<-aZ (<-be o d e)if y then do let f<-ak v c g;be n e f else .ok (.bl RT)|.Ht c a b,g=>do let x<-bN v c g;if x then ak v a g else ak v b g|.and a b,g=>do let c<-aZ (<-ak v a g);if c then ak v b g else .ok (.bl RT)|.one a,g=>ak v a g|.not a,g=>do let c<-aZ (<-ak v a g);.ok (.bl (!c))|.tup r,g=>do let h<-gr (<-fZ v r g);T.need (decide (h.length<=R1));.ok (.tup h)|.lst r,g=>do let h<-gr (<-fZ v r g);T.need (decide (h.length<=R1));.ok (.lst h)|.idx a b,g=>do let d<-ak v a g;let e<-ak v b g;aT d e|.bi f r,g=>do oX f (<-gr (<-fZ v r g))|.call f r,g=>do let as<-fZ v r g;(v.call f as).at' g|.Hu Ty a,g=>do yb v Ty (<-ak v a g)|.Hv c a,g=>do let P<-T.get (v.cls c);ug v P (<-ak v a g)|.lc own l k it c j,g=>do
  let h<-nQ v it g;let r<-eO (dm k) (λg=>(bN v c g).calm) (λg=>(ak v j g).calm) h (fF g own.length l);.ok (.lst r)|.dc own l k it c p m,g=>do
  let h<-nQ v it g;let r<-b_ (dm k) (λg=>(bN v c g).calm) (ll (λg=>(ak v p g).calm) (λg=>(ak v m g).calm)) ([],[]) h (fF g own.length l);.ok (.aO r.1.1 r.1.2)|.Ck own l k it c j,g=>do
  let h<-nQ v it g;let r<-b_ (dm k) (λg=>(bN v c g).calm) (uf (λg=>(ak v j g).calm)) RP h (fF g own.length l);.ok (.lst (Cg r.1))|.oK i e,g=>do
  let d<-ak v e (uX i g)T.need (flat (i8 g i) d);.ok d|.rE o r,g=>do
  let d<-ak v o g;T.need (tM d)ya d (<-gr (<-fZ v r g))|.M0 i r,g=>do
  let d<-T.get (v.lj i)T.need (t6 d)F3 d (<-gr (<-fZ v r g))|_,_=>.stuck
noncomputable def bN(v:Ev):Ex->ah->T Bool
 |.yes,_=>.ok RQ|.fI a b,g=>do let c<-bN v a g;if c then bN v b g else .ok RT|.Cj a b,g=>do let c<-bN v a g;if c then .ok RQ else bN v b g|.d8 a,g=>bN v a g|.rD a,g=>do let c<-bN v a g;.ok (!c)|.sy a,g=>do Cp (<-ak v a g)|.aK o a b,g=>do let d<-ak v a g;let e<-ak v b g;aZ (<-be o d e)|.rC o h a b c,g=>do
  let d<-ak v a g;let e<-ak v b g;let y<-aZ (<-be o d e)if y then do let f<-ak v c g;aZ (<-be h e f)else .ok RT|.oK i e,g=>bN v e (uX i g)|_,_=>.stuck
noncomputable def fZ(v:Ev):Ex->ah->T (List A)
 |.nil,_=>.ok []|.cons a r,b=>do let d<-ak v a b;let c<-fZ v r b;.ok (.d d::c)|.feed i r,b=>do T.need (gP b i);let c<-fZ v r b;.ok (.feed::c)|_,_=>.stuck
noncomputable def nQ(v:Ev):Ex->ah->T (List D)
 |.jV r,b=>do match<-gr (<-fZ v r b)with
  |[d]=>zR d|_=>.stuck
 |.Co r,b=>do match<-gr (<-fZ v r b)with
  |[.lst c]=>.ok (iG c)|_=>.stuck
 |.aB a,b=>do T.get (gL (<-ak v a b))|_,_=>.stuck
end
inductive bq where|asg(tg:Tg)(e:Ex)|set(i:Nat)(e:Ex)|par(i j:Nat)(r:Ex)|ret(e:Ex)|nil|cons(s r:bq)|iff(c:Ex)(a b:bq)|dU(tg:Tg)(it:Ex)(b:bq)|J6(c:Ex)(b:bq)|raise(c:Nat)(r:Ex)|Cq(b:bq)(c i y:Nat)(h:Hd)|bad|oY(i:Nat)(r:Ex)|i8(i:Nat)|app(i:Nat)(e:Ex)|put(i:Nat)(k e:Ex)|fz(i:Nat)(s:bq)|expr(e:Ex)|yc(i j:Nat)|add(i:Nat)(e:Ex)|pop(j i:Nat)
noncomputable def uh:D->T (List D)
 |.lst a=>.ok a|_=>.stuck
noncomputable def Cr:D->T (List Int)
 |.aJ a=>.ok a|_=>.stuck
noncomputable def yd:D->T (List D×List D)
 |.aO ks a=>.ok (ks,a)|_=>.stuck
noncomputable def T.lI(t:T b)(h:Xc->T b):T b:=match t with
 |.ok a=>.ok a|.exc x=>h x|.stuck=>.stuck|.draw n k=>.draw n λi=>(k i).lI h|.perm l k=>.perm l λi=>(k i).lI h
noncomputable def nR(v:Ev)(P:RW)(i y:Nat)(h:Hd)(x:Xc):T Fl:=match x.x with
 |.exc c nm=>do
  T.need (match v.sub c P with|some RQ=>RQ|_=>RT)let d<-T.get (OF h (xD (RM i) (.exc c nm) x.en));.ok (.nx (QP (RM i) ((xD (RM i) (.exc c nm) x.en).set y ⇑d)))|_=>.stuck
noncomputable def di(g:D->ah->T ah)(body:ah->T Fl):List D->ah->T Fl
 |[],c=>.ok (.nx c)|d::e,c=>do
  let b<-g d c;match<-body b with
  |.nx a=>di g body e a|.ct a=>di g body e a|.bk a=>.ok (.nx a)|.rt r=>.ok (.rt r)
noncomputable def eP(c:ah->T Bool)(body:ah->T Fl):Nat->ah->T Fl
 |0,_=>.stuck|n+1,d=>do
  let b<-c d;if b then do match<-body d with
   |.nx a=>eP c body n a|.ct a=>eP c body n a|.bk a=>.ok (.nx a)|.rt r=>.ok (.rt r)else .ok (.nx d)
noncomputable def cV:Nat:=1000
noncomputable def av(v:Ev):bq->ah->T Fl
 |.asg p e,f=>do let d<-ak v e f;let l<-dm p d f;.ok (.nx l)|.set i e,f=>do let d<-ak v e f;.ok (.nx (f.set i ⇑d))|.par i j r,f=>do match<-gr (<-fZ v r f)with
  |[d,e]=>.ok (.nx ((f.set i ⇑d).set j ⇑e))|_=>.stuck
 |.ret e,f=>do let d<-ak v e f;.ok (.rt d)|.nil,f=>.ok (.nx f)|.cons s r,f=>do match<-av v s f with
  |.nx l=>av v r l|t=>.ok t
 |.iff c a b,f=>do let x<-bN v c f;if x then av v a f else av v b f|.dU p it b,f=>do di (dm p) (av v b) (<-nQ v it f) f|.J6 c b,f=>eP (bN v c) (av v b) cV f|.raise c r,f=>do
  let C<-T.get (v.cls c)T.need (v.how C)let x<-Hx v C (<-fZ v r f);.exc ⟨x,f⟩|.Cq b c i y h,f=>do
  let P<-T.get (v.cls c)(av v b f).lI (nR v P i y h)|.bad,_=>.stuck|.oY i r,f=>do
  let g<-gr (<-fZ v r f)T.need (decide (g.length<=R1));.ok (.nx (f.set i (RM (.own (.lst g)))))|.i8 i,f=>.ok (.nx (f.set i (RM (.own (.aO [] [])))))|.app i e,f=>do
  let g<-uh (<-T.get (jP f i))let d<-ak v e f;T.need (decide (g.length<R1));.ok (.nx (f.set i (RM (.own (.lst (g++[d]))))))|.put i k e,f=>do
  let d<-ak v e f;let m<-yd (<-T.get (jP f i))let q<-ak v k f;T.need (decide (m.1.length<R1)&&aC m.1 q);.ok (.nx (f.set i (RM (.own (.aO (putD m.1 m.2 q d).1 (putD m.1 m.2 q d).2)))))|.fz i s,f=>av v s (uX i f)|.expr e,f=>do let _<-ak v e f;.ok (.nx f)|.yc i j,f=>do
  let n<-bS (<-T.get (iW f j));.ok (.nx (f.set i (RM (.own (.aJ [n])))))|.add i e,f=>do
  let o<-Cr (<-T.get (jP f i))let n<-bS (<-ak v e f)T.need (decide (o.length<=300));.ok (.nx (f.set i (RM (.own (.aJ (if n∈o then o else o++[n]))))))|.pop j i,f=>do
  let g<-uh (<-T.get (jP f i))let d<-T.get g[g.length-1]?;.ok (.nx ((f.set i (RM (.own (.lst g.dropLast)))).set j ⇑d))
structure Df where
 np:Nat
 nn:Nat
 body:bq
noncomputable def c8(n:Nat)(as:List A):ah:=as.map (λa=>RM a.w)++Tu (n-as.length) RP
noncomputable def jW:Fl->T D
 |.rt d=>.ok d|.nx _=>.ok .br|_=>.stuck
noncomputable def lEq:List Nat->List Nat->Bool
 |[],[]=>RQ|x::b,y::a=>Vu x y&&lEq b a|_,_=>RT
theorem Cs:∀{a b:List Nat},lEq a b=RQ->a=b
 |[],[],_=>rfl|[],_::_,h=>nomatch h|_::_,[],h=>nomatch h|x::d,y::c,h=>by
  simp only[lEq,R4]at h;rw[TN h.1,Cs h.2]
theorem ui:∀(a:List Nat),lEq a a=RQ
 |[]=>rfl|x::b=>by simp only[lEq,R4];exact⟨Nat.beq_refl x,ui b⟩
noncomputable def sEq(x y:Sy):Bool:=lEq x.cps.toList y.cps.toList
def bO(h:sEq x y=RQ):x=y:=by
 obtain⟨⟨a⟩⟩:=x;obtain⟨⟨b⟩⟩:=y;have:=Cs h;simp only at this;rw[this]
def uj(x:Sy):sEq x x=RQ:=ui _
def Ct(h:sEq x y=RT):x≠y:=λe=>by rw[e,uj]at h;cases h
def rF(x y):sEq x y=(x==y):=by cases h:sEq x y with
 |true=>rw[bO h];simp|false=>exact(Ξ.mpr (Ct h)).symm
noncomputable def uk(x:Sy):List (Sy×Vf)->Option Vf
 |[]=>RP|(y,k)::r=>if sEq x y then RM k else uk x r
theorem nS(x:Sy):∀(l:List (Sy×Vf)),uk x l=l.lookup x
 |[]=>rfl|(y,k)::r=>by
  simp only[uk,Th,rF,nS x r];cases x==y<;>rfl
structure MC where
 N:List Sy
 sc:UM
 all:Bool
 own:List (Sy×Vf)
structure fg where
 dn:List Sy
 gn:List Sy
 cn:List Sy
noncomputable def isAt(N:List Sy)(i:Nat)(x:Sy):Bool:=match N[i]? with
 |some y=>sEq y x|none=>RT
set_option tactic.hygienic true in
def fh(h:isAt N i x=RQ):N[i]?=RM x:=by
 unfold isAt at h;split at h;.rename_i y e;rw[e,bO h]
 .cases h
noncomputable def rG(x:Sy):Bool:=!sEq x "__debug__"&&!sEq x "__classdict__"&&!sEq x "__name__"
def qc(h:rG x=RQ):(x==("__debug__":Sy))=RT/\(x==("__classdict__":Sy))=RT/\x≠"__name__":=by
 simp only[rG,R4,TK]at h;exact⟨by rw[<-rF];exact h.1.1,by rw[<-rF];exact h.1.2,Ct h.2⟩
noncomputable def fJ(m:MC)(i:Nat)(x:Sy):Bool:=isAt m.N i x&&rG x&&match uk x m.sc.names with
 |some .local=>RQ|some .cell=>RQ|some .free=>RQ|_=>RT
noncomputable def f_(m:MC)(i:Nat)(x:Sy):Bool:=isAt m.N i x&&match uk x m.sc.names with
 |some .local=>RQ|some .cell=>m.all||(match uk x m.own with|some .cell=>RQ|_=>RT)|_=>RT
noncomputable def cM(m:MC)(x:Sy):Bool:=rG x&&match uk x m.sc.names with
 |some .globalImplicit=>RQ|_=>RT
noncomputable def aF:Sj->Bool
 |.Starred _ _=>RQ|_=>RT
def a_(h:aF e=RT):Sq (e::a) env=(RT,Ux e env)::Sq a env:=by cases e<;>first|rfl|(cases h)
theorem ee:∀{a:List Sj},(a.all λe=>!aF e)=RQ->(UP pos (Sq a env)).any (·.1)=RT
 |[],_=>rfl|e::a,h=>by
  rw[UW,R4,TK]at h;rw[a_ h.1];show(RT||(UP pos (Sq a env)).any (·.1))=RT;rw[ee h.2];rfl
noncomputable def rH:Sj->Bool
 |.Call _ [] [] _=>RQ|_=>RT
noncomputable def bK:Sj->Bool
 |.Set _ _ _=>RQ|_=>RT
noncomputable def rJ:Sj->Bool
 |.Slice _ _ _ _=>RQ|_=>RT
noncomputable def rK:Sj->Bool
 |.UnaryOp .Not _ _=>RT|.BoolOp _ _ _=>RT|.IfExp _ _ _ _=>RT|.Compare _ _ _ _=>RT|_=>RQ
noncomputable def Cu(outer sc:UM):UM:={sc with names:=sc.names.map λ(n,k)=>if(k==Ud&&outer.kind==.function&&outer.names.lookup n==RM .cell)then(n,T4)else(n,k)}
noncomputable def dj(m:MC)(own fr:List Sy)(sc:UM):MC:=⟨own++fr,Cu m.sc sc,RT,sc.names⟩
noncomputable def bP(m:MC)(js:List Nat):List Sy:=js.map λj=>(m.N[j]?).getD ""
noncomputable def Lz:List Sy->Bool
 |[]=>RQ|x::r=>(r.all λy=>!sEq x y)&&Lz r
noncomputable def ye:List Nat->Bool
 |[]=>RQ|x::r=>(r.all λy=>!Nat.beq x y)&&ye r
noncomputable def oZ(m:MC)(own:List Sy)(js:List Nat)(sc:UM):Bool:=mY m.sc sc&&(js.all λj=>decide (j<m.N.length))&&((bP m js).all λx=>uk x sc.names==RM .free)&&ye js&&Lz (own++bP m js)
noncomputable def jb:BI->Sy|.len=>"len"|.tuple=>"tuple"|.sorted=>"sorted"|.repr=>"repr"|.int=>"int"|.str=>"str"|.dict=>"dict"|.max=>"max"|.min=>"min"|.set=>"set"|.all=>"all"|.any=>"any"|.top=>"max"|.low=>"min"
noncomputable def d9:List Sy:=["len","int","str","tuple","list","sorted","repr","dict","isinstance","bool","range","enumerate","max","min","set","all","any"]
structure XC(g:fg)(v:Ev)(m:MC)(X:Cx)(F:Fx):Prop where
 hK:X.K=F.K
 hP:X.prog=F.P
 hw:X.w=F.w
 hN:X.N=m.N
 nd:m.N.Nodup
 sc:X.env.scope=m.sc
 calm:X.calm=RQ
 un:X.A.units+64<TL
 fn:m.all=RQ->∀x,X.fn x=RQ
 fo:∀x,uk x m.own=RM .cell->X.fn x=RQ
 PZ:X.A.mark RP=X.A
 bl:∀x∈d9,X.mg x=RP
 df:∀f x,g.dn[f]?=RM x->∃n k,fu k X.A/\m_ X.prog X.w X.K X.mg X.base x n k (λas=>(v.call f as).aE)/\∀as,as.length≠n->v.call f as=.stuck
 xo:Ad X F
 top:m.all=RQ->X.stack=X.env::X.outer/\X.env.frame=RM X.env.locals
 cl:∀c x C,g.cn[c]?=RM x->v.cls c=RM C->X.mg x=RM (.ref C)Hy:∀C,v.how C=RQ->vF X.K C=RQ
 gd:X.A.guards=RM []sb:∀c P b,v.sub c P=RM b->i7 X.K c P=RM b
 zE:∀c u b,v.ins c u=RM b->D4 X.K c=RQ/\TZ X.K (.ref c) u=RM b
 co:∀i x d,g.gn[i]?=RM x->v.lj i=RM d->∃u w,X.mg x=RM u/\RelV w u/\∀H,H F.p≠RP->X.K.lookup F.p=RP->Is F.toFb H w d
 ct:∀i x d,g.gn[i]?=RM x->v.lj i=RM d->t6 d=RQ->∃a o,X.mg x=RM (.ref a)/\X.K.lookup a=RM o/\o.cls=.type "tuple"/\o.dict=RP
 code:m.all=RQ->∃q,UG X.K X.env.code q=RQ
section
variable{g:fg}{v:Ev}{m:MC}{X:Cx}{F:Fx}
def XC.at_(h:XC g v m X F)(q:isAt m.N i x=RQ):X.N[i]?=RM x:=by rw[h.hN];exact fh q
def XC.lk(h:XC g v m X F)(x):uk x m.sc.names=X.env.scope.names.lookup x:=by rw[nS,h.sc]
set_option tactic.hygienic true in
def XC.F4(h:XC g v m X F)(q:fJ m i x=RQ):X.N[i]?=RM x/\wG X.env.scope x/\(x==("__debug__":Sy))=RT/\(x==("__classdict__":Sy))=RT:=by
 simp only[fJ,R4]at q;obtain⟨⟨c,b⟩,a⟩:=q;have p:=qc b;refine⟨h.at_ c,?_,p.1,p.2.1⟩;unfold wG;rw[<-h.lk];split at a;.rename_i e;exact .inl e
 .rename_i e;exact .inr (.inl e)
 .rename_i e;exact .inr (.inr e)
 .cases a
set_option tactic.hygienic true in
def XC.loc(h:XC g v m X F)(q:f_ m i x=RQ):X.N[i]?=RM x/\Loc X.env.scope x/\(X.fn x=RQ\/X.env.scope.names.lookup x=RM .local):=by
 simp only[f_,R4]at q;obtain⟨b,a⟩:=q;refine⟨h.at_ b,?_⟩;unfold Loc;rw[<-h.lk];split at a;.rename_i e;exact⟨.inl e,.inr e⟩
 .rename_i e;rw[Ue]at a;refine⟨.inr e,.inl ?_⟩;rcases a with a|a;.exact h.fn a x
  .split at a;.rename_i c;exact h.fo x c
   .cases a
 .cases a
set_option tactic.hygienic true in
def XC.gl(h:XC g v m X F)(q:cM m x=RQ):Gl X x/\(x==("__debug__":Sy))=RT/\x≠"__name__":=by
 simp only[cM,R4]at q;obtain⟨b,a⟩:=q;have p:=qc b;refine⟨?_,p.1,p.2.2⟩;show X.env.scope.names.lookup x=_;rw[<-h.lk];split at a;.rename_i e;exact e
 .cases a
end
section
noncomputable abbrev Fx.rL(F:Fx):Fx:={F with E:=λ_ _=>False}
theorem T.gQ:∀(t:T d){k Q E},t.calm.aE.run k Q E->t.aE.run k Q (λ_ _=>False)
 |.ok a,_,_,_,h=>h|.exc x,_,_,_,h=>h.elim|.stuck,_,_,_,h=>h.elim|.draw n f,k,Q,E,h=>by
  have h:(T.jI n).run k (λi c=>(f i).calm.aE.run c Q E) E:=h;show(T.jI n).run k (λi c=>(f i).aE.run c Q _) _;obtain⟨m,j,g⟩:=h;exact⟨m,j,λc a b i p=>T.gQ (f i) (g c a b i p)⟩|.perm l f,k,Q,E,h=>λi p=>T.gQ (f i) (h i p)
def jX:cY F ρ k σ H↔cY F.rL ρ k σ H:=⟨λh=>⟨h.len,h.at_,h.apart,h.live,h.ext,h.lR⟩,λh=>⟨h.len,h.at_,h.apart,h.live,h.ext,h.lR⟩⟩
def DE.calm{t:ah->T D}(h:DE X F.rL e λρ=>(t ρ).aE):DE X F e λρ=>(t ρ).calm.aE:=⟨h.hK,h.pe.imp λa H Q⟨ρ,k,S,z⟩=>⟨ρ,k,jX.mp S,T.gQ _ z⟩⟩
def lH.calm{t:ah->T Bool}(h:lH X F.rL ifs λρ=>(t ρ).aE):lH X F ifs λρ=>(t ρ).calm.aE:=⟨h.hK,λa s b H Q I⟨ρ,k,S,z⟩=>h.pi a s b H Q I ⟨ρ,k,jX.mp S,T.gQ _ z⟩⟩
end
def fK(d):Ref (aZ d).aE (fV d):=by cases d<;>first|exact .refl _|exact .fail
def bB(d):Ref (bS d).aE (gD d):=by cases d<;>first|exact .refl _|exact .fail
theorem dF:∀(as:List A),(gr as).aE=iX as
 |[]=>rfl|.d x::r=>by
  show(gr r>>=λa=>T.ok (x::a)).aE=_;rw[T.bV,dF r];rfl|.feed::_=>rfl
def ay{t}{m}(h:b=RQ->P)(q:Ref t.aE m):Ref (do T.need b;t:T a).aE (do M.need P;m):=by
 rw[T.bV];exact(Ref.need h).bind λ_=>q
def aa{t}{m}{f:c->T d}{h}(a:Ref t.aE m)(b:∀x,Ref (f x).aE (h x)):Ref (t>>=f).aE (m>>=h):=by
 rw[T.bV];exact a.bind b
def aG{o}{f}{h:a->M c}(b:∀x,Ref (f x).aE (h x)):Ref (T.get o>>=f).aE (M.get o>>=h):=aa .get b
section
def M2(hu:X.A.units+64<TL)(hP:X.prog=F.P)(hw:X.w=F.w)(o):gw X F (Ve o) (λd e=>(qb o d e).aE):=by
 have two:∀{b:Int->Int->Bool}{C}{f}(d e),(∀i j,b i j=RQ->C i j)->Ref (do let i<-bS d;let j<-bS e;T.need (b i j);T.ok (f i j)).aE (mI C f d e):=λd e h=>aa (bB d) λi=>aa (bB e) λj=>ay (h i j) '5';refine .ref λd e=>?_;cases o with
 |Add=>
  refine⟨MD,E9,?_⟩;cases d<;>cases e<;>first|exact .refl _|exact .fail|exact ay Φ0 '5'
 |Sub=>cases d<;>cases e<;>first|exact⟨Jw,xy,.refl _⟩|exact⟨Jw,xy,.fail⟩
 |Mult=>
  refine⟨_,IU,two d e λi j h=>?_⟩;simp only[dw,Ue,R4,Φ]at h;exact h|Mod=>exact⟨_,IV,two d e λi j h=>Φ0 h⟩|FloorDiv=>exact⟨_,ET,two d e λi j h=>by rw[Φ0 h];exact⟨by decide,by decide⟩⟩|Pow=>exact⟨_,IW,two d e λi j h=>by
   rw[R4]at h;have c:=Φ0 h.2;exact⟨c.1,'0',by rw[Φ0 h.1];decide⟩⟩|_=>exact⟨λ_ _=>M.fail,⟨λa s g H k x y v u d e Q I n m l hK r p q=>q.elim⟩,.fail⟩
def kE(hu:X.A.units+64<TL)(hP:X.prog=F.P)(hw:X.w=F.w)(o):gw X F (Tb o) (λd e=>(be o d e).aE):=by
 have c:X.A.units+2<TL:='0'
 refine .ref λd e=>?_;cases o with
 |Eq=>exact⟨_,Mz hu,aG λ_=>.refl _⟩|NotEq=>exact⟨_,MA hu,aG λ_=>.refl _⟩|Lt=>exact⟨_,Mk,aa (bB d) λi=>aa (bB e) λj=>.refl _⟩|LtE=>exact⟨_,Ml,aa (bB d) λi=>aa (bB e) λj=>.refl _⟩|Gt=>exact⟨_,Mm,aa (bB d) λi=>aa (bB e) λj=>.refl _⟩|GtE=>exact⟨_,Mn,aa (bB d) λi=>aa (bB e) λj=>.refl _⟩|Is=>exact⟨_,IX,ay (λh=>h) '5'⟩|IsNot=>exact⟨_,EU,ay (λh=>h) '5'⟩|In=>
  by_cases hd:∃ks f,e=.aO ks f
  .obtain⟨ks,f,rfl⟩:=hd;exact⟨_,JH c hP hw,ay dv '5'⟩
  refine⟨_,MB hu,?_⟩;have:be .In d e=(do let a<-T.get (items e);let b<-T.get (jG d a);.ok (.bl b)):=by cases e<;>first|rfl|exact Ξ1 ⟨_,_,rfl⟩ hd
  rw[this];exact aG λ_=>aG λ_=>.refl _|NotIn=>
  by_cases hd:∃ks f,e=.aO ks f
  .obtain⟨ks,f,rfl⟩:=hd;exact⟨_,zF c hP hw,ay dv '5'⟩
  by_cases g:∃a,e=.aJ a
  .obtain⟨a,rfl⟩:=g;refine⟨_,FO hP hw,ay Φ0 ?_⟩;cases d<;>first|exact .refl _|exact .fail
  refine⟨_,Bu hu,?_⟩;have:be .NotIn d e=(do let a<-T.get (items e);let b<-T.get (jG d a);.ok (.bl (!b))):=by cases e<;>first|rfl|exact Ξ1 ⟨_,_,rfl⟩ hd|exact Ξ1 ⟨_,rfl⟩ g
  rw[this];exact aG λ_=>aG λ_=>.refl _
def M3(hu:X.A.units+64<TL)(hP:X.prog=F.P)(hw:X.w=F.w):OC X F (λd e=>(aT d e).aE):=by
 refine⟨λhK a b c s g H x y v u Q I m j h p=>?_⟩;obtain⟨k,d,e,l,o,n,q⟩:=h;by_cases hd:∃ks f,d=.aO ks f
 .obtain⟨ks,f,rfl⟩:=hd;refine(Fj '0' hP hw).ix hK a b c s g H x y v u Q I m j ⟨k,_,e,l,o,n,?_⟩ p;have:Ref (aT (.aO ks f) e).aE (MP (.aO ks f) e):=ay dv .get;exact this _ _ _ q
 .refine(EY).ix hK a b c s g H x y v u Q I m j ⟨k,d,e,l,o,n,?_⟩ p;have r:aT d e=M1 d e:=by cases d<;>first|rfl|exact Ξ1 ⟨_,_,rfl⟩ hd
  have:Ref (aT d e).aE (QL d e):=by
   rw[r];exact aa (bB e) λi=>by cases d<;>first|exact .fail|exact .get|exact ay Φ0 .get
  exact this _ _ _ q
end
section
def aX.stuck:aX X F f (λ_=>M.fail):=⟨λa s b H k c d g Q I e l hK i q=>q.elim⟩
def aX.one{t:List D->T D}(e:t []=.stuck)(c:∀a b r,t (a::b::r)=.stuck)(h:∀d,∃m,aX X F f m/\Ref (t [d]).aE (m [d])):aX X F f (λds=>(t ds).aE):=.ref λds=>by match ds with
 |[]=>exact⟨_,.stuck,by rw[e];exact .fail⟩|[d]=>exact h d|a::b::r=>exact⟨_,.stuck,by rw[c];exact .fail⟩
def aX.M4{t:List D->T D}(h:aX X F f (two (G9 g)))(e:∀d e,t [d,e]=(do let i<-bS d;let j<-bS e;.ok (g i j)))(m:t []=.stuck)(l:∀a,t [a]=.stuck)(k:∀a b c r,t (a::b::c::r)=.stuck):aX X F f (λds=>(t ds).aE):=.ref λds=>by match ds with
 |[]=>exact⟨_,.stuck,by rw[m];exact .fail⟩|[a]=>exact⟨_,.stuck,by rw[l];exact .fail⟩|[d,x]=>exact⟨_,h,by rw[e];exact aa (bB d) λi=>aa (bB x) λj=>.refl _⟩|a::b::c::r=>exact⟨_,.stuck,by rw[k];exact .fail⟩
noncomputable def Cv:BI->RR|.len=>.builtin "len"|.tuple=>.type "tuple"|.sorted=>.builtin "sorted"|.repr=>.builtin "repr"|.int=>.type "int"|.str=>.type "str"|.dict=>.type "dict"|.max=>.builtin "max"|.min=>.builtin "min"|.set=>.type "set"|.all=>.builtin "all"|.any=>.builtin "any"|.top=>.builtin "max"|.low=>.builtin "min"
def Cw(f):Uh (jb f)=RM (Cv f):=by cases f<;>(decide+kernel)
def M5(a:X.calm=RQ)(e:X.A.guards=RM [])(hu:X.A.units+64<TL)(hP:X.prog=F.P)(hw:X.w=F.w)(f):aX X F (Cv f) (λds=>(oX f ds).aE):=by cases f with
 |len=>
  refine .one rfl (λ_ _ _=>rfl) λd=>?_;cases d with
  |tup _=>exact⟨_,Bc,.refl _⟩|lst _=>exact⟨_,Bc,.refl _⟩|_=>exact⟨_,.stuck,.fail⟩
 |tuple=>exact .one rfl (λ_ _ _=>rfl) λd=>⟨_,Bd,aG λ_=>.refl _⟩|sorted=>
  refine .one rfl (λ_ _ _=>rfl) λd=>?_;by_cases c:∃b,d=.aJ b
  .obtain⟨b,rfl⟩:=c;exact⟨_,B_ a hP hw,ay Φ0 '5'⟩
  refine⟨_,BZ a '0',?_⟩;show Ref (ud d).aE (BY d);have:ud d=(do let ds<-T.get (lh d);T.need (decide (ds.length<=R1)&&jT ds);T.perm ds λl=>.ok (.lst l)):=by cases d<;>first|rfl|exact Ξ1 ⟨_,rfl⟩ c
  rw[this];exact aG λds=>ay (λz=>by rw[R4]at z;exact⟨Φ0 z.1,z.2⟩) '5'|repr=>exact .one rfl (λ_ _ _=>rfl) λd=>⟨_,FJ e '0',ay (λz=>by rw[R4]at z;exact z) '5'⟩|int=>
  refine .one rfl (λ_ _ _=>rfl) λd=>⟨_,Jg,?_⟩;cases d<;>first|exact .refl _|exact .fail
 |str=>
  refine .one rfl (λ_ _ _=>rfl) λd=>⟨_,Jh,?_⟩;cases d<;>first|exact ay Φ0 '5'|exact .fail
 |dict=>
  refine .one rfl (λ_ _ _=>rfl) λd=>⟨_,B0 a '0' hP hw,?_⟩;cases d<;>first|exact aG λ_=>.refl _|exact .fail
 |set=>
  refine .one rfl (λ_ _ _=>rfl) λd=>⟨_,FQ a hP hw,?_⟩;cases d<;>first|exact aG λ_=>ay Φ0 '5'|exact .fail
 |all=>
  refine .one rfl (λ_ _ _=>rfl) λd=>⟨_,Ji a,?_⟩;cases d<;>first|exact aG λ_=>.refl _|exact .fail
 |any=>
  refine .one rfl (λ_ _ _=>rfl) λd=>⟨_,Jj a,?_⟩;cases d<;>first|exact aG λ_=>.refl _|exact .fail
 |top=>
  refine .one rfl (λ_ _ _=>rfl) λd=>⟨_,FV a,?_⟩;cases d<;>first|exact aG λ_=>aG λ_=>.refl _|exact .fail
 |low=>
  refine .one rfl (λ_ _ _=>rfl) λd=>⟨_,FW a,?_⟩;cases d<;>first|exact aG λ_=>aG λ_=>.refl _|exact .fail
 |max=>exact .M4 (EZ a) (λ_ _=>rfl) rfl (λ_=>rfl) λ_ _ _ _=>rfl|min=>exact .M4 (E3 a) (λ_ _=>rfl) rfl (λ_=>rfl) λ_ _ _ _=>rfl
end
def jz(h:rH o=RT):Wn o n env w=w:=by cases o with
 |Call f as ks p=>cases f with
  |Name x q=>cases as with
   |nil=>cases ks with
    |nil=>cases h|cons=>rfl
   |cons=>rfl
  |_=>rfl
 |_=>rfl
theorem lq{a:Type}:∀{l:List (Bool×a)},l.any (·.1)=RT->l.all (λx=>!x.1)=RQ
 |[],_=>rfl|x::l,h=>by
  rw[Vb,Xw]at h;rw[UW,h.1,lq h.2];rfl
def hX(h:bK e=RT)(env)(x):U3 e env x=pure x:=by cases e<;>first|rfl|cases h
def nT(h:bK e=RT)(o):VT o e=RT:=by cases e<;>first|rfl|cases h
def jY(h:bK c=RT)(o o'):ZT [o,o'] [b,c]=RT:=nT h o'
def vT(h:rJ b=RT):qG b:=by intro o i;cases b<;>first|rfl|cases h
def vU(h:rK e=RQ)(env)(whole):Zt e env whole=(do let v<-whole;Wx e.pos;Ye [v] (truthy v)):=by cases e with
 |UnaryOp o a p=>cases o<;>first|rfl|cases h
 |BoolOp _ _ _=>cases h|IfExp _ _ _ _=>cases h|Compare _ _ _ _=>cases h|_=>rfl
theorem hZ:∀{l:List Sy},Lz l=RQ->l.Nodup
 |[],_=>.nil|x::r,h=>by
  simp only[Lz,R4,Tj,TK]at h;exact Φ3.mpr ⟨(λz=>by have:=h.1 x z;rw[uj]at this;exact nomatch this),hZ h.2⟩
theorem qd:∀{l:List Nat},ye l=RQ->l.Nodup
 |[],_=>.nil|x::r,h=>by
  simp only[ye,R4,Tj,TK]at h;exact Φ3.mpr ⟨(λz=>by have:=h.1 x z;rw[Nat.beq_refl]at this;exact nomatch this),qd h.2⟩
section
variable{g:fg}{v:Ev}{m:MC}{X:Cx}{F:Fx}
def XC.fM(h:XC g v m X F){sc:UM}(q:oZ m own js sc=RQ)(pins:List (RW×Tn))(cl:List (Sy×RW))(C:RW)(a:List RW)(s:RU)(H:Hp):XC g v (dj m own (bP m js) sc) (fM X pins sc (own++bP m js) cl C a s H) F.rL where
 hK:=h.hK;hP:=h.hP;hw:=h.hw;hN:=rfl;nd:=by
  simp only[oZ,R4]at q;exact hZ q.2
 sc:=by
  show relabel sc X.env=Cu m.sc sc;unfold relabel Cu aa_;rw[h.sc]
 calm:=h.calm;un:=h.un;fn:=λz=>nomatch z;fo:=λx e=>by
  show(sc.names.lookup x==RM .cell)=RQ;have e:uk x sc.names=RM .cell:=e;rw[<-nS,e];rfl
 PZ:=h.PZ;bl:=h.bl;df:=h.df;xo:=Ad.never λ_ _ z=>z;top:=λz=>nomatch z;cl:=h.cl;Hy:=h.Hy;gd:=h.gd;sb:=h.sb;zE:=h.zE;co:=h.co;ct:=h.ct;code:=λz=>nomatch z
def vV(h:XC g v m X F)(q:oZ m own js sc=RQ):mY X.env.scope sc=RQ/\js.map (λj=>X.N[j]?)=(bP m js).map RM/\(∀x∈bP m js,sc.names.lookup x=RM .free)/\js.Nodup:=by
 simp only[oZ,R4,Tj,Φ]at q;obtain⟨⟨⟨⟨d,c⟩,b⟩,a⟩,i⟩:=q;refine⟨by rw[h.sc];exact d,?_,λx e=>?_,qd a⟩
 .unfold bP;rw[S7];refine Va λj f=>?_;rw[h.hN];have:=c j f;simp[this]
 .have:=b x e;rw[<-nS];exact Θ3.mp this
noncomputable abbrev QG(g:fg)(m:MC)(t:Tg)(e:Sj):Prop:=∀v X F,XC g v m X F->DG X F e (λd a=>(dm t d a).aE)
noncomputable abbrev M6(g:fg)(m:MC)(t:Tg)(b:List Sj):Prop:=∀v X F,XC g v m X F->Hb X F b (λd a=>(ja t d a).aE)
def yf(h:aF e=RT):UD (e::a) env=(RT,Yn e env)::UD a env:=by cases e<;>first|rfl|(cases h)
theorem as_none:∀{a:List Sj},(a.all λe=>!aF e)=RQ->(UD a env).length=a.length/\(UD a env).findIdx? (·.1)=RP
 |[],_=>⟨rfl,rfl⟩|e::a,z=>by
  rw[UW,R4,TK]at z;rw[yf z.1];obtain⟨c,b⟩:=as_none (env:=env) z.2;exact⟨by simp[c],by simp[List.findIdx?_cons,b]⟩
end
section
variable{g:fg}{m:MC}
def P0(q:f_ m i x=RQ):QG g m (.nm i) (.Name x p):=λv X F h=>by
 obtain⟨c,b,a⟩:=h.loc q;exact(E4 i (by rw[h.hN];exact h.nd) c b a h.hK).ref λd e=>.refl _
def P4(i:b.length=n)(f:(b.all λe=>!aF e)=RQ)(j:M6 g m r b):QG g m (.tup n r) (.Tuple b k p):=λv X F h=>by
 obtain⟨a1,l⟩:=as_none f;refine(Jm h.calm (j v X F h) (a1.trans i) l).ref λd c=>?_;cases d with
 |tup a=>
  show Ref (if a.length=n then ja r a c else .stuck).aE (do M.need (a.length=n);(ja r a c).aE);by_cases e:a.length=n;.rw[Ξ2 e];exactλk Q E z=>⟨e,z⟩
  .rw[Ξ3 e];exact .fail|_=>exact .fail
def P5:M6 g m .nil []:=λv X F h=>(E5 h.hK).ref λd a=>by cases d<;>first|exact .refl _|exact .fail
def P6(b:aF e=RT)(c:QG g m t e)(f:M6 g m r a):M6 g m (t∘r) (e::a):=λv X F h=>(Bh (c v X F h) (f v X F h) (by rw[yf b];rfl)).ref λd i=>by cases d with
 |nil=>exact .fail|cons d j=>exact aa '5' λ_=>.refl _
variable(g m)
mutual
noncomputable def cG:(t:Tg)->(e:Sj)->Ch (QG g m t e)
 |.nm i,e=>match e with
  |.Name x _=>(cb (f_ m i x)).b λq=>.y (P0 q)|_=>.n
 |.tup n r,e=>match e with
  |.Tuple a _ _=>(cd (a.length=n)).b λq=>(cb (a.all λe=>!aF e)).b λc=>(QR r a).b λh=>.y (P4 q c h)|_=>.n
 |.nil,_=>.n|.cons _ _,_=>.n
noncomputable def QR:(t:Tg)->(a:List Sj)->Ch (M6 g m t a)
 |.nil,a=>match a with
  |[]=>.y P5|_=>.n
 |.cons t r,a=>match a with
  |e::a=>(cn (aF e)).b λq=>(cG t e).b λh=>(QR r a).b λc=>.y (P6 q h c)|[]=>.n
 |.nm _,_=>.n|.tup _ _,_=>.n
end
end
section
theorem nU:∀(ds:List D)(ρ:ah),Ref (eO g tc te ds ρ).aE (pM (λd ρ=>(g d ρ).aE) (λρ=>(tc ρ).aE) (λρ=>(te ρ).aE) ds ρ)
 |[],ρ=>.refl _|d::ds,ρ=>aa '5' λa=>aa '5' λb=>by cases b with
  |true=>exact aa '5' λx=>aa (nU ds a) λr=>.refl _|false=>exact nU ds a
variable{em:β->ah->T (β×ah)}
theorem h_{e:β->ah->M (β×ah)}(a:∀acc ρ,Ref (em acc ρ).aE (e acc ρ)):∀(acc:β)(ds:List D)(ρ:ah),Ref (b_ g tc em acc ds ρ).aE (nJ (λd ρ=>(g d ρ).aE) (λρ=>(tc ρ).aE) e acc ds ρ)
 |acc,[],ρ=>.refl _|acc,d::ds,ρ=>aa '5' λc=>aa '5' λb=>by cases b with
  |true=>exact aa (a acc c) λr=>h_ a r.1 ds r.2|false=>exact h_ a acc ds c
end
section
def zS(h:gP ρ i=RQ):ρ[i]?=RM (RM .feed):=by
 unfold gP at h;split at h;.assumption
 .cases h
def XC.M7(h:XC g v m X F)(e:v.ins c u=RM b)(nm:List D):iH X.K (.exc c nm) u=RM b:=by
 unfold iH;dsimp only;rw[Ξ2 (h.zE c u b e).1];exact(h.zE c u b e).2
def Cy(h:XC g v m X F){Ty}(d):Ref (yb v Ty d).aE (do let b<-M.get (iH X.K d (.type Ty));pure (.bl b)):=by
 by_cases a:∃c nm,d=.exc c nm
 .obtain⟨c,nm,rfl⟩:=a;intro k Q E z;have z:(T.get (v.ins c (.type Ty))>>=λb=>T.ok (.bl b)).aE.run k Q E:=z;rw[T.bV,T.jJ]at z;obtain⟨b,hb,q⟩:=M.run_get.mp z;exact M.run_get.mpr ⟨b,h.M7 hb nm,q⟩
 .have e:yb v Ty d=Hw Ty d:=by cases d<;>first|rfl|exact Ξ1 ⟨_,_,rfl⟩ a
  rw[e];intro k Q E z;have z:(T.get (Jk d)>>=λt=>T.get (TZ [] (.type t) (.type Ty))>>=λb=>T.ok (.bl b)).aE.run k Q E:=z;rw[T.bV,T.jJ]at z;obtain⟨t,f,z⟩:=M.run_get.mp z;dsimp only at z;rw[T.bV,T.jJ]at z;obtain⟨b,hb,q⟩:=M.run_get.mp z;refine M.run_get.mpr ⟨b,?_,q⟩;have i:iH X.K d (.type Ty)=match Jk d with
    |some t=>TZ X.K (.type t) (.type Ty)|none=>RP:=by cases d<;>first|rfl|exact Ξ1 ⟨_,_,rfl⟩ a
  rw[i,f];exact hb
def zT(h:XC g v m X F)(d):Ref (ug v P d).aE (do let b<-M.get (iH X.K d (.ref P));pure (.bl b)):=by cases d with
 |exc c nm=>
  intro k Q E z;have z:(T.get (v.ins c (.ref P))>>=λb=>T.ok (.bl b)).aE.run k Q E:=z;rw[T.bV,T.jJ]at z;obtain⟨b,hb,q⟩:=M.run_get.mp z;exact M.run_get.mpr ⟨b,h.M7 hb nm,q⟩|_=>exact .fail
def Hz(h:d9.contains x=RQ):x∈d9:=List.contains_iff_mem.mp h
def J7(f):jb f∈d9:=by cases f<;>exact Hz rfl
def F5(h:XC g v m X F)(ha:DA X F (a::b) c)(r:cM m (jb f)=RQ)(hs:aF a=RT)(j:(b.all λe=>!aF e)=RQ):DE X F (.Call (.Name (jb f) p) (a::b) [] q) (λρ=>do(oX f (<-iX (<-c ρ))).aE):=by
 obtain⟨o,n,l⟩:=h.gl r;have hb:=Cw f;have k:=h.bl _ (J7 f);have hd:=M5 h.calm h.gd h.un h.hP h.hw f;have d:Sq (a::b) X.env=(RT,Ux a X.env)::Sq b X.env:=a_ hs;have i:(UP q (Sq b X.env)).any (·.1)=RT:=ee j;cases f<;>first|exact Bb hd k hb ha o l n d i|exact zr hd k hb ha o l n d i
end
section
variable{g:fg}{v:Ev}
noncomputable def T.plain:T a->Bool
 |.ok _=>RQ|.stuck=>RQ|_=>RT
def T.vW{t:T a}(h:t.plain=RQ):t.calm=t:=by cases t<;>first|rfl|cases h
set_option tactic.hygienic true in
mutual
theorem qf:∀(t:Tg)(d:D)(ρ:ah),(dm t d ρ).plain=RQ
 |.nm i,d,ρ=>rfl|.tup n r,d,ρ=>by
  unfold dm;split
  .split;.exact nV r _ ρ
   .rfl
  .rfl|.nil,d,ρ=>by unfold dm;rfl|.cons _ _,d,ρ=>by unfold dm;rfl
theorem nV:∀(t:Tg)(ds:List D)(ρ:ah),(ja t ds ρ).plain=RQ
 |.nil,ds,ρ=>by
  unfold ja;split<;>rfl|.cons t r,ds,ρ=>by
  unfold ja;split
  .rename_i d b;show(T.bind (dm t d ρ) λa=>ja r b a).plain=RQ;have h:=qf t d ρ;cases e:dm t d ρ with
   |ok a=>exact nV r b a|stuck=>rfl|_=>rw[e]at h;cases h
  .rfl|.nm _,ds,ρ=>by unfold ja;rfl|.tup _ _,ds,ρ=>by unfold ja;rfl
end
def Cz(t)(d)(ρ):(dm t d ρ).calm=dm t d ρ:=T.vW (qf t d ρ)
theorem DG.rL(h:DG X F.rL tg λd ρ=>(dm t d ρ).aE):DG X F tg λd ρ=>(dm t d ρ).aE:=⟨h.hK,h.pg.imp λw m H Q f=>by
  obtain⟨ρ,k,d,S,i,z⟩:=f;refine⟨ρ,k,d,jX.mp S,i,?_⟩;have j:=T.gQ (dm t d ρ) (by rw[Cz];exact z);exact M.wk j λb g q a c e l=>q a c e (jX.mpr l)⟩
end
noncomputable abbrev QE(g:fg)(m:MC)(ex:Ex)(e:Sj):Prop:=∀v X F,XC g v m X F->DE X F e (λa=>(ak v ex a).aE)
noncomputable abbrev QU(g:fg)(m:MC)(ex:Ex)(e:Sj):Prop:=∀v X F,XC g v m X F->DU X F e (λa=>(ak v ex a).aE)
noncomputable abbrev QT(g:fg)(m:MC)(ex:Ex)(e:Sj):Prop:=∀v X F,XC g v m X F->DT X F e (λa=>(bN v ex a).aE)
noncomputable abbrev QW(g:fg)(m:MC)(ex:Ex)(e:Sj):Prop:=∀v X F,XC g v m X F->Ac X F e (λa=>(bN v ex a).aE)
noncomputable abbrev QC(g:fg)(m:MC)(ex:Ex)(b:List Sj):Prop:=∀v X F,XC g v m X F->lH X F b (λa=>(bN v ex a).aE)
noncomputable abbrev QA(g:fg)(m:MC)(ex:Ex)(b:List Sj):Prop:=∀v X F,XC g v m X F->DA X F b (λa=>(fZ v ex a).aE)
noncomputable abbrev QI(g:fg)(m:MC)(ex:Ex)(t e:Sj):Prop:=∀v X F,XC g v m X F->DI X F t e (λa=>(nQ v ex a).aE)
noncomputable abbrev QK(d:D)(c:Const):Prop:=∀X F,X.K=F.K->∀k p,DE X F (.Constant c k p) (λ_=>pure d)
noncomputable def cK:(d:D)->(c:Const)->Ch (QK d c)
 |.int i,c=>match c with
  |.int j=>(cd (j=i)).b λq=>.y (by subst q;exactλX F h k p=>IL h)|_=>.n
 |.bl a,c=>match c with
  |.bool b=>(cd (b=a)).b λq=>.y (by subst q;exactλX F h k p=>Mh h)|_=>.n
 |.br,c=>match c with
  |.none=>.y λX F h k p=>IM h|_=>.n
 |.str x,c=>match c with
  |.str y=>(cb (sEq x y)).b λq=>.y (by rw[bO q];exactλX F h k p=>IP h)|_=>.n
 |_,_=>.n
section
def M8(q:fJ m i x=RQ):QE g m ↑i (.Name x p):=λv X F h=>by
 obtain⟨d,c,b,a⟩:=h.F4 q;exact(A7 i d c b a h.hK).ref λe=>.get
def P7(q:o'=o)(ha:QE g m a x)(hb:QE g m b y):QE g m (.op o a b) (.BinOp x o' y p):=by
 subst q;exactλv X F h=>(Mj (M2 h.un h.hP h.hw o') (ha v X F h) (hb v X F h)).ref λc=>aa '5' λ_=>aa '5' λ_=>.refl _
def M9(ha:QE g m a x):QE g m (.neg a) (.UnaryOp .USub x p):=λv X F h=>(Jx (ha v X F h)).ref λb=>aa '5' λd=>aa (bB d) λ_=>.refl _
def M_(q:o'=o)(c:bK y=RT)(ha:QE g m a x)(hb:QE g m b y):QE g m (.cmp o a b) (.Compare x [o'] [y] p):=by
 subst q;exactλv X F h=>(IS (kE h.un h.hP h.hw o') (ha v X F h) (hb v X F h) (nT c o')).ref λd=>aa '5' λ_=>aa '5' λ_=>.refl _
def Na(ha:QE g m a x)(hb:QE g m b (.BoolOp .And (y::r) p)):QE g m (.and a b) (.BoolOp .And (x::y::r) p):=λv X F h=>(IZ (ha v X F h) (hb v X F h)).ref λc=>aa '5' λd=>aa (fK d) λb=>by cases b<;>exact .refl _
def Nb(ha:QE g m a x):QE g m (.one a) (.BoolOp o [x] p):=λv X F h=>(IY (ha v X F h)).ref λb=>.refl _
def Nc(ha:QE g m a x):QE g m (.not a) (.UnaryOp .Not x p):=λv X F h=>(I_ (ha v X F h)).ref λb=>aa '5' λd=>aa (fK d) λ_=>.refl _
def Nd(b:QA g m r a):QE g m (.tup r) (.Tuple a k p):=λv X F h=>(Je (b v X F h)).ref λc=>aa '5' λas=>aa (.of_eq (dF as)) λd=>ay Φ0 '5'
def Nf(b:QA g m r a):QE g m (.lst r) (.List a p):=λv X F h=>(Jf (b v X F h)).ref λc=>aa '5' λas=>aa (.of_eq (dF as)) λd=>ay Φ0 '5'
def Ng(q:rJ y=RT)(ha:QE g m a x)(hb:QE g m b y):QE g m (.idx a b) (.Subscript x y p):=λv X F h=>(Ms (M3 h.un h.hP h.hw) (ha v X F h) (hb v X F h) (vT q)).ref λc=>aa '5' λ_=>aa '5' λ_=>.refl _
def Nh(q:p1=o)(f:d=o')(e:bK z=RT)(ha:QE g m a x)(hb:QE g m b y)(i:QE g m c z):QE g m (.F2 o o' a b c) (.Compare x [p1,d] [y,z] p):=by
 subst q f;refineλv X F h=>(A8 (kE h.un h.hP h.hw p1) (kE h.un h.hP h.hw d) (ha v X F h) (hb v X F h) (i v X F h) (jY e p1 d)).ref λj=>aa '5' λ_=>aa '5' λ_=>aa '5' λr=>aa (fK r) λb=>?_;cases b with
 |true=>exact aa '5' λ_=>.refl _|false=>exact .refl _
def Ni(d:QT g m c z)(ha:QE g m a x)(hb:QE g m b y):QE g m (.Ht c a b) (.IfExp z x y p):=λv X F h=>(Mq (d v X F h) (ha v X F h) (hb v X F h)).ref λe=>aa '5' λb=>by cases b<;>exact .refl _
def P8(j:sEq x (jb f)=RQ)(i:cM m x=RQ)(d:(b.all λe=>!aF e)=RQ)(c:aF a=RT)(l:QA g m r (a::b)):QE g m (.bi f r) (.Call (.Name x p) (a::b) [] k):=λv X F h=>by
 obtain rfl:=bO j;exact(F5 h (l v X F h) i c d).ref λn=>aa '5' λas=>aa (.of_eq (dF as)) λo=>.refl _
def J8(o:isAt g.dn f x=RQ)(l:cM m x=RQ)(j:(c.all λe=>!aF e)=RQ)(i:aF a=RT)(s:QA g m r (a::c)):QE g m (.call f r) (.Call (.Name x p) (a::c) [] q):=λv X F h=>by
 obtain⟨n,k,b,hd,t⟩:=h.df f x (fh o);obtain⟨w,u,A⟩:=h.gl l;refine(Fe hd b h.xo (s v X F h) w h.hP h.hw u (a_ i) (ee j)).ref λy=>aa '5' λas=>?_;by_cases d:as.length=n
 .rw[T.Jz];exactλk Q E z=>⟨d,z⟩
 .rw[t as d];exact .fail
def Nj{Ty}(b1:Uh t=RM (.type Ty))(l:sEq x "isinstance"=RQ)(k:d9.contains t=RQ)(j:cM m x=RQ)(i:cM m t=RQ)(f:aF y=RT)(ha:QE g m a y):QE g m (.Hu Ty a) (.Call (.Name x p) [y,.Name t n] [] o):=λv X F h=>by
 obtain rfl:=bO l;obtain⟨q,u,s⟩:=h.gl j;obtain⟨e,c,b⟩:=h.gl i;refine(BU (ha v X F h) (h.bl _ (Hz rfl)) (h.bl _ (Hz k)) b1 q e b c (a_ f)).ref λr=>aa '5' λd=>?_;exact Cy h d
def Nk(o:sEq x "isinstance"=RQ)(n:isAt g.cn c t=RQ)(l:cM m x=RQ)(k:cM m t=RQ)(j:aF y=RT)(ha:QE g m a y):QE g m (.Hv c a) (.Call (.Name x p) [y,.Name t q] [] r):=λv X F h=>by
 obtain rfl:=bO o;obtain⟨s,z,w⟩:=h.gl l;obtain⟨i,f,u⟩:=h.gl k;cases e:v.cls c with
 |none=>
  refine(DE.stuck h.hK).ref λb=>?_;show Ref (T.get (v.cls c)>>=λP=>ak v a b>>=λd=>ug v P d).aE _;rw[e];exact .fail|some P=>
  refine(BS (x:=p) (ha v X F h) (h.bl _ (Hz rfl)) (h.cl c t P (fh n) e) s i f (a_ j)).ref λb=>?_;show Ref (T.get (v.cls c)>>=λP=>ak v a b>>=λd=>ug v P d).aE _;rw[e];exact aa '5' λd=>zT h d
def Nl:QE g m .bad e:=λv X F h=>DE.stuck h.hK
def Nm(ha:QE g m a e):QE g m (.oK i a) e:=λv X F h=>((ha v X F h).oK i).ref λb=>aa '5' λd=>ay (λz=>z) '5'
def Nn(hs:aF a=RT)(q:(b.all λe=>!aF e)=RQ)(l:b.length<20):((UP d (Sq (a::b) env)).all (λx=>!x.1)&&(Zy d (Xm [] env)).all (λx=>x.1.isSome)&&decide ((a::b).length+([]:List Wc).length+(if([]:List Wc).isEmpty then 0 else 1)<30))=RQ:=by
 have c:(UP d (Sq (a::b) env)).any (·.1)=RT:=by
  rw[a_ hs];show(RT||(UP d (Sq b env)).any (·.1))=RT;rw[ee q];rfl
 rw[lq c];have:(a::b).length+([]:List Wc).length+(if([]:List Wc).isEmpty then 0 else 1)<30:=by
  show b.length+1+0+0<30;omega
 rw[Φ2 this];rfl
def CA(d)(ds):Ref (ya d ds).aE (Hl d ds):=by
 cases d<;>first|exact .fail|skip
 match ds with
 |[]=>exact .fail|[_]=>exact .fail
 |[x,z]=>exact ay (λz=>by
   rw[R4]at z;exact⟨dv z.1,Φ0 z.2⟩) '5'|_::_::_::_=>exact .fail
def J9(q:sEq n "get"=RQ)(p:(j.endLine==i.line)=RQ)(l:rH x=RT)(f:(b.all λe=>!aF e)=RQ)(k:b.length<20)(c:aF a=RT)(t:QE g m o x)(s:QA g m r (a::b)):QE g m (.rE o r) (.Call (.Attribute x n j) (a::b) [] i):=λv X F h=>by
 obtain rfl:=bO q;have hu:=h.un;exact(Fs (FD '0' h.hP h.hw) PySem.F.plainAttrs_dict Vj PySem.F.type_dict_get (t v X F h) (s v X F h) (jz l) p (Nn c f k) (a_ c) (ee f)).ref λw=>aa '5' λd=>ay (λz=>z) (aa '5' λas=>aa (.of_eq (dF as)) λu=>CA d u)
def Np(e:cM m x=RQ)(c:isAt g.gn i x=RQ):QE g m (.lj i) (.Name x p):=λv X F h=>by
 obtain⟨l,k,n⟩:=h.gl e;cases a:v.lj i with
 |none=>
  refine(DE.stuck h.hK).ref λb=>?_;show Ref (T.get (v.lj i)).aE _;rw[a];exact .refl _|some d=>
  obtain⟨u,w,f,r,j⟩:=h.co i x d (fh c) a;refine(B9 l f r j k h.hK).ref λb=>?_;show Ref (T.get (v.lj i)).aE _;rw[a];exact .refl _
def J_(d)(ds):Ref (F3 d ds).aE (B7 d ds):=by
 cases d<;>first|exact .fail|skip
 match ds with
 |[]=>exact .fail|[x]=>exact ay (λz=>by
   rw[R4]at z;exact⟨xE z.1,jM z.2⟩) (aG λ_=>.refl _)|_::_::_=>exact .fail
def Nq{np A j:Uq}(G:sEq n "index"=RQ)(E:(A.endLine==j.line)=RQ)(s:isAt g.gn i y=RQ)(D:cM m y=RQ)(C:aF a=RT)(I:QA g m r [a]):QE g m (.M0 i r) (.Call (.Attribute (.Name y np) n A) [a] [] j):=λv X F h=>by
 obtain rfl:=bO G;have t:Sq [a] X.env=(RT,Ux a X.env)::Sq [] X.env:=a_ C;obtain⟨Q,P,U⟩:=h.gl D;cases e:v.lj i with
 |none=>
  refine(DE.stuck h.hK).ref λq=>?_;show Ref (T.get (v.lj i)>>=_).aE _;rw[e];exact .fail|some d=>
  obtain⟨u,w,z,k,M⟩:=h.co i y d (fh s) e;cases f:t6 d with
  |false=>
   refine(DE.stuck h.hK).ref λq=>?_;show Ref (T.get (v.lj i)>>=_).aE _;rw[e];show Ref (T.need (t6 d)>>=_).aE _;rw[f];exact .fail|true=>
   obtain⟨b,o,hb,lk,N,L⟩:=h.ct i y d (fh s) e f;rw[z]at hb;cases hb;have l:∀H,H F.p≠RP->X.K.lookup F.p=RP->Is F.toFb H (.ref b) d:=λH O J=>by
    have:=M H O J;cases d<;>first|cases f|skip
    simp only[Is]at this⊢;obtain⟨S,B,rfl,r⟩:=this;cases(show Sm b=Sm S from k);exact⟨_,B,rfl,r⟩
   have c:((UP j (Sq [a] X.env)).all (λx=>!x.1)&&(Zy j (Xm [] X.env)).all (λx=>x.1.isSome)&&decide ([a].length+([]:List Wc).length+(if([]:List Wc).isEmpty then 0 else 1)<30))=RQ:=by rw[t];rfl
   refine(JZ Q z P l lk N L (I v X F h) (jz (by rfl)) E c t rfl).ref λq=>?_;show Ref (T.get (v.lj i)>>=_).aE _;rw[e];show Ref (T.need (t6 d)>>=_).aE _;rw[f];exact aa '5' λas=>aa (.of_eq (dF as)) λR=>J_ d R
variable{t i t2 i2 x y:Sj}
def P9(d:oZ m own js sc=RQ)(e:bK i=RT)(f:QI g m it t i)(j:QG g (dj m own (bP m js) sc) tg t)(l:QC g (dj m own (bP m js) sc) c ifs)(k:QE g (dj m own (bP m js) sc) elt x):QU g m (.lc own js tg it c elt) (.ListComp x [⟨t,i,ifs,0⟩] sc p):=λv X F h=>by
 obtain⟨b1,u,q,o⟩:=vV h d;exact(BN own (bP m js) js h.calm b1 u q o (f v X F h) (λa cl C b s H=>(j _ _ _ (h.fM d a cl C b s H)).rL) (λa cl C b s H=>(l _ _ _ (h.fM d a cl C b s H)).calm) (λa cl C b s H=>(k _ _ _ (h.fM d a cl C b s H)).calm) (hX e _)).ref λw=>aa '5' λn=>aa (nU n _) λr=>.refl _
def CB(a)(ρ):Ref (ll d b a ρ).aE (B4 (λρ=>(d ρ).aE) (λρ=>(b ρ).aE) a ρ):=aa '5' λx=>aa '5' λy=>ay (λz=>by
  rw[R4]at z;exact⟨dv z.1,Φ0 z.2⟩) '5'
def P_(d:oZ m own js sc=RQ)(j:bK i=RT)(n:QI g m it t i)(o:QG g (dj m own (bP m js) sc) tg t)(q:QC g (dj m own (bP m js) sc) c ifs)(l:QE g (dj m own (bP m js) sc) ke x)(k:QE g (dj m own (bP m js) sc) ve y):QU g m (.dc own js tg it c ke ve) (.DictComp x y [⟨t,i,ifs,0⟩] sc p):=λv X F h=>by
 obtain⟨b1,B,z,w⟩:=vV h d;have hu:X.A.units+2<TL:=by have:=h.un;omega
 exact(B5 own (bP m js) js h.calm hu b1 B z w (n v X F h) (λa cl C b s H=>(o _ _ _ (h.fM d a cl C b s H)).rL) (λa cl C b s H=>(q _ _ _ (h.fM d a cl C b s H)).calm) (λa cl C b s H=>(l _ _ _ (h.fM d a cl C b s H)).calm) (λa cl C b s H=>(k _ _ _ (h.fM d a cl C b s H)).calm) (hX j _) h.hP h.hw).ref λf=>aa '5' λu=>aa (h_ (λe f=>CB e f) _ u _) λr=>.refl _
def Ka(q:p1=o)(n:j=o')(l:bK z=RT)(ha:QE g m a x)(hb:QE g m b y)(s:QE g m c z):QT g m (.rC o o' a b c) (.Compare x [p1,j] [y,z] p):=by
 subst q n;refineλv X F h=>(A9 (kE h.un h.hP h.hw p1) (kE h.un h.hP h.hw j) (ha v X F h) (hb v X F h) (s v X F h) (jY l p1 j)).ref λk=>?_;unfold mV;rw[M.bind_assoc];refine aa '5' λd=>?_;rw[M.bind_assoc];refine aa '5' λe=>?_;rw[M.bind_assoc];refine aa '5' λr=>?_;rw[M.bind_assoc];refine aa (fK r) λb=>?_;cases b with
 |true=>
  show Ref (ak v c k>>=λf=>be j e f>>=λr=>aZ r).aE (((ak v c k).aE>>=λf=>(be j e f).aE)>>=λr=>fV r);rw[M.bind_assoc];exact aa '5' λf=>aa '5' λr=>fK r|false=>exact .refl _
def CC(a)(ρ):Ref (uf te a ρ).aE (Cf (λρ=>(te ρ).aE) a ρ):=aa '5' λx=>aG λns=>ay Φ0 '5'
def Kb(n:sEq f "sorted"=RQ)(k:cM m f=RQ)(d:oZ m own js sc=RQ)(l:bK i=RT)(o:QI g m it t i)(q:QG g (dj m own (bP m js) sc) tg t)(w:QC g (dj m own (bP m js) sc) c ifs)(u:QE g (dj m own (bP m js) sc) elt x):QE g m (.Ck own js tg it c elt) (.Call (.Name f np) [.SetComp x [⟨t,i,ifs,0⟩] sc p] [] G):=λv X F h=>by
 obtain rfl:=bO n;obtain⟨b1,K,J,I⟩:=vV h d;obtain⟨D,B,z⟩:=h.gl k;have hu:X.A.units+1<TL:=by have:=h.un;omega
 exact(F1 own (bP m js) js h.calm hu b1 K J I (o v X F h) (λa cl C b s H=>(q _ _ _ (h.fM d a cl C b s H)).rL) (λa cl C b s H=>(w _ _ _ (h.fM d a cl C b s H)).calm) (λa cl C b s H=>(u _ _ _ (h.fM d a cl C b s H)).calm) (hX l _) h.hP h.hw (h.bl _ (Hz rfl)) (Cw .sorted) D z B).ref λj=>aa '5' λE=>aa (h_ (λe j=>CC e j) _ E _) λr=>.refl _
def Kc{i:Nat}(ha:QT g m a e):QT g m (.oK i a) e:=λv X F h=>((ha v X F h).oK i).ref λb=>.refl _
def CD(ha:QT g m a x)(hb:QW g m b (.BoolOp .And (y::r) p)):QW g m (.fI a b) (.BoolOp .And (x::y::r) p):=λv X F h=>(Jb (ha v X F h) (hb v X F h)).ref λd=>aa '5' λb=>by cases b<;>exact .refl _
def HA(ha:QT g m a x)(hb:QW g m b (.BoolOp .Or (y::r) p)):QW g m (.Cj a b) (.BoolOp .Or (x::y::r) p):=λv X F h=>(Mp (ha v X F h) (hb v X F h)).ref λd=>aa '5' λb=>by cases b<;>exact .refl _
def CF(ha:QT g m a x):QW g m (.d8 a) (.BoolOp o [x] p):=λv X F h=>by cases o with
 |And=>exact EV (ha v X F h)|Or=>exact Ja (ha v X F h)
def Kd(h:QW g m ex e):QT g m ex e:=λv X F z=>(h v X F z).dt
def Ke(ha:QT g m a x):QT g m (.rD a) (.UnaryOp .Not x p):=λv X F h=>(Jc (ha v X F h)).ref λb=>aa '5' λ_=>.refl _
def Nr(q:rK e=RQ)(ha:QE g m a e):QT g m (.sy a) e:=λv X F h=>(JQ (ha v X F h) λw=>vU q X.env w).ref λb=>aa '5' λd=>.get
def Kf(q:o'=o)(e:bK y=RT)(ha:QE g m a x)(hb:QE g m b y):QT g m (.aK o a b) (.Compare x [o'] [y] p):=by
 subst q;exactλv X F h=>(IT (kE h.un h.hP h.hw o') (ha v X F h) (hb v X F h) (nT e o')).ref λf=>by
  rw[M.bind_assoc];refine aa '5' λ_=>?_;rw[M.bind_assoc];exact aa '5' λ_=>aa '5' λd=>fK d
def Kg:QT g m .bad e:=λv X F h=>DT.stuck h.hK
def Kh:QW g m .bad e:=λv X F h=>⟨h.hK,λw a s b H Q I⟨d,k,S,z⟩=>z.elim⟩
def Nt:QC g m .yes []:=λv X F h=>(Bp h.hK).ref λa=>.refl _
def Nu(ha:QT g m a e):QC g m (.d8 a) [e]:=λv X F h=>Bq (ha v X F h)
def Qa:QA g m .nil []:=λv X F h=>(Jd h.hK).ref λa=>.refl _
def Qb(q:aF e=RT)(ha:QE g m a e)(d:QA g m r b):QA g m (a∘r) (e::b):=λv X F h=>(EW (ha v X F h) (d v X F h) (a_ q)).ref λf=>aa '5' λ_=>aa '5' λ_=>.refl _
def Qd{i:Nat}{x:Sy}(q:fJ m i x=RQ)(b:QA g m r a):QA g m (.feed i r) (.Name x p::a):=λv X F h=>by
 obtain⟨j,f,e,d⟩:=h.F4 q;exact(EX i (b v X F h) j f e d rfl).ref λk=>ay zS (aa '5' λ_=>.refl _)
def Nv{x}(f:sEq x "range"=RQ)(e:cM m x=RQ)(b:aF a=RT)(l:QA g m r [a]):QI g m (.jV r) t (.Call (.Name x p) [a] [] k):=λv X F h=>by
 obtain rfl:=bO f;refine(zv (h.bl _ (Hz rfl)) (l v X F h) (h.gl e).1 (a_ b)).ref λo=>aa '5' λas=>aa (.of_eq (dF as)) λn=>?_;match n with
 |[]=>exact .fail|[d]=>exact aa (bB d) λj=>ay (λz=>by simp only[R4,Φ]at z;exact z) '5'|_::_::_=>exact .fail
def Nw{x}(j:sEq x "enumerate"=RQ)(f:cM m x=RQ)(e:aF a=RT)(o:QA g m r [a]):QI g m (.Co r) (.Tuple b k l) (.Call (.Name x p) [a] [] n):=λv X F h=>by
 obtain rfl:=bO j;refine(Fc (h.bl _ (Hz rfl)) (o v X F h) (h.gl f).1 (a_ e)).ref λs=>aa '5' λas=>aa (.of_eq (dF as)) λq=>?_;match q with
 |[]=>exact .fail|[d]=>cases d<;>first|exact .refl _|exact .fail
 |d::_::_=>cases d<;>exact .fail
def Nx(ha:QE g m a e):QI g m (.aB a) t e:=λv X F h=>(Ft (ha v X F h)).ref λb=>aa '5' λd=>.get
def Ki:QI g m .bad t e:=λv X F h=>DI.stuck h.hK
end
noncomputable def Ru(k:∀t i,Ch (QI g m it t i))(o:∀l,Ch (QC g (dj m own (bP m js) sc) c l))(j:Ch (QE g (dj m own (bP m js) sc) d x))(h:Ch (QE g (dj m own (bP m js) sc) ve y)):Ch (QU g m (.dc own js tg it c d ve) (.DictComp x y gs sc p)):=match gs with
 |[⟨t,i,a,0⟩]=>(cb (oZ m own js sc)).b λf=>(cn (bK i)).b λe=>(k t i).b λv=>(cG g (dj m own (bP m js) sc) tg t).b λu=>(o a).b λs=>j.b λr=>h.b λq=>.y (P_ f e v u s r q)|_=>.n
noncomputable def QV(f:∀t i,Ch (QI g m it t i))(j:∀l,Ch (QC g (dj m own (bP m js) sc) c l))(h:Ch (QE g (dj m own (bP m js) sc) elt x)):Ch (QU g m (.lc own js tg it c elt) (.ListComp x gs sc p)):=match gs with
 |[⟨t,i,a,0⟩]=>(cb (oZ m own js sc)).b λe=>(cn (bK i)).b λd=>(f t i).b λr=>(cG g (dj m own (bP m js) sc) tg t).b λq=>(j a).b λo=>h.b λk=>.y (P9 e d r q o k)|_=>.n
noncomputable def Ch.ue(c:Ch (QU g m ex e)):Ch (QE g m ex e):=c.b λh=>.y λv X F z=>(h v X F z).de
mutual
noncomputable def cE(g:fg):(m:MC)->(ex:Ex)->(e:Sj)->Ch (QE g m ex e)
 |m,.var i,e=>match e with
  |.Name x _=>(cb (fJ m i x)).b λq=>.y (M8 q)|_=>.n
 |m,.cst d,e=>match e with
  |.Constant c _ _=>(cK d c).b λh=>.y λv X F z=>(h X F z.hK _ _).ref λS=>.refl _|_=>.n
 |m,.op o a b,e=>match e with
  |.BinOp x E y _=>(cd (E=o)).b λq=>(cE g m a x).b λh=>(cE g m b y).b λs=>.y (P7 q h s)|_=>.n
 |m,.neg a,e=>match e with
  |.UnaryOp .USub x _=>(cE g m a x).b λh=>.y (M9 h)|_=>.n
 |m,.cmp o a b,e=>match e with
  |.Compare x [E] [y] _=>(cd (E=o)).b λq=>(cn (bK y)).b λj=>(cE g m a x).b λh=>(cE g m b y).b λs=>.y (M_ q j h s)|_=>.n
 |m,.and a b,e=>match e with
  |.BoolOp .And (x::y::r) p=>(cE g m a x).b λh=>(cE g m b (.BoolOp .And (y::r) p)).b λs=>.y (Na h s)|_=>.n
 |m,.one a,e=>match e with
  |.BoolOp _ [x] _=>(cE g m a x).b λh=>.y (Nb h)|_=>.n
 |m,.not a,e=>match e with
  |.UnaryOp .Not x _=>(cE g m a x).b λh=>.y (Nc h)|_=>.n
 |m,.tup r,e=>match e with
  |.Tuple w _ _=>(cA g m r w).b λh=>.y (Nd h)|_=>.n
 |m,.lst r,e=>match e with
  |.List w _=>(cA g m r w).b λh=>.y (Nf h)|_=>.n
 |m,.idx a b,e=>match e with
  |.Subscript x y _=>(cn (rJ y)).b λq=>(cE g m a x).b λh=>(cE g m b y).b λs=>.y (Ng q h s)|_=>.n
 |m,.bi f r,e=>match e with
  |.Call (.Name x _) (a::w) [] _=>(cb (sEq x (jb f))).b λj=>(cb (cM m x)).b λk=>(cb (w.all λe=>!aF e)).b λu=>(cn (aF a)).b λA=>(cA g m r (a::w)).b λh=>.y (P8 j k u A h)|_=>.n
 |m,.call f r,e=>match e with
  |.Call (.Name x _) (a::w) [] _=>(cb (isAt g.dn f x)).b λj=>(cb (cM m x)).b λk=>(cb (w.all λe=>!aF e)).b λu=>(cn (aF a)).b λA=>(cA g m r (a::w)).b λh=>.y (J8 j k u A h)|_=>.n
 |m,.Hu Ty a,e=>match e with
  |.Call (.Name x _) [y,.Name t _] [] _=>(cd (Uh t=RM (.type Ty))).b λH=>(cb (sEq x "isinstance")).b λj=>(cb (d9.contains t)).b λk=>(cb (cM m x)).b λu=>(cb (cM m t)).b λA=>(cn (aF y)).b λD=>(cE g m a y).b λh=>.y (Nj H j k u A D h)|_=>.n
 |m,.Hv c a,e=>match e with
  |.Call (.Name x _) [y,.Name t _] [] _=>(cb (sEq x "isinstance")).b λj=>(cb (isAt g.cn c t)).b λk=>(cb (cM m x)).b λu=>(cb (cM m t)).b λA=>(cn (aF y)).b λD=>(cE g m a y).b λh=>.y (Nk j k u A D h)|_=>.n
 |m,.lc own B tg it c C,e=>match e with
  |.ListComp x gs sc p=>(QV (tg:=tg) (gs:=gs) (p:=p) (λt i=>cI g m it t i) (λl=>cC g (dj m own (bP m B) sc) c l) (cE g (dj m own (bP m B) sc) C x)).ue|_=>.n
 |m,.rE o r,e=>match e with
  |.Call (.Attribute x n M) (a::w) [] L=>(cb (sEq n "get")).b λj=>(cb (M.endLine==L.line)).b λk=>(cn (rH x)).b λu=>(cb (w.all λe=>!aF e)).b λA=>(cd (w.length<20)).b λD=>(cn (aF a)).b λG=>(cE g m o x).b λh=>(cA g m r (a::w)).b λs=>.y (J9 j k u A D G h s)|_=>.n
 |m,.lj i,e=>match e with
  |.Name x _=>(cb (cM m x)).b λq=>(cb (isAt g.gn i x)).b λk=>.y (Np q k)|_=>.n
 |m,.F2 o E a b c,e=>match e with
  |.Compare x [p,P] [y,z] _=>(cd (p=o)).b λq=>(cd (P=E)).b λO=>(cn (bK z)).b λj=>(cE g m a x).b λh=>(cE g m b y).b λs=>(cE g m c z).b λJ=>.y (Nh q O j h s J)|_=>.n
 |m,.Ht c a b,e=>match e with
  |.IfExp z x y _=>(cT g m c z).b λh=>(cE g m a x).b λK=>(cE g m b y).b λs=>.y (Ni h K s)|_=>.n
 |m,.Ck own B tg it c C,e=>match e with
  |.Call (.Name f _) [.SetComp x [⟨t,i,I,0⟩] sc _] [] _=>(cb (sEq f "sorted")).b λH=>(cb (cM m f)).b λu=>(cb (oZ m own B sc)).b λj=>(cn (bK i)).b λk=>(cI g m it t i).b λK=>(cG g (dj m own (bP m B) sc) tg t).b λs=>(cC g (dj m own (bP m B) sc) c I).b λJ=>(cE g (dj m own (bP m B) sc) C x).b λR=>.y (Kb H u j k K s J R)|_=>.n
 |m,.dc own B tg it c Q N,e=>match e with
  |.DictComp x y gs sc p=>(Ru (tg:=tg) (gs:=gs) (p:=p) (λt i=>cI g m it t i) (λl=>cC g (dj m own (bP m B) sc) c l) (cE g (dj m own (bP m B) sc) Q x) (cE g (dj m own (bP m B) sc) N y)).ue|_=>.n
 |m,.M0 i r,e=>match e with
  |.Call (.Attribute (.Name y _) n M) [a] [] L=>(cb (sEq n "index")).b λj=>(cb (M.endLine==L.line)).b λk=>(cb (isAt g.gn i y)).b λu=>(cb (cM m y)).b λA=>(cn (aF a)).b λG=>(cA g m r [a]).b λh=>.y (Nq j k u A G h)|_=>.n
 |_,.bad,_=>.y Nl|m,.oK i a,e=>(cE g m a e).b λh=>.y (Nm h)|_,_,_=>.n
noncomputable def cW(g:fg):(m:MC)->(ex:Ex)->(e:Sj)->Ch (QW g m ex e)
 |m,.fI a b,e=>match e with
  |.BoolOp .And (x::y::r) p=>(cT g m a x).b λh=>(cW g m b (.BoolOp .And (y::r) p)).b λc=>.y (CD h c)|_=>.n
 |m,.Cj a b,e=>match e with
  |.BoolOp .Or (x::y::r) p=>(cT g m a x).b λh=>(cW g m b (.BoolOp .Or (y::r) p)).b λc=>.y (HA h c)|_=>.n
 |m,.d8 a,e=>match e with
  |.BoolOp _ [x] _=>(cT g m a x).b λh=>.y (CF h)|_=>.n
 |_,.bad,_=>.y Kh|_,_,_=>.n
noncomputable def cT(g:fg):(m:MC)->(ex:Ex)->(e:Sj)->Ch (QT g m ex e)
 |m,.fI a b,e=>match e with
  |.BoolOp .And (x::y::r) p=>(cT g m a x).b λh=>(cW g m b (.BoolOp .And (y::r) p)).b λd=>.y (Kd (CD h d))|_=>.n
 |m,.Cj a b,e=>match e with
  |.BoolOp .Or (x::y::r) p=>(cT g m a x).b λh=>(cW g m b (.BoolOp .Or (y::r) p)).b λd=>.y (Kd (HA h d))|_=>.n
 |m,.d8 a,e=>match e with
  |.BoolOp _ [x] _=>(cT g m a x).b λh=>.y (Kd (CF h))|_=>.n
 |m,.rD a,e=>match e with
  |.UnaryOp .Not x _=>(cT g m a x).b λh=>.y (Ke h)|_=>.n
 |m,.sy a,e=>(cb (rK e)).b λq=>(cE g m a e).b λh=>.y (Nr q h)|m,.aK o a b,e=>match e with
  |.Compare x [j] [y] _=>(cd (j=o)).b λq=>(cn (bK y)).b λf=>(cE g m a x).b λh=>(cE g m b y).b λd=>.y (Kf q f h d)|_=>.n
 |m,.rC o j a b c,e=>match e with
  |.Compare x [p,l] [y,z] _=>(cd (p=o)).b λq=>(cd (l=j)).b λk=>(cn (bK z)).b λf=>(cE g m a x).b λh=>(cE g m b y).b λd=>(cE g m c z).b λs=>.y (Ka q k f h d s)|_=>.n
 |m,.oK i a,e=>(cT g m a e).b λh=>.y (Kc h)|_,.bad,_=>.y Kg|_,_,_=>.n
noncomputable def cC(g:fg):(m:MC)->(ex:Ex)->(c:List Sj)->Ch (QC g m ex c)
 |_,.yes,c=>match c with
  |[]=>.y Nt|_=>.n
 |m,.d8 a,c=>match c with
  |[e]=>(cT g m a e).b λh=>.y (Nu h)|_=>.n
 |_,_,_=>.n
noncomputable def cA(g:fg):(m:MC)->(ex:Ex)->(c:List Sj)->Ch (QA g m ex c)
 |_,.nil,c=>match c with
  |[]=>.y Qa|_=>.n
 |m,.cons a r,c=>match c with
  |e::c=>(cn (aF e)).b λq=>(cE g m a e).b λh=>(cA g m r c).b λd=>.y (Qb q h d)|[]=>.n
 |m,.feed i r,c=>match c with
  |.Name x _::c=>(cb (fJ m i x)).b λq=>(cA g m r c).b λh=>.y (Qd q h)|_=>.n
 |_,_,_=>.n
noncomputable def cI(g:fg):(m:MC)->(ex:Ex)->(t e:Sj)->Ch (QI g m ex t e)
 |m,.jV r,_,e=>match e with
  |.Call (.Name x _) [a] [] _=>(cb (sEq x "range")).b λf=>(cb (cM m x)).b λd=>(cn (aF a)).b λc=>(cA g m r [a]).b λh=>.y (Nv f d c h)|_=>.n
 |m,.Co r,t,e=>match t,e with
  |.Tuple _ _ _,.Call (.Name x _) [a] [] _=>(cb (sEq x "enumerate")).b λf=>(cb (cM m x)).b λd=>(cn (aF a)).b λc=>(cA g m r [a]).b λh=>.y (Nw f d c h)|_,_=>.n
 |m,.aB a,_,e=>(cE g m a e).b λh=>.y (Nx h)|_,.bad,_,_=>.y Ki|_,_,_,_=>.n
end
noncomputable def CG(sc:UM):ScopeKind:=if sc.kind.isAnnotationScope then .function else sc.kind
noncomputable def kF:Sj->Option UM
 |.ListComp _ _ s _=>RM s|.SetComp _ _ s _=>RM s|.DictComp _ _ _ s _=>RM s|_=>RP
noncomputable def um(m:MC)(x:Sy)(a:Uq)(e:Sj):Bool:=match kF e with
 |none=>RT|some sc=>CG m.sc==.function&&m.sc.names.lookup x==RM .local&&a.line==e.pos.line&&!(sc.names.any λ(n,k)=>n==x&&(k==.local||k==.cell))
def swap_eq(h:env.scope=m.sc)(x)(a)(l)(e):U2 e (RM (.Name x a)) l env=pure (um m x a e):=by
 unfold U2 um Env.blockKind aa_ CG;rw[h];cases e<;>rfl
def uo(l)(e):Yo [.Tuple a k p] e l env=pure RT:=by
 cases e<;>rfl
noncomputable def u_(sc:UM):XS:={scope:=sc,locals:=0,globals:=0,cells:=[]}
def uq(h:env.scope=c.scope)(a:List Sj)(b:Sj):UU a b env=UU a b c:=by
 unfold UU Env.blockKind aa_;rw[h]
noncomputable def cN:(t:XH (Option (List Sy)))->Ch (t=pure RP)
 |.pure RP=>.y rfl|_=>.n
noncomputable def Rv(x y:Sy):(t:XH (Option (List Sy)))->Ch (t=pure (RM [x,y]))
 |.pure (RM [a,b])=>(cb (sEq a x)).b λd=>(cb (sEq b y)).b λc=>.y (by rw[bO d,bO c];rfl)|_=>.n
noncomputable def Qe(x:Sy)(k:Vf)(l:List (Sy×Vf)):Ch (uk x l=RM k):=match uk x l with
 |some j=>(cd (j=k)).b λq=>.y (by rw[q])|none=>.n
section
variable{g:fg}{v:Ev}{m:MC}{X:Cx}{F:Fx}
theorem rM:∀(ds:List D)(ρ:ah),Ref (di b body ds ρ).aE (zu (λd ρ=>(b d ρ).aE) (λρ=>(body ρ).aE) ds ρ)
 |[],ρ=>.refl _|d::ds,ρ=>aa '5' λc=>aa '5' λe=>by cases e with
  |nx a=>exact rM ds a|ct a=>exact rM ds a|bk a=>exact .refl _|rt r=>exact .refl _
theorem kG:∀(n:Nat)(ρ:ah),Ref (eP c body n ρ).aE (fX (λρ=>(c ρ).aE) (λρ=>(body ρ).aE) n ρ)
 |0,ρ=>.refl _|n+1,ρ=>aa '5' λb=>by cases b with
  |true=>
   refine aa '5' λd=>?_;cases d with
   |nx a=>exact kG n a|ct a=>exact kG n a|bk a=>exact .refl _|rt r=>exact .refl _
  |false=>exact .refl _
def XC.Rw(h:XC g v m X F)(b:Ad (X.as X.A RQ pn xe) {F with E:=a,Hs:=Hs,ks:=ks}):XC g v m (X.as X.A RQ pn xe) {F with E:=a,Hs:=Hs,ks:=ks}:=⟨h.hK,h.hP,h.hw,h.hN,h.nd,h.sc,rfl,h.un,h.fn,h.fo,h.PZ,h.bl,h.df,b,h.top,h.cl,h.Hy,h.gd,h.sb,h.zE,h.co,h.ct,h.code⟩
theorem rN(b:Xc->T Fl):∀(t:T Fl),(t.lI b).aE=zA t.aE (λx=>(b x).aE)
 |.ok a=>rfl|.exc x=>rfl|.stuck=>rfl|.draw n k=>by
  show(T.jI n>>=λi=>((k i).lI b).aE)=zA (T.jI n>>=λi=>(k i).aE) _;have:(λi=>((k i).lI b).aE)=λi=>zA (k i).aE (λx=>(b x).aE):=by funext i;exact rN b (k i)
  rw[this];rfl|.perm l k=>by
  show((M.any λi=>i.Perm l)>>=λi=>((k i).lI b).aE)=zA ((M.any λi=>i.Perm l)>>=λi=>(k i).aE) _;have:(λi=>((k i).lI b).aE)=λi=>zA (k i).aE (λx=>(b x).aE):=by funext i;exact rN b (k i)
  rw[this];rfl
set_option tactic.hygienic true in
def CH(h:XC g v m X F)(P:RW)(i y:Nat)(hd:Hd)(x:Xc):Ref (nR v P i y hd x).aE (tE X.K P (RM i) y hd x):=by
 unfold nR tE;split
 .rename_i c nm ex;try rw[ex]
  refine ay (λq=>h.sb c P RQ ?_) (aG λd=>.refl _);split at q;.assumption
  .cases q
 .exact .fail
theorem T.gR(f:d->T c)(b:c->T e):∀(t:T d),((t>>=f)>>=b)=(t>>=λa=>f a>>=b)
 |.ok a=>rfl|.exc x=>rfl|.stuck=>rfl|.draw n k=>by
  show T.draw n (λi=>((k i>>=f)>>=b))=T.draw n (λi=>(k i>>=λa=>f a>>=b));congr 1;funext i;exact T.gR f b (k i)|.perm l k=>by
  show T.perm l (λi=>((k i>>=f)>>=b))=T.perm l (λi=>(k i>>=λa=>f a>>=b));congr 1;funext i;exact T.gR f b (k i)
def qg(d):Ref (uh d).aE (xK d):=by cases d<;>first|exact .refl _|exact .fail
def vX(d):Ref (Cr d).aE (vR d):=by cases d<;>first|exact .refl _|exact .fail
def zU(d):Ref (yd d).aE (xM d):=by cases d<;>first|exact .refl _|exact .fail
def yg(h:(kF e).isSome=RT)(l)(env)(t):U2 e t l env=pure RT:=by
 cases e<;>first|rfl|cases h
end
noncomputable abbrev QS(g:fg)(m:MC)(s:bq)(st:UL):Prop:=∀v X F,XQ (Sb X.prog X.w) X.A X.env X.xe->XC g v m X F->DS X F st (λa=>(av v s a).aE)
noncomputable abbrev CI(g:fg)(m:MC)(s:bq)(a:List UL):Prop:=∀v X F,XQ (Sb X.prog X.w) X.A X.env X.xe->XC g v m X F->zq X F a (λb=>(av v s b).aE)
noncomputable abbrev QH(g:fg)(m:MC)(hd:Hd)(e:Sj):Prop:=(∀t l env,U2 e t l env=pure RT)/\∀v X F,XC g v m X F->∀A pn xe,DE (X.as A RT pn xe) F e (λa=>M.get (OF hd a))
section
def XC.ye(h:XC g v m X F):X.N.Nodup:=by rw[h.hN];exact h.nd
def Kj(q:fJ m j x=RQ):QH g m (.slot j) (.Name x p):=⟨λ_ _ _=>rfl,λv X F h A pn xe=>by
 obtain⟨d,c,b,a⟩:=h.F4 q;exact A7 j d c b a h.hK⟩
def Ny(q:QK d c):QH g m (.cst d) (.Constant c k p):=⟨λ_ _ _=>rfl,λv X F h A pn xe=>q (X.as A RT pn xe) F h.hK k p⟩
noncomputable def cH(g:fg)(m:MC):(hd:Hd)->(e:Sj)->Ch (QH g m hd e)
 |.slot j,e=>match e with
  |.Name x _=>(cb (fJ m j x)).b λq=>.y (Kj q)|_=>.n
 |.cst d,e=>match e with
  |.Constant c _ _=>(cK d c).b λq=>.y (Ny q)|_=>.n
def Nz(c:QG g m tg (.Tuple a k b))(f:QE g m e x)(q:UU [.Tuple a k b] x (u_ m.sc)=pure RP):QS g m (.asg tg e) (.Assign [.Tuple a k b] x p):=λv X F _ h=>(Jn (f v X F h) (c v X F h) (uo _ _) ((uq (by rw[h.sc];rfl) _ _).trans q) rfl).ref λi=>aa '5' λd=>aa '5' λ_=>.refl _
def Kk(c:f_ m i n=RQ)(f:QU g m e x)(hs:um m n b x=RQ):QS g m (.set i e) (.Assign [.Name n b] x p):=λv X F _ h=>by
 obtain⟨l,k,j⟩:=h.loc c;have a:=swap_eq (m:=m) h.sc n b p.line x;rw[hs]at a;exact(Fk i h.ye (f v X F h) l k a j).ref λo=>aa '5' λd=>.refl _
def NA(c:f_ m i n=RQ)(f:QE g m e x)(hs:um m n b x=RT):QS g m (.set i e) (.Assign [.Name n b] x p):=λv X F _ h=>by
 obtain⟨l,k,j⟩:=h.loc c;have a:=swap_eq h.sc n b p.line x;rw[hs]at a;exact(Bi i h.ye (f v X F h) l k a j).ref λo=>aa '5' λd=>.refl _
def NB(a:QE g m e x):QS g m (.ret e) (.Return (RM x) p):=λv X F _ h=>(Jp (a v X F h)).ref λb=>aa '5' λd=>.refl _
def NC(f:QT g m c x)(ha:CI g m a xs)(hb:CI g m b d):QS g m (.iff c a b) (.If x xs d p):=λv X F e h=>(My (f v X F h) (ha v X F e h) (hb v X F e h)).ref λi=>aa '5' λz=>by cases z<;>exact .refl _
def ND(d:bK i=RT)(e:QI g m it t i)(f:QG g m tg t)(hb:CI g m b xs):QS g m (.dU tg it b) (.For t i xs [] p):=λv X F a h=>(Jq a h.calm (e v X F h) (f v X F h) (hb v X F a h) (hX d _)).ref λc=>aa '5' λj=>rM j c
def NF(e:QT g m c x)(hb:CI g m b xs):QS g m (.J6 c b) (.While x xs [] p):=λv X F a h=>(Bk a (e v X F h) (hb v X F a h)).ref λd k Q E z=>⟨cV,kG cV d k Q E z⟩
def F6(n:isAt g.cn c x=RQ)(l:cM m x=RQ)(k:(i.all λe=>!aF e)=RQ)(j:aF a=RT)(s:QA g m r (a::i)):QS g m (.raise c r) (.Raise (RM (.Call (.Name x p) (a::i) [] q)) RP o):=λv X F _ h=>by
 obtain⟨u,t,w⟩:=h.gl l;have d:∀b,av v (.raise c r) b=T.get (v.cls c)>>=λC=>T.need (v.how C)>>=λ_=>(fZ v r b>>=λas=>Hx v C as)>>=λx=>T.exc ⟨x,b⟩:=λb=>by
  show(T.get (v.cls c)>>=λC=>T.need (v.how C)>>=λ_=>fZ v r b>>=λas=>Hx v C as>>=λx=>T.exc ⟨x,b⟩)=_;simp only[T.gR]
 cases f:v.cls c with
 |none=>
  refine(DS.stuck h.hK).ref λb=>?_;rw[d,f];exact .fail|some C=>
  have ev:∀b,av v (.raise c r) b=T.need (v.how C)>>=λ_=>(fZ v r b>>=λas=>Hx v C as)>>=λx=>T.exc ⟨x,b⟩:=λb=>by rw[d,f];rfl
  by_cases hw:v.how C=RQ
  .refine(BE h.calm h.xo (s v X F h) u (h.cl c x C (fh n) f) (h.Hy C hw) t (a_ j) (ee k)).ref λb=>?_;rw[ev,hw];show Ref ((fZ v r b>>=λas=>Hx v C as)>>=λx=>T.exc ⟨x,b⟩).aE _;rw[T.bV,T.bV,M.bind_assoc];refine(Ref.refl _).bind λas=>?_;unfold Hx;rw[T.bV,M.bind_assoc];exact(Ref.need Φ0).bind λ_=>.refl _
  .refine(DS.stuck h.hK).ref λb=>?_;rw[ev,Bool.eq_false_iff.mpr hw];exact .fail
def NG(u:isAt m.N i x=RQ)(t:isAt m.N j y=RQ)(s:uk x m.sc.names=RM .local)(o:uk y m.sc.names=RM .local)(f:i≠j)(w:QA g m r [a,b])(q:UU [.Tuple [.Name x l,.Name y k] n pt] (.Tuple [a,b] k2 c) (u_ m.sc)=pure (RM [x,y])):QS g m (.par i j r) (.Assign [.Tuple [.Name x l,.Name y k] n pt] (.Tuple [a,b] k2 c) p):=λv X F _ h=>(Jo i j h.calm h.ye (w v X F h) f (λpa=>Ih h.calm h.ye (h.at_ u) (h.at_ t) f (by rw[<-h.lk];exact s) (by rw[<-h.lk];exact o) pa ((uq (by rw[h.sc];rfl) _ _).trans q) (uo _ _))).ref λA=>aa '5' λas=>aa (.of_eq (dF as)) λz=>by match z with
  |[]=>exact .fail|[_]=>exact .fail|[d,e]=>exact .refl _|_::_::_::_=>exact .fail
def NH{cn n l}(p:m.all=RQ)(D:isAt g.cn c cn=RQ)(C:cM m cn=RQ)(B:isAt m.N i n=RQ)(d:uk n m.sc.names=RM .local)(w:f_ m y l=RQ)(o:QH g m hd e)(hb:CI g m b body):QS g m (.Cq b c i y hd) (.Try body [.ExceptHandler (RM (.Name cn p1)) (RM n) [.Assign [.Name l s] e I] H] [] [] G):=λv X F R h=>by
 obtain⟨O,M,S⟩:=h.gl C;have K:=h.at_ B;have r:X.env.scope.names.lookup n=RM .local:=by rw[<-h.lk];exact d
 obtain⟨y1,u,t⟩:=h.loc w;cases j:v.cls c with
 |none=>
  refine(DS.stuck h.hK).ref λa=>?_;show Ref (T.get (v.cls c)>>=λP=>(av v b a).lI (nR v P i y hd)).aE _;rw[j];exact .fail|some P=>
  refine(BG (h.top p).1 (h.top p).2 h.hK h.ye h.calm (λxe pn U Hs ks f L=>hb v _ _ f (h.Rw L)) O (h.cl c cn P (fh D) j) M K r y1 u t (o.1 _ _ _) (λA pn xe=>o.2 v X F h A pn xe) r).ref λa=>?_;show Ref (T.get (v.cls c)>>=λP=>(av v b a).lI (nR v P i y hd)).aE _;rw[j];show Ref ((av v b a).lI (nR v P i y hd)).aE _;rw[rN];exactλk Q E z=>(av v b a).aE.mono (show(av v b a).aE.run k Q _ from z) (λ_ _ q=>q) λx J q=>CH h P i y hd x J Q E q
def NJ{st}:QS g m .bad st:=λv X F _ h=>(DS.stuck h.hK).ref λa=>.fail
def Km(q:f_ m i n=RQ)(d:QA g m r a):QS g m (.oY i r) (.Assign [.Name n b] (.List a c) p):=λv X F _ h=>by
 obtain⟨j,f,e⟩:=h.loc q;exact(Fm i h.ye (d v X F h) j f e).ref λk=>aa '5' λas=>aa (.of_eq (dF as)) λl=>ay Φ0 '5'
def Kn(q:f_ m i n=RQ):QS g m (.i8 i) (.Assign [.Name n a] (.Dict [] [] b) p):=λv X F _ h=>by
 obtain⟨e,d,c⟩:=h.loc q;exact(Fo i h.ye h.hK e d c).ref λf=>.refl _
def NL(n:sEq f "append"=RQ)(l:fJ m i x=RQ)(k:(c.endLine==b.line)=RQ)(j:aF a=RT)(o:QE g m e a):QS g m (.app i e) (.Expr (.Call (.Attribute (.Name x np) f c) [a] [] b) p):=λv X F _ h=>by
 obtain rfl:=bO n;obtain⟨t,s,r,q⟩:=h.F4 l;exact(JK i t s r q (o v X F h) k (a_ j)).ref λu=>aG λd=>aa (qg d) λw=>aa '5' λy=>ay Φ0 '5'
def NM(c:fJ m i x=RQ)(b:(kF ve).isSome=RT)(f:QE g m k a)(j:QE g m e ve):QS g m (.put i k e) (.Assign [.Subscript (.Name x np) a sp] ve p):=λv X F _ h=>by
 obtain⟨r,q,n,l⟩:=h.F4 c;have hu:X.A.units+2<TL:=by have:=h.un;omega
 exact(JL i hu h.hP h.hw r q n l (f v X F h) (j v X F h) (yg b _ _ _)).ref λs=>aa '5' λd=>aG λo=>aa (zU o) λu=>aa '5' λt=>ay (λz=>by
  rw[R4]at z;exact⟨Φ0 z.1,dv z.2⟩) '5'
def Ko(q:(kF x).isSome=RT)(a:QE g m e x):QS g m (.expr e) (.Expr x p):=λv X F _ h=>(E6 (a v X F h) (yg q _ _ _)).ref λb=>aa '5' λd=>.refl _
def F7(k:m.all=RQ)(f:f_ m i n=RQ)(e:fJ m j y=RQ):QS g m (.yc i j) (.Assign [.Name n l] (.Set [.Name y np] 0 sp) p):=λv X F _ h=>by
 obtain⟨t,s,r⟩:=h.loc f;obtain⟨v1,c,b,a⟩:=h.F4 e;obtain⟨q,o⟩:=h.code k;exact(Ca i j h.ye h.hK h.hP h.hw o t s r v1 c b a).ref λu=>aG λd=>aa (bB d) λn=>.refl _
def NN(o:sEq f "add"=RQ)(l:fJ m i x=RQ)(k:(c.endLine==b.line)=RQ)(j:aF a=RT)(q:QE g m e a):QS g m (.add i e) (.Expr (.Call (.Attribute (.Name x np) f c) [a] [] b) p):=λv X F _ h=>by
 obtain rfl:=bO o;obtain⟨u,t,s,r⟩:=h.F4 l;exact(J3 i h.hP h.hw u t s r (q v X F h) k (a_ j)).ref λy=>aG λd=>aa (vX d) λz=>aa '5' λw=>aa (bB w) λn=>ay Φ0 '5'
def s_pop(n:sEq f "pop"=RQ)(l:f_ m j y=RQ)(k:fJ m i x=RQ)(e:(b.endLine==a.line)=RQ):QS g m (.pop j i) (.Assign [.Name y c] (.Call (.Attribute (.Name x np) f b) [] [] a) p):=λv X F _ h=>by
 obtain rfl:=bO n;obtain⟨r,q,o⟩:=h.loc l;obtain⟨w,u,t,s⟩:=h.F4 k;exact(JN i j h.ye h.hK w u t s r q o e).ref λz=>aG λd=>aa (qg d) λA=>aG λB=>.refl _
def Qf{st}(hs:QS g m s st):QS g m (.fz i s) st:=λv X F a h=>((hs v X F a h).fz i).ref λb=>.refl _
def Rx:CI g m .nil []:=λv X F _ h=>(E7 h.hK).ref λa=>.refl _
def Ry(hs:QS g m s x)(b:CI g m r xs):CI g m (s∘r) (x::xs):=λv X F a h=>(Bj (hs v X F a h) (b v X F a h)).ref λd=>aa '5' λc=>by cases c<;>exact .refl _
end
noncomputable def cU(g:fg)(m:MC):(ex:Ex)->(e:Sj)->Ch (QU g m ex e)
 |.lc own d j it c a,e=>match e with
  |.ListComp x r sc p=>QV (cI g m it) (cC g (dj m own (bP m d) sc) c) (cE g (dj m own (bP m d) sc) a x)|_=>.n
 |.bad,_=>.y λv X F h=>⟨h.hK,λb s i H I=>⟨λQ⟨f,k,S,z⟩=>z.elim,λx o l q D _ _⟨f,k,S,z⟩=>z.elim⟩⟩|_,_=>.n
noncomputable def Qg(g:fg)(m:MC)(i:Nat)(e:Ex)(n:Sy)(c p:Uq)(x:Sj):Ch (QS g m (.set i e) (.Assign [.Name n c] x p)):=(cb (f_ m i n)).b λq=>match h:um m n c x with
  |true=>(cU g m e x).b λa=>.y (Kk q a h)|false=>(cE g m e x).b λa=>.y (NA q a h)
mutual
noncomputable def cS(g:fg)(m:MC):(s:bq)->(st:UL)->Ch (QS g m s st)
 |.asg E e,st=>match st with
  |.Assign [.Tuple I k C] x _=>(cG g m E (.Tuple I k C)).b λh=>(cE g m e x).b λu=>(cN (UU [.Tuple I k C] x (u_ m.sc))).b λq=>.y (Nz h u q)|_=>.n
 |.set i e,st=>match st with
  |.Assign [.Name n C] x p=>Qg g m i e n C p x|_=>.n
 |.ret e,st=>match st with
  |.Return (RM x) _=>(cE g m e x).b λh=>.y (NB h)|_=>.n
 |.iff c a b,st=>match st with
  |.If x v J _=>(cT g m c x).b λh=>(HB g m a v).b λz=>(HB g m b J).b λu=>.y (NC h z u)|_=>.n
 |.dU E it b,st=>match st with
  |.For t i v [] _=>(cn (bK i)).b λq=>(cI g m it t i).b λh=>(cG g m E t).b λz=>(HB g m b v).b λu=>.y (ND q h z u)|_=>.n
 |.J6 c b,st=>match st with
  |.While x v [] _=>(cT g m c x).b λh=>(HB g m b v).b λz=>.y (NF h z)|_=>.n
 |.par i j r,st=>match st with
  |.Assign [.Tuple [.Name x P,.Name y O] Q pt] (.Tuple [a,b] S G) _=>(cb (isAt m.N i x)).b λw=>(cb (isAt m.N j y)).b λo=>(Qe x .local m.sc.names).b λl=>(Qe y .local m.sc.names).b λd=>(cd (i≠j)).b λF=>(cA g m r [a,b]).b λh=>(Rv x y (UU [.Tuple [.Name x P,.Name y O] Q pt] (.Tuple [a,b] S G) (u_ m.sc))).b λq=>.y (NG w o l d F h q)|_=>.n
 |.raise c r,st=>match st with
  |.Raise (RM (.Call (.Name x _) (a::D) [] _)) RP _=>(cb (isAt g.cn c x)).b λw=>(cb (cM m x)).b λo=>(cb (D.all λe=>!aF e)).b λl=>(cn (aF a)).b λd=>(cA g m r (a::D)).b λh=>.y (F6 w o l d h)|_=>.n
 |.Cq b c i y hd,st=>match st with
  |.Try body [.ExceptHandler (RM (.Name cn _)) (RM n) [.Assign [.Name K _] e _] _] [] [] _=>(cb m.all).b λw=>(cb (isAt g.cn c cn)).b λo=>(cb (cM m cn)).b λl=>(cb (isAt m.N i n)).b λd=>(Qe n .local m.sc.names).b λF=>(cb (f_ m y K)).b λM=>(cH g m hd e).b λL=>(HB g m b body).b λh=>.y (NH w o l d F M L h)|_=>.n
 |.bad,_=>.y NJ|.oY i r,st=>match st with
  |.Assign [.Name n _] (.List D _) _=>(cb (f_ m i n)).b λq=>(cA g m r D).b λh=>.y (Km q h)|_=>.n
 |.i8 i,st=>match st with
  |.Assign [.Name n _] (.Dict [] [] _) _=>(cb (f_ m i n)).b λq=>.y (Kn q)|_=>.n
 |.app i e,st=>match st with
  |.Expr (.Call (.Attribute (.Name x _) f B) [a] [] A) _=>(cb (sEq f "append")).b λq=>(cb (fJ m i x)).b λo=>(cb (B.endLine==A.line)).b λl=>(cn (aF a)).b λd=>(cE g m e a).b λh=>.y (NL q o l d h)|_=>.n
 |.put i k e,st=>match st with
  |.Assign [.Subscript (.Name x _) R _] H _=>(cb (fJ m i x)).b λq=>(cn (kF H).isSome).b λd=>(cE g m k R).b λh=>(cE g m e H).b λu=>.y (NM q d h u)|_=>.n
 |.fz _ s,st=>(cS g m s st).b λh=>.y (Qf h)|.expr e,st=>match st with
  |.Expr x _=>(cn (kF x).isSome).b λq=>(cE g m e x).b λh=>.y (Ko q h)|_=>.n
 |.yc i j,st=>match st with
  |.Assign [.Name n _] (.Set [.Name y _] 0 _) _=>(cb m.all).b λq=>(cb (f_ m i n)).b λo=>(cb (fJ m j y)).b λl=>.y (F7 q o l)|_=>.n
 |.add i e,st=>match st with
  |.Expr (.Call (.Attribute (.Name x _) f B) [a] [] A) _=>(cb (sEq f "add")).b λq=>(cb (fJ m i x)).b λo=>(cb (B.endLine==A.line)).b λl=>(cn (aF a)).b λd=>(cE g m e a).b λh=>.y (NN q o l d h)|_=>.n
 |.pop j i,st=>match st with
  |.Assign [.Name y _] (.Call (.Attribute (.Name x _) f B) [] [] A) _=>(cb (sEq f "pop")).b λq=>(cb (f_ m j y)).b λo=>(cb (fJ m i x)).b λl=>(cb (B.endLine==A.line)).b λd=>.y (s_pop q o l d)|_=>.n
 |_,_=>.n
noncomputable def HB(g:fg)(m:MC):(s:bq)->(a:List UL)->Ch (CI g m s a)
 |.nil,c=>match c with
  |[]=>.y Rx|_=>.n
 |.cons s r,c=>match c with
  |x::d=>(cS g m s x).b λh=>(HB g m r d).b λe=>.y (Ry h e)|[]=>.n
 |_,_=>.n
end
def ek.any{K}(h:ek P w K mg base y9 k f fd ps sp):ek P w K mg base CX k f fd ps sp:=⟨h.len,λA outer s H a c b Q E g j hb r d=>VC (h.run A outer s H a c b Q E g j hb r d) λr l q=>by cases r with
  |error e=>exact Uk q|ok i=>cases i<;>exact q⟩
structure Kq(P:Sf)(K:R0)(mg:Sy->Option RR)(g:fg)(x:Sy)(d:Df):Prop where ex:∃(y qual:Sy)(st:UL)(f:RW)(fd:Ua)(N ps:List Sy),AF K y qual st f fd/\dC N ps (au st)/\Binds K fd ps []/\mg x=RM (.ref f)/\ps.length=d.np/\N.length=d.nn/\CI g ⟨N,au st,RQ,[]⟩ d.body (c6 st)
structure LA(P:Sf)(w:Sx)(K:R0)(mg:Sy->Option RR)(base:SJ)(x:Sy)(np:Nat)(t:List A->T D):Prop where
 ok:m_ P w K mg base x np 1 (λas=>(t as).aE)len:∀as,as.length≠np->t as=.stuck
inductive Dk where|df(d:Df)|wit(t:List A->T D)
structure Gv where
 lj:Nat->Option D
 cls:Nat->Option RW
 how:RW->Bool
 sub:RW->RW->Option Bool
 ins:RW->RR->Option Bool
noncomputable def Gv.ev(b:Gv)(call:Nat->List A->T D):Ev:=⟨call,b.lj,b.cls,b.how,b.sub,b.ins⟩
noncomputable def ai(defs:List Dk)(b:Gv):Nat->Nat->List A->T D
 |0,_,_=>.stuck|n+1,f,as=>match defs[f]? with
  |none=>.stuck|some (.wit t)=>t as|some (.df d)=>if as.length=d.np then do jW (<-av (b.ev (ai defs b n)) d.body (c8 d.nn as))else .stuck
structure lr(P:Sf)(w:Sx)(K:R0)(mg:Sy->Option RR)(base:SJ)(g:fg)(defs:List Dk)(b:Gv):Prop where
 bl:∀x∈d9,mg x=RP
 df:∀(f:Nat)(x:Sy),g.dn[f]?=RM x->(∃d,defs[f]?=RM (Dk.df d)/\Kq P K mg g x d)\/(∃t np,defs[f]?=RM (Dk.wit t)/\LA P w K mg base x np t)cl:∀(c:Nat)(x:Sy)(C:RW),g.cn[c]?=RM x->b.cls c=RM C->mg x=RM (.ref C)Hy:∀C,b.how C=RQ->vF K C=RQ
 sb:∀c P r,b.sub c P=RM r->i7 K c P=RM r
 zE:∀c u r,b.ins c u=RM r->D4 K c=RQ/\TZ K (.ref c) u=RM r
 co:∀(i:Nat)(x:Sy)(d:D),g.gn[i]?=RM x->b.lj i=RM d->∃u v,mg x=RM u/\RelV v u/\∀(p:RW)(H:Hp),H p≠RP->K.lookup p=RP->Is ⟨K,p,P,w⟩ H v d
 ct:∀i x d,g.gn[i]?=RM x->b.lj i=RM d->t6 d=RQ->∃a o,mg x=RM (.ref a)/\K.lookup a=RM o/\o.cls=.type "tuple"/\o.dict=RP
section
variable{K:R0}
def mark_none{A:SF}(h:A.handled=RP):A.mark RP=A:=by
 cases A;simp only[Around.mark]at*;simp_all
def m_.mono(h:m_ P w K mg base x n j m)(c:j<=k):m_ P w K mg base x n k m:=by
 obtain⟨ps,a,f,fd,F,r⟩:=h;exact⟨ps,a,f,fd,F.mono c,r⟩
theorem lr.all(h:lr P w K mg base g defs b):∀(n f:Nat)(x:Sy),g.dn[f]?=RM x->∃np,m_ P w K mg base x np n (λas=>(ai defs b n f as).aE)/\∀as,as.length≠np->ai defs b n f as=.stuck
 |0,f,x,o=>by
  rcases h.df f x o with⟨d,hd,⟨y,a,st,l,fd,N,ps,F,S,B,C,q,hn,Z⟩⟩|⟨t,np,hd,W⟩
  .refine⟨ps.length,⟨ps,rfl,l,fd,⟨λJ H Q E z=>?_,λA outer s H G us J Q E c e0 hb r z=>?_⟩,C,F.kp,B⟩,λ_ _=>rfl⟩;.obtain⟨p,k,as,_,_,_,z⟩:=z;exact z.elim
   .obtain⟨p,k,as,_,_,_,z⟩:=z;exact z.elim
  .obtain⟨ps,j,l,fd,FN,C,hk,hb⟩:=W.ok;refine⟨ps.length,⟨ps,rfl,l,fd,⟨λJ H Q E z=>?_,λA outer s H G us J Q E c e0 hb r z=>?_⟩,C,hk,hb⟩,λ_ _=>rfl⟩;.obtain⟨p,k,as,_,_,_,z⟩:=z;exact z.elim
   .obtain⟨p,k,as,_,_,_,z⟩:=z;exact z.elim|n+1,f,x,o=>by
  rcases h.df f x o with⟨d,hd,⟨y,a,st,l,fd,N,ps,F,S,B,C,q,hn,Z⟩⟩|⟨t,np,hd,W⟩
  .have D:∀as,ai defs b (n+1) f as=if as.length=d.np then do jW (<-av (b.ev (ai defs b n)) d.body (c8 d.nn as))else .stuck:=λas=>by
    show(match defs[f]? with
     |none=>T.stuck|some (.wit t)=>t as|some (.df d)=>if as.length=d.np then do jW (<-av (b.ev (ai defs b n)) d.body (c8 d.nn as))else .stuck)=_;rw[hd]
   refine⟨d.np,⟨ps,q,l,fd,?_,C,F.kp,B⟩,λas j=>by rw[D,Ξ3 j]⟩;refine F.Rr (k:=n) S q λX A' outer s H p k0 E E' c R L=>?_;have xc:XC g (b.ev (ai defs b n)) ⟨N,au st,RQ,[]⟩ (lF (Jy P w) P w K mg base N a (au st) l X A' outer s H E) ⟨⟨K,p,P,w⟩,H,k0,E',H,k0⟩:=⟨rfl,rfl,rfl,rfl,S.nd,rfl,rfl,c.units,λ_ _=>rfl,'3',mark_none c.hd,h.bl,λf' x' O=>by
     obtain⟨np,V,U⟩:=lr.all h n f' x' O;exact⟨np,n,c,V,U⟩,L,λ_=>⟨rfl,rfl⟩,h.cl,h.Hy,c.gd,h.sb,h.zE,λi x d o hd=>let⟨u,v,V,U,h3⟩:=h.co i x d o hd;⟨u,v,V,U,λH hH q=>h3 p H hH q⟩,h.ct,λ_=>⟨_,R⟩⟩;refine⟨_,Z _ _ _ aaJ xc,λas Q j z=>?_⟩;rw[D,Ξ2 j,T.bV]at z;have e:gE N as=c8 d.nn as:=by unfold gE c8;rw[hn]
   rw[e];refine M.wk (m:=(av (b.ev (ai defs b n)) d.body (c8 d.nn as)).aE) z λfl k' I=>?_;cases fl with
   |rt d=>exact I|nx Y=>exact I|bk Y=>exact I|ct Y=>exact I
  .have D:∀as,ai defs b (n+1) f as=t as:=λas=>by
    show(match defs[f]? with
     |none=>T.stuck|some (.wit t)=>t as|some (.df d)=>if as.length=d.np then do jW (<-av (b.ev (ai defs b n)) d.body (c8 d.nn as))else .stuck)=_;rw[hd]
   refine⟨np,?_,λas j=>by rw[D];exact W.len as j⟩;have:(λas=>(ai defs b (n+1) f as).aE)=λas=>(t as).aE:=by funext as;rw[D]
   rw[this];exact W.ok.mono '0'
end
end L2
end
section
namespace K26d
open PySem L2
noncomputable def Kr(i:Nat):UL:=PySem.Challenge.pw_wallplan_k26_long_moves.main.body.getD i (.Pass ⟨0,0,0,0⟩)
noncomputable abbrev ur:UL:=Kr 30
noncomputable abbrev CJ:UL:=Kr 29
noncomputable abbrev uu:UL:=Kr 45
def LB(p:RW)(H H':Hp):Prop:=∀b,b≠p->H' b=H b
def LB.upd:LB p H (upd H p o):=λ_ h=>ar h
noncomputable def Ks:Sp:=λb H Q _=>∃(p q:RW)(n:Int)(k:Nat),b=[.ref p,.int n]/\mT H p q k/\k<1000000/\0<n/\n<1073741824/\∀(z:Int)(a:Hp),0<=z->z<n->mT a p q (k+1)->LB p H a->Q (.int z) a
section
def Kt:dC ["_law_script"] ["_law_script"] (au CJ):=⟨rfl,rfl,rfl,by decide+kernel,rfl,by decide+kernel,by decide+kernel⟩
def jc:dC ["_law_feed_here","_law_many","_law_got","_law_at","_law_cell","_law_number"] ["_law_feed_here","_law_many"] (au ur):=⟨rfl,rfl,rfl,by decide+kernel,rfl,by decide+kernel,by decide+kernel⟩
def OJ{a b c:V}:fL [a,b,c] 0=RM a:=fR rfl
def Rz{a b c:V}:fL [a,b,c] 1=RM b:=fR rfl
def at2{a b c:V}:fL [a,b,c] 2=RM c:=fR rfl
def c7.Ku(F:c7 H p q ns i r)(e:0<=b)(d:0<=a):c7 (upd H p (.lst [.ref q,.int b,.int a])) p q ns b a:=let⟨o,c⟩:=F.cs;⟨aq,⟨o,by rw[ar F.ne];exact c⟩,F.ne,e,d,F.ln⟩
def c7.sq(F:c7 H p q ns i r):dZ K H q (ns.map V.int):=.inl (.inr F.cs)
def F8{ns:List Int}(a:(0)<((ns.map V.int).length:Int)):∃c,fL (ns.map V.int) (i%((ns.map V.int).length))=RM (.int c):=by
 have f:=VG i a;have d:=Wz i (show((ns.map V.int).length:Int)≠0 by omega);have e:((i%((ns.map V.int).length:Int)).toNat)=i%((ns.map V.int).length):='0'
 have b:(ns.map V.int).length=ns.length:=RV ..;have hlt:(i%((ns.map V.int).length)).toNat<ns.length:='0'
 rw[<-e];refine⟨ns[(i%((ns.map V.int).length)).toNat]'hlt,fR ?_⟩;rw[Sn,R_ hlt];rfl
def F9(F:AF K "_law_draw" "_law_draw" ur f fd)(e:mg "len"=RP):ek P w K mg base y9 1 f fd ["_law_feed_here","_law_many"] Ks:=by
 refine F.ok jc (λI H Q E h=>?_) (λO A outer s H I Q E J h=>?_)
 .obtain⟨p,q,n,k,rfl,_⟩:=h;rfl
 .obtain⟨p,q,n,k,rfl,⟨ns,i,r,G,L⟩,R,d,o,v⟩:=h;have hu:=Mc J;refine⟨_,bG (wI (jy Ap (iC dD (pv 0) aI (λ_ _=>rfl)) aI (kj _)) (bG (dP (i:=2) jc.nd rfl (WS rfl) (bM fk (iC dD (pv 0) aI (λ_ _=>rfl)) (pv 1))) (bG (qC (bM lM (iC dD (pv 0) aI (λ_ _=>rfl)) (pv 1)) (uZ (pv 0) aI set_list)) (jw (mw (pv 2))))) lL) (bG (dP (i:=3) jc.nd rfl (WS rfl) (iC dD (pv 0) aI (λ_ _=>rfl))) (bG (qC (bM mz (pv 3) aI) (uZ (pv 0) aI set_list)) (bG (dP (i:=4) jc.nd rfl (WS rfl) (pv 3)) (bG (wI (jy Ap (eA fS (by rfl) e ZS (bz (iC dD (pv 0) aI (λ_ _=>rfl)) dQ)) aI (kj _)) (jw (dP (i:=4) jc.nd rfl (WS rfl) (iC dD (iC dD (pv 0) aI (λ_ _=>rfl)) (bM fk (pv 3) (eA fS (by rfl) e ZS (bz (iC dD (pv 0) aI (λ_ _=>rfl)) dQ))) (λ_ _=>rfl)))) lL) (bG (wI (Ah (jy G7 (pv 4) (bM An aI aI) (kj _)) (wH (jy G6 (pv 3) (eA fS (by rfl) e ZS (bz (iC dD (pv 0) aI (λ_ _=>rfl)) dQ)) (kj _)))).pt (bG (qC (bM lM (pv 4) (pv 1)) (uZ (pv 0) aI set_list)) (jw (mw (bM fk (pv 4) (pv 1))))) lL) (bG (dP (i:=5) jc.nd rfl (WS rfl) (bM fk (bM iT (bM mz (bM mz (bM fk (pv 4) aI) (bM iT (bM iT aI (pv 3)) (pv 3))) aI) aI) aI)) (bG (dP (i:=5) jc.nd rfl (WS rfl) (bM fk (bM mz (bM iT (pv 5) (pv 5)) (bM iT aI (pv 3))) aI)) (jw (mw (bM fk (bM lM (bM fk (bM iT (pv 5) (bM mz (bM fk (pv 5) aI) aI)) aI) aI) (pv 1))))))))))),?_⟩;refine⟨_,rfl,p,_,_,_,rfl,rfl,dZ.of G.ob,at2,_,_,rfl,rfl,_,rfl,?_⟩;refine Ey (λN=>?_) (λN=>?_)
  .refine⟨_,rfl,p,_,_,_,rfl,rfl,dZ.of G.ob,at2,_,rfl,_,_,rfl,rfl,d,?_⟩;refine⟨_,rfl,p,_,_,_,rfl,rfl,dZ.of G.ob,at2,_,rfl,_,_,rfl,rfl,⟨d,o⟩,_,rfl,p,_,_,2,rfl,rfl,G.ob,rfl,?_⟩;refine⟨_,rfl,?_⟩;exact v _ _ (Wz _ '0') (VG _ d) ⟨ns,i,_,c7.Ku G G.i0 (Int.ediv_nonneg G.r0 '0'),'0'⟩ LB.upd
  .have i0:=G.i0;refine⟨_,rfl,p,_,_,_,rfl,rfl,dZ.of G.ob,Rz,?_⟩;refine⟨_,rfl,_,_,rfl,rfl,_,rfl,p,_,_,1,rfl,rfl,G.ob,rfl,?_⟩;have g:c7 (upd H p (.lst [.ref q,.int (i+1),.int r])) p q ns (i+1) r:=c7.Ku G '0' G.r0;refine⟨_,rfl,?_⟩;refine⟨_,rfl,p,_,_,_,rfl,rfl,dZ.of g.ob,OJ,q,_,rfl,.inl ((c7.sq g)),_,_,rfl,rfl,_,rfl,?_⟩;refine(λ(j:∀c:Int,(?G:Int->Prop) c)=>Ey (λD=>?a) (λD=>?b)) ?t;case a=>
    have m:(0:Int)<((ns.map V.int).length:Int):=Φ0 D;obtain⟨c,z⟩:=F8 m;refine⟨_,rfl,p,_,_,_,rfl,rfl,dZ.of g.ob,OJ,_,rfl,_,rfl,p,_,_,_,rfl,rfl,dZ.of g.ob,OJ,q,_,rfl,.inl ((c7.sq g)),_,_,rfl,rfl,m,q,_,_,_,rfl,rfl,(c7.sq g),z,?_⟩;exact j c
   case b=>exact j i
   case t=>
    intro c;refine⟨_,rfl,_,_,rfl,rfl,⟨by decide,by decide,by decide⟩,_,_,rfl,rfl,_,rfl,?_⟩;refine(λl=>Ey (λC=>?x) (λC=>Pj l)) ?y;case x=>
     refine⟨_,rfl,_,rfl,p,_,_,_,rfl,rfl,dZ.of g.ob,OJ,q,_,rfl,.inl ((c7.sq g)),_,_,rfl,rfl,_,rfl,?_⟩;refine Ey (λM=>?_) (λM=>l);refine⟨_,rfl,_,rfl,_,_,rfl,rfl,⟨d,o⟩,_,rfl,p,_,_,2,rfl,rfl,g.ob,rfl,?_⟩;refine⟨_,rfl,_,rfl,_,_,rfl,rfl,d,?_⟩;have B:=Φ0 C;have u:(0:Int)<=10^(Int.toNat 18):=by decide
     refine v _ _ (Wz _ '0') (VG _ d) ⟨ns,i+1,_,(by rw[bZ];exact c7.Ku G '0' (Int.ediv_nonneg (W6 u B) '0')),'0'⟩ (by rw[bZ];exact LB.upd)
    case y=>
     refine⟨_,rfl,_,_,rfl,rfl,(by show(0:Int)<2147483647;decide),_,rfl,_,_,rfl,rfl,.inl ⟨by decide,by decide⟩,_,rfl,_,_,rfl,rfl,.inr ⟨'0','0'⟩,_,_,rfl,rfl,_,_,rfl,rfl,_,_,rfl,rfl,.inr ⟨by decide,by decide⟩,_,_,rfl,rfl,(by show(0:Int)<2147483647;decide),?_⟩;refine⟨_,rfl,_,rfl,_,_,rfl,rfl,.inl ⟨'0','0'⟩,_,rfl,_,_,rfl,rfl,.inl ⟨by decide,by decide⟩,_,_,rfl,rfl,_,_,rfl,rfl,(by show(0:Int)<2147483629;decide),?_⟩;refine⟨_,rfl,_,rfl,_,_,rfl,rfl,(by show(0:Int)<65521;decide),_,_,rfl,rfl,_,_,rfl,rfl,.inl ⟨'0','0'⟩,_,_,rfl,rfl,(by show(0:Int)<2147483587;decide),_,_,rfl,rfl,⟨by decide,by decide⟩,_,rfl,_,_,rfl,rfl,d,?_⟩;exact v _ _ (Wz _ '0') (VG _ d) ⟨ns,i+1,r,g,'0'⟩ LB.upd
noncomputable def yh:List A->T D
 |[.feed,.d (.int n)]=>.draw n λi=>.ok (.int i)|_=>.stuck
def lu{R}{l:List d}{y}{e:List c}(h:Paired R l (y::e)):∃x xs,l=x::xs/\R x y/\Paired R xs e:=by cases h with|cons a b=>exact⟨_,_,rfl,a,b⟩
def vY{R}{l:List b}(h:Paired R l ([]:List a)):l=[]:=by cases h;rfl
def CK(F:AF K "_law_draw" "_law_draw" ur f fd)(c:mg "len"=RP)(I:mg "_law_draw"=RM (.ref f))(V:Binds K fd ["_law_feed_here","_law_many"] []):LA P w K mg base "_law_draw" 2 yh:=by
 refine⟨⟨["_law_feed_here","_law_many"],rfl,f,fd,(F9 F c).any.imp λW H Q E z=>?_,I,F.kp,V⟩,λas h=>?_⟩
 .obtain⟨p,k,as,hp,C,h,z⟩:=z;rcases as with _|⟨a1,_|⟨T,_|⟨a3,r⟩⟩⟩;.exact Ξ1 h '2'
  .exact Ξ1 h '2'
  rotate_left;.exact Ξ1 h '2'
  cases a1 with
  |d y=>exact Uk z|feed=>cases T with
  |feed=>exact Uk z|d y=>cases y with
  |int n=>
   obtain⟨v1,x,rfl,G,l⟩:=lu C;obtain⟨X,v,rfl,j,D⟩:=lu l;obtain rfl:=vY D;obtain⟨rfl,q,t⟩:=G;have j:Is ⟨K,p,P,w⟩ H _ (.int n):=j;subst j;obtain⟨⟨s,m⟩,hk,z⟩:=z;refine⟨p,q,n,k,rfl,t,'0',s,m,λi U L J u S=>?_⟩;refine z (k+1) '0' '0' i ⟨L,J⟩ (.int i) U ⟨λb o hb e=>by rw[S b hb];exact e,λ_=>?_,'0',λB O=>?_⟩ (by simp only[Is])
   .obtain⟨ns,Z,Y,g,_⟩:=u;exactλe=>by rw[g.ob]at e;cases e
   .have:B=q:=by
     obtain⟨_,_,_,N,_⟩:=O;obtain⟨_,_,_,M,_⟩:=t;have R:=N.ob;have a:=M.ob;rw[R]at a;injection a with a;injection a with a;injection a with a _;injection a
    rw[this];exact u|_=>exact Uk z
 .match as with
  |[]=>rfl|[_]=>cases‹A›<;>rfl|[_,_]=>exact Ξ1 rfl h|.d _::_::_::_=>rfl|.feed::.feed::_::_=>rfl|.feed::.d y::_::_=>cases y<;>rfl
end
end K26d
end
section
namespace L2
open PySem PySem.Spec PyProof.Rows
noncomputable def Kv(fd:Ua):Option (List UL):=match fd.body,fd.closure,fd.defaults with
 |.stmts b,[],.none=>if Vu fd.globals Ti&&Vu fd.builtins YN then RM b else RP|_,_,_=>RP
set_option tactic.hygienic true in
def CL(h:Kv fd=RM b):fd=YT fd.name fd.qualname fd.params b fd.scope .none fd.kwdefaults fd.doc fd.pyModule fd.annotations fd.code fd.closureTuple:=by
 obtain⟨a1,v,u,t,s,r,q,p,o,n,m,l,k,j,i⟩:=fd;unfold Kv at h;split at h
 .rename_i e d c;dsimp only at e d c h;split at h
  .rename_i a;rw[R4]at a;cases h;subst e d c;have g:=TN a.1;have f:=TN a.2;subst g f;rfl
  .cases h
 .cases h
noncomputable def CM(fd:Ua)(b:List UL):UL:=.FunctionDef fd.name fd.params b [] RP [] fd.scope RP fd.name ⟨0,0,0,0⟩
def CN{K}(l:K.lookup f=RM ⟨d,c,.func fd,a⟩)(h:Kv fd=RM b)(e:UG K fd.code fd.qualname=RQ):AF K fd.name fd.qualname (CM fd b) f fd:=by
 refine⟨⟨d,c,_,_,_,_,_,_,a,CL h,l,e⟩,?_⟩;unfold V2;dsimp only;rw[l]
noncomputable def CO:List Sy->List Sy->Bool
 |[],[]=>RQ|x::b,y::a=>sEq x y&&CO b a|_,_=>RT
theorem rO:∀{xs a:List Sy},CO xs a=RQ->xs=a
 |[],[],_=>rfl|[],_::_,h=>by cases h|_::_,[],h=>by cases h|x::xs,y::a,h=>by
  simp only[CO,R4]at h;rw[bO h.1,rO h.2]
noncomputable def NO:ScopeKind->Bool
 |.function=>RQ|_=>RT
noncomputable def OK(N ps:List Sy)(sc:UM):Bool:=NO sc.kind&&!sc.isCoroutine&&!sc.isGenerator&&Lz N&&CO (N.take ps.length) ps&&(ps.all λx=>match uk x sc.names with|some .local=>RQ|some .cell=>RQ|_=>RT)&&sc.names.all λy=>match y.2 with|.free=>RT|_=>RQ
set_option tactic.hygienic true in
def CP(h:OK N ps sc=RQ):dC N ps sc:=by
 simp only[OK,R4,TK,Tj]at h;obtain⟨⟨⟨⟨⟨⟨a,k⟩,j⟩,i⟩,g⟩,f⟩,d⟩:=h;refine⟨?_,k,j,hZ i,rO g,λx c=>?_,λy b z=>?_⟩;.cases e:sc.kind<;>rw[e]at a<;>first|rfl|cases a
 .have:=f x c;rw[nS]at this;split at this;.rename_i e;exact .inl e
  .rename_i e;exact .inr e
  .cases this
 .have:=d y b;rw[z]at this;cases this
noncomputable def uv(p:Yw)(ps:List Sy):Bool:=p.posonlyargs.isEmpty&&CO (p.args.map (·.arg)) ps&&p.vararg.isNone&&p.kwonlyargs.isEmpty&&p.kwarg.isNone&&Lz ps
theorem nW:∀{ps:List Sy}{us:List RR},ps.Nodup->us.length=ps.length->(ps.filterMap λn=>((ps.zip us).lookup n).map (n,·))=ps.zip us
 |[],[],_,_=>rfl|[],_::_,_,h=>by simp at h|_::_,[],_,h=>by simp at h|p::ps,u::us,nd,h=>by
  obtain⟨n1,n2⟩:=Φ3.mp nd;have d:=nW n2 (us:=us) (by simpa using h);rw[Uy,TQ];simp only[List.lookup_cons_self,U7];congr 1;refine aaK ?_ d;have a:∀(l:List Sy),(∀n∈l,n≠p)->l.filterMap (λn=>(((p,u)::ps.zip us).lookup n).map (n,·))=l.filterMap λn=>((ps.zip us).lookup n).map (n,·):=by
   intro l;induction l with
   |nil=>intro _;rfl|cons n l b=>
    intro c;have e:((p,u)::ps.zip us).lookup n=(ps.zip us).lookup n:=by
     rw[Th];have:(n==p)=RT:=by
      rw[Ξ];exact c n RX
     rw[this]
    rw[TQ,TQ,e,b λm g=>c m (RZ _ g)]
  exact a ps λn f e=>n1 (e▸f)
theorem lookup_some:∀{ps:List Sy}{us:List RR}{n:Sy},us.length=ps.length->n∈ps->((ps.zip us).lookup n).isNone=RT
 |[],_,_,_,h=>nomatch h|_::_,[],_,h,_=>by simp at h|p::ps,u::us,n,h,a=>by
  rw[Uy,Th];cases e:n==p with
  |true=>rfl|false=>
   have:n∈ps:=by
    rcases Ω2.mp a with rfl|h;.simp at e
    .exact h
   exact lookup_some (by simpa using h) this
def bind_eq(h:Kv fd=RM b)(k:uv fd.params ps=RQ)(us)(j:us.length=ps.length):aar fd ⟨us,[]⟩=pure (ps.zip us):=by
 simp only[uv,R4]at k;obtain⟨⟨⟨⟨⟨i,g⟩,f⟩,d⟩,c⟩,q⟩:=k;have e:=CL h;have hd:fd.defaults=.none:=by rw[e]
 obtain⟨⟨x,w,v,u,t,s,r⟩,a⟩:∃p:Yw,fd.params=p:=⟨_,rfl⟩;rw[a]at i g f d c;dsimp only at i g f d c;have i:=List.isEmpty_iff.mp i;have f:=Option.isNone_iff_eq_none.mp f;have d:=List.isEmpty_iff.mp d;have c:=Option.isNone_iff_eq_none.mp c;have g:=rO g;subst i f d c;have nd:=hZ q;unfold aar;rw[a,hd];dsimp only;rw[g];simp only[VD,List.nil_append,TF];have l:seqItems? SG=pure RP:=rfl;have o:((ps.take ps.length).filter λn=>((ps.zip us).lookup n).isNone)=[]:=by
  rw[List.take_length];refine List.filter_eq_nil_iff.mpr λn m=>?_;rw[lookup_some j m];exact Tw
 rw[WT,pure_bind,l,pure_bind];simp only[Wb,Td,Nat.sub_zero,List.drop_nil,o];rw[Ξ3 (by rw[j];simp)];simp only[Vz,Tv,Sg,if_false,aac,WT,pure_bind];rw[nW nd j]
def CQ{K}(h:Kv fd=RM b)(a:uv fd.params ps=RQ):Binds K fd ps []:=.all (bind_eq h a)
noncomputable def Qh(K:R0)(g:fg)(x:Sy)(N ps:List Sy)(d:Df):Bool:=match UI K Ti x with
 |some (RM (.ref f))=>(match K.lookup f with
  |some ⟨_,_,.func fd,_⟩=>(match Kv fd with
   |some b=>UG K fd.code fd.qualname&&OK N ps fd.scope&&uv fd.params ps&&Vu ps.length d.np&&Vu N.length d.nn&&(HB g ⟨N,fd.scope,RQ,[]⟩ d.body b).ok|none=>RT)|_=>RT)|_=>RT
set_option tactic.hygienic true in
def Kw{K:R0}(X:K.In h)(G:h.Ns Ti mg)(q:Qh K g x N ps d=RQ):Kq P K mg g x d:=by
 unfold Qh at q;split at q
 .rename_i f e;split at q
  .rename_i p o fd n lk;split at q
   .rename_i b a;simp only[R4]at q;obtain⟨⟨⟨⟨⟨m,l⟩,k⟩,j⟩,i⟩,c⟩:=q;exact⟨fd.name,fd.qualname,CM fd b,f,fd,N,ps,CN lk a m,CP l,CQ a k,VX X G e,TN j,TN i,Ch.of c⟩
   .cases q
  .cases q
 .cases q
structure En where
 x:Sy
 N:List Sy
 ps:List Sy
 k:Dk
noncomputable def Kx(K:R0)(g:fg)(a:List En):Bool:=a.all λe=>match e.k with
 |.df d=>Qh K g e.x e.N e.ps d|.wit _=>RQ
def F_{K:R0}(X:K.In h)(G:h.Ns Ti mg)(q:Kx K g b=RQ)(m:g.dn=b.map (·.x))(hw:∀e∈b,∀t,e.k=.wit t->∃np,LA P w K mg base e.x np t):∀(f:Nat)(x:Sy),g.dn[f]?=RM x->(∃d,(b.map (·.k))[f]?=RM (Dk.df d)/\Kq P K mg g x d)\/(∃t np,(b.map (·.k))[f]?=RM (Dk.wit t)/\LA P w K mg base x np t):=λf x a=>by
 rw[m,Sn]at a;cases i:b[f]? with
 |none=>rw[i]at a;cases a|some e=>
  rw[i]at a;have a:e.x=x:=R3 a;subst a;have l:e∈b:=SE i;have j:=Ψ0.mp q e l;rw[Sn,i];cases c:e.k with
  |df d=>
   rw[c]at j;exact .inl ⟨d,by rw[U7,c],Kw X G j⟩|wit t=>
   obtain⟨np,W⟩:=hw e l t c;exact .inr ⟨t,np,by rw[U7,c],W⟩
structure Kl where
 C:RW
 sup:List RW
noncomputable def CS(cs:List Kl)(c:Nat):Option RW:=(cs[c]?).map (·.C)
noncomputable def NP(cs:List Kl)(a:RW):Bool:=cs.any λk=>Vu k.C a
noncomputable def yi(cs:List Kl)(c P:RW):Option Bool:=match cs.find? λk=>Vu k.C c with
 |some k=>if cs.any λj=>Vu j.C P then RM (k.sup.any λa=>Vu a P)else RP|none=>RP
noncomputable def CT(cs:List Kl)(c:RW)(u:RR):Option Bool:=match u with
 |.ref P=>yi cs c P|_=>RP
noncomputable def Ga(a:Option Bool)(b:Bool):Bool:=match a with
 |some c=>c==b|none=>RT
def yj(h:Ga a b=RQ):a=RM b:=by
 unfold Ga at h;split at h;.rw[Θ3.mp h]
 .cases h
noncomputable def CU(K:R0)(x:Sy)(a:RW):Bool:=match UI K Ti x with
 |some (RM (.ref b))=>Vu a b|_=>RT
set_option tactic.hygienic true in
def CV{K:R0}(h:CU K x a=RQ):UI K Ti x=RM (RM (.ref a)):=by
 unfold CU at h;split at h;.rename_i b e;rw[e,TN h]
 .cases h
noncomputable def CW(K:R0)(cn:List Sy)(cs:List Kl):Bool:=((cn.zip cs).all λe=>CU K e.1 e.2.C)&&cs.all λk=>D4 K k.C&&vF K k.C&&cs.all λj=>Ga (i7 K k.C j.C) (k.sup.any λa=>Vu a j.C)&&Ga (TZ K (.ref k.C) (.ref j.C)) (k.sup.any λa=>Vu a j.C)
section
variable{K:R0}{cn:List Sy}{cs:List Kl}
def nX(q:CW K cn cs=RQ):(∀(c)(x)(C),cn[c]?=RM x->CS cs c=RM C->UI K Ti x=RM (RM (.ref C)))/\∀k∈cs,D4 K k.C=RQ/\vF K k.C=RQ/\∀j∈cs,i7 K k.C j.C=RM (k.sup.any λa=>Vu a j.C)/\TZ K (.ref k.C) (.ref j.C)=RM (k.sup.any λa=>Vu a j.C):=by
 simp only[CW,R4,Tj]at q;obtain⟨h,g⟩:=q;refine⟨λc x C l b=>?_,λk d=>?_⟩
 .unfold CS at b;cases d:cs[c]? with
  |none=>rw[d]at b;cases b|some k=>
   rw[d]at b;have b:=R3 b;subst b;exact CV (h (x,k) (SE (by rw[Wh];exact⟨l,d⟩)))
 .obtain⟨⟨a1,m⟩,f⟩:=g k d;exact⟨a1,m,λj e=>⟨yj (f j e).1,yj (f j e).2⟩⟩
set_option tactic.hygienic true in
def CY(h:yi cs c P=RM r):∃k∈cs,∃j∈cs,k.C=c/\j.C=P/\r=k.sup.any λa=>Vu a P:=by
 unfold yi at h;split at h
 .rename_i k e;split at h
  .rename_i f;obtain⟨j,b,d⟩:=List.any_eq_true.mp f;exact⟨k,X_ e,j,b,TN (List.find?_some (p:=λk:Kl=>Vu k.C c) e),TN d,(R3 h).symm⟩
  .cases h
 .cases h
end
noncomputable abbrev QD(K:R0)(u:RR)(d:D):Prop:=∀P w,∃v,RelV v u/\∀(p:RW)(H:Hp),H p≠RP->K.lookup p=RP->Is ⟨K,p,P,w⟩ H v d
noncomputable abbrev OL(K:R0)(us:List RR)(ds:List D):Prop:=∀P w,∃a,ax a us/\∀(p:RW)(H:Hp),H p≠RP->K.lookup p=RP->ag ⟨K,p,P,w⟩ H a ds
def NQ{K}{T}(lk:K.lookup a=RM ⟨.type T,k,.seq b n,e⟩)(g:T="tuple")(f:b.size<=R1)(h:OL K b.toList ds):QD K (.ref a) (.tup ds):=λP w=>by
 subst g;obtain⟨d,r,i⟩:=h P w;refine⟨.ref a,rfl,λp H j c=>?_⟩;refine⟨a,d,rfl,⟨λz=>?_,.inr ⟨_,b,n,lk,rfl,rfl,f,r⟩⟩,i p H j c⟩;rw[z,c]at lk;cases lk
def Ky{K}(h:QD K u d)(hs:OL K us ds):OL K (u::us) (d::ds):=λP w=>by
 obtain⟨v,r,i⟩:=h P w;obtain⟨c,e,is⟩:=hs P w;exact⟨v::c,.cons r e,λp H a b=>.cons (i p H a b) (is p H a b)⟩
mutual
noncomputable def QX(K:R0):(d:D)->(u:RR)->Ch (QD K u d)
 |.br,u=>match u with
  |.none=>.y λP w=>⟨.br,rfl,λp H _ _=>by simp only[Is]⟩|_=>.n
 |.bl b,u=>match u with
  |.bool c=>(cd (c=b)).b λq=>.y (by subst q;exactλP w=>⟨.bl _,rfl,λp H _ _=>by simp only[Is]⟩)|_=>.n
 |.int i,u=>match u with
  |.int j _=>(cd (j=i)).b λq=>.y (by subst q;exactλP w=>⟨.int _,⟨_,rfl⟩,λp H _ _=>by simp only[Is]⟩)|_=>.n
 |.str x,u=>match u with
  |.str y _=>(cb (sEq x y)).b λq=>.y (by rw[bO q];exactλP w=>⟨.str _,⟨_,rfl⟩,λp H _ _=>by simp only[Is]⟩)|_=>.n
 |.tup k,u=>match u with
  |.ref a=>match lk:K.lookup a with
   |some ⟨.type _,_,.seq e _,_⟩=>(cd (_="tuple")).b λg=>(cd (e.size<=R1)).b λf=>(NR K k e.toList).b λh=>.y (NQ lk g f h)|_=>.n
  |_=>.n
 |_,_=>.n
noncomputable def NR(K:R0):(ds:List D)->(us:List RR)->Ch (OL K us ds)
 |[],us=>match us with
  |[]=>.y λP w=>⟨[],.nil,λp H _ _=>.nil⟩|_=>.n
 |d::ds,us=>match us with
  |u::us=>(QX K d u).b λh=>(NR K ds us).b λa=>.y (Ky h a)|_=>.n
end
noncomputable def QY(K:R0)(x:Sy)(d:D):Bool:=match UI K Ti x with
 |some (RM u)=>(QX K d u).ok|_=>RT
noncomputable def Kz(K:R0)(gn:List Sy)(ds:List (Option D)):Bool:=(gn.zip ds).all λe=>match e.2 with
 |some d=>QY K e.1 d|none=>RQ
set_option tactic.hygienic true in
def Gb{K:R0}(q:Kz K gn ds=RQ){i:Nat}(a:gn[i]?=RM x)(hd:ds[i]?=RM (RM d)):∃u,UI K Ti x=RM (RM u)/\QD K u d:=by
 have b:(x,RM d)∈gn.zip ds:=SE (i:=i) (by rw[Wh];exact⟨a,hd⟩);have:=Ψ0.mp q _ b;dsimp only at this;unfold QY at this;split at this;.rename_i u e;exact⟨u,e,Ch.of this⟩
 .cases this
noncomputable def QZ(K:R0)(gn:List Sy)(ds:List (Option D)):Bool:=(gn.zip ds).all λe=>match e.2 with
 |some (.tup _)=>(match UI K Ti e.1 with
  |some (RM (.ref a))=>(match K.lookup a with
   |some ⟨.type T,RP,_,_⟩=>decide (T="tuple")|_=>RT)|_=>RT)|_=>RQ
noncomputable def Qi(ds:List (Option D))(i:Nat):Option D:=(ds[i]?).join
noncomputable def NS(ds:List (Option D))(cs:List Kl):Gv:=⟨Qi ds,CS cs,NP cs,yi cs,CT cs⟩
noncomputable def Q3(K:R0):Bool:=d9.all λx=>match UI K Ti x with
 |some RP=>RQ|_=>RT
set_option tactic.hygienic true in
def KC{K:R0}{gn cn:List Sy}(X:K.In h)(G:h.Ns Ti mg)(xQ:dn=m.map (·.x))(z:Kx K ⟨dn,gn,cn⟩ m=RQ)(y:Kz K gn ds=RQ)(s:QZ K gn ds=RQ)(l:CW K cn cs=RQ)(q:Q3 K=RQ)(hw:∀e∈m,∀t,e.k=.wit t->∃np,LA P w K mg base e.x np t):lr P w K mg base ⟨dn,gn,cn⟩ (m.map (·.k)) (NS ds cs)where
 bl:=λx f=>by
  have:=Ψ0.mp q x f;split at this;.rename_i e;exact aal X G e
  .cases this
 df:=F_ X G z xQ hw;cl:=λc x C f o=>VX X G ((nX l).1 c x C f o);Hy:=λC o=>by
  obtain⟨k,g,e⟩:=List.any_eq_true.mp (show(cs.any λk=>Vu k.C C)=RQ from o);have e:=TN e;subst e;exact((nX l).2 k g).2.1
 sb:=λc P r h=>by
  obtain⟨k,g,j,n,rfl,rfl,rfl⟩:=CY h;exact(((nX l).2 k g).2.2 j n).1
 zE:=λc u r p=>by
  have h:CT cs c u=RM r:=p;clear p;unfold CT at h;split at h
  .obtain⟨k,g,j,n,rfl,rfl,rfl⟩:=CY h;exact⟨((nX l).2 k g).1,(((nX l).2 k g).2.2 j n).2⟩
  .cases h
 co:=λi x d f hd=>by
  obtain⟨u,e,b⟩:=Gb y f (Option.join_eq_some_iff.mp hd);obtain⟨v,r,is⟩:=b P w;exact⟨u,v,VX X G e,r,is⟩
 ct:=λi x d f hd A=>by
  have B:(x,RM d)∈gn.zip ds:=SE (i:=i) (by rw[Wh];exact⟨f,Option.join_eq_some_iff.mp hd⟩);have:=Ψ0.mp s _ B;cases d<;>first|cases A|skip
  dsimp only at this;split at this
  .rename_i a e;split at this
   .rename_i T dt E lk;have:=Φ0 this;subst this;exact⟨a,_,VX X G e,lk,rfl,rfl⟩
   .cases this
  .cases this
noncomputable def vZ(K:R0):Sp:=λc H Q _=>∃(a:RW)(ns:List Int),c=[.ref a]/\dZ K H a (ns.map V.int)/\ns.length<=63/\∀(p q:RW)(b:Hp),mT b p q 0->vf H b->H p=RP->Q (.ref p) b
def NU{ns:List Int}(h:ns.length<=63):y4 (ns.map V.int) RP (RM 63)=ns.map V.int:=by
 unfold y4;have e:HT.sv (ns.map V.int).length (ns.map V.int).length (RM 63)=ns.length:=by
  have:=HT.El (ns.map V.int).length (ns.map V.int).length 63;rw[show((63:Nat):Int)=63 from rfl]at this;rw[this,RV];omega
 rw[e,HT.Az,List.drop_zero,Nat.sub_zero,VF '2']
section
variable{K:R0}
def Gc{st}{p1 L J I G D C B z n}(F:AF K x d st f fd)(S:dC ["_law_script"] ["_law_script"] (au st))(c:mg "list"=RP)(hb:c6 st=[.Return (RM (.List [.Call (.Name "list" p1) [.Subscript (.Name "_law_script" L) (.Slice RP (RM (.Constant (.int 63) k1 J)) RP I) G] [] D,.Constant (.int 0) k2 C,.Constant (.int 0) k3 B] z)) n])(R:(au st).names.lookup (RN "list")=RM NameKind.globalImplicit):ek P w K mg base y9 1 f fd ["_law_script"] (vZ K):=by
 refine F.ok S (λy H Q E h=>?_) (λU A outer s H y Q E W h=>?_)
 .obtain⟨a,ns,rfl,_⟩:=h;rfl
 .obtain⟨a,ns,rfl,T,v,M⟩:=h;have N:wG (au st) "_law_script":=by
   rcases S.par _ RX with e|e;.exact .inl e
   .exact .inr (.inl e)
  rw[hb];refine⟨_,jw (mw (u9 (bz (A_ (pB qI R c PyProof.Rows.boot_list (bz (AA Er (fj (i:=0) rfl N) Eo (Ep aI)) dQ))) (bz aI (bz aI dQ))))),?_⟩;refine⟨_,rfl,63,rfl,a,_,rfl,T,λg r=>?_⟩;rw[NU v];refine⟨g,_,rfl,.inl (dZ.of aq),λq O=>⟨q,_,rfl,aq,λo=>?_⟩⟩;refine⟨by show 3<=R1;decide,λp k=>?_⟩;rw[bZ]at k⊢;have m:vf H (upd H g (.lst (ns.map V.int))):=λb o e=>by rw[ar (aH e r)];exact e
  have l:vf (upd H g (.lst (ns.map V.int))) (upd (upd H g (.lst (ns.map V.int))) q (.cz o (.lst (ns.map V.int)))):=λb o e=>by rw[ar (aH e O)];exact e
  have j:=aH (aq) k;have t:H p=RP:=by cases e:H p with
   |none=>rfl|some u=>rw[l p u (m p u e)]at k;cases k
  refine M p q _ ⟨ns,0,0,⟨aq,⟨o,by rw[ar j];exact aq⟩,j,Xv _,Xv _,v⟩,Xv _⟩ (λb o e=>?_) t;rw[ar (aH (l b o (m b o e)) k)];exact l b o (m b o e)
end
inductive T.o_{α:Type}:Nat->(α->Prop)->T α->Prop where|ok{m:Nat}{P:α->Prop}{a:α}(h:P a):T.o_ m P (.ok a)|draw{m:Nat}{P:α->Prop}{n:Int}{k:Int->T α}(h1:0<n)(h2:n<1073741824)(h3:∀i,0<=i->i<n->T.o_ m P (k i)):T.o_ (m+1) P (.draw n k)|perm{m:Nat}{P:α->Prop}{l:List D}{k:List D->T α}(h:∀l',l'.Perm l->T.o_ m P (k l')):T.o_ m P (.perm l k)
def T.CZ{P}{t:T e}(h:t.o_ m P):∀k,k+m<=1000000->t.aE.run k (λa _=>P a) E:=by induction h with
 |ok h=>intro k _;exact h|draw l j n d=>
  intro k f;exact⟨⟨l,j⟩,'0',λg a b i c=>d i c.1 c.2 g '0'⟩|perm h d=>
  intro k f;exactλi c=>d i c k f
noncomputable def C3(K:R0):Sp:=λb H Q _=>∃(a:RW)(ns:List Int),b=[.ref a]/\dZ K H a (ns.map V.int)/\ns.length<=63/\∀c,Q (.bl RQ) c
section
variable{K:R0}
def KD{st}(T:lr P w K mg base g defs b)(F:AF K x c st f fd)(S:dC N ["_law_script"] (au st))(feed:∃f fd,ek P w K mg base y9 1 f fd ["_law_script"] (vZ K)/\mg "_law_feed"=RM (.ref f)/\V2 K (.ref f)=RQ/\Binds K fd ["_law_script"] [])(hb:c6 st=.Assign [.Name xn p1] (.Call (.Name "_law_feed" p2) [.Name Y p3] [] p4) p5::rest)(q1:f_ ⟨N,au st,RQ,[]⟩ 1 xn=RQ)(q2:fJ ⟨N,au st,RQ,[]⟩ 0 Y=RQ)(q3:cM ⟨N,au st,RQ,[]⟩ "_law_feed"=RQ)(q4:CI g ⟨N,au st,RQ,[]⟩ r rest)(hm:m<=1000000)(ev:(av (b.ev (ai defs b (n+1))) r (RP::RM .feed::Tu (N.length-2) RP)).o_ m (λfl=>fl=.rt (.bl RQ))):ek P w K mg base y9 (n+2) f fd ["_law_script"] (C3 K):=by
 obtain⟨oc,od,kV,a6,pm,an,C,ct,a0,rfl,lk,A⟩:=F.ex;refine Aw lk A S (λvs H Q E h=>?_) λA' outer s H vs Q E y h=>?_
 .obtain⟨a,ns,rfl,_⟩:=h;rfl
 .obtain⟨a,ns,rfl,hS,hn,hQ⟩:=h;have J:∀(p)(k),XC g (b.ev (ai defs b (n+1))) ⟨N,au st,RQ,[]⟩ (lF y9 P w K mg base N c (au st) f C A' outer s H E) ⟨⟨K,p,P,w⟩,k,0,λ_ _=>False,k,0⟩:=λp k=>⟨rfl,rfl,rfl,rfl,S.nd,rfl,rfl,y.units,λ_ _=>rfl,'3',mark_none y.hd,T.bl,λf' x' O=>by
    obtain⟨np,l,B⟩:=lr.all T (n+1) f' x' O;exact⟨np,n+1,y,l,B⟩,Ad.never λ_ _ z=>z,λ_=>⟨rfl,rfl⟩,T.cl,T.Hy,y.gd,T.sb,T.zE,λi x d hx hd=>let⟨u,v,l,B,X⟩:=T.co i x d hx hd;⟨u,v,l,B,λH hH hp=>X p H hH hp⟩,T.ct,λ_=>⟨_,A⟩⟩;obtain⟨l,B,X⟩:=(J 0 H).loc q1;obtain⟨v1,v2,v3,v4⟩:=(J 0 H).F4 q2;obtain⟨g1,g2,g3⟩:=(J 0 H).gl q3;obtain⟨ff,a5,FF,R,U,V⟩:=feed;rw[hb];have rs:su (lF y9 P w K mg base N c (au st) f C A' outer s H E) rest (λZ L o=>∃p k,Pn ⟨⟨K,p,P,w⟩,k,0,λ_ _=>False,k,0⟩ (λρ=>(av (b.ev (ai defs b (n+1))) r ρ).aE) Z L o):=λt s L o D I⟨p,k,z⟩=>(q4 _ _ _ aaJ (J p k)).ps t s L o D I z;refine⟨_,bG (dP S.nd l B (Ej (FF.mono '0') y g1 R U V .nil Mb (bz (fj v1 v2 v3 v4) dQ) g2) rfl X) rs,?_⟩;refine⟨_,rfl,a,ns,rfl,hS,hn,λp q o fq sm hp=>?_⟩;have lv:o p≠RP:=by obtain⟨_,_,_,G,_⟩:=fq;rw[G.ob];intro z;cases z
  refine⟨p,o,RP::RM .feed::Tu (N.length-2) RP,0,?_,?_⟩
  .have a4:2<=N.length:=by have:=(Ω0.mp l).1;exact this
   have only:∀(i)(d),(RP::RM W.feed::Tu (N.length-2) RP)[i]?=RM (RM d)->i=1/\d=.feed:=λi d e=>by match i,e with
    |0,e=>cases e|1,e=>exact⟨rfl,by cases e;rfl⟩|i+2,e=>
     simp only[U6]at e;have:=SE e;rw[List.mem_replicate]at this;cases this.2
   refine⟨?_,λi d e=>?_,λi j d e v a3 a1 a2 o1 o2=>?_,lv,.refl,.refl⟩
   .simp only[start,Ss,US,Za,SR,RV,Td];omega
   .obtain⟨rfl,rfl⟩:=only i d e;refine⟨.ref p,?_,rfl,q,fq⟩;rw[WK];simp only[start,Ss,US,SR,RV,Td];omega
   .obtain⟨_,rfl⟩:=only i d a1;cases o1
  .refine M.wk (L2.T.CZ ev 0 '0') λfl k' e=>?_;subst e;intro v H2 e1 i;subst i;exact hQ H2
end
noncomputable def zV(K:R0)(x:Sy):Option (RW×Ua×List UL):=match UI K Ti x with
 |some (RM (.ref f))=>(match K.lookup f with
  |some ⟨_,_,.func fd,_⟩=>(match Kv fd with
   |some b=>if UG K fd.code fd.qualname then RM (f,fd,b)else RP|none=>RP)|_=>RP)|_=>RP
noncomputable def jZ(t:RW×Ua×List UL):Sy×Sy×Yw×List UL×UM:=(t.2.1.name,t.2.1.qualname,t.2.1.params,t.2.2,t.2.1.scope)
set_option tactic.hygienic true in
def nY{K:R0}{st:UL}(h:(zV K x).map jZ=RM (y,q,d5 st,c6 st,au st))(p:uv (d5 st) ps=RQ):∃f fd,AF K y q st f fd/\UI K Ti x=RM (RM (.ref f))/\∀us:List RR,us.length=ps.length->aar fd ⟨us,[]⟩=pure (ps.zip us):=by cases e:zV K x with
 |none=>rw[e]at h;cases h|some t=>
  obtain⟨f,fd,b⟩:=t;rw[e]at h;simp only[U7,jZ,UH,VU]at h;obtain⟨v,k,j,u,s⟩:=h;unfold zV at e;split at e
  .rename_i B en;split at e
   .rename_i i g w a lk;split at e
    .rename_i C l;split at e
     .rename_i r;cases e;have F:=CN lk l r;refine⟨f,fd,⟨?_,F.kp⟩,en,?_⟩
      .obtain⟨i,g,kV,c,o,A,d,ct,a,n,z,m⟩:=F.ex;rw[v,k,show d5 (CM fd b)=d5 st from j,show c6 (CM fd b)=c6 st from u,show au (CM fd b)=au st from s]at n;rw[k]at m;exact⟨i,g,kV,c,o,A,d,ct,a,n,z,m⟩
      .exact bind_eq l (by rw[j];exact p)
     .cases e
    .cases e
   .cases e
  .cases e
end L2
end
section
namespace K26
open PySem L2 K26d
noncomputable def eQ:Ex:=(.call 1 (↑0∘.cst (.int 0)∘.lj 0∘.nil))
noncomputable def nZ:bq:=((.fz 2 (.ret (.bi .tuple (.bi .sorted (↑2∘.nil)∘.nil))))∘.nil)
noncomputable def jd:Ex:=(.oK 3 (.sy ↑3))
noncomputable def cO:bq:=((.iff (.oK 2 (.aK .NotIn ↑6 ↑2)) (.add 2 ↑6∘.app 3 ↑6∘.nil) .nil)∘.nil)
noncomputable def eR:bq:=((.iff (.aK .In ↑4 ↑5) (.dU (.nm 6) (.aB ↑5) cO∘.nil) .nil)∘.nil)
noncomputable def je:bq:=(.pop 4 3∘.dU (.nm 5) (.aB ↑0) eR∘.nil)
noncomputable def cX:bq:=((.iff (.aK .NotIn ↑2 (.lj 1)) ((.raise 3 (.cst (.str "an axis is x or y")∘.nil))∘.nil) .nil)∘.nil)
noncomputable def dW:Ex:=(.d8 (.aK .Eq (.idx (.idx ↑2 ↑0) ↑3) (.idx (.idx ↑2 ↑1) ↑3)))
noncomputable def dX:Ex:=(.tup (↑0∘↑1∘.nil))
noncomputable def gu:bq:=(.set 3 (.M0 1 (↑1∘.nil))∘.ret (.lc ["a","b"] [2,3] (.tup 2 (.nm 0∘.nm 1∘.nil)) (.aB (.idx ↑0 (.cst (.int 1)))) dW dX)∘.nil)
noncomputable def C4:bq:=((.ret (.call 7 (.call 9 (↑0∘↑2∘.nil)∘↑1∘.nil)))∘.nil)
noncomputable def ly:Ex:=↑1
noncomputable def lz:Ex:=↑0
noncomputable def lA:bq:=(.set 4 (.lc ["x","y"] [] (.tup 2 (.nm 0∘.nm 1∘.nil)) (.aB ↑3) .yes lz)∘.set 5 (.lc ["x","y"] [] (.tup 2 (.nm 0∘.nm 1∘.nil)) (.aB ↑3) .yes ly)∘(.ret (.tup ((.tup (.bi .low (↑4∘.nil)∘.bi .low (↑5∘.nil)∘.nil))∘(.tup (.bi .top (↑4∘.nil)∘.bi .top (↑5∘.nil)∘.nil))∘.nil)))∘.nil)
noncomputable def dN:Ex:=(.call 11 (↑0∘↑1∘↑2∘.nil))
noncomputable def kH:Ex:=(.idx ↑1 ↑0)
noncomputable def kJ:Ex:=(.call 12 (.lc ["c"] [3] (.nm 0) (.aB ↑0) .yes kH∘↑1∘↑2∘.nil))
noncomputable def qh:bq:=(.ret (.lc ["numbers"] [2,3,4] (.nm 0) (.aB ↑5) .yes kJ)∘.nil)
noncomputable def dy:Ex:=(.call 10 (↑1∘↑0∘↑2∘.nil))
noncomputable def qi:bq:=(.set 5 (.Ck ["c"] [0,2] (.nm 0) (.aB ↑1) .yes dy)∘qh)
noncomputable def fy:Ex:=(.d8 (.aK .NotIn ↑0 ↑2))
noncomputable def fA:Ex:=(.tup (.idx ↑3 ↑0∘.idx ↑3 ↑1∘.nil))
noncomputable def iI:Ex:=(.d8 (.aK .NotIn ↑0 ↑1))
noncomputable def iJ:Ex:=(.tup (.idx ↑2 ↑0∘.idx ↑2 ↑0∘.nil))
noncomputable def iK:bq:=(.set 4 (.lc ["c"] [1,3] (.nm 0) (.aB ↑3) iI iJ)∘.ret (.op .Add ↑4 (.lc ["a","b"] [1,3] (.tup 2 (.nm 0∘.nm 1∘.nil)) (.aB (.call 9 (↑0∘↑2∘.nil))) fy fA))∘.nil)
noncomputable def j3:Ex:=(.tup (↑0∘.idx (.idx ↑1 ↑0) (.cst (.int 0))∘.idx (.idx ↑1 ↑0) (.cst (.int 1))∘.nil))
noncomputable def uw:bq:=((.ret (.tup ((.bi .tuple (.lc ["c"] [5] (.nm 0) (.aB ↑5) .yes j3∘.nil))∘.idx ↑0 (.cst (.int 1))∘.nil)))∘.nil)
noncomputable def j4:Ex:=(.cmp .IsNot (.call 4 (↑1∘↑0∘.nil)) (.cst (.br)))
noncomputable def c9:bq:=((.iff (.sy (.bi .any (.lc ["thing"] [7] (.nm 0) (.aB ↑6) .yes j4∘.nil))) ((.raise 4 (.cst (.str "something stands in the way")∘.nil))∘.nil) .nil)∘.nil)
noncomputable def ux:bq:=(.dU (.nm 7) (.aB (.call 13 (↑0∘↑1∘↑2∘↑3∘.nil))) c9∘uw)
noncomputable def uy:bq:=(.set 6 (.call 14 (↑0∘↑1∘↑2∘.nil))∘ux)
noncomputable def j5:Ex:=(.call 3 (.idx ↑1 ↑0∘.nil))
noncomputable def uz:bq:=((.iff (.rD (.sy (.bi .all (.lc ["c"] [5] (.nm 0) (.aB ↑5) .yes j5∘.nil)))) ((.raise 4 (.cst (.str "a corner would come to no spot")∘.nil))∘.nil) .nil)∘uy)
noncomputable def uA:bq:=((.set 5 (.dc ["c"] [1,2,3,4] (.nm 0) (.aB ↑4) .yes ↑0 (.Ht (.aK .In ↑0 ↑1) (.call 11 (.idx ↑4 ↑0∘↑2∘↑3∘.nil)) (.idx ↑4 ↑0))))∘uz)
noncomputable def uB:bq:=(.fz 3 (.ret ↑3)∘.nil)
noncomputable def uC:bq:=(.app 3 (.oK 3 (.op .Add (.op .Add (.idx ↑3 (.neg (.cst (.int 1)))) (.cst (.int 1))) (.call 17 (.feed 0 (↑2∘.nil)))))∘.nil)
noncomputable def uD:bq:=(.fz 3 (.ret (.bi .sorted (↑3∘.nil)))∘.nil)
noncomputable def j6:bq:=((.set 9 (.tup (.op .Add ↑5 ↑7∘.op .Sub (.op .Add ↑6 (.cst (.int 1))) ↑7∘.nil)))∘(.iff (.fI (.aK .Lt (.idx ↑9 (.cst (.int 0))) ↑1) (.d8 (.aK .Lt (.idx ↑9 (.cst (.int 1))) ↑2))) ((.put 3 (.tup (.tup (↑5∘↑6∘.nil)∘↑9∘.nil)) (.cst (.bl RQ)))∘.nil) .nil)∘.asg (.tup 2 (.nm 5∘.nm 6∘.nil)) ↑9∘.nil)
noncomputable def uE:bq:=((.par 5 6 (.call 17 (.feed 0 (↑1∘.nil))∘.call 17 (.feed 0 (↑2∘.nil))∘.nil))∘(.set 7 (.call 17 (.feed 0 (.cst (.int 2)∘.nil))))∘(.dU (.nm 8) (.jV ((.op .Add (.cst (.int 1)) (.call 17 (.feed 0 (.idx (.lst (↑2∘↑1∘.nil)) ↑7∘.nil))))∘.nil)) j6)∘.nil)
noncomputable def yk:bq:=(.fz 1 (.ret ↑1)∘.nil)
noncomputable def lW:bq:=((.put 1 (.tup (↑2∘↑3∘.nil)) (.oK 1 (.op .Add (.rE ↑1 (.tup (↑2∘↑3∘.nil)∘.lst .nil∘.nil)) (.lst ((.bi .int (.cmp .Eq ↑2 ↑4∘.nil))∘.nil)))))∘(.put 1 (.tup (↑4∘↑5∘.nil)) (.oK 1 (.op .Add (.rE ↑1 (.tup (↑4∘↑5∘.nil)∘.lst .nil∘.nil)) (.lst ((.op .Add (.cst (.int 2)) (.bi .int (.cmp .Eq ↑2 ↑4∘.nil)))∘.nil)))))∘.nil)
noncomputable def rP:bq:=(.ret ↑4∘.nil)
noncomputable def gb:Ex:=(.Cj (.aK .Eq ↑4 ↑2) (.d8 (.aK .NotIn ↑4 ↑1)))
noncomputable def gc:bq:=((.set 5 (.tup (.op .Add (.idx ↑4 (.cst (.int 0))) ↑3∘.op .Sub (.op .Add (.idx ↑4 (.cst (.int 1))) (.cst (.int 1))) ↑3∘.nil)))∘(.iff (.aK .NotIn (.tup (↑4∘↑5∘.nil)) ↑0) (.ret ↑2∘.nil) .nil)∘.set 4 ↑5∘.nil)
noncomputable def iL:bq:=(.fz 3 (.ret ↑3)∘.nil)
noncomputable def fB:bq:=((.iff (.aK .NotEq ↑6 ↑4) (.app 3 (.tup (↑4∘↑6∘.nil))∘.nil) .nil)∘.nil)
noncomputable def iM:bq:=(.set 6 (.call 22 (↑2∘↑1∘↑4∘↑5∘.nil))∘fB)
noncomputable def iN:bq:=((.dU (.nm 5) (.jV (.cst (.int 2)∘.nil)) iM)∘.nil)
noncomputable def iO:Ex:=(.tup (↑0∘.cst (.bl RQ)∘.nil))
noncomputable def C8:bq:=((.ret (.tup (.bi .tuple (↑4∘.nil)∘(.bi .tuple (.bi .sorted (↑5∘.nil)∘.nil))∘.nil)))∘.nil)
noncomputable def C9:Ex:=(.tup (.idx ↑2 ↑0∘.idx ↑2 ↑1∘.nil))
noncomputable def C_:bq:=((.set 5 (.lc ["_law_one","_law_other"] [1] (.tup 2 (.nm 0∘.nm 1∘.nil)) (.aB (.call 23 (↑0∘.bi .sorted (↑1∘.nil)∘.nil))) .yes C9))∘C8)
noncomputable def Dc:Ex:=(.tup (.idx ↑2 (.tup (↑0∘↑1∘.nil))∘.idx ↑3 ↑0∘.idx ↑4 ↑1∘.nil))
noncomputable def lB:bq:=(.fz 5 (.ret ↑5)∘.nil)
noncomputable def gS:bq:=((.iff (.Cj (.rD (.sy (.call 21 (.idx ↑2 ↑7∘.nil)))) (.d8 (.aK .Eq (.call 17 (.feed 0 (.cst (.int 5)∘.nil))) (.cst (.int 0))))) (.put 5 ↑7 (.op .Mod (.op .Add ↑3 (.op .Mult ↑4 ↑6)) (.cst (.int 1000)))∘.nil) .nil)∘.nil)
noncomputable def gU:bq:=(.i8 5∘(.dU (.tup 2 (.nm 6∘.nm 7∘.nil)) (.Co (.bi .sorted (↑2∘.nil)∘.nil)) gS)∘lB)
noncomputable def gV:bq:=((.par 3 4 ((.call 17 (.feed 0 (.cst (.int 1000)∘.nil)))∘(.idx (.lst (.cst (.int 1)∘.cst (.int 7)∘.cst (.int 333)∘.cst (.int 999)∘.cst (.int 101)∘.cst (.int 613)∘.nil)) (.call 17 (.feed 0 (.cst (.int 6)∘.nil))))∘.nil))∘(.iff (.aK .Eq (.call 17 (.feed 0 (.cst (.int 2)∘.nil))) (.cst (.int 0))) ((.asg (.tup 2 (.nm 3∘.nm 4∘.nil)) (.tup (.cst (.int 0)∘.cst (.int 1)∘.nil)))∘.nil) .nil)∘gU)
noncomputable def n0:bq:=((.fz 4 (.ret (.tup (.bi .tuple (↑4∘.nil)∘.idx ↑0 (.cst (.int 1))∘.nil))))∘.nil)
noncomputable def gf:bq:=((.set 8 (.op .Mult ↑3 (.bi .int (.cmp .In ↑5 ↑1∘.nil))))∘(.app 4 (.tup (↑5∘(.op .Add ↑6 (.op .Mult ↑8 (.bi .int (.cmp .Eq ↑2 (.cst (.str "x"))∘.nil))))∘(.op .Add ↑7 (.op .Mult ↑8 (.bi .int (.cmp .Eq ↑2 (.cst (.str "y"))∘.nil))))∘.nil)))∘.nil)
noncomputable def kK:Ex:=(.tup (↑0∘(.idx (.lst (.tup (↑1∘↑2∘.nil)∘.tup (↑2∘↑1∘.nil)∘.nil)) (.bi .int (.cmp .Eq ↑3 (.cst (.str "y"))∘.nil)))∘.nil))
noncomputable def v7:bq:=(.ret (.cst (.bl RQ))∘.nil)
noncomputable def cP:bq:=(.set 13 (.and (.cmp .Eq (.idx (.idx ↑4 ↑11) (.cst (.int 0))) (.idx (.idx ↑4 ↑12) (.cst (.int 0)))) (.and (.cmp .NotIn ↑11 ↑1) (.one (.F2 .LtE .LtE ↑6 (.idx (.idx ↑4 ↑11) (.cst (.int 0))) ↑7))))∘(.par 14 15 ((.bi .min (.idx (.idx ↑4 ↑11) (.cst (.int 1))∘.idx (.idx ↑4 ↑12) (.cst (.int 1))∘.nil))∘(.bi .max (.idx (.idx ↑4 ↑11) (.cst (.int 1))∘.idx (.idx ↑4 ↑12) (.cst (.int 1))∘.nil))∘.nil))∘(.iff (.fI (.sy ↑13) (.fI (.aK .LtE ↑14 ↑9) (.d8 (.aK .GtE ↑15 ↑8)))) (.ret (.cst (.bl RT))∘.nil) .nil)∘.nil)
noncomputable def n6:bq:=(.dU (.tup 2 (.nm 11∘.nm 12∘.nil)) (.aB (.idx ↑0 (.cst (.int 1)))) cP∘v7)
noncomputable def cQ:bq:=((.iff (.fI (.aK .NotIn ↑10 ↑1) (.fI (.rC .LtE .LtE ↑6 (.idx (.idx ↑4 ↑10) (.cst (.int 0))) ↑7) (.d8 (.rC .LtE .LtE ↑8 (.idx (.idx ↑4 ↑10) (.cst (.int 1))) ↑9)))) (.ret (.cst (.bl RT))∘.nil) .nil)∘.nil)
noncomputable def n8:Ex:=(.idx (.idx ↑1 ↑0) (.cst (.int 1)))
noncomputable def n9:Ex:=(.idx (.idx ↑1 ↑0) (.cst (.int 1)))
noncomputable def n_:bq:=(.set 5 (.idx (.idx ↑4 (.idx ↑1 (.cst (.int 0)))) (.cst (.int 0)))∘(.par 6 7 ((.bi .min (↑5∘.op .Add ↑5 ↑3∘.nil))∘(.bi .max (↑5∘.op .Add ↑5 ↑3∘.nil))∘.nil))∘(.par 8 9 ((.bi .low (.lc ["_law_c"] [4] (.nm 0) (.aB ↑1) .yes n9∘.nil))∘(.bi .top (.lc ["_law_c"] [4] (.nm 0) (.aB ↑1) .yes n8∘.nil))∘.nil))∘(.iff (.Cj (.aK .Lt ↑6 (.cst (.int 0))) (.d8 (.aK .Gt ↑7 (.op .Pow (.cst (.int 10)) (.cst (.int 6)))))) (.ret (.cst (.bl RT))∘.nil) .nil)∘.dU (.nm 10) (.aB ↑4) cQ∘n6)
noncomputable def rQ:bq:=((.set 7 (.idx ↑6 (.call 17 (.feed 0 (.bi .len (↑6∘.nil)∘.nil)))))∘(.set 8 (.call 17 (.feed 0 (.cst (.int 6)∘.nil))))∘(.iff (.aK .Eq ↑8 (.cst (.int 0))) ((.ret (.op .Sub (.call 17 (.feed 0 (.op .Pow (.cst (.int 10)) (.cst (.int 6))∘.nil))) (.cst (.int 500000))))∘.nil) .nil)∘(.iff (.aK .Eq ↑8 (.cst (.int 1))) ((.ret (.idx (.lst (.cst (.int 1)∘.neg (.cst (.int 1))∘.cst (.int 0)∘.cst (.int 2)∘.neg (.cst (.int 2))∘.nil)) (.call 17 (.feed 0 (.cst (.int 5)∘.nil)))))∘.nil) .nil)∘(.iff (.aK .Eq ↑8 (.cst (.int 2))) (.ret (.op .FloorDiv (.op .Sub ↑7 ↑5) (.cst (.int 2)))∘.nil) .nil)∘(.iff (.aK .Eq ↑8 (.cst (.int 3))) ((.ret (.idx (.lst (.op .Pow (.cst (.int 10)) (.cst (.int 6))∘.neg (.op .Pow (.cst (.int 10)) (.cst (.int 6)))∘.op .Pow (.cst (.int 10)) (.cst (.int 30))∘.op .Sub (.op .Add (.op .Pow (.cst (.int 10)) (.cst (.int 6))) (.cst (.int 1))) ↑5∘.op .Sub (.neg (.cst (.int 1))) ↑5∘.nil)) (.call 17 (.feed 0 (.cst (.int 5)∘.nil)))))∘.nil) .nil)∘(.ret (.op .Add (.op .Sub ↑7 ↑5) (.idx (.lst (.cst (.int 0)∘.cst (.int 1)∘.neg (.cst (.int 1))∘.nil)) (.call 17 (.feed 0 (.cst (.int 3)∘.nil))))))∘.nil)
noncomputable def og:Ex:=(.idx (.idx ↑1 ↑0) (.cst (.int 0)))
noncomputable def rR:bq:=(.set 5 (.idx (.idx ↑4 (.idx ↑2 (.cst (.int 0)))) (.cst (.int 0)))∘(.set 6 (.bi .sorted ((.bi .set ((.op .Add (.lc ["_law_c"] [4] (.nm 0) (.aB ↑4) .yes og) (.lst (.cst (.int 0)∘.op .Pow (.cst (.int 10)) (.cst (.int 6))∘.nil)))∘.nil))∘.nil)))∘rQ)
noncomputable def KE:bq:=((.iff (.aK .Is ↑4 (.cst (.br))) (.ret ↑5∘.nil) .nil)∘(.ret (.lst (.Hv 2 ↑4∘.Hv 3 ↑4∘.Hv 4 ↑4∘.Hv 1 ↑4∘.nil)))∘.nil)
noncomputable def Gd:bq:=(.ret (.cst (.bl RQ))∘.nil)
noncomputable def ym:bq:=((.iff (.sy (.Hu "tuple" ↑10)) (.set 4 ↑10∘.nil) .nil)∘.nil)
noncomputable def lX:bq:=((.iff (.aK .NotEq (.call 30 (↑4∘↑6∘↑13∘(.idx (.lst (↑9∘.op .Pow (.cst (.int 10)) (.cst (.int 30))∘.nil)) (.op .Mod ↑5 (.cst (.int 2))))∘.nil)) (.lst (.cst (.bl RT)∘.cst (.bl RQ)∘.cst (.bl RT)∘.cst (.bl RT)∘.nil))) (.ret (.cst (.bl RT))∘.nil) .nil)∘.nil)
noncomputable def rS:bq:=((.dU (.nm 13) (.aB (.tup (.cst (.str "z")∘.cst (.str "")∘.cst (.str "xy")∘.cst (.br)∘.cst (.bl RQ)∘.cst (.int 0)∘.tup (↑7∘.nil)∘.nil))) lX)∘ym)
noncomputable def lY:bq:=((.iff (.aK .NotEq (.call 30 (↑4∘↑12∘↑13∘(.idx (.lst (↑9∘.op .Pow (.cst (.int 10)) (.cst (.int 30))∘.nil)) (.op .Mod ↑5 (.cst (.int 2))))∘.nil)) (.lst (.cst (.bl RQ)∘.cst (.bl RT)∘.cst (.bl RT)∘.cst (.bl RT)∘.nil))) (.ret (.cst (.bl RT))∘.nil) .nil)∘.nil)
noncomputable def lZ:bq:=((.dU (.tup 2 (.nm 12∘.nm 13∘.nil)) (.aB (.tup ((.tup (.cst (.int 1000)∘↑7∘.nil))∘(.tup (.cst (.bl RQ)∘↑7∘.nil))∘(.tup (.cst (.bl RT)∘.cst (.str "x")∘.nil))∘(.tup (.cst (.br)∘.cst (.str "z")∘.nil))∘(.tup (.bi .str (↑6∘.nil)∘↑7∘.nil))∘(.tup (.tup (↑6∘.nil)∘.cst (.br)∘.nil))∘.nil))) lY)∘rS)
noncomputable def l9:bq:=((.iff (.aK .NotEq (.bi .repr (.call 30 (↑4∘↑6∘↑7∘↑9∘.nil)∘.nil)) (.bi .repr (↑10∘.nil))) (.ret (.cst (.bl RT))∘.nil) .nil)∘.nil)
noncomputable def l_:bq:=((.dU (.nm 11) (.jV (.cst (.int 2)∘.nil)) l9)∘lZ)
noncomputable def rT:bq:=((.set 10 (.lst (.cst (.bl RT)∘.cst (.bl RT)∘.cst (.bl RQ)∘.cst (.bl RT)∘.nil)))∘(.iff (.sy (.call 28 (↑4∘↑8∘↑7∘↑9∘.nil))) (.set 10 (.call 26 (↑4∘↑8∘↑7∘↑9∘.nil))∘.nil) .nil)∘l_)
noncomputable def rV:bq:=(.set 9 (.call 29 (.feed 0 (↑4∘↑8∘↑7∘.nil)))∘rT)
noncomputable def oh:bq:=((.set 6 (.idx (.idx (.idx ↑4 (.cst (.int 0))) (.call 17 (.feed 0 ((.bi .len (.idx ↑4 (.cst (.int 0))∘.nil))∘.nil)))) (.cst (.int 0))))∘(.set 7 (.idx (.lst (.cst (.str "x")∘.cst (.str "y")∘.nil)) (.call 17 (.feed 0 (.cst (.int 2)∘.nil)))))∘.set 8 (.call 10 (↑4∘↑6∘↑7∘.nil))∘rV)
noncomputable def om:bq:=((.iff (.aK .Eq (.idx ↑4 (.cst (.int 0))) (.tup .nil)) (.ret (.cst (.bl RQ))∘.nil) .nil)∘(.dU (.nm 5) (.jV (.cst (.int 4)∘.nil)) oh)∘Gd)
noncomputable def uF:bq:=((.set 4 (.call 24 (↑3∘.call 25 (.feed 0 (↑3∘.nil))∘.call 18 (.feed 0 (↑1∘.nil))∘.call 18 (.feed 0 (↑2∘.nil))∘.nil)))∘om)
noncomputable def Dd:bq:=(.ret (.cst (.bl RQ))∘.nil)
noncomputable def De:bq:=((.iff (.rD (.sy (.call 31 (.feed 1 .nil)))) (.ret (.cst (.bl RT))∘.nil) .nil)∘.nil)
noncomputable def uG:Df:=⟨1,1,(.ret (.and (.Hu "int" ↑0) (.one (.not (.Hu "bool" ↑0))))∘.nil)⟩
noncomputable def jf:Df:=⟨3,3,(.ret (.and (.call 0 (↑0∘.nil)) (.one (.F2 .LtE .LtE ↑1 ↑0 ↑2)))∘.nil)⟩
noncomputable def Dg:Df:=⟨2,2,(.ret (.and (.Hu "tuple" ↑0) (.one (.cmp .Eq (.bi .len (↑0∘.nil)) ↑1)))∘.nil)⟩
noncomputable def kL:Df:=⟨1,1,((.ret (.and (.call 2 (↑0∘.cst (.int 2)∘.nil)) (.one (.bi .all (.lc ["place"] [] (.nm 0) (.aB ↑0) .yes eQ∘.nil)))))∘.nil)⟩
noncomputable def kM:Df:=⟨2,8,((.asg (.tup 2 (.tup 2 (.nm 2∘.nm 3∘.nil)∘.tup 2 (.nm 4∘.nm 5∘.nil)∘.nil)) (.tup (↑0∘↑1∘.nil)))∘(.set 6 (.tup ((.bi .max (.idx ↑2 (.cst (.int 0))∘.idx ↑4 (.cst (.int 0))∘.nil))∘(.bi .max (.idx ↑2 (.cst (.int 1))∘.idx ↑4 (.cst (.int 1))∘.nil))∘.nil)))∘(.set 7 (.tup ((.bi .min (.idx ↑3 (.cst (.int 0))∘.idx ↑5 (.cst (.int 0))∘.nil))∘(.bi .min (.idx ↑3 (.cst (.int 1))∘.idx ↑5 (.cst (.int 1))∘.nil))∘.nil)))∘(.iff (.Cj (.aK .Gt (.idx ↑6 (.cst (.int 0))) (.idx ↑7 (.cst (.int 0)))) (.d8 (.aK .Gt (.idx ↑6 (.cst (.int 1))) (.idx ↑7 (.cst (.int 1)))))) (.ret (.cst (.br))∘.nil) .nil)∘.ret (.tup (↑6∘↑7∘.nil))∘.nil)⟩
noncomputable def yo:Df:=⟨1,1,(.ret (.dc ["c","x","y"] [] (.tup 3 (.nm 0∘.nm 1∘.nm 2∘.nil)) (.aB (.idx ↑0 (.cst (.int 0)))) .yes ↑0 (.tup (↑1∘↑2∘.nil)))∘.nil)⟩
noncomputable def c_:Df:=⟨2,2,(.ret (.and (.call 0 (↑1∘.nil)) (.one (.cmp .In ↑1 (.call 5 (↑0∘.nil)))))∘.nil)⟩
noncomputable def kN:Df:=⟨2,7,(.yc 2 1∘.oY 3 (↑1∘.nil)∘.J6 jd je∘nZ)⟩
noncomputable def aQ:Df:=⟨3,3,((.iff (.rD (.sy (.call 6 (↑0∘↑1∘.nil)))) ((.raise 2 (.cst (.str "there is no such corner")∘.nil))∘.nil) .nil)∘cX)⟩
noncomputable def eS:Df:=⟨2,4,(.set 2 (.call 5 (↑0∘.nil))∘gu)⟩
noncomputable def uH:Df:=⟨3,3,(.expr (.call 8 (↑0∘↑1∘↑2∘.nil))∘C4)⟩
noncomputable def qj:Df:=⟨3,5,(.asg (.tup 2 (.nm 3∘.nm 4∘.nil)) ↑0∘(.ret (.Ht (.aK .Eq ↑1 (.cst (.str "x"))) (.tup (.op .Add ↑3 ↑2∘↑4∘.nil)) (.tup (↑3∘.op .Add ↑4 ↑2∘.nil))))∘.nil)⟩
noncomputable def jg:Df:=⟨3,6,(.set 3 (.op .Add ↑0 (.lc ["spot"] [1,2] (.nm 0) (.aB ↑0) .yes dN))∘lA)⟩
noncomputable def oo:Df:=⟨4,6,(.set 4 (.call 5 (↑0∘.nil))∘qi)⟩
noncomputable def gh:Df:=⟨3,5,(.set 3 (.call 5 (↑0∘.nil))∘iK)⟩
noncomputable def rW:Df:=⟨4,8,(.set 4 (.call 5 (↑0∘.nil))∘uA)⟩
noncomputable def ji:Df:=⟨4,4,((.ret (.call 15 (↑0∘.call 10 (↑0∘↑1∘↑2∘.nil)∘↑2∘↑3∘.nil)))∘.nil)⟩
noncomputable def gj:Df:=⟨2,5,((.set 2 (.idx (.lst (.cst (.int 1)∘.cst (.int 3)∘.cst (.int 90000)∘.nil)) (.call 17 (.feed 0 (.cst (.int 3)∘.nil)))))∘(.oY 3 (.call 17 (.feed 0 (↑2∘.nil))∘.nil))∘(.dU (.nm 4) (.jV (.op .Sub ↑1 (.cst (.int 1))∘.nil)) uC)∘uB)⟩
noncomputable def gk:Df:=⟨3,10,(.i8 3∘(.dU (.nm 4) (.jV ((.op .Add (.cst (.int 1)) (.call 17 (.feed 0 (.cst (.int 12)∘.nil))))∘.nil)) uE)∘uD)⟩
noncomputable def gW:Df:=⟨1,6,(.i8 1∘(.dU (.tup 2 (.tup 2 (.nm 2∘.nm 3∘.nil)∘.tup 2 (.nm 4∘.nm 5∘.nil)∘.nil)) (.aB ↑0) lW)∘yk)⟩
noncomputable def cR:Df:=⟨1,1,((.ret (.cmp .In (.bi .sorted (↑0∘.nil)) (.tup ((.lst (.cst (.int 0)∘.cst (.int 2)∘.nil))∘(.lst (.cst (.int 1)∘.cst (.int 3)∘.nil))∘.nil))))∘.nil)⟩
noncomputable def dz:Df:=⟨4,6,(.set 4 ↑2∘.J6 gb gc∘rP)⟩
noncomputable def dg:Df:=⟨2,7,((.set 2 (.bi .dict (.lc ["_law_edge"] [] (.nm 0) (.aB ↑0) .yes iO∘.nil)))∘.oY 3 .nil∘.dU (.nm 4) (.aB ↑1) iN∘iL)⟩
noncomputable def jj:Df:=⟨4,6,((.set 4 (.bi .sorted (.lc ["_law_i","_law_j"] [1,2,3] (.tup 2 (.nm 0∘.nm 1∘.nil)) (.aB (.bi .sorted (↑1∘.nil))) .yes Dc∘.nil)))∘C_)⟩
noncomputable def dY:Df:=⟨2,8,(.set 2 (.call 20 (↑1∘.nil))∘gV)⟩
noncomputable def eT:Df:=⟨4,9,(.oY 4 .nil∘.dU (.tup 3 (.nm 5∘.nm 6∘.nm 7∘.nil)) (.aB (.idx ↑0 (.cst (.int 0)))) gf∘n0)⟩
noncomputable def fC:Df:=⟨2,2,((.ret (.bi .dict (.lc ["_law_c","_law_x","_law_y"] [1] (.tup 3 (.nm 0∘.nm 1∘.nm 2∘.nil)) (.aB (.idx ↑0 (.cst (.int 0)))) .yes kK∘.nil)))∘.nil)⟩
noncomputable def eU:Df:=⟨4,16,(.set 4 (.call 27 (↑0∘↑2∘.nil))∘n_)⟩
noncomputable def jk:Df:=⟨4,9,(.set 4 (.call 27 (↑1∘↑3∘.nil))∘rR)⟩
noncomputable def eV:Df:=⟨4,7,((.asg (.tup 2 (.nm 4∘.nm 5∘.nil)) (.tup (.cst (.br)∘.cst (.br)∘.nil)))∘(.Cq (.set 5 (.call 16 (↑0∘↑1∘↑2∘↑3∘.nil))∘.nil) 0 6 4 (.slot 6))∘KE)⟩
noncomputable def gX:Df:=⟨1,14,((.par 1 2 ((.op .Add (.cst (.int 2)) (.call 17 (.feed 0 (.cst (.int 6)∘.nil))))∘(.op .Add (.cst (.int 2)) (.call 17 (.feed 0 (.cst (.int 5)∘.nil))))∘.nil))∘.set 3 (.call 19 (.feed 0 (↑1∘↑2∘.nil)))∘uF)⟩
noncomputable def dn:List Sy:=[RN "is_number",RN "is_whole",RN "is_row",RN "is_spot",RN "overlap",RN "spots",RN "has_corner",RN "reached",RN "look_corner_and_axis",RN "walls_across",RN "run",RN "shifted",RN "strip_of",RN "strips",RN "hindrances",RN "moved",RN "move",RN "_law_draw",RN "_law_table",RN "_law_edges",RN "_law_ways",RN "_law_is_straight",RN "_law_shut_from",RN "_law_shuts_here",RN "_law_net",RN "_law_numbered",RN "_law_shifted",RN "_law_turned",RN "_law_is_free",RN "_law_way",RN "_law_met",RN "_law_bout"]
noncomputable def gn:List Sy:=[RN "GREATEST_PLACE",RN "AXES"]
noncomputable def cn:List Sy:=[RN "PlanError",RN "NoNet",RN "NoCorner",RN "NoAxis",RN "NoMove"]
noncomputable def OM:fg:=⟨dn,gn,cn⟩
noncomputable def ON:List (Option D):=[RM (D.int 1000000),RM (D.tup [(D.str "x"),(D.str "y")])]
noncomputable def ents:List En:=[⟨RN "is_number",[RN "thing"],[RN "thing"],.df uG⟩,⟨RN "is_whole",[RN "thing",RN "least",RN "most"],[RN "thing",RN "least",RN "most"],.df jf⟩,⟨RN "is_row",[RN "thing",RN "length"],[RN "thing",RN "length"],.df Dg⟩,⟨RN "is_spot",[RN "thing"],[RN "thing"],.df kL⟩,⟨RN "overlap",[RN "oblong",RN "other",RN "a",RN "b",RN "c",RN "d",RN "low",RN "high"],[RN "oblong",RN "other"],.df kM⟩,⟨RN "spots",[RN "net"],[RN "net"],.df yo⟩,⟨RN "has_corner",[RN "net",RN "thing"],[RN "net",RN "thing"],.df c_⟩,⟨RN "reached",[RN "walls",RN "start",RN "seen",RN "waiting",RN "corner",RN "wall",RN "end"],[RN "walls",RN "start"],.df kN⟩,⟨RN "look_corner_and_axis",[RN "net",RN "c",RN "axis"],[RN "net",RN "c",RN "axis"],.df aQ⟩,⟨RN "walls_across",[RN "net",RN "axis",RN "at",RN "place"],[RN "net",RN "axis"],.df eS⟩,⟨RN "run",[RN "net",RN "c",RN "axis"],[RN "net",RN "c",RN "axis"],.df uH⟩,⟨RN "shifted",[RN "spot",RN "axis",RN "d",RN "x",RN "y"],[RN "spot",RN "axis",RN "d"],.df qj⟩,⟨RN "strip_of",[RN "own",RN "axis",RN "d",RN "passed",RN "xs",RN "ys"],[RN "own",RN "axis",RN "d"],.df jg⟩,⟨RN "strips",[RN "net",RN "group",RN "axis",RN "d",RN "at",RN "runs"],[RN "net",RN "group",RN "axis",RN "d"],.df oo⟩,⟨RN "hindrances",[RN "net",RN "group",RN "axis",RN "at",RN "others"],[RN "net",RN "group",RN "axis"],.df gh⟩,⟨RN "moved",[RN "net",RN "group",RN "axis",RN "d",RN "at",RN "new",RN "standing",RN "strip"],[RN "net",RN "group",RN "axis",RN "d"],.df rW⟩,⟨RN "move",[RN "net",RN "c",RN "axis",RN "d"],[RN "net",RN "c",RN "axis",RN "d"],.df ji⟩,⟨RN "_law_draw",[RN "_law_feed_here",RN "_law_many",RN "_law_got",RN "_law_at",RN "_law_cell",RN "_law_number"],[RN "_law_feed_here",RN "_law_many"],.wit yh⟩,⟨RN "_law_table",[RN "_law_feed_here",RN "_law_many",RN "_law_far",RN "_law_found",RN "_law_k"],[RN "_law_feed_here",RN "_law_many"],.df gj⟩,⟨RN "_law_edges",[RN "_law_feed_here",RN "_law_wide",RN "_law_high",RN "_law_found",RN "_law_turn",RN "_law_i",RN "_law_j",RN "_law_level",RN "_law_k",RN "_law_other"],[RN "_law_feed_here",RN "_law_wide",RN "_law_high"],.df gk⟩,⟨RN "_law_ways",[RN "_law_edges_here",RN "_law_found",RN "_law_i",RN "_law_j",RN "_law_u",RN "_law_v"],[RN "_law_edges_here"],.df gW⟩,⟨RN "_law_is_straight",[RN "_law_leaving"],[RN "_law_leaving"],.df cR⟩,⟨RN "_law_shut_from",[RN "_law_known",RN "_law_points",RN "_law_one",RN "_law_level",RN "_law_here",RN "_law_there"],[RN "_law_known",RN "_law_points",RN "_law_one",RN "_law_level"],.df dz⟩,⟨RN "_law_shuts_here",[RN "_law_edges_here",RN "_law_points",RN "_law_known",RN "_law_found",RN "_law_one",RN "_law_level",RN "_law_other"],[RN "_law_edges_here",RN "_law_points"],.df dg⟩,⟨RN "_law_net",[RN "_law_edges_here",RN "_law_numbers",RN "_law_xs",RN "_law_ys",RN "_law_corners",RN "_law_shuts"],[RN "_law_edges_here",RN "_law_numbers",RN "_law_xs",RN "_law_ys"],.df jj⟩,⟨RN "_law_numbered",[RN "_law_feed_here",RN "_law_edges_here",RN "_law_leaving",RN "_law_begin",RN "_law_step",RN "_law_found",RN "_law_k",RN "_law_point"],[RN "_law_feed_here",RN "_law_edges_here"],.df dY⟩,⟨RN "_law_shifted",[RN "_law_net_here",RN "_law_these",RN "_law_axis",RN "_law_d",RN "_law_corners",RN "_law_c",RN "_law_x",RN "_law_y",RN "_law_by"],[RN "_law_net_here",RN "_law_these",RN "_law_axis",RN "_law_d"],.df eT⟩,⟨RN "_law_turned",[RN "_law_net_here",RN "_law_axis"],[RN "_law_net_here",RN "_law_axis"],.df fC⟩,⟨RN "_law_is_free",[RN "_law_net_here",RN "_law_these",RN "_law_axis",RN "_law_d",RN "_law_spots",RN "_law_here",RN "_law_west",RN "_law_east",RN "_law_south",RN "_law_north",RN "_law_c",RN "_law_a",RN "_law_b",RN "_law_there",RN "_law_low",RN "_law_high"],[RN "_law_net_here",RN "_law_these",RN "_law_axis",RN "_law_d"],.df eU⟩,⟨RN "_law_way",[RN "_law_feed_here",RN "_law_net_here",RN "_law_these",RN "_law_axis",RN "_law_spots",RN "_law_here",RN "_law_others",RN "_law_goal",RN "_law_way_here"],[RN "_law_feed_here",RN "_law_net_here",RN "_law_these",RN "_law_axis"],.df jk⟩,⟨RN "_law_met",[RN "_law_net_here",RN "_law_c",RN "_law_axis",RN "_law_d",RN "_law_kept",RN "_law_told",RN "e"],[RN "_law_net_here",RN "_law_c",RN "_law_axis",RN "_law_d"],.df eV⟩,⟨RN "_law_bout",[RN "_law_feed_here",RN "_law_wide",RN "_law_high",RN "_law_edges_here",RN "_law_net_here",RN "_law_turn",RN "_law_c",RN "_law_axis",RN "_law_these",RN "_law_d",RN "_law_due",RN "_law_again",RN "_law_no",RN "_law_way_here"],[RN "_law_feed_here"],.df gX⟩]
noncomputable def v8:List Sy:=[RN "_law_script",RN "_law_feed_here",RN "_law_bout_here"]
noncomputable def rest:bq:=((.dU (.nm 2) (.jV (.cst (.int 5)∘.nil)) De)∘Dd)
noncomputable def defs:List Dk:=ents.map (·.k)
noncomputable def Qj:List Kl:=[⟨24,[24]⟩,⟨37,[24,37]⟩,⟨49,[24,49]⟩,⟨61,[24,61]⟩,⟨73,[24,73]⟩]
noncomputable def gv:Gv:=NS ON Qj
end K26
end
section
namespace K26
open PySem L2
def Q4(p):Q3 (head.heap_39 p)=RQ:=by kernel_rfl
def RA(p):CW (head.heap_39 p) cn Qj=RQ:=by kernel_rfl
def RC(p):Kz (head.heap_39 p) gn ON=RQ:=by kernel_rfl
def RD(p):QZ (head.heap_39 p) gn ON=RQ:=by kernel_rfl
def RE(p):Kx (head.heap_39 p) OM ents=RQ:=by kernel_rfl
end K26
end
section
namespace K26
open PySem L2
noncomputable abbrev parts(s:Sy)(st:UL):Option (Sy×Sy×Yw×List UL×UM):=RM (s,s,d5 st,c6 st,au st)
def RF(p):(zV (head.heap_39 p) "_law_feed").map jZ=parts "_law_feed" K26d.CJ:=by kernel_rfl
def Qk:uv (d5 K26d.CJ) ["_law_script"]=RQ:=by kernel_rfl
def RG(p):(zV (head.heap_39 p) "law").map jZ=parts "law" K26d.uu:=by kernel_rfl
def Ql:uv (d5 K26d.uu) ["_law_script"]=RQ:=by kernel_rfl
def Qm:(HB OM ⟨v8,au K26d.uu,RQ,[]⟩ rest (c6 K26d.uu).tail).ok=RQ:=by kernel_rfl
def Qn:OK v8 ["_law_script"] (au K26d.uu)=RQ:=by kernel_rfl
def Qo:f_ ⟨v8,au K26d.uu,RQ,[]⟩ 1 "_law_feed_here"=RQ:=by kernel_rfl
def Qp:fJ ⟨v8,au K26d.uu,RQ,[]⟩ 0 "_law_script"=RQ:=by kernel_rfl
def Qq:cM ⟨v8,au K26d.uu,RQ,[]⟩ "_law_feed"=RQ:=by kernel_rfl
def RH:dn=ents.map (·.x):=by kernel_rfl
def RI(p):(zV (head.heap_39 p) "_law_draw").map jZ=parts "_law_draw" K26d.ur:=by kernel_rfl
def Qr:uv (d5 K26d.ur) ["_law_feed_here","_law_many"]=RQ:=by kernel_rfl
section
def Dh(X:XF (head.heap_39 p) h)(G:h.Ns Ti mg)(a:mg "len"=RP):LA P w (head.heap_39 p) mg base "_law_draw" 2 K26d.yh:=by
 obtain⟨f,fd,F,e,B⟩:=nY (RI p) Qr;exact K26d.CK F a (VX X G e) (.all B)
def Ge(X:XF (head.heap_39 p) h)(G:h.Ns Ti mg)(a:mg "list"=RP):∃f fd,ek P w (head.heap_39 p) mg base y9 1 f fd ["_law_script"] (vZ (head.heap_39 p))/\mg "_law_feed"=RM (.ref f)/\V2 (head.heap_39 p) (.ref f)=RQ/\Binds (head.heap_39 p) fd ["_law_script"] []:=by
 obtain⟨f,fd,F,e,B⟩:=nY (RF p) Qk;exact⟨f,fd,Gc F K26d.Kt a rfl rfl,VX X G e,F.kp,.all B⟩
end
end K26
end
section
namespace K26
open PySem L2
noncomputable def yq(e:En):Bool:=match e.k with
 |.wit _=>RQ|.df _=>RT
def Qs:(ents.filter yq).map (λe=>(e.x,e.k))=[(RN "_law_draw",.wit K26d.yh)]:=by kernel_rfl
set_option tactic.hygienic true in
def txt(X:XF (head.heap_39 w.params) h)(G:h.Ns Ti mg):lr P w (head.heap_39 w.params) mg base OM defs gv:=by
 have b:mg "len"=RP:=by
  have:=Ψ0.mp (Q4 w.params) (RN "len") (by simp[d9]);split at this;.rename_i e;exact aal X G e
  .cases this
 refine KC (ds:=ON) (cs:=Qj) X G RH (RE w.params) (RC w.params) (RD w.params) (RA w.params) (Q4 w.params) λe j t g=>?_;have i:e∈ents.filter yq:=Ψ.mpr ⟨j,by unfold yq;rw[g]⟩;have a:(e.x,e.k)∈(ents.filter yq).map λe=>(e.x,e.k):=Vt (f:=λe:En=>(e.x,e.k)) i;rw[Qs]at a;have d:=Ω1.mp a;injection d with l c;rw[g]at c;injection c with c;subst c;rw[l];exact⟨2,Dh X G b⟩
def NV(whole:(av (gv.ev (ai defs gv 39)) rest (RP::RM .feed::Tu (v8.length-2) RP)).o_ 1000000 (λd=>d=.rt (.bl RQ)))(p):∃f fd,UI (head.heap_39 p) Ti "law"=RM (RM (.ref f))/\(∀us:List RR,us.length=1->aar fd ⟨us,[]⟩=pure ([RN "_law_script"].zip us))/\∀{P}{w}{mg}{base},w.params=p->XF (head.heap_39 p) base->base.Ns Ti mg->ek P w (head.heap_39 p) mg base y9 40 f fd ["_law_script"] (C3 (head.heap_39 p)):=by
 obtain⟨f,fd,F,c,b⟩:=nY (RG p) Ql;refine⟨f,fd,c,b,λ{P w mg base}a X G=>?_⟩;subst a;have T:lr P w (head.heap_39 w.params) mg base OM defs gv:=txt X G;exact KD T F (CP Qn) (Ge X G (T.bl _ (Hz rfl))) rfl Qo Qp Qq (Ch.of Qm) '1' whole
end K26
end
section
namespace L2
namespace T
def wp:T α->Nat->(α->Nat->Prop)->Prop
 |.ok a,m,Q=>Q a m|.exc _,_,_=>False|.stuck,_,_=>False|.draw n k,m,Q=>0<n/\n<1073741824/\0<m/\∀i,0<=i->i<n->(k i).wp (m-1) Q|.perm l k,m,Q=>∀b,b.Perm l->(k b).wp m Q
theorem rX:∀{t:T α}{m:Nat},t.wp m (λa _=>P a)->t.o_ m P
 |.ok a,m,h=>.ok h|.exc _,_,h=>h.elim|.stuck,_,h=>h.elim|.draw n k,m,h=>by
  obtain⟨f,e,g,d⟩:=h;cases m with
  |zero=>omega|succ m=>exact .draw f e λi a b=>rX (d i a b)
 |.perm l k,m,h=>.perm λc p=>rX (h c p)
theorem wp_mono{Q c:α->Nat->Prop}(q:∀a m,Q a m->c a m):∀{t:T α}{m:Nat},t.wp m Q->t.wp m c
 |.ok a,m,h=>q _ _ h|.exc _,_,h=>h.elim|.stuck,_,h=>h.elim|.draw n k,m,h=>⟨h.1,h.2.1,h.2.2.1,λi a b=>wp_mono q (h.2.2.2 i a b)⟩|.perm l k,m,h=>λd p=>wp_mono q (h d p)
def dO(a:α)(m:Nat)(Q:α->Nat->Prop):(T.ok a).wp m Q=Q a m:=rfl
def wp_pure(a)(m)(Q):(pure a:T α).wp m Q=Q a m:=rfl
theorem wp_bind(f:α->T β):∀(t:T α)(m:Nat)(Q:β->Nat->Prop),(t>>=f).wp m Q=t.wp m (λa b=>(f a).wp b Q)
 |.ok a,m,Q=>rfl|.exc _,_,_=>rfl|.stuck,_,_=>rfl|.draw n k,m,Q=>by
  show(0<n/\n<1073741824/\0<m/\∀i,0<=i->i<n->(k i>>=f).wp (m-1) Q)=(0<n/\n<1073741824/\0<m/\∀i,0<=i->i<n->(k i).wp (m-1) λa b=>(f a).wp b Q);simp only[wp_bind f]|.perm l k,m,Q=>by
  show(∀c,c.Perm l->(k c>>=f).wp m Q)=(∀c,c.Perm l->(k c).wp m λa b=>(f a).wp b Q);simp only[wp_bind f]
theorem wp_at(ρ:ah):∀(t:T α)(m:Nat)(Q:α->Nat->Prop),(t.at' ρ).wp m Q=t.wp m Q
 |.ok a,m,Q=>rfl|.exc _,_,_=>rfl|.stuck,_,_=>rfl|.draw n k,m,Q=>by
  show(0<n/\n<1073741824/\0<m/\∀i,0<=i->i<n->((k i).at' ρ).wp (m-1) Q)=_;simp only[wp_at ρ];rfl|.perm l k,m,Q=>by
  show(∀b,b.Perm l->((k b).at' ρ).wp m Q)=_;simp only[wp_at ρ];rfl
def rY(b)(m)(Q):(T.need b).wp m Q=(b=RQ/\Q () m):=by
 unfold T.need;cases b with
 |true=>simp[wp]|false=>simp[wp]
def KG(o)(m)(Q:α->Nat->Prop):(T.get o).wp m Q=∃a,o=RM a/\Q a m:=by cases o with
 |none=>simp[T.get,wp]|some a=>simp[T.get,wp]
def bL(a)(m)(Q:α->Nat->Prop):(T.get (RM a)).wp m Q=Q a m:=rfl
def fi(n:Int)(k:Int->T α)(m:Nat)(Q:α->Nat->Prop):(T.draw n k).wp m Q=(0<n/\n<1073741824/\0<m/\∀i,0<=i->i<n->(k i).wp (m-1) Q):=rfl
def Gf(l)(k)(m)(Q:α->Nat->Prop):(T.perm l k).wp m Q=∀l',l'.Perm l->(k l').wp m Q:=rfl
def Gg(b)(x y:T α)(m)(Q):(if b=RQ then x else y).wp m Q=if b=RQ then x.wp m Q else y.wp m Q:=by split<;>rfl
end T
def wp_call{t:T D}(h:t.wp m Q)(q:∀a m,Q a m->b a m):t.wp m b:=T.wp_mono q h
theorem eW(I:List D->ah->Nat->Prop)(step:∀d ds ρ m,I (d::ds) ρ m->(g d ρ).wp m λc j=>(body c).wp j λi e=>match i with
   |.nx a=>I ds a e|.ct a=>I ds a e|.bk a=>Q (.nx a) e|.rt r=>Q (.rt r) e)(b:∀ρ m,I [] ρ m->Q (.nx ρ) m):∀{ds:List D}{ρ:ah}{m:Nat},I ds ρ m->(di g body ds ρ).wp m Q
 |[],ρ,m,h=>b ρ m h|d::ds,ρ,m,h=>by
  unfold di;rw[T.wp_bind];refine T.wp_mono (λc j k=>?_) (step d ds ρ m h);rw[T.wp_bind];refine T.wp_mono (λi e f=>?_) k;cases i with
  |nx a=>exact eW I step b f|ct a=>exact eW I step b f|bk a=>exact f|rt r=>exact f
theorem oq(I:Nat->ah->Nat->Prop)(step:∀k ρ m,I k ρ m->(c ρ).wp m λb f=>if b=RQ then(body ρ).wp f λi e=>match i with
   |.nx a=>∃j,j<k/\I j a e|.ct a=>∃j,j<k/\I j a e|.bk a=>Q (.nx a) e|.rt r=>Q (.rt r) e else Q (.nx ρ) f):∀{n k:Nat}{ρ:ah}{m:Nat},k<n->I k ρ m->(eP c body n ρ).wp m Q
 |0,k,_,_,l,_=>'0'|n+1,k,ρ,m,l,h=>by
  unfold eP;rw[T.wp_bind];refine T.wp_mono (λb f g=>?_) (step k ρ m h);cases b with
  |false=>exact g|true=>
   rw[Ξ2 rfl]at g⊢;rw[T.wp_bind];refine T.wp_mono (λi e d=>?_) g;cases i with
   |nx a=>obtain⟨j,o,d⟩:=d;exact oq I step '0' d|ct a=>obtain⟨j,o,d⟩:=d;exact oq I step '0' d|bk a=>exact d|rt r=>exact d
def af(a)(f:b->T c):(T.ok a>>=f)=f a:=rfl
def KH(v:Ev):(∀i ρ,ak v ↑i ρ=T.get (iW ρ i))/\(∀d ρ,ak v (.cst d) ρ=.ok d)/\(∀i ρ,ak v (.lj i) ρ=T.get (v.lj i))/\(∀o a b ρ,ak v (.op o a b) ρ=do let d<-ak v a ρ;let e<-ak v b ρ;qb o d e)/\(∀a ρ,ak v (.neg a) ρ=do let i<-bS (<-ak v a ρ);.ok (.int (-i)))/\(∀o a b ρ,ak v (.cmp o a b) ρ=do let d<-ak v a ρ;let e<-ak v b ρ;be o d e)/\(∀a b ρ,ak v (.and a b) ρ=do let c<-aZ (<-ak v a ρ);if c then ak v b ρ else .ok (.bl RT))/\(∀a ρ,ak v (.one a) ρ=ak v a ρ)/\(∀a ρ,ak v (.not a) ρ=do let c<-aZ (<-ak v a ρ);.ok (.bl (!c)))/\(∀r ρ,ak v (.tup r) ρ=do let ds<-gr (<-fZ v r ρ);T.need (decide (ds.length<=W7));.ok (.tup ds))/\(∀r ρ,ak v (.lst r) ρ=do let ds<-gr (<-fZ v r ρ);T.need (decide (ds.length<=W7));.ok (.lst ds))/\(∀a b ρ,ak v (.idx a b) ρ=do let d<-ak v a ρ;let e<-ak v b ρ;aT d e)/\(∀f r ρ,ak v (.bi f r) ρ=do oX f (<-gr (<-fZ v r ρ)))/\(∀f r ρ,ak v (.call f r) ρ=do let as<-fZ v r ρ;(v.call f as).at' ρ)/\(∀y a ρ,ak v (.Hu y a) ρ=do yb v y (<-ak v a ρ))/\(∀c a ρ,ak v (.Hv c a) ρ=do let P<-T.get (v.cls c);ug v P (<-ak v a ρ))/\(∀own js tg it c elt ρ,ak v (.lc own js tg it c elt) ρ=do let ds<-nQ v it ρ;let r<-eO (dm tg) (λρ=>(bN v c ρ).calm) (λρ=>(ak v elt ρ).calm) ds (fF ρ own.length js);.ok (.lst r))/\(∀i e ρ,ak v (.oK i e) ρ=do let d<-ak v e (uX i ρ);T.need (flat (i8 ρ i) d);.ok d)/\(∀o r ρ,ak v (.rE o r) ρ=do let d<-ak v o ρ;T.need (tM d);ya d (<-gr (<-fZ v r ρ)))/\(∀i r ρ,ak v (.M0 i r) ρ=do let d<-T.get (v.lj i);T.need (t6 d);F3 d (<-gr (<-fZ v r ρ))):=⟨λ_ _=>rfl,λ_ _=>rfl,λ_ _=>rfl,λ_ _ _ _=>rfl,λ_ _=>rfl,λ_ _ _ _=>rfl,λ_ _ _=>rfl,λ_ _=>rfl,λ_ _=>rfl,λ_ _=>rfl,λ_ _=>rfl,λ_ _ _=>rfl,λ_ _ _=>rfl,λ_ _ _=>rfl,λ_ _ _=>rfl,λ_ _ _=>rfl,λ_ _ _ _ _ _ _=>rfl,λ_ _ _=>rfl,λ_ _ _=>rfl,λ_ _ _=>rfl⟩
def Gh(v):(∀ρ,bN v .yes ρ=.ok RQ)/\(∀a b ρ,bN v (.fI a b) ρ=do let c<-bN v a ρ;if c then bN v b ρ else .ok RT)/\(∀a b ρ,bN v (.Cj a b) ρ=do let c<-bN v a ρ;if c then .ok RQ else bN v b ρ)/\(∀a ρ,bN v (.d8 a) ρ=bN v a ρ)/\(∀a ρ,bN v (.rD a) ρ=do let c<-bN v a ρ;.ok (!c))/\(∀a ρ,bN v (.sy a) ρ=do Cp (<-ak v a ρ))/\(∀o a b ρ,bN v (.aK o a b) ρ=do let d<-ak v a ρ;let e<-ak v b ρ;aZ (<-be o d e))/\(∀i e ρ,bN v (.oK i e) ρ=bN v e (uX i ρ)):=⟨λ_=>rfl,λ_ _ _=>rfl,λ_ _ _=>rfl,λ_ _=>rfl,λ_ _=>rfl,λ_ _=>rfl,λ_ _ _ _=>rfl,λ_ _ _=>rfl⟩
def v9(v):(∀ρ,fZ v .nil ρ=.ok [])/\(∀a r ρ,fZ v (a∘r) ρ=do let d<-ak v a ρ;let xs<-fZ v r ρ;.ok (.d d::xs))/\(∀i r ρ,fZ v (.feed i r) ρ=do T.need (gP ρ i);let xs<-fZ v r ρ;.ok (.feed::xs)):=⟨λ_=>rfl,λ_ _ _=>rfl,λ_ _ _=>rfl⟩
def HC(v:Ev):(∀r ρ,nQ v (.jV r) ρ=do match<-gr (<-fZ v r ρ)with|[d]=>zR d|_=>.stuck)/\(∀r ρ,nQ v (.Co r) ρ=do match<-gr (<-fZ v r ρ)with|[.lst xs]=>.ok (iG xs)|_=>.stuck)/\(∀a ρ,nQ v (.aB a) ρ=do T.get (gL (<-ak v a ρ))):=⟨λ_ _=>rfl,λ_ _=>rfl,λ_ _=>rfl⟩
def OO:(∀i d ρ,dm (.nm i) d ρ=.ok (ρ.set i ⇑d))/\(∀n r ds ρ,dm (.tup n r) (.tup ds) ρ=if ds.length=n then ja r ds ρ else .stuck)/\(∀ρ,ja .nil [] ρ=.ok ρ)/\(∀t r d ds ρ,ja (t∘r) (d::ds) ρ=do let ρ'<-dm t d ρ;ja r ds ρ'):=⟨λ_ _ _=>rfl,λ_ _ _ _=>rfl,λ_=>rfl,λ_ _ _ _ _=>rfl⟩
def aL(v:Ev)(s r:bq)(ρ:ah):av v (s∘r) ρ=(do match<-av v s ρ with|.nx ρ'=>av v r ρ'|a=>.ok a):=rfl
def yr(v)(i)(e)(ρ):av v (.set i e) ρ=(do let d<-ak v e ρ;.ok (.nx (ρ.set i ⇑d))):=rfl
def bg(v:Ev)(c:Ex)(a b:bq)(ρ:ah):av v (.iff c a b) ρ=(do let x<-bN v c ρ;if x then av v a ρ else av v b ρ):=rfl
def bX(v)(tg)(it)(b)(ρ):av v (.dU tg it b) ρ=(do di (dm tg) (av v b) (<-nQ v it ρ) ρ):=rfl
def Gi(v)(c)(b)(ρ):av v (.J6 c b) ρ=eP (bN v c) (av v b) cV ρ:=rfl
def Gj(v)(i)(k e)(ρ):av v (.put i k e) ρ=(do
  let d<-ak v e ρ;let a<-yd (<-T.get (jP ρ i))let q<-ak v k ρ;T.need (decide (a.1.length<W7)&&aC a.1 q);.ok (.nx (ρ.set i (RM (.own (.aO (putD a.1 a.2 q d).1 (putD a.1 a.2 q d).2)))))):=rfl
def LC(v:Ev):(∀tg e ρ,av v (.asg tg e) ρ=do let d<-ak v e ρ;let ρ'<-dm tg d ρ;.ok (.nx ρ'))/\(∀i e ρ,av v (.set i e) ρ=do let d<-ak v e ρ;.ok (.nx (ρ.set i ⇑d)))/\(∀i j r ρ,av v (.par i j r) ρ=do match<-gr (<-fZ v r ρ)with|[d,e]=>.ok (.nx ((ρ.set i ⇑d).set j ⇑e))|_=>.stuck)/\(∀e ρ,av v (.ret e) ρ=do let d<-ak v e ρ;.ok (.rt d))/\(∀ρ,av v .nil ρ=.ok (.nx ρ))/\(∀s r ρ,av v (s∘r) ρ=do match<-av v s ρ with|.nx ρ'=>av v r ρ'|f=>.ok f)/\(∀c a b ρ,av v (.iff c a b) ρ=do let x<-bN v c ρ;if x then av v a ρ else av v b ρ)/\(∀tg it b ρ,av v (.dU tg it b) ρ=do di (dm tg) (av v b) (<-nQ v it ρ) ρ)/\(∀c b ρ,av v (.J6 c b) ρ=eP (bN v c) (av v b) cV ρ)/\(∀c r ρ,av v (.raise c r) ρ=do let C<-T.get (v.cls c);T.need (v.how C);let x<-Hx v C (<-fZ v r ρ);.exc ⟨x,ρ⟩)/\(∀b c i y h ρ,av v (.Cq b c i y h) ρ=do let P<-T.get (v.cls c);(av v b ρ).lI (nR v P i y h))/\(∀i r ρ,av v (.oY i r) ρ=do let ds<-gr (<-fZ v r ρ);T.need (decide (ds.length<=W7));.ok (.nx (ρ.set i (RM (.own (.lst ds))))))/\(∀i ρ,av v (.i8 i) ρ=.ok (.nx (ρ.set i (RM (.own (.aO [] []))))))/\(∀i e ρ,av v (.app i e) ρ=do let ds<-uh (<-T.get (jP ρ i));let d<-ak v e ρ;T.need (decide (ds.length<W7));.ok (.nx (ρ.set i (RM (.own (.lst (ds++[d])))))))/\(∀i s ρ,av v (.fz i s) ρ=av v s (uX i ρ))/\(∀e ρ,av v (.expr e) ρ=do let _<-ak v e ρ;.ok (.nx ρ)):=⟨λ_ _ _=>rfl,λ_ _ _=>rfl,λ_ _ _ _=>rfl,λ_ _=>rfl,λ_=>rfl,λ_ _ _=>rfl,λ_ _ _ _=>rfl,λ_ _ _ _=>rfl,λ_ _ _=>rfl,λ_ _ _=>rfl,λ_ _ _ _ _ _=>rfl,λ_ _ _=>rfl,λ_ _=>rfl,λ_ _ _=>rfl,λ_ _ _=>rfl,λ_ _=>rfl⟩
theorem ot(S:ah->Prop):∀{ds:List D}{ρ:ah},(∀ρ,S ρ->∀d∈ds,∃b,g d ρ=.ok b/\S b/\tc b=.ok (c d)/\(c d=RQ->te b=.ok (e d)))->S ρ->eO g tc te ds ρ=.ok ((ds.filter c).map e)
 |[],ρ,_,_=>rfl|d::ds,ρ,h,o=>by
  obtain⟨b,n,m,l,k⟩:=h ρ o d RX;have i:=ot S (ds:=ds) (ρ:=b) (λρ a x j=>h ρ a x (RZ _ j)) m;unfold eO;rw[n,af,l,af];cases f:c d with
  |true=>rw[Ξ2 rfl,k f,af,i,af,YK f];rfl|false=>rw[Ξ3 '2',i,YL (by simp[f])]
end L2
namespace K26
open PySem L2 K26d
noncomputable abbrev V(n:Nat):Ev:=gv.ev (ai defs gv n)
def ou(n f:Nat)(as:List A):(V n).call f as=ai defs gv n f as:=rfl
def az(h:defs[f]?=RM (.df d))(a:as.length=d.np):ai defs gv (n+1) f as=(av (V n) d.body (c8 d.nn as)>>=jW):=by
 show(match defs[f]? with
  |none=>T.stuck|some (.wit t)=>t as|some (.df d)=>if as.length=d.np then do jW (<-av (V n) d.body (c8 d.nn as))else .stuck)=_;rw[h];show(if as.length=d.np then _ else _)=_;rw[Ξ2 a]
def qk(n)(k):ai defs gv (n+1) 17 [.feed,.d (.int k)]=.draw k λi=>.ok (.int i):=rfl
def oM:1000000<=R1:=by decide
def sd(h:k<=1000000):decide (k<=R1)=RQ:=Φ2 (SO h oM)
def Gk(e:fL xs i=RM d)(h:Q d m):(aT (.tup xs) (.int i)).wp m Q:=by
 show(T.get (fL xs i)).wp m Q;rw[e];exact h
def Gm(xs)(i):aT (.lst xs) (.int i)=T.get (fL xs i):=rfl
def rZ(xs:List D)(i:Int):aT (.tup xs) (.int i)=T.get (fL xs i):=rfl
def KI{a:D}:fL (a::r) 0=RM a:=fR rfl
def Qt{a b:D}:fL (a::b::r) 1=RM b:=fR rfl
def NW{xs:List D}(a:0<=i)(h:xs[i.toNat]?=RM d):fL xs i=RM d:=by
 have:=fR h;rwa[show((i.toNat:Nat))=i by omega]at this
def KJ(i j):be .Lt (.int i) (.int j)=.ok (.bl (decide (i<j))):=rfl
def Wp:(∀(a)(m)(Q:c->Nat->Prop),(T.ok a).wp m Q=Q a m)/\(∀(a)(m)(Q),(pure a:T c).wp m Q=Q a m)/\(∀(ρ)(t:T c)(m)(Q),(t.at' ρ).wp m Q=t.wp m Q)/\(∀(a)(m)(Q:c->Nat->Prop),(T.get (RM a)).wp m Q=Q a m)/\(∀(n)(k)(m)(Q:c->Nat->Prop),(T.draw n k).wp m Q=(0<n/\n<1073741824/\0<m/\∀i,0<=i->i<n->(k i).wp (m-1) Q))/\(∀(l)(k)(m)(Q:c->Nat->Prop),(T.perm l k).wp m Q=∀l',l'.Perm l->(k l').wp m Q)/\∀(b:Bool)(x y:T c)(m:Nat)(Q:c->Nat->Prop),(if b=RQ then x else y).wp m Q=if b=RQ then x.wp m Q else y.wp m Q:=⟨T.dO,T.wp_pure,T.wp_at,T.bL,T.fi,T.Gf,T.Gg⟩
def Lm{b c:Type}(f:b->c):(∀(a)(l),(a::l).map f=f a::l.map f)/\([]).map f=[]:=⟨λ_ _=>rfl,rfl⟩
def Ls{c:Type}:(∀(a:c)(l r:List c),(a::l)++r=a::(l++r))/\(∀l:List c,[]++l=l)/\(∀(a:c)(l:List c),(a::l).length=l.length+1)/\([]:List c).length=0/\(∀(a b:c)(l:List c),(a::l).set 0 b=b::l)/\(∀(a b:c)(l:List c)(n:Nat),(a::l).set (n+1) b=a::l.set n b)/\(∀(a:c)(l:List c),(a::l)[0]?=RM a)/\∀(a:c)(l:List c)(n:Nat),(a::l)[n+1]?=l[n]?:=⟨λ_ _ _=>rfl,λ_=>rfl,λ_ _=>rfl,rfl,λ_ _ _=>rfl,λ_ _ _ _=>rfl,λ_ _=>rfl,λ_ _ _=>rfl⟩
def Ix:(∀(xs)(i),aT (.lst xs) (.int i)=T.get (fL xs i))/\(∀(xs)(i),aT (.tup xs) (.int i)=T.get (fL xs i))/\(∀(a)(r:List D),fL (a::r) 0=RM a)/\(∀(a b)(r:List D),fL (a::b::r) 1=RM b)/\∀i j:Int,be .Lt (.int i) (.int j)=.ok (.bl (decide (i<j))):=⟨Gm,rZ,λ_ _=>KI,λ_ _ _=>Qt,KJ⟩
local macro_rules|`(tactic|subst_eqs)=>`(tactic|simp only[LC,KH,Gh,v9,HC,OO,gr,bS,aZ,qb,Wp,T.wp_bind,T.rY,af,ou,qk,iW,jP,uX,gP,uh,yd,c8,A.w,zR,Lm,Ls,Tu,VY,Ww,true_and,and_true,jW,Ix,if_true])
def RJ:decide (0<=R1)=RQ:=sd '1'
def RK:decide (1<=R1)=RQ:=sd '1'
def HD:decide (2<=R1)=RQ:=sd '1'
def Q5:decide (3<=R1)=RQ:=sd '1'
def kO:T.need RQ=.ok ():=rfl
def get_some(a:b):T.get (RM a)=.ok a:=rfl
def Gn(a:b):(T.ok a).calm=.ok a:=rfl
def Cl(a:b):T.get (RM a)=.ok a/\(T.ok a).calm=.ok a:=⟨rfl,rfl⟩
def Sd:T.need RQ=.ok ()/\decide (0<=R1)=RQ/\decide (1<=R1)=RQ/\decide (2<=R1)=RQ/\decide (3<=R1)=RQ:=⟨rfl,RJ,RK,HD,Q5⟩
local macro_rules|`(tactic|bv_omega)=>`(tactic|simp only[KH,Gh,v9,OO,gr,bS,aZ,af,iW,Cl,Sd,Ix,Lm,Ls,VY,if_true])
def j7{g:T ah}{body:ah->T Fl}(h:∀Q:Fl->Nat->Prop,(∀d m,c d m->Q d m)->g.wp m λa b=>(body a).wp b Q):g.wp m λa b=>(body a).wp b c:=h c λ_ _ z=>z
def gY{t:T b}{c}(h:∀Q:b->Nat->Prop,(∀a m,c a m->Q a m)->t.wp m Q):t.wp m c:=h c λ_ _ z=>z
def aR(h:av v s ρ=.ok (.nx ρ')):av v (s∘r) ρ=av v r ρ':=by rw[aL,h];rfl
def ba(h:ak v e ρ=.ok d):av v (.set i e∘r) ρ=av v r (ρ.set i ⇑d):=aR (by rw[yr,h];rfl)
def jm(h:(ak v e ρ).wp m λd a=>(av v r (ρ.set i ⇑d)).wp a Q):(av v (.set i e∘r) ρ).wp m Q:=by
 rw[aL,yr,T.wp_bind,T.wp_bind];exact h
inductive TI(k f:Int)(m:Nat)(ds:List D)(ρ:ah)(m':Nat):Prop|mk(xs:List Int)(x:Int)(o:Option W)(eρ:ρ=[RM .feed,↥k,↥f,RM (.own (.lst (xs.map D.int++[.int x]))),o])(g1:m<=m'+2+(k-1).toNat-ds.length)(g2:ds.length<=(k-1).toNat)(g3:xs.length+1+ds.length=k)(g4:∀y∈xs,0<=y/\y<=1000000)(g5:0<=x)(g6:x<=100000*(xs.length+1))(g7:(xs++[x]).Pairwise (·<·))
def Di(I:1<=k/\k<=7)(H:10<=m):(ai defs gv (n+2) 18 [.feed,.d (.int k)]).wp m (λd v=>m<=v+10/\∃xs:List Int,d=.lst (xs.map D.int)/\(xs.length:Int)=k/\(∀x∈xs,0<=x/\x<=1000000)/\xs.Pairwise (·<·)):=by
 have z:=oM;rw[az rfl rfl];refine gY λQ l=>?_;rw[T.wp_bind];refine jm (gY λO e=>?_);subst_eqs;refine⟨by decide,by decide,by decide,'0',λi K J=>?_⟩;have A:∃f:Int,fL [D.int 1,D.int 3,D.int 90000] i=RM (.int f)/\1<=f/\f<=90000:=by
  rcases(by omega:i=0\/i=1\/i=2)with rfl|rfl|rfl;.exact⟨1,rfl,by decide,by decide⟩
  .exact⟨3,rfl,by decide,by decide⟩
  .exact⟨90000,rfl,by decide,by decide⟩
 obtain⟨f,E,M,L⟩:=A;rw[E,T.bL];refine e _ _ ?_;clear e;subst_eqs;refine⟨'0','0','0',λy y0 y1=>⟨sd '1',by simp;omega,?_⟩⟩;refine eW (TI k f m) ?_ ?_ ⟨[],y,RP,rfl,?_,?_,?_,?_,y0,?_,by simp⟩
 .rintro d N t u⟨xs,x,o,c,s,r,q,p,C,B,g⟩;rw[c];clear c;simp only[Ss]at s r q;refine j7 λQ l=>?_;unfold uC;subst_eqs;simp only[AB,T.bL];subst_eqs;refine⟨'0','0','0',λw G F=>⟨rfl,?_,l _ _ ?_⟩⟩;.simp;omega
  .refine TI.mk (xs++[x]) (x+1+w) ⇑d ?_ '0' '0' (by simp;omega) (λy j=>?_) '0' (by simp;omega) ?_;rotate_left 2
   .rw[ZF];refine⟨g,by simp,λa ha b hb=>?_⟩;rw[Ω1.mp hb];rcases Ω.mp ha with z|z
    .have:=(List.pairwise_append.mp g).2.2 a z x (Ω1.mpr rfl);omega
    .rw[Ω1.mp z];omega
   .simp
   .rcases Ω.mp j with h|h;.exact p y h
    .have:=Ω1.mp h;subst this;constructor<;>omega
 .rintro t u⟨xs,x,o,c,s,r,q,p,C,B,g⟩;rw[c];clear c;unfold uB;subst_eqs;refine l _ _ ⟨by simp at*;omega,xs++[x],by simp,by simp at*;omega,λy j=>?_,g⟩;rcases Ω.mp j with h|h;.exact p y h
  .have:=Ω1.mp h;subst this;simp at q;constructor<;>omega
 .simp[bC];omega
 .simp[bC]
 .simp[bC];omega
 .simp
 .simp;omega
structure Eg where
 i:Int
 j:Int
 l:Int
noncomputable def pt(i j:Int):D:=.tup [.int i,.int j]
noncomputable def eD(e:Eg):D:=.tup [pt e.i e.j,pt (e.i+e.l) (e.j+1-e.l)]
structure Eg.ok(w h:Int)(e:Eg):Prop where
 i0:0<=e.i
 j0:0<=e.j
 lv:e.l=0\/e.l=1
 iw:e.i+e.l<w
 jh:e.j+1-e.l<h
def yt(e):qZ (eD e)=RQ:=rfl
def v_(E:List Eg):(E.map eD).all qZ=RQ:=by
 rw[Tj];intro x a;obtain⟨e,_,rfl⟩:=Ω3.mp a;exact yt e
def KL(E:List Eg):(E.map eD).all JX=RQ:=by
 rw[Tj];intro x a;obtain⟨e,_,rfl⟩:=Ω3.mp a;rfl
def eX(h:ks.all qZ=RQ)(q:qZ d=RQ):aC ks d=RQ:=by
 unfold aC;rw[h,q];simp
def eY{i m:Type}{f}{l' l:List m}(p:l'.Perm l):∀{E},l=E.map f->∃g:List i,g.Perm E/\l'=g.map f:=by induction p with
 |nil=>intro E h;cases E with
  |nil=>exact⟨[],.nil,rfl⟩|cons _ _=>cases h
 |@cons x v u _ r=>
  intro E h;cases E with
  |nil=>cases h|cons e E=>
   injection h with d c;obtain⟨g,q,rfl⟩:=r c;exact⟨e::g,q.cons e,by rw[d];rfl⟩
 |swap x y l=>
  intro E h;match E,h with
  |a::b::E,h=>
   injection h with d c;injection c with c s;exact⟨b::a::E,.swap _ _ _,by rw[d,c,s];rfl⟩
 |trans _ _ k j=>
  intro E h;obtain⟨w,n,c⟩:=j h;obtain⟨t,o,d⟩:=k c;exact⟨t,o.trans n,d⟩
def dA(e:lh d=RM ds)(a:ds.length<=1000000)(hs:jT ds=RQ)(h:∀l',l'.Perm ds->Q (.lst l') m):(oX .sorted [d]).wp m Q:=by
 show(ud d).wp m Q;have b:ud d=(do let ds<-T.get (lh d);T.need (decide (ds.length<=R1)&&jT ds);T.perm ds λl=>.ok (.lst l)):=by cases d<;>first|rfl|cases e
 rw[b,T.wp_bind,T.KG];refine⟨ds,e,?_⟩;rw[T.wp_bind,T.rY];exact⟨by rw[hs,sd a];rfl,h⟩
def Dj(E)(vs)(e)(x):∃b a,putD (E.map eD) vs (eD e) x=(b.map eD,a)/\(b=E\/b=E++[e]):=by
 unfold putD;split;.exact⟨E,_,rfl,.inl rfl⟩
 .exact⟨E++[e],vs++[x],by simp,.inr rfl⟩
def KN(p:E.length<=84):∃(e:List Eg)(b:List D),av (V k) j6 [s0,↥w,↥h,RM (.own (.aO (E.map eD) vs)),o4,↥i,↥j,↥l,o8,o9]=.ok (.nx [s0,↥w,↥h,RM (.own (.aO (e.map eD) b)),o4,↥(i+l),↥(j+1-l),↥l,o8,⇑(pt (i+l) (j+1-l))])/\(e=E\/e=E++[⟨i,j,l⟩]/\i+l<w/\j+1-l<h):=by
 have z:=oM;have f:decide (2<=R1)=RQ:=sd '1';unfold j6;have a:∀{e:List Eg}{b},av (V k) (.asg (.tup 2 (.nm 5∘.nm 6∘.nil)) ↑9∘.nil) [s0,↥w,↥h,RM (.own (.aO (e.map eD) b)),o4,↥i,↥j,↥l,o8,⇑(pt (i+l) (j+1-l))]=.ok (.nx [s0,↥w,↥h,RM (.own (.aO (e.map eD) b)),o4,↥(i+l),↥(j+1-l),↥l,o8,⇑(pt (i+l) (j+1-l))]):=rfl;have t:bN (V k) (.fI (.aK .Lt (.idx ↑9 (.cst (.int 0))) ↑1) (.d8 (.aK .Lt (.idx ↑9 (.cst (.int 1))) ↑2))) [s0,↥w,↥h,RM (.own (.aO (E.map eD) vs)),o4,↥i,↥j,↥l,o8,⇑(pt (i+l) (j+1-l))]=.ok (decide (i+l<w)&&decide (j+1-l<h)):=by
  show(if decide (i+l<w)=RQ then T.ok (decide (j+1-l<h))else T.ok RT)=_;cases decide (i+l<w)<;>rfl
 rw[ba (by
  show(T.need (decide (2<=R1))>>=λ_=>T.ok (D.tup [.int (i+l),.int (j+1-l)]))=_;rw[f];rfl)];show∃e b,av (V k) _ [s0,↥w,↥h,RM (.own (.aO (E.map eD) vs)),o4,↥i,↥j,↥l,o8,⇑(pt (i+l) (j+1-l))]=_/\_;by_cases c:i+l<w/\j+1-l<h
 .obtain⟨e,b,n,m⟩:=Dj E vs ⟨i,j,l⟩ (.bl RQ);refine⟨e,b,?_,m.imp id λq=>⟨q,c⟩⟩;rw[aR,a];rw[bg,t,af,Φ2 c.1,Φ2 c.2];have o:ak (V k) (.tup (.tup (↑5∘↑6∘.nil)∘↑9∘.nil)) [s0,↥w,↥h,RM (.own (.aO (E.map eD) vs)),o4,↥i,↥j,↥l,o8,⇑(pt (i+l) (j+1-l))]=.ok (eD ⟨i,j,l⟩):=by
   show((((T.need (decide (2<=R1))>>=λ_=>T.ok (D.tup [.int i,.int j]))>>=λd=>T.ok [A.d d,A.d (pt (i+l) (j+1-l))])>>=gr)>>=λg=>T.need (decide (g.length<=R1))>>=λ_=>T.ok (D.tup g))=_;rw[f];show(T.need (decide (2<=R1))>>=λ_=>T.ok (eD ⟨i,j,l⟩))=_;rw[f];rfl
  rw[Ξ2 (by rfl),aR];.rfl
  .show(ak (V k) (.tup (.tup (↑5∘↑6∘.nil)∘↑9∘.nil)) _>>=λq=>T.need (decide ((E.map eD).length<R1)&&aC (E.map eD) q)>>=λ_=>T.ok (Fl.nx [s0,↥w,↥h,RM (.own (.aO (putD (E.map eD) vs q (.bl RQ)).1 (putD (E.map eD) vs q (.bl RQ)).2)),o4,↥i,↥j,↥l,o8,⇑(pt (i+l) (j+1-l))]))=_;rw[o,af,eX (v_ E) (yt _),Φ2 (show(E.map eD).length<R1 by rw[RV];omega),n];rfl
 .refine⟨E,vs,?_,.inl rfl⟩;rw[aR,a];rw[bg,t,af,Ξ3];.rfl
  .rw[R4,Φ,Φ];exact c
inductive Q6(w h:Int)(m:Nat)(ds:List D)(ρ:ah)(m':Nat):Prop|mk(E:List Eg)(vs:List D)(o4 o5 o6 o7 o8 o9:Option W)(eρ:ρ=[RM .feed,↥w,↥h,RM (.own (.aO (E.map eD) vs)),o4,o5,o6,o7,o8,o9])(g1:ds.length<=12)(g2:m<=m'+1+4*(12-ds.length))(g3:E.length+7*ds.length<=84)(g4:∀e∈E,e.ok w h)
inductive Q8(w h:Int)(d:D)(l:Int)(m1:Nat)(ds ds':List D)(ρ:ah)(m':Nat):Prop|mk(E:List Eg)(vs:List D)(i j:Int)(o8 o9:Option W)(eρ:ρ=[RM .feed,↥w,↥h,RM (.own (.aO (E.map eD) vs)),⇑d,↥i,↥j,↥l,o8,o9])(hm:m'=m1-1-1-1-1)(k1:E.length+ds'.length+7*ds.length<=84)(k2:∀e∈E,e.ok w h)(k3:0<=i)(k4:0<=j)
def Dl(hw:2<=w/\w<=7)(hh:2<=h/\h<=6)(hm:60<=m):(ai defs gv (n+2) 19 [.feed,.d (.int w),.d (.int h)]).wp m (λd N=>m<=N+60/\∃E:List Eg,d=.lst (E.map eD)/\E.length<=84/\∀e∈E,e.ok w h):=by
 rw[az rfl rfl];unfold gk;refine gY λQ u=>?_;subst_eqs;refine⟨by decide,by decide,'0',λt X W=>⟨by simp;omega,?_⟩⟩;refine eW (Q6 w h m) ?_ ?_ ⟨[],[],RP,RP,RP,RP,RP,RP,rfl,?_,?_,?_,?_⟩
 .rintro d ds o F⟨E,vs,o4,M,L,K,o8,o9,a,I,y,x,v⟩;rw[a];clear a;simp only[Ss]at I y x;refine j7 λQ u=>?_;unfold uE;subst_eqs;refine⟨'0','0','0',λi i0 i1=>⟨'0','0','0',λj j0 j1=>⟨by decide,by decide,'0',λl l0 l1=>⟨sd '1',?_⟩⟩⟩⟩;have O:∃f:Int,fL [D.int h,D.int w] l=RM (.int f)/\2<=f/\f<=7:=by
   rcases(by omega:l=0\/l=1)with rfl|rfl;.exact⟨h,rfl,'0','0'⟩
   .exact⟨w,rfl,'0','0'⟩
  obtain⟨f,P,f1,f2⟩:=O;rw[P,T.bL];subst_eqs;refine⟨'0','0','0',λq Z Y=>⟨by simp;omega,?_⟩⟩;refine eW (Q8 w h d l F ds) ?_ ?_ ⟨E,vs,i,j,o8,o9,rfl,rfl,?_,v,i0,j0⟩
  .rintro J R o C⟨E,vs,i,j,o8,o9,a,c,s,g,H,G⟩;rw[a];clear a;simp only[Ss]at s;obtain⟨A,r,e,b⟩:=KN (E:=E) '0';show(av (V (n+1)) j6 [RM .feed,↥w,↥h,RM (.own (.aO (E.map eD) vs)),⇑d,↥i,↥j,↥l,⇑J,o9]).wp C _;rw[e];refine Q8.mk A r _ _ _ _ rfl c ?_ ?_ '0' '0'
   .rcases b with rfl|⟨rfl,_⟩;.omega
    .simp;omega
   .rcases b with rfl|⟨rfl,U,S⟩;.exact g
    .intro e b;rcases Ω.mp b with q|q;.exact g e q
     .rw[Ω1.mp q];exact⟨H,G,by show l=0\/l=1;omega,U,S⟩
  .rintro o C⟨E,vs,i,j,o8,o9,a,c,s,g,H,G⟩;rw[a];exact u _ _ (Q6.mk E vs _ _ _ _ _ _ rfl '0' '0' (by simpa using s) g)
  .simp[bC];omega
 .rintro o F⟨E,vs,o4,M,L,K,o8,o9,a,I,y,x,v⟩;rw[a];clear a;unfold uD;subst_eqs;simp only[Td]at y x;refine dA rfl (by rw[RV];omega) (by unfold jT;rw[KL];simp) λl' p=>?_;obtain⟨A,B,rfl⟩:=eY p rfl;exact u _ _ ⟨'0',A,rfl,by rw[B.length_eq];omega,λe b=>v e (B.mem_iff.mp b)⟩
 .simp[bC];omega
 .simp[bC];omega
 .simp[bC];omega
 .simp
abbrev Pt:=Int×Int
noncomputable def ao(p:Pt):D:=.tup [.int p.1,.int p.2]
def r8(P:List Pt):(P.map ao).all qZ=RQ:=by
 rw[Tj];intro x a;obtain⟨e,_,rfl⟩:=Ω3.mp a;rfl
def r9(p q):gH (ao p) (ao q)=decide (p=q):=by
 obtain⟨a,b⟩:=p;obtain⟨c,d⟩:=q;simp[gH,ao,jL,zB,jK]
def Dm(P:List Pt)(p):dr (P.map ao) (ao p)=decide (p∈P):=by
 unfold dr;rw[aaL];induction P with
 |nil=>rfl|cons q P a=>
  rw[Vb,a];simp only[Function.comp,r9];by_cases h:q=p;.simp[h]
  .simp[eq_comm]
theorem ox:∀{ks vs:List D}{d v:D},aP ks vs d=RM v->v∈vs
 |[],_,_,_,h=>by simp[aP]at h|_::_,[],_,_,h=>by simp[aP]at h|k::ks,w::vs,d,v,h=>by
  unfold aP at h;split at h;.cases h;exact RX
  .exact RZ _ (ox h)
def zW{P:List Pt}(a:vs.length=P.length)(h:p∈P):∃v,aP (P.map ao) vs (ao p)=RM v:=by induction P generalizing vs with
 |nil=>cases h|cons q P b=>cases vs with
  |nil=>simp at a|cons w vs=>
   show∃v,(if gH (ao q) (ao p)=RQ then RM w else aP (P.map ao) vs (ao p))=RM v;rw[r9];by_cases e:q=p;.simp[e]
   .rw[Φ1 e];rcases Ω2.mp h with z|z;.exact Ξ1 z.symm e
    .simpa using b (by simpa using a) z
theorem uI:∀{ks vs:List D}{d x v:D},v∈fc ks vs d x->v∈vs\/v=x
 |[],vs,_,_,_,h=>by cases vs<;>simp[fc]at h|_::_,[],_,_,_,h=>by simp[fc]at h|k::ks,w::vs,d,x,v,h=>by
  unfold fc at h;rcases Ω2.mp h with z|z
  .split at z;.exact .inr z
   .exact .inl (z▸RX)
  .rcases uI z with q|q;.exact .inl (RZ _ q)
   .exact .inr q
theorem uJ:∀{ks vs:List D}{d x:D},vs.length=ks.length->(fc ks vs d x).length=ks.length
 |[],vs,_,_,h=>by cases vs<;>simp[fc]at*|_::_,[],_,_,h=>by simp at h|k::ks,w::vs,d,x,h=>by
  unfold fc;simp only[Ss]at h⊢;rw[uJ '0']
def KO{P:List Pt}(p)(x)(g:P.Nodup)(i:vs.length=P.length):∃(d:List Pt)(c:List D),putD (P.map ao) vs (ao p) x=(d.map ao,c)/\d.Nodup/\c.length=d.length/\(∀q∈d,q∈P\/q=p)/\(∀v∈c,v∈vs\/v=x)/\d.length<=P.length+1:=by
 unfold putD;rw[Dm];by_cases h:p∈P
 .rw[Φ2 h];exact⟨P,_,rfl,g,by rw[uJ (by simpa using i)];simp,λq f=>.inl f,λv e=>uI e,'0'⟩
 .rw[Φ1 h];refine⟨P++[p],vs++[x],by simp,?_,by simp[i],λq f=>?_,λv e=>?_,by simp⟩
  .rw[Uc];refine⟨g,by simp,λa ha b hb=>?_⟩;rw[Ω1.mp hb];exactλz=>h (z▸ha)
  .rcases Ω.mp f with z|z;.exact .inl z
   .exact .inr (Ω1.mp z)
  .rcases Ω.mp e with z|z;.exact .inl z
   .exact .inr (Ω1.mp z)
def ma(i j):be .Eq (.int i) (.int j)=.ok (.bl (i==j)):=rfl
def NX(c:Nat)(v:D):Prop:=∃ns:List Int,v=.lst (ns.map D.int)/\ns.length<=c
structure oy(w h:Int)(c:Nat)(P:List Pt)(vs:List D):Prop where
 nd:P.Nodup
 len:vs.length=P.length
 sz:P.length<=c
 val:∀v∈vs,NX c v
 yO:∀p∈P,0<=p.1/\p.1<w/\0<=p.2/\p.2<h
def oy.put(W:oy w h c P vs)(p)(x)(d:NX (c+1) x)(i:0<=p.1/\p.1<w/\0<=p.2/\p.2<h):∃ b a ,putD (P.map ao) vs (ao p) x=(b.map ao,a)/\oy w h (c+1) b a:=by
 obtain⟨b,a,e,m,l,k,j,o⟩:=KO p x W.nd W.len;refine⟨b,a,e,m,l,by have:=W.sz;omega,λv f=>?_,λq g=>?_⟩
 .rcases j v f with z|z
  .obtain⟨ns,e,n⟩:=W.val v z;exact⟨ns,e,'0'⟩
  .rw[z];exact d
 .rcases k q g with z|z;.exact W.yO q z
  .rw[z];exact i
def oy.get(W:oy w h c P vs)(p):∃ns:List Int,(aP (P.map ao) vs (ao p)).getD (.lst [])=.lst (ns.map D.int)/\ns.length<=c:=by cases e:aP (P.map ao) vs (ao p)with
 |none=>exact⟨[],rfl,SH _⟩|some v=>
  obtain⟨ns,e,a⟩:=W.val v (ox e);exact⟨ns,e,a⟩
theorem ql:∀(l:Bool)(ns:List Int),nq l (ns.map D.int)=RQ
 |_,[]=>rfl|l,n::ns=>by simp[nq,flat,ql l ns]
def yu{r:ah}(e:oy w h c P vs)(l:0<=p.1/\p.1<w/\0<=p.2/\p.2<h)(i:∀o,ak (V k) a (x0::o::r)=.ok (ao p))(m:∀o,ak (V k) xe (x0::o::r)=.ok (.int y))(E:c<=1000):∃ j b ,av (V k) (.put 1 a (.oK 1 (.op .Add (.rE ↑1 (a∘.lst .nil∘.nil)) (.lst (xe∘.nil))))) (x0::RM (.own (.aO (P.map ao) vs))::r)=.ok (.nx (x0::RM (.own (.aO (j.map ao) b))::r))/\oy w h (c+1) j b:=by
 have z:=oM;obtain⟨ns,n,F⟩:=e.get p;obtain⟨C,f,s,B⟩:=e.put p (.lst ((ns++[y]).map D.int)) ⟨_,rfl,by simp;omega⟩ l;refine⟨C,f,?_,B⟩;have g:aC (P.map ao) (ao p)=RQ:=eX (r8 P) rfl;have A:ya (.aO (P.map ao) vs) [ao p,.lst []]=.ok (.lst (ns.map D.int)):=by
  show(T.need (aC (P.map ao) (ao p)&&decide ((P.map ao).length=vs.length))>>=λ_=>T.ok ((aP (P.map ao) vs (ao p)).getD (.lst [])))=_;rw[g,Φ2 (by rw[RV,e.len]),n];rfl
 have x:qb .Add (.lst (ns.map D.int)) (.lst [.int y])=.ok (.lst ((ns++[y]).map D.int)):=by
  show(T.need (decide ((ns.map D.int).length+1<=R1))>>=λ_=>T.ok (D.lst (ns.map D.int++[.int y])))=_;rw[Φ2 (by rw[RV];omega),SA];rfl
 have v:ak (V k) (.op .Add (.rE ↑1 (a∘.lst .nil∘.nil)) (.lst (xe∘.nil))) (x0::⇑(.aO (P.map ao) vs)::r)=.ok (.lst ((ns++[y]).map D.int)):=by
  bv_omega;rw[i,m];bv_omega;rw[show T.need (tM (.aO (P.map ao) vs))=.ok ()from rfl,af,A,af,x]
 have u:(T.need (flat RQ (.lst ((ns++[y]).map D.int))))=.ok ():=by
  unfold flat;rw[ql];rfl
 have t:(T.need (decide ((P.map ao).length<R1)&&aC (P.map ao) (ao p)))=.ok ():=by rw[g,Φ2 (by rw[RV];have:=e.sz;omega)];rfl
 show((ak (V k) (.op .Add (.rE ↑1 (a∘.lst .nil∘.nil)) (.lst (xe∘.nil))) (x0::⇑(.aO (P.map ao) vs)::r)>>=λd=>T.need (flat RQ d)>>=λ_=>T.ok d)>>=λd=>ak (V k) a (x0::RM (.own (.aO (P.map ao) vs))::r)>>=λq=>T.need (decide ((P.map ao).length<R1)&&aC (P.map ao) q)>>=λ_=>T.ok (Fl.nx (x0::RM (.own (.aO (putD (P.map ao) vs q d).1 (putD (P.map ao) vs q d).2))::r)))=_;rw[v,af,u,af,af,i,af,t,af,s]
def KP(W:oy w h c P vs)(l:0<=i/\i<w/\0<=j/\j<h)(g:0<=u/\u<w/\0<=v/\v<h)(x:c<=900):∃ e a ,av (V k) lW [X0,RM (.own (.aO (P.map ao) vs)),↥i,↥j,↥u,↥v]=.ok (.nx [X0,RM (.own (.aO (e.map ao) a)),↥i,↥j,↥u,↥v])/\oy w h (c+1+1) e a:=by
 have n:∀o,ak (V k) (.tup (↑2∘↑3∘.nil)) (X0::o::[↥i,↥j,↥u,↥v])=.ok (ao (i,j)):=λo=>by
  show(T.need (decide (2<=R1))>>=λ_=>T.ok (D.tup [.int i,.int j]))=_;rw[HD];rfl
 have m:∀o,ak (V k) (.tup (↑4∘↑5∘.nil)) (X0::o::[↥i,↥j,↥u,↥v])=.ok (ao (u,v)):=λo=>by
  show(T.need (decide (2<=R1))>>=λ_=>T.ok (D.tup [.int u,.int v]))=_;rw[HD];rfl
 obtain⟨z,f,q,s⟩:=yu (xe:=.bi .int (.cmp .Eq ↑2 ↑4∘.nil)) W l n (λo=>rfl) '0';obtain⟨t,b,p,r⟩:=yu (xe:=.op .Add (.cst (.int 2)) (.bi .int (.cmp .Eq ↑2 ↑4∘.nil))) s g m (λo=>rfl) '0';refine⟨t,b,?_,r⟩;unfold lW;rw[aR q,aR p];rfl
def Gp{E:List Eg}(M:∀e∈E,e.ok w h)(J:E.length<=84):(ai defs gv (n+1) 20 [.d (.lst (E.map eD))]).wp m (λd y=>y=m/\∃(P:List Pt)(vs:List D),d=.aO (P.map ao) vs/\oy w h 168 P vs):=by
 have z:=oM;rw[az (d:=gW) rfl rfl];unfold gW;refine gY λQ L=>?_;subst_eqs;simp only[gL,T.bL];generalize D.lst (E.map eD)=X0;refine eW (λG p y=>y=m/\∃(f:List Eg)(P:List Pt)(vs:List D)(c:Nat)(x t s r:Option W),G=f.map eD/\(∀e∈f,e.ok w h)/\c+2*f.length<=168/\p=[⇑X0,RM (.own (.aO (P.map ao) vs)),x,t,s,r]/\oy w h c P vs) ?_ ?_ ⟨rfl,E,[],[],0,RP,RP,RP,RP,rfl,M,'0',rfl,⟨List.nodup_nil,rfl,by simp,by simp,by simp⟩⟩
 .rintro d G p C⟨g,f,P,vs,c,x,t,s,r,hd,o,F,b,W⟩;rw[b];clear b;cases f with
  |nil=>cases hd|cons e f=>
   rw[(Ug hd).1,(Ug hd).2];clear hd;have a:=o e RX;simp only[Ss]at F;have I:0<=e.i/\e.i<w/\0<=e.j/\e.j<h:=by
    have:=a.lv;have:=a.iw;have:=a.jh;have:=a.i0;have:=a.j0;omega
   have H:0<=e.i+e.l/\e.i+e.l<w/\0<=e.j+1-e.l/\e.j+1-e.l<h:=by
    have:=a.lv;have:=a.iw;have:=a.jh;have:=a.i0;have:=a.j0;omega
   obtain⟨R,q,B,O⟩:=KP (k:=n) (X0:=⇑X0) W I H '0';generalize hu:e.i+e.l=u at B;generalize A:e.j+1-e.l=v at B;have N:eD e=.tup [.tup [.int e.i,.int e.j],.tup [.int u,.int v]]:=by rw[<-hu,<-A];rfl
   rw[N];show(av (V n) lW [⇑X0,RM (.own (.aO (P.map ao) vs)),↥e.i,↥e.j,↥u,↥v]).wp C _;rw[B];exact⟨g,f,R,q,c+1+1,_,_,_,_,rfl,λe K=>o e (RZ _ K),'0',rfl,O⟩
 .rintro p C⟨g,f,P,vs,c,x,t,s,r,hd,o,F,b,W⟩;rw[b];unfold yk;subst_eqs;exact L _ _ ⟨g,P,vs,rfl,W.nd,W.len,by have:=W.sz;omega,λv A=>by
   obtain⟨ns,e,J⟩:=W.val v A;exact⟨ns,e,'0'⟩,W.yO⟩
def wa(d)(xs):be .In d (.tup xs)=(T.get (jG d xs)>>=λb=>.ok (.bl b)):=rfl
def lC(d)(xs):be .NotIn d (.tup xs)=(T.get (jG d xs)>>=λb=>.ok (.bl (!b))):=rfl
def uK(d)(xs):be .NotIn d (.lst xs)=(T.get (jG d xs)>>=λb=>.ok (.bl (!b))):=rfl
theorem oz(k:Nat):∀(xs a:List Int),∃b,bp (dh (k+1)) (xs.map D.int) (a.map D.int)=RM b
 |[],[]=>⟨_,rfl⟩|[],_::_=>⟨_,rfl⟩|_::_,[]=>⟨_,rfl⟩|x::xs,y::a=>by
  obtain⟨b,e⟩:=oz k xs a;simp only[Sr,bp];have:dh (k+1) (.int x) (.int y)=RM (x==y):=rfl;rw[this];cases x==y<;>simp[e]
def yw(k)(xs a:List Int):∃b,dh (k+2) (.lst (xs.map D.int)) (.lst (a.map D.int))=RM b:=by
 obtain⟨b,e⟩:=oz k xs a;refine⟨b&&(xs.map D.int).length==(a.map D.int).length,?_⟩;show(bp (dh (k+1)) (xs.map D.int) (a.map D.int)).map (λb=>b&&(xs.map D.int).length==(a.map D.int).length)=_;rw[e];rfl
def Gq(ns:List Int):(ns.map D.int).all JC=RQ:=by
 rw[Tj];intro x a;obtain⟨e,_,rfl⟩:=Ω3.mp a;rfl
def uL{ns:List Int}(j:ns.length<=1000):(ai defs gv (n+1) 21 [.d (.lst (ns.map D.int))]).wp m (λd g=>g=m/\∃b,d=.bl b):=by
 rw[az rfl rfl];unfold cR;subst_eqs;refine dA rfl (by rw[RV];omega) (by unfold jT;rw[Gq];rfl) λi p=>?_;obtain⟨a,h,rfl⟩:=eY p rfl;refine⟨sd '1',sd '1',sd '1',?_⟩;obtain⟨b1,e⟩:=yw 48 [0,2] a;obtain⟨f,c⟩:=yw 48 [1,3] a;have e:dh 50 (.lst [.int 0,.int 2]) (.lst (a.map D.int))=RM b1:=e;have c:dh 50 (.lst [.int 1,.int 3]) (.lst (a.map D.int))=RM f:=c;rw[wa,T.wp_bind];have:jG (.lst (a.map D.int)) [.lst [.int 0,.int 2],.lst [.int 1,.int 3]]=RM (b1||(f||RT)):=by
  unfold jG;rw[e];unfold jG;rw[c];rfl
 rw[this];exact⟨rfl,_,rfl⟩
def wb(P:List Pt):(P.map ao).all FE=RQ:=by
 rw[Tj];intro x a;obtain⟨e,_,rfl⟩:=Ω3.mp a;rfl
def Gu(a:aC ks d=RQ)(e:aP ks vs d=RM v)(h:Q v m):(aT (.aO ks vs) d).wp m Q:=by
 show(T.need (aC ks d)>>=λ_=>T.get (aP ks vs d)).wp m Q;rw[T.wp_bind,T.rY,a,e];exact⟨rfl,h⟩
structure Num(w h:Int)(A:List (Pt×Int)):Prop where
 nd:(A.map (·.1)).Nodup
 inj:∀a∈A,∀b∈A,a.2=b.2->a.1=b.1
 val:∀a∈A,0<=a.2/\a.2<1000
 yO:∀a∈A,0<=a.1.1/\a.1.1<w/\0<=a.1.2/\a.1.2<h
 sz:A.length<=168
noncomputable def gx(A:List (Pt×Int)):D:=.aO (A.map λa=>ao a.1) (A.map λa=>.int a.2)
noncomputable def en(k:Nat):List Pt->List D
 |[]=>[]|p::r=>.tup [.int k,ao p]::en (k+1) r
def Gw(P):iG (P.map ao)=en 0 P:=by
 unfold iG;generalize 0=k;induction P generalizing k with
 |nil=>rfl|cons p P a=>
  simp only[Sr,List.zipIdx_cons];rw[a];rfl
def wc(k)(P):(en k P).length=P.length:=by induction P generalizing k with
 |nil=>rfl|cons p P a=>simp[en,a]
def steps{b s k1 k2:Int}(hs:s=1\/s=7\/s=333\/s=999\/s=101\/s=613)(c:0<=k1/\k1<1000)(a:0<=k2/\k2<1000)(h:(b+s*k1)%1000=(b+s*k2)%1000):k1=k2:=by rcases hs with rfl|rfl|rfl|rfl|rfl|rfl<;>omega+splitNatSub
def Dp{A}(p)(v)(h:p∉A.map (·.1)):putD (A.map λa=>ao a.1) (A.map λa=>.int a.2) (ao p) (.int v)=((A++[(p,v)]).map λa=>ao a.1,(A++[(p,v)]).map λa=>.int a.2):=by
 unfold putD;have:(A.map λa=>ao a.1)=(A.map (·.1)).map ao:=by simp
 rw[this,Dm,Φ1 h];simp
def KQ(h:av v a ρ=.ok (.nx ρ'))(H:(bN v c ρ).wp m (λb d=>Q (.nx (if b=RQ then ρ' else ρ)) d)):(av v (.iff c a .nil∘.nil) ρ).wp m Q:=by
 rw[aL,bg,h,T.wp_bind,T.wp_bind];refine T.wp_mono (λb d q=>?_) H;cases b with
 |true=>exact q|false=>exact q
def Gx{A}(f:p∉A.map (·.1))(hs:dw s=RQ)(h:A.length<=400):av (V k) (.put 5 ↑7 (.op .Mod (.op .Add ↑3 (.op .Mult ↑4 ↑6)) (.cst (.int 1000)))∘.nil) [x0,x1,x2,↥b,↥s,RM (.own (gx A)),↥j,⇑(ao p)]=.ok (.nx [x0,x1,x2,↥b,↥s,RM (.own (gx (A++[(p,(b+s*j)%1000)]))),↥j,⇑(ao p)]):=by
 have z:=oM;have g:ak (V k) (.op .Mod (.op .Add ↑3 (.op .Mult ↑4 ↑6)) (.cst (.int 1000))) [x0,x1,x2,↥b,↥s,RM (.own (gx A)),↥j,⇑(ao p)]=.ok (.int ((b+s*j)%1000)):=by
  show((((T.need (dw s||dw j)>>=λ_=>T.ok (D.int (s*j)))>>=λe=>qb .Add (.int b) e)>>=λd=>qb .Mod d (.int 1000)))=_;rw[hs];rfl
 have c:aC (A.map λa=>ao a.1) (ao p)=RQ:=by
  have:(A.map λa=>ao a.1)=(A.map (·.1)).map ao:=by simp
  rw[this];exact eX (r8 _) rfl
 refine(aR ?_).trans rfl;rw[Gj,g,af];show(T.need (decide ((A.map λa=>ao a.1).length<R1)&&aC (A.map λa=>ao a.1) (ao p))>>=λ_=>T.ok (Fl.nx [x0,x1,x2,↥b,↥s,RM (.own (.aO (putD (A.map λa=>ao a.1) (A.map λa=>.int a.2) (ao p) (.int ((b+s*j)%1000))).1 (putD (A.map λa=>ao a.1) (A.map λa=>.int a.2) (ao p) (.int ((b+s*j)%1000))).2)),↥j,⇑(ao p)]))=_;rw[c,Φ2 (show(A.map λa=>ao a.1).length<R1 by rw[RV];omega),Dp p _ f];rfl
inductive NI(P':List Pt)(X0 XP:D)(b s:Int)(m1:Nat)(ds:List D)(ρ:ah)(m':Nat):Prop|mk(Pd Pr:List Pt)(A:List (Pt×Int))(o6 o7:Option L2.W)(g1:m1<=m'+(P'.length-ds.length))(hP:P'=Pd++Pr)(hd:ds=en Pd.length Pr)(eρ:ρ=[RM L2.W.feed,RM (L2.W.d X0),RM (L2.W.d XP),RM (L2.W.d (D.int b)),RM (L2.W.d (D.int s)),RM (L2.W.own (gx A)),o6,o7])(g2:(A.map (·.1)).Nodup)(g3:A.length<=Pd.length)(g4:∀a∈A,∃k:Nat,Pd[k]?=RM a.1/\a.2=(b+s*k)%1000)
def uM{E:List Eg}(hE:∀e∈E,e.ok w h)(hl:E.length<=84)(hm:200<=m):(ai defs gv (n+2) 25 [.feed,.d (.lst (E.map eD))]).wp m (λd m'=>m<=m'+200/\∃A:List (Pt×Int),d=gx A/\Num w h A):=by
 have z:=oM;rw[az (d:=dY) rfl rfl];unfold dY;refine gY λQ H=>?_;rw[T.wp_bind];refine gY λQ2 Y=>?_;refine jm ?_;subst_eqs;refine wp_call (Gp hE hl) ?_;intro d m0 X;obtain⟨e0,P,B,l,W⟩:=X;rw[l,e0];clear e0 l;show(av (V (n+1)) gV [RM .feed,⇑(.lst (E.map eD)),⇑(.aO (P.map ao) B),RP,RP,RP,RP,RP]).wp m Q2;have key:∀(b s:Int)(r:Nat),m<=r+3->(s=1\/s=7\/s=333\/s=999\/s=101\/s=613)->(av (V (n+1)) gU [RM L2.W.feed,RM (L2.W.d (D.lst (aba eD E))),RM (L2.W.d (D.aO (aba ao P) B)),RM (L2.W.d (D.int b)),RM (L2.W.d (D.int s)),RP,RP,RP]).wp r Q2:=by
  intro b s r a3 G;unfold gU;subst_eqs;refine dA (ds:=P.map ao) rfl (by rw[RV];have:=W.sz;omega) (by unfold jT;rw[wb];simp) λl' pm=>?_;obtain⟨O,K,rfl⟩:=eY pm rfl;have F:O.Nodup:=K.nodup_iff.mpr W.nd;have R:O.length<=168:=by rw[K.length_eq];exact W.sz
  subst_eqs;rw[Gw];generalize D.lst (aba eD E)=N;refine eW (NI O N (D.aO (aba ao P) B) b s r) ?_ ?_ ⟨[],O,[],RP,RP,?_,rfl,rfl,rfl,?_,?_,?_⟩
  .rintro d ds ρ m2⟨f,o,A,o6,o7,Z,rfl,hd,j,L,g3,u⟩;rw[j];clear j;cases o with
   |nil=>cases hd|cons p o=>
    rw[(Ug hd).2]at Z;rw[(Ug hd).1,(Ug hd).2];clear hd;simp only[Ss,wc,SR]at Z;have hp:p∈P:=K.mem_iff.mp '2';obtain⟨v,I⟩:=zW W.len hp;obtain⟨ns,rfl,a2⟩:=W.val v (ox I);have t:p∉A.map (·.1):=λq=>by
     obtain⟨a,ha,rfl⟩:=Ω3.mp q;obtain⟨k,hk,_⟩:=u a ha;have:=SE hk;rw[Uc]at F;exact F.2.2 _ this _ RX rfl
    have sm:dw s=RQ:=by
     unfold dw;rw[R4,Φ,Φ];constructor<;>omega
    have a0:f.length+(o.length+1)<=168:=by simpa using R
    have go:∀(g:Nat),r<=g+(f.length+1)->r<=g+((f++p::o).length-(en (f.length+1) o).length):=λg h=>by rw[wc,SR,Ss];omega
    have C:∀a∈A,∃k:Nat,(f++[p])[k]?=RM a.1/\a.2=(b+s*k)%1000:=λa ha=>by
     obtain⟨k,l,J⟩:=u a ha;exact⟨k,by rw[TB (Ω0.mp l).1];exact l,J⟩
    refine j7 λQ H=>?_;show(av (V (n+1)) gS [RM .feed,⇑N,⇑(.aO (P.map ao) B),↥b,↥s,RM (.own (gx A)),↥f.length,⇑(ao p)]).wp m2 Q;have keep:∀(g:Nat),r<=g+(f.length+1)->Q (.nx [RM .feed,⇑N,⇑(.aO (P.map ao) B),↥b,↥s,RM (.own (gx A)),↥f.length,⇑(ao p)]) g:=λg h=>H _ _ (NI.mk (f++[p]) o A _ _ (go g h) '2' '2' rfl L (by simp;omega) C);have add:∀(g:Nat),r<=g+(f.length+1)->Q (.nx [RM .feed,⇑N,⇑(.aO (P.map ao) B),↥b,↥s,RM (.own (gx (A++[(p,(b+s*f.length)%1000)]))),↥f.length,⇑(ao p)]) g:=λg h=>by
     refine H _ _ (NI.mk (f++[p]) o (A++[(p,(b+s*f.length)%1000)]) _ _ (go g h) '2' '2' rfl ?_ (by simp;omega) ?_)
     .rw[SA,Uc];refine⟨L,by simp,λx hx y hy=>?_⟩;rw[Ω1.mp hy];exactλq=>t (by rw[show x=p from q]at hx;exact hx)
     .intro a ha;rcases Ω.mp ha with q|q;.exact C a q
      .rw[Ω1.mp q];exact⟨f.length,by simp,rfl⟩
    clear H;unfold gS;refine KQ (Gx t sm '0') ?_;subst_eqs;refine Gu (eX (r8 P) rfl) I (wp_call (uL '0') ?_);intro d m3 U;obtain⟨e3,bb,e4⟩:=U;rw[e4,e3];show(T.get (RM bb)).wp _ _;rw[T.bL];cases bb with
    |false=>exact add _ '0'|true=>
     simp only[Tv,Sg,if_false,ma,T.dO];refine⟨by decide,by decide,'0',λq q0 q1=>?_⟩;cases q==0 with
     |true=>exact add _ '0'|false=>exact keep _ '0'
  .rintro ρ m2⟨f,o,A,o6,o7,Z,rfl,hd,j,L,g3,u⟩;rw[j];clear j;have:o=[]:=by cases o with
    |nil=>rfl|cons _ _=>cases hd
   subst this;unfold lB;subst_eqs;simp only[TF,Td]at*;refine Y _ _ (H _ _ ⟨'0',A,rfl,L,λa ha c hc e=>?_,λa ha=>?_,λa ha=>?_,'0'⟩)
   .obtain⟨S,l,M⟩:=u a ha;obtain⟨k2,J,f2⟩:=u c hc;have l1:=(Ω0.mp l).1;have l2:=(Ω0.mp J).1;rw[M,f2]at e;have:=steps G '0' '0' e;have:S=k2:='0'
    subst this;rw[l]at J;exact R3 J
   .obtain⟨S,l,M⟩:=u a ha;rw[M];omega
   .obtain⟨S,l,M⟩:=u a ha;exact W.yO _ (K.mem_iff.mp (SE l))
  .simp[wc]
  .simp
  .simp
  .simp
 unfold gV;subst_eqs;refine⟨by decide,by decide,'0',λb b0 b1=>⟨sd '1',by decide,by decide,'0',λi i0 i1=>?_⟩⟩;have G:∃s:Int,fL [D.int 1,D.int 7,D.int 333,D.int 999,D.int 101,D.int 613] i=RM (.int s)/\(s=1\/s=7\/s=333\/s=999\/s=101\/s=613):=by
  rcases(by omega:i=0\/i=1\/i=2\/i=3\/i=4\/i=5)with rfl|rfl|rfl|rfl|rfl|rfl;.exact⟨_,rfl,by decide⟩
  .exact⟨_,rfl,by decide⟩
  .exact⟨_,rfl,by decide⟩
  .exact⟨_,rfl,by decide⟩
  .exact⟨_,rfl,by decide⟩
  .exact⟨_,rfl,by decide⟩
 obtain⟨s,es,G⟩:=G;rw[es,T.bL];simp only[ma,T.dO];refine⟨by decide,by decide,'0',λq q0 q1=>?_⟩;split;.exact⟨sd '1',key 0 1 _ '0' '1'⟩
 .exact key b s _ '0' G
def Gy(S:ah->Prop)(c)(e)(h:∀ρ,S ρ->∀d∈ds,∃a,g d ρ=.ok a/\S a/\tc a=.ok (c d)/\(c d=RQ->te a=.ok (e d)))(b:S ρ)(q:Q ((ds.filter c).map e) m):(eO g tc te ds ρ).wp m Q:=by
 rw[ot S h b];exact q
def oA(S:ah->Prop)(e)(h:∀ρ,S ρ->∀d∈ds,∃a,g d ρ=.ok a/\S a/\tc a=.ok RQ/\te a=.ok (e d))(k:S ρ)(q:Q (ds.map e) m):(eO g tc te ds ρ).wp m Q:=by
 refine Gy S (λ_=>RQ) e (λρ b d hd=>?_) k (by rw[List.filter_eq_self.mpr λ_ _=>rfl];exact q);obtain⟨a,j,i,f,c⟩:=h ρ b d hd;exact⟨a,j,i,f,λ_=>c⟩
def Dq(k)(p q):dh (k+2) (ao p) (ao q)=RM (decide (p=q)):=by
 have:dh (k+2) (ao p) (ao q)=RM (((p.1==q.1)&&((p.2==q.2)&&RQ))&&RQ):=rfl;rw[this];obtain⟨a,b⟩:=p;obtain⟨c,d⟩:=q;congr 1;rw[UO];simp
theorem HE(q:Pt):∀(P:List Pt),jG (ao q) (P.map ao)=RM (decide (q∈P))
 |[]=>by simp[jG]|p::P=>by
  rw[Sr];unfold jG;rw[Dq 48 p q,HE q P];by_cases h:p=q;.simp[h]
  .simp[h,T8 h,eq_comm]
def zX(p q):be .Eq (ao p) (ao q)=.ok (.bl (decide (p=q))):=by
 show(T.get (dh dS (ao p) (ao q))>>=λb=>T.ok (D.bl b))=_;rw[show dS=58+2 from rfl,Dq];rfl
def zY(p q):be .NotEq (ao p) (ao q)=.ok (.bl (!decide (p=q))):=by
 show(T.get (dh dS (ao p) (ao q))>>=λb=>T.ok (D.bl (!b)))=_;rw[show dS=58+2 from rfl,Dq];rfl
def wd(q:Pt)(P:List Pt):be .NotIn (ao q) (.lst (P.map ao))=.ok (.bl (!decide (q∈P))):=by rw[uK,HE];rfl
noncomputable def zZ(x:Pt×Pt):D:=.tup [ao x.1,ao x.2]
noncomputable def jA(p:Pt)(l:Int)(k:Nat):Pt:=(p.1+k*l,p.2+k*(1-l))
def uN(p)(l):jA p l 0=p:=by simp[jA]
def Dr(a:l=0\/l=1)(k):jA p l (k+1)=((jA p l k).1+l,(jA p l k).2+1-l):=by
 unfold jA;rcases a with rfl|rfl<;>simp<;>omega
def yx(a:l=0\/l=1)(k):(jA p l k).1+(jA p l k).2=p.1+p.2+k:=by
 unfold jA;rcases a with rfl|rfl<;>simp<;>omega
def oB(E:List Eg)(p:Pt)(l:Int)(k:Nat):Prop:=∀s:Nat,s<k->(⟨(jA p l s).1,(jA p l s).2,l⟩:Eg)∈E
structure bA(E:List Eg)(P:List Pt)(p:Pt)(l:Int)(k:Nat)(q:Pt):Prop where
 pos:0<k
 eq:q=jA p l k
 chain:oB E p l k
 NY:∀s:Nat,0<s->s<k->jA p l s∉P
 mem:q∈P
def bA.ne(a:l=0\/l=1)(h:bA E P p l k q):q≠p:=λz=>by
 have:=yx (p:=p) a k;rw[<-h.eq,z]at this;have:=h.pos;omega+splitNatSub
def NZ{a b:Eg}(e:a.i=b.i)(d:a.j=b.j)(c:a.l=b.l):a=b:=by cases a;cases b;simp only at e d c;rw[e,d,c]
def r_{E:List Eg}:dr (E.map eD) (eD e)=RQ↔e∈E:=by
 unfold dr;rw[aaL,Wf];constructor
 .rintro⟨a,ha,b⟩;have b:(((decide (a.i=e.i)&&(decide (a.j=e.j)&&RQ)))&&((decide (a.i+a.l=e.i+e.l)&&(decide (a.j+1-a.l=e.j+1-e.l)&&RQ))&&RQ))=RQ:=b;simp only[Bool.and_true,R4,Φ]at b;rw[<-NZ b.1.1 b.1.2 '0'];exact ha
 .intro h;refine⟨e,h,?_⟩;show(((decide (e.i=e.i)&&(decide (e.j=e.j)&&RQ)))&&((decide (e.i+e.l=e.i+e.l)&&(decide (e.j+1-e.l=e.j+1-e.l)&&RQ))&&RQ))=RQ;simp
def KR{P:List Pt}:bN (V k) gb [x0,⇑(.lst (P.map ao)),⇑(ao p),x3,⇑(ao q),o]=.ok (decide (q=p)||!decide (q∈P)):=by
 show((be .Eq (ao q) (ao p)>>=aZ)>>=λc=>if c then T.ok RQ else(be .NotIn (ao q) (.lst (P.map ao))>>=aZ))=_;rw[zX,wd];cases decide (q=p)<;>rfl
def KS{E:List Eg}:av (V k) gc [⇑(.aO (E.map eD) vs),x1,⇑(ao p),↥l,⇑(ao q),o]=if dr (E.map eD) (eD ⟨q.1,q.2,l⟩)=RQ then .ok (.nx [⇑(.aO (E.map eD) vs),x1,⇑(ao p),↥l,⇑(ao (q.1+l,q.2+1-l)),⇑(ao (q.1+l,q.2+1-l))])else .ok (.rt (ao p)):=by
 unfold gc;rw[ba (d:=ao (q.1+l,q.2+1-l)) (by
  show(T.need (decide (2<=R1))>>=λ_=>T.ok (D.tup [.int (q.1+l),.int (q.2+1-l)]))=_;rw[HD];rfl)];have t:bN (V k) (.aK .NotIn (.tup (↑4∘↑5∘.nil)) ↑0) ([⇑(.aO (E.map eD) vs),x1,⇑(ao p),↥l,⇑(ao q),o].set 5 ⇑(ao (q.1+l,q.2+1-l)))=.ok (!dr (E.map eD) (eD ⟨q.1,q.2,l⟩)):=by
  show((T.need (decide (2<=R1))>>=λ_=>T.ok (D.tup [ao q,ao (q.1+l,q.2+1-l)]))>>=λd=>be .NotIn d (.aO (E.map eD) vs)>>=aZ)=_;rw[HD];show((T.need (aC (E.map eD) (eD ⟨q.1,q.2,l⟩))>>=λ_=>T.ok (D.bl (!dr (E.map eD) (eD ⟨q.1,q.2,l⟩))))>>=aZ)=_;rw[eX (v_ E) (yt _)];rfl
 rw[aL,bg,t,af];cases dr (E.map eD) (eD ⟨q.1,q.2,l⟩)<;>rfl
inductive FI(E:List Eg)(P:List Pt)(p:Pt)(l w h:Int)(x0:D)(m:Nat)(j:Nat)(ρ:ah)(m':Nat):Prop|mk(k:Nat)(q:Pt)(o:Option L2.W)(hm:m'=m)(eρ:ρ=[RM (L2.W.d x0),RM (L2.W.d (D.lst (P.map ao))),RM (L2.W.d (ao p)),RM (L2.W.d (D.int l)),RM (L2.W.d (ao q)),o])(eq:q=jA p l k)(ch:oB E p l k)(bt:∀s:Nat,0<s->s<k->jA p l s∉P)(hj:k+j=20)(q1:q.1<w)(q2:q.2<h)
def se(hw:w<=7)(W:h<=7)(M:∀e∈E,e.ok w h)(A:l=0\/l=1)(y:0<=p.1/\p.1<w/\0<=p.2/\p.2<h):(ai defs gv (n+1) 22 [.d (.aO (E.map eD) vs),.d (.lst (P.map ao)),.d (ao p),.d (.int l)]).wp m (λd K=>K=m/\∃q:Pt,d=ao q/\((∃k,bA E P p l k q)\/(q=p/\∀k u,¬bA E P p l k u))):=by
 rw[az rfl rfl];unfold dz;refine gY λQ B=>?_;rw[ba rfl,aL,Gi,T.wp_bind,T.wp_bind];refine oq (FI E P p l w h (D.aO (E.map eD) vs) m) ?_ (k:=20) (by unfold cV;omega) ⟨0,p,RP,rfl,rfl,(uN p l).symm,λs g=>Ξ1 g (UN _),λs X N=>Ξ1 N (UN _),rfl,y.2.1,y.2.2.2⟩;rintro j O U⟨k,q,o,i,f,eq,C,r,V,S,R⟩;rw[f,KR,T.dO,KS];have t:=yx (p:=p) A k;rw[<-eq]at t;by_cases a:(decide (q=p)||!decide (q∈P))=RQ
 .rw[Ξ2 a];have x:k=0\/q∉P:=by
   rw[Ue,Φ,TK,Θ2]at a;rcases a with z|z;.rw[z]at t;exact .inl '0'
   .exact .inr z
  by_cases c:dr (E.map eD) (eD ⟨q.1,q.2,l⟩)=RQ
  .rw[Ξ2 c,T.dO];have b:=r_.mp c;have ok:=M _ b;have J:q.1+l<w:=ok.iw;have I:q.2+1-l<h:=ok.jh;refine⟨j-1,'0',FI.mk (k+1) (q.1+l,q.2+1-l) _ i rfl (by rw[Dr A k,<-eq]) (λs g=>?_) (λs H G=>?_) '0' J I⟩
   .rcases Nat.lt_succ_iff_lt_or_eq.mp g with c|c;.exact C s c
    .subst c;rw[<-eq];exact b
   .rcases Nat.lt_succ_iff_lt_or_eq.mp G with c|c;.exact r s H c
    .subst c;rw[<-eq];rcases x with z|z;.omega
     .exact z
  .rw[Ξ3 c,T.dO];refine B _ _ ⟨i,p,rfl,.inr ⟨rfl,λv u F=>?_⟩⟩;have L:=λz=>c (r_.mpr z);rcases U5 v k with c|c|c;.exact r v F.pos c (F.eq▸F.mem)
   .subst c;rcases x with z|z;.have:=F.pos;omega
    .exact z (by rw[eq,<-F.eq];exact F.mem)
   .have:=F.chain k c;rw[<-eq]at this;exact L this
 .rw[Ξ3 a];refine B _ _ ⟨i,q,rfl,.inl ⟨k,?_,eq,C,r,?_⟩⟩
  .refine Nat.pos_of_ne_zero λz=>a ?_;rw[eq,z,uN,Φ2 rfl];rfl
  .rw[Ue,TK,Θ2]at a;exact Decidable.byContradiction λz=>a (.inr z)
set_option tactic.hygienic true in
def Gz(h:putD (E.map eD) vs (eD e) x=(a.map eD,b))(d:a=E\/a=E++[e]):e∈a:=by
 rcases d with rfl|rfl
 .unfold putD at h;split at h;.rename_i c;exact r_.mp c
  .have:=Ξ0 (λz=>z.1.length) h;simp at this
 .simp
theorem Ds:∀(E E0:List Eg)(vs:List D),E0.length+E.length<=1000->∃(c:List Eg)(b:List D),eN (E.map λe=>.tup [eD e,.bl RQ]) (E0.map eD,vs)=RM (c.map eD,b)/\∀e,e∈c↔e∈E0\/e∈E
 |[],E0,vs,_=>⟨E0,vs,rfl,λe=>by simp⟩|e::E,E0,vs,i=>by
  obtain⟨l,d,j,h⟩:=Dj E0 vs e (.bl RQ);have g:=Gz j h;have f:l.length+E.length<=1000:=by
   simp only[Ss]at i;rcases h with rfl|rfl;.omega
   .simp;omega
  obtain⟨c,b,n,m⟩:=Ds E l d f;refine⟨c,b,?_,λx=>?_⟩
  .rw[Sr];rw[show∀k v r a,eN (.tup [k,v]::r) a=if aC a.1 k&&decide (a.1.length<R1)then eN r (putD a.1 a.2 k v)else RP fromλ_ _ _ _=>rfl,eX (v_ E0) (yt e),Φ2 (by have:=oM;simp only[Ss]at i;show(E0.map eD).length<R1;rw[RV];omega)];show eN _ (putD (E0.map eD) vs (eD e) (.bl RQ))=_;rw[j,n]
  .rw[m x,Ts];rcases h with rfl|rfl
   .constructor
    .rintro(z|z);.exact .inl z
     .exact .inr (.inr z)
    .rintro(z|z|z);.exact .inl z
     .rw[z];exact .inl g
     .exact .inr z
   .rw[Zf,VI,or_assoc]
def oB.mono(h:∀e,e∈b↔e∈E):oB b p l k↔oB E p l k:=⟨λc s a=>(h _).mp (c s a),λc s a=>(h _).mpr (c s a)⟩
def bA.mono(h:∀e,e∈a↔e∈E):bA a P p l k q↔bA E P p l k q:=⟨λf=>⟨f.pos,f.eq,(oB.mono h).mp f.chain,f.NY,f.mem⟩,λf=>⟨f.pos,f.eq,(oB.mono h).mpr f.chain,f.NY,f.mem⟩⟩
structure N0(E:List Eg)(P:List Pt)(S:List (Pt×Pt)):Prop where
 len:S.length<=336
 snd:∀x∈S,x.1∈P/\∃l k,(l=0\/l=1)/\bA E P x.1 l k x.2
 all:∀p∈P,∀l,(l=0\/l=1)->∀k q,bA E P p l k q->(p,q)∈S
noncomputable def GA(S:List (Pt×Pt))(p q:Pt):List (Pt×Pt):=if q=p then S else S++[(p,q)]
def KU(b:S.length<=400):av (V k) fB [x0,x1,x2,RM (.own (.lst (S.map zZ))),⇑(ao p),a,⇑(ao q)]=.ok (.nx [x0,x1,x2,RM (.own (.lst ((GA S p q).map zZ))),⇑(ao p),a,⇑(ao q)]):=by
 have z:=oM;unfold fB;have t:bN (V k) (.aK .NotEq ↑6 ↑4) [x0,x1,x2,RM (.own (.lst (S.map zZ))),⇑(ao p),a,⇑(ao q)]=.ok (!decide (q=p)):=by
  show(be .NotEq (ao q) (ao p)>>=aZ)=_;rw[zY];rfl
 rw[aR];.rfl
 rw[bg,t,af];unfold GA;by_cases e:q=p
 .rw[Ξ2 e,Φ2 e];rfl
 .rw[Ξ3 e,Φ1 e,Ξ2 (show(!false)=RQ from rfl),aR];.rfl
  .show((T.need (decide (2<=R1))>>=λ_=>T.ok (D.tup [ao p,ao q]))>>=λd=>T.need (decide ((S.map zZ).length<R1))>>=λ_=>T.ok (Fl.nx [x0,x1,x2,RM (.own (.lst (S.map zZ++[d]))),⇑(ao p),a,⇑(ao q)]))=_;rw[HD,Φ2 (show(S.map zZ).length<R1 by rw[RV];omega),SA];rfl
inductive Q9(E:List Eg)(P:List Pt)(X0 XP XE:D)(m:Nat)(ds:List D)(ρ:ah)(m':Nat):Prop|mk(P':List Pt)(S:List (Pt×Pt))(o4 o5 o6:Option L2.W)(hm:m'=m)(hd:ds=P'.map ao)(hP':∀p∈P',p∈P)(eρ:ρ=[RM (L2.W.d X0),RM (L2.W.d XP),RM (L2.W.d XE),RM (L2.W.own (D.lst (S.map zZ))),o4,o5,o6])(g1:S.length+2*P'.length<=336)(g2:∀x∈S,x.1∈P/\∃l k,(l=0\/l=1)/\bA E P x.1 l k x.2)(g3:∀p∈P,p∈P'\/∀l,(l=0\/l=1)->∀k q,bA E P p l k q->(p,q)∈S)
inductive Qu(E:List Eg)(P P':List Pt)(p:Pt)(X0 XP XE:D)(m1:Nat)(ds:List D)(ρ:ah)(m':Nat):Prop|mk(L:List Int)(S:List (Pt×Pt))(o5 o6:Option L2.W)(hm:m'=m1)(hd:ds=L.map D.int)(hL:∀l∈L,l=0\/l=1)(eρ:ρ=[RM (L2.W.d X0),RM (L2.W.d XP),RM (L2.W.d XE),RM (L2.W.own (D.lst (S.map zZ))),RM (L2.W.d (ao p)),o5,o6])(k1:S.length+L.length+2*P'.length<=336)(k2:∀x∈S,x.1∈P/\∃l k,(l=0\/l=1)/\bA E P x.1 l k x.2)(k3:∀p'∈P,p'∈p::P'\/∀l,(l=0\/l=1)->∀k q,bA E P p' l k q->(p',q)∈S)(k4:∀l,(l=0\/l=1)->l∈L\/∀k q,bA E P p l k q->(p,q)∈S)
def pd(hw:w<=7)(hh:h<=7)(hE:∀e∈E,e.ok w h)(b:E.length<=84)(hP:∀p∈P,0<=p.1/\p.1<w/\0<=p.2/\p.2<h)(a0:P.length<=168):(ai defs gv (n+2) 23 [.d (.lst (E.map eD)),.d (.lst (P.map ao))]).wp m (λd m'=>m'=m/\∃S:List (Pt×Pt),d=.lst (S.map zZ)/\N0 E P S):=by
 have z:=oM;rw[az (d:=dg) rfl rfl];unfold dg;refine gY λQ B=>?_;subst_eqs;simp only[gL,T.bL];refine oA (λv=>∃o,v=[o]) (λd=>.tup [d,.bl RQ]) ?_ ⟨RP,rfl⟩ ?_
 .rintro v⟨o,rfl⟩d hd;exact⟨_,rfl,⟨_,rfl⟩,rfl,by unfold iO;bv_omega⟩
 rw[S7];obtain⟨C,i,d0,d2⟩:=Ds E [] [] (by simp;omega);have d3:∀e,e∈C↔e∈E:=λe=>by rw[d2 e];simp
 have X:∀e∈C,e.ok w h:=λe he=>hE e ((d3 e).mp he);show(T.get (eN (E.map λe=>.tup [eD e,.bl RQ]) ([],[]))>>=λr=>T.ok (D.aO r.1 r.2)).wp m _;have d1:eN (E.map λe=>.tup [eD e,.bl RQ]) ([],[])=RM (C.map eD,i):=d0;rw[d1,T.wp_bind,T.bL,T.dO];clear d0 d1 d2;refine⟨sd '1',?_⟩;dsimp only;generalize D.lst (E.map eD)=X0;refine eW (Q9 E P X0 (D.lst (P.map ao)) (D.aO (C.map eD) i) m) ?_ ?_ ?_;rotate_left 2;.exact⟨P,[],RP,RP,RP,rfl,rfl,λ_ h=>h,rfl,by simp only[Td];omega,(λx U=>nomatch U),λp y=>.inl y⟩
 .rintro d ds v m1⟨u,S,o4,H,G,rfl,hd,t,a,g1,Z,Y⟩;rw[a];clear a;cases u with
  |nil=>cases hd|cons p u=>
   rw[(Ug hd).1,(Ug hd).2];clear hd;simp only[Ss]at g1;have pP:=t p RX;refine j7 λQ B=>?_;unfold iN;subst_eqs;have er:bC (Int.toNat 2)=[0,1].map D.int:=rfl;refine⟨by decide,?_⟩;rw[er];clear er;refine eW (Qu E P u p X0 (D.lst (P.map ao)) (D.aO (C.map eD) i) m1) ?_ ?_ ⟨[0,1],S,H,G,rfl,rfl,by simp,rfl,by simp only[Ss,Td];omega,Z,Y,λl b=>.inl (by rcases b with rfl|rfl<;>simp)⟩
   .rintro d ds v m2⟨L,S,H,G,A,hd,M,a,R,K,J,I⟩;rw[a];clear a;cases L with
    |nil=>cases hd|cons l L=>
     rw[(Ug hd).1,(Ug hd).2];clear hd;simp only[Ss]at R;have b:=M l RX;refine j7 λQ B=>?_;unfold iM;subst_eqs;refine wp_call (se hw hh X b (hP p pP)) ?_;intro d m3 V;obtain⟨e3,q,e4,hq⟩:=V;rw[e4,KU '0'];refine B _ _ ?_;unfold GA;by_cases e:q=p
     .rw[Ξ2 e];have no:∀k f,¬bA E P p l k f:=λk f F=>by
       rcases hq with⟨k0,g⟩|⟨_,z⟩;.exact g.ne b e
       .exact z k f ((bA.mono d3).mpr F)
      exact Qu.mk L S _ _ (e3.trans A) rfl (λl b=>M l (RZ _ b)) rfl '0' K J (λO s=>by
       rcases I O s with z|z
       .rcases Ω2.mp z with rfl|z;.exact .inr λk f F=>Ξ1 F (no k f)
        .exact .inl z
       .exact .inr z)
     .rw[Ξ3 e];obtain⟨k0,g⟩:∃k,bA E P p l k q:=by
       rcases hq with⟨k0,g⟩|⟨z,_⟩;.exact⟨k0,(bA.mono d3).mp g⟩
       .exact Ξ1 z e
      have one:∀k f,bA E P p l k f->f=q:=λk f F=>by
       rcases U5 k k0 with c|c|c;.exact Ξ1 (F.eq▸F.mem) (g.NY k F.pos c)
       .rw[F.eq,g.eq,c]
       .exact Ξ1 (g.eq▸g.mem) (F.NY k0 g.pos c)
      refine Qu.mk L (S++[(p,q)]) (RM (L2.W.d (.int l))) (RM (L2.W.d (ao q))) (e3.trans A) rfl (λl b=>M l (RZ _ b)) rfl (by simp;omega) (λx U=>?_) (λN j=>?_) (λO s=>?_)
      .rcases Ω.mp U with z|z;.exact K x z
       .rw[Ω1.mp z];exact⟨pP,l,k0,b,g⟩
      .rcases J N j with z|z;.exact .inl z
       .exact .inr λl b k q F=>SX _ (z l b k q F)
      .rcases I O s with z|z
       .rcases Ω2.mp z with rfl|z;.exact .inr λk f F=>by rw[one k f F];simp
        .exact .inl z
       .exact .inr λk f F=>SX _ (z k f F)
   .rintro v m2⟨L,S,H,G,rfl,hd,M,a,R,K,J,I⟩;rw[a];clear a;have:L=[]:=by cases L with
     |nil=>rfl|cons _ _=>cases hd
    subst this;refine B _ _ (Q9.mk u S _ _ _ rfl rfl (λp y=>t p (RZ _ y)) rfl (by simpa using R) K λN j=>?_);rcases J N j with z|z
    .rcases Ω2.mp z with rfl|z
     .exact .inr λl b k q F=>by
       rcases I l b with z|z;.cases z
       .exact z k q F
     .exact .inl z
    .exact .inr z
 .rintro v m1⟨u,S,o4,H,G,rfl,hd,t,a,g1,Z,Y⟩;rw[a];clear a;unfold iL;subst_eqs;have:u=[]:=by cases u with
   |nil=>rfl|cons _ _=>cases hd
  subst this;exact B _ _ ⟨rfl,S,rfl,by simpa using g1,Z,λp y l b k q F=>by
   rcases Y p y with z|z;.cases z
   .exact z l b k q F⟩
noncomputable def look:List (Pt×Int)->Pt->Int
 |[],_=>0|a::A,p=>if a.1=p then a.2 else look A p
theorem dG:∀{A:List (Pt×Int)}{p:Pt},p∈A.map (·.1)->(p,look A p)∈A
 |[],_,h=>by cases h|a::A,p,h=>by
  unfold look;by_cases e:a.1=p;.rw[Ξ2 e,<-e];exact RX
  .rw[Ξ3 e];rcases Ω2.mp h with z|z;.exact Ξ1 z.symm e
   .exact RZ _ (dG z)
theorem Dt:∀{A:List (Pt×Int)}{p:Pt},p∈A.map (·.1)->aP (A.map λa=>ao a.1) (A.map λa=>.int a.2) (ao p)=RM (.int (look A p))
 |[],_,h=>by cases h|a::A,p,h=>by
  show(if gH (ao a.1) (ao p)=RQ then RM (D.int a.2)else aP (A.map λa=>ao a.1) (A.map λa=>.int a.2) (ao p))=_;rw[r9];unfold look;by_cases e:a.1=p;.rw[Φ2 e,Ξ2 rfl,Ξ2 e]
  .rw[Φ1 e,Ξ3 '2',Ξ3 e];rcases Ω2.mp h with z|z;.exact Ξ1 z.symm e
   .exact Dt z
def sf{A}(h:p∈A.map (·.1)):aT (gx A) (ao p)=.ok (.int (look A p)):=by
 show(T.need (aC (A.map λa=>ao a.1) (ao p))>>=λ_=>T.get (aP (A.map λa=>ao a.1) (A.map λa=>.int a.2) (ao p)))=_;have:(A.map λa=>ao a.1)=(A.map (·.1)).map ao:=by simp
 rw[Dt h,this,eX (r8 _) rfl];rfl
abbrev Cn:=Int×Int×Int
noncomputable def cD(c:Cn):D:=.tup [.int c.1,.int c.2.1,.int c.2.2]
noncomputable def aj(C:List Cn)(W:List Pt):D:=.tup [.tup (C.map cD),.tup (W.map ao)]
def KW(C:List Cn):(C.map cD).all FE=RQ:=by
 rw[Tj];intro x a;obtain⟨e,_,rfl⟩:=Ω3.mp a;rfl
noncomputable def j8(A:List (Pt×Int))(xs a:List Int)(p:Pt):Cn:=(look A p,xs.getD p.1.toNat 0,a.getD p.2.toNat 0)
noncomputable def Du:D->Pt
 |.tup [.int i,.int j]=>(i,j)|_=>(0,0)
noncomputable def GB:D->Pt×Pt
 |.tup [p,q]=>(Du p,Du q)|_=>((0,0),(0,0))
def sg{xs:List Int}{i:Int}(a:0<=i)(b:i<xs.length):fL (xs.map D.int) i=RM (.int (xs.getD i.toNat 0)):=by
 refine NW a ?_;rw[Sn,TY,R_ '0'];rfl
def oE{r:ah}:dm (.tup 2 (.nm 0∘.nm 1∘.nil)) (ao p) (a::b::r)=.ok (↥p.1::↥p.2::r):=rfl
def KY{r:ah}:dm (.tup 2 (.nm 0∘.nm 1∘.nil)) (zZ x) (a::b::r)=.ok (⇑(ao x.1)::⇑(ao x.2)::r):=rfl
def bA.HF(h:∀q,q∈c↔q∈P)(f:bA E c p l k q):bA E P p l k q:=⟨f.pos,f.eq,f.chain,λs a b z=>f.NY s a b ((h _).mpr z),(h _).mp f.mem⟩
structure Dv(E:List Eg)(A:List (Pt×Int))(xs ys:List Int)(C:List Cn)(W:List Pt):Prop where
 cl:C.length<=168
 wl:W.length<=336
 cs:∀c,c∈C↔∃p∈A.map (·.1),c=j8 A xs ys p
 cn:(C.map (·.1)).Nodup
 ws:∀x,x∈W↔∃p q l k,p∈A.map (·.1)/\(l=0\/l=1)/\bA E (A.map (·.1)) p l k q/\x=(look A p,look A q)
def KZ{A}(hw:w<=7)(hh:h<=7)(hE:∀e∈E,e.ok w h)(hl:E.length<=84)(B:Num w h A)(t:(xs.length:Int)=w)(hy:(i.length:Int)=h)(vx:∀x∈xs,0<=x/\x<=1000000)(vy:∀y∈i,0<=y/\y<=1000000):(ai defs gv (n+3) 24 [.d (.lst (E.map eD)),.d (gx A),.d (.lst (xs.map D.int)),.d (.lst (i.map D.int))]).wp m (λd m'=>m'=m/\∃ C W ,d=aj C W/\Dv E A xs i C W):=by
 have z:=oM;rw[az rfl rfl];unfold jj;have ks:lh (gx A)=RM ((A.map (·.1)).map ao):=by simp[lh,gx]
 have N:((A.map (·.1)).map ao).length<=1000000:=by simp;have:=B.sz;omega
 have Q:jT ((A.map (·.1)).map ao)=RQ:=by unfold jT;rw[wb];simp
 simp only[LC,KH,v9,HC,gr,T.dO,T.wp_bind,iW,c8,L2.A.w,Sr,VD,List.cons_append,List.nil_append,Ss,Td,Tu,VA,U6,VY,Ww,T.bL,af];refine dA ks N Q λl' O=>?_;obtain⟨j,r,rfl⟩:=eY O rfl;simp only[gL,T.bL];have f:∀p∈j,p∈A.map (·.1):=λp g=>r.mem_iff.mp g;refine oA (λH=>∃K J,H=[K,J,⇑(gx A),⇑(.lst (xs.map D.int)),⇑(.lst (i.map D.int))]) (λd=>cD (j8 A xs i (Du d))) ?_ ⟨RP,RP,rfl⟩ ?_
 .rintro H⟨K,J,rfl⟩d hd;obtain⟨p,g,rfl⟩:=Ω3.mp hd;have Y:=dG (f p g);have rg:0<=p.1/\p.1<w/\0<=p.2/\p.2<h:=B.yO _ Y;refine⟨_,oE,⟨_,_,rfl⟩,rfl,?_⟩;unfold Dc;have L:=sf (f p g);have L:aT (gx A) (.tup [.int p.1,.int p.2])=.ok (.int (look A p)):=L;have V:T.get (fL (xs.map D.int) p.1)=.ok (.int (xs.getD p.1.toNat 0)):=by rw[sg '0' (by rw[t];exact rg.2.1)];rfl
  have i3:T.get (fL (i.map D.int) p.2)=.ok (.int (i.getD p.2.toNat 0)):=by rw[sg '0' (by rw[hy];exact rg.2.2.2)];rfl
  bv_omega;rw[L,af];rw[V,af,i3];rfl
 have R:(j.map ao).map (λd=>cD (j8 A xs i (Du d)))=(j.map (j8 A xs i)).map cD:=by
  rw[S7,S7];exact Va λp _=>rfl
 rw[R];have o:j.length<=168:=by rw[r.length_eq,RV];exact B.sz
 refine dA rfl (by simp;omega) (by unfold jT;rw[KW];simp) λl2 I=>?_;obtain⟨C,P,rfl⟩:=eY I rfl;have Z:∀c,c∈C↔∃p∈A.map (·.1),c=j8 A xs i p:=λc=>by
  rw[P.mem_iff,aaB];constructor;.rintro⟨p,g,e⟩;exact⟨p,f p g,e.symm⟩
  .rintro⟨p,g,e⟩;exact⟨p,r.mem_iff.mpr g,e.symm⟩
 have a0:(C.map (·.1)).Nodup:=by
  have p1:(C.map (·.1)).Perm ((j.map (j8 A xs i)).map (·.1)):=P.map _;rw[p1.nodup_iff,S7];have nd:j.Nodup:=r.nodup_iff.mpr B.nd;refine(List.pairwise_map.mpr ?_);refine Ws (λ{a b}ha hb X z=>X ?_) nd;exact B.inj _ (dG (f a ha)) _ (dG (f b hb)) z
 have a2:C.length<=168:=by rw[P.length_eq,RV];exact o
 clear R I P O r f o;unfold C_;simp only[LC,KH,v9,HC,gr,T.dO,T.wp_bind,T.wp_at,ou,iW,List.set_cons_zero,List.set_cons_succ,Ss,Td,VA,U6,VY,Ww,T.bL,af];refine dA ks N Q λl' O=>?_;obtain⟨j,r,rfl⟩:=eY O rfl;have f:∀p∈j,p∈A.map (·.1):=λp g=>r.mem_iff.mp g;have o:j.length<=168:=by rw[r.length_eq,RV];exact B.sz
 refine wp_call (pd hw hh hE hl (λp g=>B.yO _ (dG (f p g))) o) ?_;rintro d m1⟨rfl,S,rfl,G⟩;have M:∀x∈S,x.1∈j/\x.2∈j:=λx t=>⟨(G.snd x t).1,let⟨l,k,_,F⟩:=(G.snd x t).2;F.mem⟩;simp only[gL,T.bL];refine oA (λH=>∃K J,H=[K,J,⇑(gx A)]) (λd=>ao (look A (GB d).1,look A (GB d).2)) ?_ ⟨RP,RP,rfl⟩ ?_
 .rintro H⟨K,J,rfl⟩d hd;obtain⟨x,t,rfl⟩:=Ω3.mp hd;refine⟨_,KY,⟨_,_,rfl⟩,rfl,?_⟩;unfold C9;have L:=sf (f x.1 (M x t).1);have V:=sf (f x.2 (M x t).2);bv_omega;rw[L,af,V];rfl
 have R:(S.map zZ).map (λd=>ao (look A (GB d).1,look A (GB d).2))=(S.map λx=>(look A x.1,look A x.2)).map ao:=by
  rw[S7,S7];exact Va λp _=>rfl
 rw[R];unfold C8;subst_eqs;show(T.get (items (.lst (C.map cD)))>>=λxs=>T.ok (D.tup xs)).wp _ _;rw[T.wp_bind];simp only[items,T.bL,T.dO];refine dA rfl (by have:=G.len;simp;omega) (by unfold jT;rw[wb];simp) λl3 U=>?_;obtain⟨W,pW,rfl⟩:=eY U rfl;show(T.get (items (.lst (W.map ao)))>>=λxs=>T.ok (D.tup xs)).wp _ _;rw[T.wp_bind];simp only[items,T.bL,T.dO];refine⟨sd '1',trivial,C,W,rfl,a2,by rw[pW.length_eq,RV];exact G.len,Z,a0,λx=>?_⟩;have u:∀q,q∈j↔q∈A.map (·.1):=λq=>r.mem_iff;rw[pW.mem_iff,aaB];constructor
 .rintro⟨s,Q,e⟩;obtain⟨h1,l,k,v,F⟩:=G.snd s Q;exact⟨s.1,s.2,l,k,f _ h1,v,F.HF u,e.symm⟩
 .rintro⟨p,q,l,k,g,v,F,rfl⟩;exact⟨(p,q),G.all p ((u p).mpr g) l v k q (F.HF λq=>(u q).symm),rfl⟩
theorem gZ:∀{l m:List Int},l.Nodup->(∀x∈l,x∈m)->l.length<=m.length
 |[],m,_,_=>SH _|a::l,m,nd,h=>by
  have c:=Φ3.mp nd;have ha:=h a RX;have:=gZ (l:=l) (m:=m.erase a) c.2 λx b=>(ZI (λz=>by subst z;exact c.1 b)).mpr (h x (RZ _ b));rw[Wr ha]at this;have d:0<m.length:=WU ha;simp only[Ss];omega
def bY(W:List Pt)(T:Int->Prop):Prop:=∀x∈W,T x.1\/T x.2->T x.1/\T x.2
def GC(i)(x):be .In (.int i) (ao x)=.ok (.bl (decide (i=x.1\/i=x.2))):=by
 have e:decide (i=x.1\/i=x.2)=((x.1==i)||((x.2==i)||RT)):=by
  rw[UO,Φ,Bool.or_false,Ue,Θ3,Θ3];exact⟨λh=>h.elim (λz=>.inl z.symm) λz=>.inr z.symm,λh=>h.elim (λz=>.inl z.symm) λz=>.inr z.symm⟩
 rw[e];rfl
noncomputable def insI(S:List Int)(e:Int):List Int:=if e∈S then S else S++[e]
noncomputable def uO(S a:List Int)(e:Int):List Int:=if e∈S then a else a++[e]
structure Rs(W:List Pt)(B:List Int)(c:Int)(S Wt:List Int):Prop where
 nd:S.Nodup
 cS:c∈S
 sB:∀x∈S,x∈B
 mn:∀T:Int->Prop,T c->bY W T->∀x∈S,T x
 wS:∀x∈Wt,x∈S
structure Gr(S Wt:List Int)(e:Int)(S' Wt':List Int):Prop where
 s:∀x∈S,x∈S'
 e:e∈S'
 n:∀x∈S',x∈S\/x∈Wt'
 w:∀x∈Wt,x∈Wt'
 l:S'.length+Wt.length=S.length+Wt'.length
def Rs.ins{W}(h:Rs W B c S g)(j:e∈B)(i:∀T:Int->Prop,T c->bY W T->T e):Rs W B c (insI S e) (uO S g e)/\Gr S g e (insI S e) (uO S g e):=by
 unfold insI uO;by_cases f:e∈S
 .rw[Ξ2 f,Ξ2 f];exact⟨h,λ_ z=>z,f,λ_ z=>.inl z,λ_ z=>z,rfl⟩
 .rw[Ξ3 f,Ξ3 f];refine⟨⟨?_,SX _ h.cS,λx d=>?_,λT a b x d=>?_,λx d=>?_⟩,λx d=>SX _ d,by simp,λx d=>?_,λx d=>SX _ d,by simp only[SR,Vi];omega⟩
  .rw[Uc];exact⟨h.nd,by simp,λa ha b hb z=>by rw[Ω1.mp hb]at z;exact f (z▸ha)⟩
  .rcases Ω.mp d with z|z;.exact h.sB x z
   .rw[Ω1.mp z];exact j
  .rcases Ω.mp d with z|z;.exact h.mn T a b x z
   .rw[Ω1.mp z];exact i T a b
  .rcases Ω.mp d with z|z;.exact SX _ (h.wS x z)
   .exact Sk _ z
  .rcases Ω.mp d with z|z;.exact .inl z
   .exact .inr (Sk _ z)
def HG(k:S.length<=60)(j:a.length<=60):av (V n) cO [a0,a1,RM (.own (.aJ S)),RM (.own (.lst (a.map D.int))),a4,a5,↥e]=.ok (.nx [a0,a1,RM (.own (.aJ (insI S e))),RM (.own (.lst ((uO S a e).map D.int))),a4,a5,↥e]):=by
 have z:=oM;have i:bN (V n) (.oK 2 (.aK .NotIn ↑6 ↑2)) [a0,a1,RM (.own (.aJ S)),RM (.own (.lst (a.map D.int))),a4,a5,↥e]=.ok (!decide (e∈S)):=by
  show((T.need (decide (S.length<=300))>>=λ_=>T.ok (D.bl (!decide (e∈S))))>>=aZ)=_;rw[Φ2 (show S.length<=300 by omega+splitNatSub)];rfl
 show(av (V n) (.iff (.oK 2 (.aK .NotIn ↑6 ↑2)) (.add 2 ↑6∘.app 3 ↑6∘.nil) .nil) _>>=_)=_;have h:∀c,av (V n) (.iff (.oK 2 (.aK .NotIn ↑6 ↑2)) (.add 2 ↑6∘.app 3 ↑6∘.nil) .nil) c=(bN (V n) (.oK 2 (.aK .NotIn ↑6 ↑2)) c>>=λx=>if x then av (V n) (.add 2 ↑6∘.app 3 ↑6∘.nil) c else av (V n) .nil c):=λc=>rfl;rw[h,i,af];by_cases b:e∈S
 .rw[Φ2 b];unfold insI uO;rw[Ξ2 b,Ξ2 b];rfl
 .rw[Φ1 b];unfold insI uO;rw[Ξ3 b,Ξ3 b];show(((T.need (decide (S.length<=300))>>=λ_=>T.ok (Fl.nx [a0,a1,RM (.own (.aJ (if e∈S then S else S++[e]))),RM (.own (.lst (a.map D.int))),a4,a5,↥e]))>>=λg=>match g with|Fl.nx f=>av (V n) (.app 3 ↑6∘.nil) f|g=>.ok g)>>=_)=_;rw[Φ2 (show S.length<=300 by omega+splitNatSub),Ξ3 b,kO,af,af];show(((T.need (decide ((a.map D.int).length<R1))>>=λ_=>T.ok (Fl.nx [a0,a1,RM (.own (.aJ (S++[e]))),RM (.own (.lst (a.map D.int++[.int e]))),a4,a5,↥e]))>>=_)>>=_)=_;rw[Φ2 (show(a.map D.int).length<R1 by rw[RV];omega+splitNatSub),kO,af];rw[SA];rfl
def N1{W:List Pt}(J:B.length<=60)(CW:bY W (·∈B))(h:Rs W B c S i)(v:a∈S)(I:x∈W)(hw:i.length<=S.length):∃(o g:List Int)(X:Option L2.W),av (V n) eR [a0,a1,RM (.own (.aJ S)),RM (.own (.lst (i.map D.int))),↥a,⇑(ao x),a6]=.ok (.nx [a0,a1,RM (.own (.aJ o)),RM (.own (.lst (g.map D.int))),↥a,⇑(ao x),X])/\Rs W B c o g/\(∀y∈S,y∈o)/\(a=x.1\/a=x.2->x.1∈o/\x.2∈o)/\(∀y∈o,y∈S\/y∈g)/\(∀y∈i,y∈g)/\o.length+i.length=S.length+g.length:=by
 have G:∀a6,bN (V n) (.aK .In ↑4 ↑5) [a0,a1,RM (.own (.aJ S)),RM (.own (.lst (i.map D.int))),↥a,⇑(ao x),a6]=.ok (decide (a=x.1\/a=x.2)):=λa6=>by
  show((be .In (.int a) (ao x))>>=aZ)=_;rw[GC];rfl
 have F:∀ρ,av (V n) eR ρ=((bN (V n) (.aK .In ↑4 ↑5) ρ>>=λx=>if x then av (V n) (.dU (.nm 6) (.aB ↑5) cO∘.nil) ρ else av (V n) .nil ρ)>>=λE=>match E with|.nx A=>av (V n) .nil A|E=>.ok E):=λρ=>rfl;by_cases u:a=x.1\/a=x.2
 .have b:x.1∈B/\x.2∈B:=CW x I (u.elim (λz=>.inl (z▸h.sB _ v)) λz=>.inr (z▸h.sB _ v));have H:∀T:Int->Prop,T c->bY W T->T x.1/\T x.2:=λT p q=>q x I (u.elim (λz=>.inl (z▸h.mn T p q _ v)) λz=>.inr (z▸h.mn T p q _ v));obtain⟨C,r⟩:=h.ins b.1 λT p q=>(H T p q).1;obtain⟨K,m⟩:=C.ins b.2 λT p q=>(H T p q).2;refine⟨_,_,↥x.2,?_,K,λy t=>m.s y (r.s y t),λ_=>⟨m.s _ r.e,m.e⟩,λy t=>?_,λy t=>m.w y (r.w y t),?_⟩
  .have O:S.length<=60:=SO (gZ h.nd h.sB) J;have N:(insI S x.1).length<=60:=SO (gZ C.nd C.sB) J;have Y:=r.l;have U:=HG (n:=n) (a0:=a0) (a1:=a1) (a4:=↥a) (a5:=⇑(ao x)) (e:=x.1) O (show i.length<=60 by omega);have R:=HG (n:=n) (a0:=a0) (a1:=a1) (a4:=↥a) (a5:=⇑(ao x)) (e:=x.2) N (show(uO S i x.1).length<=60 by omega);rw[F,G,af,Φ2 u,Ξ2 rfl];show((di (dm (.nm 6)) (av (V n) cO) [.int x.1,.int x.2] _>>=_)>>=_)=_;have f:∀{d ds}{ρ k j:ah},dm (.nm 6) d ρ=.ok k->av (V n) cO k=.ok (.nx j)->di (dm (.nm 6)) (av (V n) cO) (d::ds) ρ=di (dm (.nm 6)) (av (V n) cO) ds j:=λ{d ds ρ k j}M L=>by rw[di,M,af,L,af]
   have Q:=f (d:=.int x.1) (ds:=[.int x.2]) (ρ:=[a0,a1,RM (.own (.aJ S)),RM (.own (.lst (i.map D.int))),↥a,⇑(ao x),a6]) rfl U;have P:=f (d:=.int x.2) (ds:=[]) (ρ:=[a0,a1,RM (.own (.aJ (insI S x.1))),RM (.own (.lst ((uO S i x.1).map D.int))),↥a,⇑(ao x),↥x.1]) rfl R;rw[Q,P];rfl
  .rcases m.n y t with z|z
   .rcases r.n y z with z|z;.exact .inl z
    .exact .inr (m.w y z)
   .exact .inr z
  .have:=r.l;have:=m.l;omega
 .refine⟨S,i,a6,?_,h,λ_ z=>z,λz=>Ξ1 z u,λ_ z=>.inl z,λ_ z=>z,rfl⟩;rw[F,G,af,Φ1 u];rfl
theorem wg(I:List D->ah->Prop)(step:∀d ds ρ,I (d::ds) ρ->∃b a,g d ρ=.ok b/\body b=.ok (.nx a)/\I ds a):∀{ds:List D}{ρ:ah},I ds ρ->∃ρ',di g body ds ρ=.ok (.nx ρ')/\I [] ρ'
 |[],ρ,h=>⟨ρ,rfl,h⟩|d::ds,ρ,h=>by
  obtain⟨b,a,j,i,f⟩:=step d ds ρ h;obtain⟨ρ',e,c⟩:=wg I step f;refine⟨ρ',?_,c⟩;unfold di;rw[j,af,i,af];exact e
theorem uP(I:Nat->ah->Prop)(R:ah->Prop)(step:∀k ρ,I k ρ->(c ρ=.ok RT/\R ρ)\/(c ρ=.ok RQ/\∃a j,body ρ=.ok (.nx a)/\j<k/\I j a)):∀{n k:Nat}{ρ:ah},k<n->I k ρ->∃ρ',eP c body n ρ=.ok (.nx ρ')/\R ρ'
 |0,k,_,e,_=>'0'|n+1,k,ρ,e,h=>by
  unfold eP;rcases step k ρ h with⟨d,b⟩|⟨d,a,j,b,g,f⟩
  .rw[d,af];exact⟨ρ,rfl,b⟩
  .rw[d,af,Ξ2 rfl,b,af];exact uP I R step '0' f
noncomputable def st(W:List Pt)(c:Int)(S e:List Int)(o4 b a:Option L2.W):ah:=[⇑(.lst (W.map ao)),↥c,RM (.own (.aJ S)),RM (.own (.lst (e.map D.int))),o4,b,a]
inductive Q_(W:List Pt)(B:List Int)(c:Int)(k:Nat)(ρ:ah):Prop|mk(S Wt Dn:List Int)(o4 o5 o6:Option L2.W)(eρ:ρ=st W c S Wt o4 o5 o6)(h:Rs W B c S Wt)(h5:∀x∈S,x∈Dn\/x∈Wt)(h7:∀x∈Dn,∀w∈W,x=w.1\/x=w.2->w.1∈S/\w.2∈S)(h8:k+S.length=60+Wt.length)(h9:Wt.length<=S.length)
inductive RL(W:List Pt)(B:List Int)(c:Int)(ρ:ah):Prop|mk(S:List Int)(o4 o5 o6:Option L2.W)(eρ:ρ=st W c S [] o4 o5 o6)(h:Rs W B c S [])(hc:bY W (·∈S))
inductive Ra(W:List Pt)(B:List Int)(c c0:Int)(S Wi:List Int)(ds:List D)(ρ:ah):Prop|mk(W':List Pt)(S' Wt':List Int)(o5 o6:Option L2.W)(hd:ds=W'.map ao)(hW':∀x∈W',x∈W)(eρ:ρ=st W c S' Wt' ↥c0 o5 o6)(q1:Rs W B c S' Wt')(q2:∀y∈S,y∈S')(q3:∀y∈S',y∈S\/y∈Wt')(q4:∀y∈Wi,y∈Wt')(q5:∀w∈W,w∈W'\/(c0=w.1\/c0=w.2->w.1∈S'/\w.2∈S'))(q6:S'.length+Wi.length=S.length+Wt'.length)
def oF{W}{B:List Int}(I:B.length<=60)(cB:c∈B)(CW:bY W (·∈B)):∃S:List Int,ai defs gv (n+1) 7 [.d (.lst (W.map ao)),.d (.int c)]=.ok (.tup ((sortI S).map D.int))/\S.Nodup/\c∈S/\bY W (·∈S)/\(∀T:Int->Prop,T c->bY W T->∀x∈S,T x)/\∀x∈S,x∈B:=by
 rw[az rfl rfl];have w:=uP (c:=bN (V n) jd) (body:=av (V n) je) (Q_ W B c) (RL W B c) ?_ (n:=cV) '1' ⟨[c],[c],[],RP,RP,RP,rfl,⟨by simp,by simp,by simpa using cB,λT H _ x b=>by rw[Ω1.mp b];exact H,λx b=>b⟩,λx b=>.inr b,(λx b=>nomatch b),rfl,R5 _⟩
 .obtain⟨l,p,S,R,s,r,a,h,H⟩:=w;rw[a]at p;refine⟨S,?_,h.nd,h.cS,H,h.mn,h.sB⟩;have hl:=SO (gZ h.nd h.sB) I;have M:(T.need (decide (S.length<64)):T Unit)=.ok ():=by rw[Φ2 (show S.length<64 by omega)];rfl
  show((eP (bN (V n) jd) (av (V n) je) cV (st W c [c] [c] RP RP RP)>>=λL=>match L with|Fl.nx l=>av (V n) nZ l|L=>.ok L)>>=jW)=_;rw[p,af];show((((((T.need (decide (S.length<64))>>=λ_=>T.ok (D.lst ((sortI S).map D.int)))>>=_)>>=_)>>=_)>>=_)>>=_)=_;rw[M];rfl
 .rintro k ρ⟨S,Wt,U,R,s,r,a,h,K,J,h8,h9⟩;rw[a];clear a;have hl:=SO (gZ h.nd h.sB) I;rcases List.eq_nil_or_concat Wt with rfl|⟨i,e,rfl⟩
  .refine .inl ⟨rfl,S,R,s,r,rfl,h,λx b m=>?_⟩;have hd:∀y∈S,y∈U:=λy j=>by
    rcases K y j with z|z;.exact z
    .cases z
   rcases m with z|z;.exact J _ (hd _ z) x b (.inl rfl)
   .exact J _ (hd _ z) x b (.inr rfl)
  .rw[List.length_concat]at h8 h9;rw[List.concat_eq_append]at h K⊢;have N:=h.wS e '2';have f:=wg (g:=dm (.nm 5)) (body:=av (V n) eR) (Ra W B c e S i) ?_ ⟨W,S,i,s,r,rfl,λ_ z=>z,rfl,⟨h.nd,h.cS,h.sB,h.mn,λx b=>h.wS x (SX _ b)⟩,λ_ z=>z,λ_ z=>.inl z,λ_ z=>z,λ_ z=>.inl z,rfl⟩
   .obtain⟨l,p,t,O,q,Q,G,hd,o,a,F,u,E,C,A,q6⟩:=f;rw[a]at p;clear a;have hn:t=[]:=by cases t with
     |nil=>rfl|cons _ _=>cases hd
    subst hn;refine .inr ⟨?_,st W c O q ↥e Q G,k-1,?_,?_,Q_.mk O q (e::U) _ _ _ rfl F ?_ ?_ ?_ ?_⟩
    .show T.get (Fu (.lst ((i++[e]).map D.int)))=_;cases i<;>rfl
    .show(((T.get ((i++[e]).map D.int)[((i++[e]).map D.int).length-1]?>>=λd=>T.ok (Fl.nx [RM (L2.W.d (.lst (W.map ao))),RM (L2.W.d (.int c)),RM (L2.W.own (.aJ S)),RM (L2.W.own (.lst ((i++[e]).map D.int).dropLast)),RM (L2.W.d d),s,r]))>>=_))=_;have e2:((i++[e]).map D.int)[((i++[e]).map D.int).length-1]?=RM (.int e):=by simp
     have M:((i++[e]).map D.int).dropLast=i.map D.int:=by simp
     rw[e2,M,get_some,af,af];show((di (dm (.nm 5)) (av (V n) eR) (W.map ao) (st W c S i ↥e s r))>>=_)=_;rw[p];rfl
    .omega
    .intro x b;rcases E x b with z|z
     .rcases K x z with z|z;.exact .inl (RZ _ z)
      .rcases Ω.mp z with z|z;.exact .inr (C x z)
       .rw[Ω1.mp z];exact .inl RX
     .exact .inr z
    .intro x b w hw m;rcases Ω2.mp b with rfl|z
     .rcases A w hw with y|y;.cases y
      .exact y m
     .have:=J x z w hw m;exact⟨u _ this.1,u _ this.2⟩
    .omega
    .omega
   .rintro d ds ρ⟨t,O,q,Q,G,hd,o,a,F,u,E,C,A,q6⟩;rw[a];clear a;cases t with
    |nil=>cases hd|cons x t=>
     rw[(Ug hd).1,(Ug hd).2];obtain⟨S2,W2,b6,p,Z,v,Y,X,P,r6⟩:=N1 I CW F (u e N) (o x RX) '0';refine⟨_,_,rfl,p,Ra.mk t S2 W2 _ _ rfl (λy j=>o y (RZ _ j)) rfl Z (λy j=>v y (u y j)) (λy j=>?_) (λy j=>P y (C y j)) (λw hw=>?_) '0'⟩
     .rcases X y j with z|z
      .rcases E y z with z|z;.exact .inl z
       .exact .inr (P y z)
      .exact .inr z
     .rcases A w hw with z|z
      .rcases Ω2.mp z with rfl|z;.exact .inr Y
       .exact .inl z
      .exact .inr λm=>⟨v _ (z m).1,v _ (z m).2⟩
def N2(a:b)(ρ):(T.ok a).at' ρ=.ok a:=rfl
def Dw(x)(f:a->T b):((T.exc x)>>=f)=.exc x:=rfl
def Dx(C:List Cn)(W:List Pt):aT (aj C W) (.int 0)=.ok (.tup (C.map cD)):=rfl
def Dy(C)(W):aT (aj C W) (.int 1)=.ok (.tup (W.map ao)):=rfl
def yy(h:d=.br\/(∃b,d=.bl b)\/(∃s,d=.str s)\/(∃xs,d=.tup xs)\/∃xs,d=.lst xs):ai defs gv (n+1) 0 [.d d]=.ok (.bl RT):=by rcases h with rfl|⟨_,rfl⟩|⟨_,rfl⟩|⟨_,rfl⟩|⟨_,rfl⟩<;>kernel_rfl
def qm(n)(i):ai defs gv (n+1) 0 [.d (.int i)]=.ok (.bl RQ):=by kernel_rfl
noncomputable def kI(c:Cn):D:=.int c.1
noncomputable def pI(c:Cn):D:=ao c.2
noncomputable def cZ(C:List Cn):D:=.aO (C.map kI) (C.map pI)
def kP(C:List Cn)(i:Int):aC (C.map kI) (.int i)=RQ:=by
 unfold aC;have:(C.map kI).all BH=RQ:=by
  rw[Tj];intro x a;obtain⟨e,_,rfl⟩:=Ω3.mp a;rfl
 rw[this];rfl
theorem oG(i:Int):∀(C:List Cn),dr (C.map kI) (.int i)=decide (i∈C.map (·.1))
 |[]=>rfl|c::C=>by
  show(decide (c.1=i)||dr (C.map kI) (.int i))=_;rw[oG i C,UO,Ue,Φ,Φ,Φ,Sr,Ts];exact⟨λh=>h.elim (λz=>.inl z.symm) .inr,λh=>h.elim (λz=>.inl z.symm) .inr⟩
theorem yz:∀(C e:List Cn)(a b c:Option L2.W),((e++C).map (·.1)).Nodup->(e++C).length<=168->∃ρ',b_ (dm (.tup 3 (.nm 0∘.nm 1∘.nm 2∘.nil))) (λρ=>(bN (V n) .yes ρ).calm) (ll (λρ=>(ak (V n) ↑0 ρ).calm) (λρ=>(ak (V n) (.tup (↑1∘↑2∘.nil)) ρ).calm)) (e.map kI,e.map pI) (C.map cD) [a,b,c]=.ok (((e++C).map kI,(e++C).map pI),ρ')
 |[],e,a,b,c,_,_=>⟨[a,b,c],by rw[TF];rfl⟩|x::C,e,a,b,c,nd,f=>by
  have z:=oM;have ha:e++x::C=(e++[x])++C:=by simp
  rw[ha]at nd f⊢;obtain⟨ρ',g⟩:=yz (n:=n) C (e++[x]) ↥x.1 ↥x.2.1 ↥x.2.2 nd f;refine⟨ρ',?_⟩;have i:x.1∉e.map (·.1):=λh=>by
   rw[SA,Uc]at nd;have:=nd.1;rw[SA,Uc]at this;exact this.2.2 _ h x.1 '2' rfl
  have m:putD (e.map kI) (e.map pI) (.int x.1) (ao x.2)=((e++[x]).map kI,(e++[x]).map pI):=by
   unfold putD;rw[oG,Φ1 i,Ξ3 '2',SA,SA];rfl
  have l:(ak (V n) (.tup (↑1∘↑2∘.nil)) [↥x.1,↥x.2.1,↥x.2.2]).calm=.ok (ao x.2):=by
   show(T.need (decide (2<=R1))>>=λ_=>T.ok (D.tup [.int x.2.1,.int x.2.2])).calm=_;rw[HD];rfl
  have k:(T.need (aC (e.map kI) (.int x.1)&&decide ((e.map kI).length<R1)):T Unit)=.ok ():=by
   rw[kP,Φ2 (show(e.map kI).length<R1 by rw[RV];simp only[SR,Vi]at f;omega)];rfl
  have j:ll (λρ=>(ak (V n) ↑0 ρ).calm) (λρ=>(ak (V n) (.tup (↑1∘↑2∘.nil)) ρ).calm) (e.map kI,e.map pI) [↥x.1,↥x.2.1,↥x.2.2]=.ok (((e++[x]).map kI,(e++[x]).map pI),[↥x.1,↥x.2.1,↥x.2.2]):=by
   show((ak (V n) (.tup (↑1∘↑2∘.nil)) [↥x.1,↥x.2.1,↥x.2.2]).calm>>=λy=>T.need (aC (e.map kI) (.int x.1)&&decide ((e.map kI).length<R1))>>=λ_=>T.ok (putD (e.map kI) (e.map pI) (.int x.1) y,([↥x.1,↥x.2.1,↥x.2.2]:ah)))=_;rw[l,af,k,af,m]
  refine aaK ?_ g;rw[Sr,b_];show(ll _ _ (e.map kI,e.map pI) [↥x.1,↥x.2.1,↥x.2.2]>>=_)=_;rw[j];rfl
def g8{W}(nd:(C.map (·.1)).Nodup)(b:C.length<=168):ai defs gv (n+1) 5 [.d (aj C W)]=.ok (cZ C):=by
 rw[az rfl rfl];obtain⟨a,e⟩:=yz C [] RP RP RP nd b;show(((b_ _ _ _ ([],[]) (C.map cD) [RP,RP,RP]>>=λr=>T.ok (D.aO r.1.1 r.1.2))>>=λd=>T.ok (Fl.rt d))>>=_)>>=_=_;rw[show b_ _ _ _ ([],[]) (C.map cD) [RP,RP,RP]=_ from e];rfl
noncomputable def ae:List Cn->Int->Pt
 |[],_=>(0,0)|c::C,i=>if c.1=i then c.2 else ae C i
theorem sh:∀{C:List Cn},i∈C.map (·.1)->aP (C.map kI) (C.map pI) (.int i)=RM (ao (ae C i))/\(i,ae C i)∈C
 |[],h=>by cases h|c::C,h=>by
  show(if decide (c.1=i)=RQ then RM (ao c.2)else aP (C.map kI) (C.map pI) (.int i))=_/\_;unfold ae;by_cases e:c.1=i
  .rw[Φ2 e,Ξ2 rfl,Ξ2 e];refine⟨rfl,?_⟩;rw[<-e];exact RX
  .rw[Φ1 e,Ξ3 '2',Ξ3 e];rcases Ω2.mp h with z|z;.exact Ξ1 z.symm e
   .exact⟨(sh z).1,RZ _ (sh z).2⟩
def jn(h:i∈C.map (·.1)):aT (cZ C) (.int i)=.ok (ao (ae C i)):=by
 show(T.need (aC (C.map kI) (.int i))>>=λ_=>T.get (aP (C.map kI) (C.map pI) (.int i)))=_;rw[kP,(sh h).1];rfl
def wj(b:Bool):Cp (.bl b)=.ok b:=rfl
def Bo:(!false)=RQ/\(!true)=RT/\(RT=RQ)=False:=⟨rfl,rfl,by simp⟩
def Kl(n):(V n).cls 2=RM 49/\(V n).cls 3=RM 61/\(V n).how 49=RQ/\(V n).how 61=RQ:=⟨rfl,rfl,rfl,rfl⟩
local macro_rules|`(tactic|symm_saturate)=>`(tactic|simp only[LC,Gh,KH,v9,HC,gr,bS,aZ,af,Dw,N2,ou,iW,Cl,Sd,c8,A.w,wj,Dx,Dy,Kl,Hx,jW,gL,items,Lm,Ls,Tu,VY,Ww,if_true,Bo,if_false])
def N3(C)(i):be .In (.int i) (cZ C)=.ok (.bl (decide (i∈C.map (·.1)))):=by
 show(T.need (aC (C.map kI) (.int i))>>=λ_=>T.ok (D.bl (dr (C.map kI) (.int i))))=_;rw[kP,oG];rfl
def has_int{W}(nd:(C.map (·.1)).Nodup)(a:C.length<=168)(i):ai defs gv (n+2) 6 [.d (aj C W),.d (.int i)]=.ok (.bl (decide (i∈C.map (·.1)))):=by
 rw[az rfl rfl];unfold c_;symm_saturate;rw[qm,g8 nd a];symm_saturate;rw[N3];symm_saturate
def si(h:ai defs gv (n+1) 0 [.d d]=.ok (.bl RT)):ai defs gv (n+2) 6 [.d net,.d d]=.ok (.bl RT):=by
 rw[az rfl rfl];unfold c_;symm_saturate;rw[h];symm_saturate
def GD(h:ai defs gv n 6 [.d net,.d d]=.ok (.bl RT)):∃ρ,ai defs gv (n+1) 8 [.d net,.d d,.d a]=.exc ⟨.exc 49 [],ρ⟩:=by
 rw[az rfl rfl];unfold aQ;symm_saturate;rw[h];symm_saturate;exact⟨_,rfl⟩
def N4(n:Nat):(V n).lj 1=RM (.tup [.str "x",.str "y"]):=rfl
def yA(h:ai defs gv n 6 [.d net,.d d]=.ok (.bl RQ))(ha:jG a [.str "x",.str "y"]=RM b):∃ρ,ai defs gv (n+1) 8 [.d net,.d d,.d a]=if b then .ok .br else .exc ⟨.exc 61 [],ρ⟩:=by
 rw[az rfl rfl];unfold aQ;symm_saturate;rw[h];symm_saturate;unfold cX;symm_saturate;rw[N4,get_some,af,lC,ha];cases b with
 |true=>exact⟨[],rfl⟩|false=>exact⟨_,rfl⟩
noncomputable def md(l:Int)(p:Pt):Int:=if l=0 then p.1 else p.2
noncomputable def aA(l:Int):D:=if l=0 then .str "x"else .str "y"
noncomputable def uQ(C:List Cn)(l:Int)(x:Pt):Bool:=decide (md l (ae C x.1)=md l (ae C x.2))
def yB(a:l=0\/l=1)(p):aT (ao p) (.int l)=.ok (.int (md l p)):=by rcases a with rfl|rfl<;>rfl
def K0(a:l=0\/l=1):F3 (.tup [.str "x",.str "y"]) [aA l]=.ok (.int l):=by rcases a with rfl|rfl<;>rfl
def qp{W:List Pt}(b:l=0\/l=1)(nd:(C.map (·.1)).Nodup)(h:C.length<=168)(hW:∀x∈W,x.1∈C.map (·.1)/\x.2∈C.map (·.1)):ai defs gv (n+2) 9 [.d (aj C W),.d (aA l)]=.ok (.lst ((W.filter (uQ C l)).map ao)):=by
 rw[az (d:=eS) rfl rfl];unfold eS;symm_saturate;rw[g8 nd h];symm_saturate;unfold gu;symm_saturate;rw[N4,get_some,af];have j:(T.need (t6 (.tup [.str "x",.str "y"])):T Unit)=.ok ():=rfl;rw[j,af,K0 b];symm_saturate;have i:eO (dm (.tup 2 (.nm 0∘.nm 1∘.nil))) (λa=>(bN (V (n+1)) dW a).calm) (λa=>(ak (V (n+1)) dX a).calm) (W.map ao) (fF [RM (L2.W.d (aj C W)),RM (L2.W.d (aA l)),RM (L2.W.d (cZ C)),RM (L2.W.d (.int l))] 2 [2,3])=.ok ((W.filter (uQ C l)).map ao):=by
  refine(ot (c:=λd=>uQ C l (Du d)) (e:=λd=>d) (λa=>∃o f,a=[o,f,⇑(cZ C),↥l]) ?_ ⟨RP,RP,rfl⟩).trans ?_;rotate_left
  .rw[List.map_id',List.filter_map];rfl
  .rintro a⟨o,f,rfl⟩d hd;obtain⟨y,g,rfl⟩:=Ω3.mp hd;refine⟨_,oE,⟨_,_,rfl⟩,?_,λ_=>?_⟩
   .unfold dW;symm_saturate;rw[jn (hW y g).1,af,yB b,af,jn (hW y g).2,af,yB b,af,ma];exact Ξ0 T.ok (by unfold uQ;rw[UO,Θ3,Φ];rfl)
   .unfold dX;symm_saturate;rfl
 rw[i];symm_saturate
def yC(h:ai defs gv n 8 [.d net,.d d,.d a]=.exc x):∃ρ,ai defs gv (n+1) 10 [.d net,.d d,.d a]=.exc ⟨x.x,ρ⟩:=by
 rw[az rfl rfl];unfold uH;symm_saturate;rw[h];exact⟨_,rfl⟩
def K1{W}(f:l=0\/l=1)(nd:(C.map (·.1)).Nodup)(g:C.length<=168)(hW:∀x∈W,x.1∈C.map (·.1)/\x.2∈C.map (·.1))(h:c∈C.map (·.1))(e:ai defs gv (n+3) 7 [.d (.lst ((W.filter (uQ C l)).map ao)),.d (.int c)]=.ok r):ai defs gv (n+4) 10 [.d (aj C W),.d (.int c),.d (aA l)]=.ok r:=by
 obtain⟨j,i⟩:=yA (n:=n+2) (net:=aj C W) (a:=aA l) (b:=RQ) (by rw[has_int nd g,Φ2 h]) (by rcases f with rfl|rfl<;>rfl);rw[az rfl rfl];unfold uH;symm_saturate;rw[i];symm_saturate;unfold C4;symm_saturate;rw[qp f nd g hW];symm_saturate;rw[e];symm_saturate
theorem ic{i:Type}{f:i->D}{c:i->Bool}{e:i->D}(S:ah->Prop):∀{l:List i}{ρ:ah},(∀ρ,S ρ->∀a∈l,∃b,g (f a) ρ=.ok b/\S b/\tc b=.ok (c a)/\(c a=RQ->te b=.ok (e a)))->S ρ->eO g tc te (l.map f) ρ=.ok ((l.filter c).map e)
 |[],ρ,_,_=>rfl|d::s,ρ,h,r=>by
  obtain⟨b,q,p,o,n⟩:=h ρ r d RX;have k:=ic (f:=f) (e:=e) S (l:=s) (ρ:=b) (λρ a x m=>h ρ a x (RZ _ m)) p;rw[Sr];unfold eO;rw[q,af,o,af];cases j:c d with
  |true=>rw[Ξ2 rfl,n j,af,k,af,YK j];rfl|false=>rw[Ξ3 '2',k,YL (by simp[j])]
def wm(v)(own)(js)(tg)(it c elt)(ρ):ak v (.lc own js tg it c elt) ρ=(nQ v it ρ>>=λds=>eO (dm tg) (λρ=>(bN v c ρ).calm) (λρ=>(ak v elt ρ).calm) ds (fF ρ own.length js)>>=λr=>T.ok (D.lst r)):=rfl
def yD(v)(o o')(a b c)(ρ):ak v (.F2 o o' a b c) ρ=(do
  let d<-ak v a ρ;let e<-ak v b ρ;let y<-aZ (<-be o d e)if y then do let f<-ak v c ρ;be o' e f else .ok (.bl RT)):=rfl
def GF(v)(c a b)(ρ):ak v (.Ht c a b) ρ=(do let x<-bN v c ρ;if x then ak v a ρ else ak v b ρ):=rfl
def le_int(i j:Int):be .LtE (.int i) (.int j)=.ok (.bl (decide (i<=j))):=rfl
noncomputable def okN(i:Int):Bool:=decide (0<=i)&&decide (i<=1000000)
noncomputable def z0(p:Pt):Bool:=okN p.1&&okN p.2
def Qw(n):(V n).lj 0=RM (.int 1000000):=rfl
def Dz(i):ai defs gv (n+2) 1 [.d (.int i),.d (.int 0),.d (.int 1000000)]=.ok (.bl (okN i)):=by
 rw[az rfl rfl];unfold jf;symm_saturate;rw[qm];symm_saturate;rw[yD];symm_saturate;rw[le_int];symm_saturate;unfold okN;cases decide (0<=i)with
 |true=>symm_saturate;rw[le_int];rfl|false=>rfl
def GG(p):ai defs gv (n+3) 3 [.d (ao p)]=.ok (.bl (z0 p)):=by
 rw[az rfl rfl];have f:ai defs gv (n+2) 2 [.d (ao p),.d (.int 2)]=.ok (.bl RQ):=by kernel_rfl
 have c:ak (V (n+2)) (.lc ["place"] [] (.nm 0) (.aB ↑0) .yes eQ) [⇑(ao p)]=.ok (.lst [.bl (okN p.1),.bl (okN p.2)]):=by
  rw[wm];have e:eO (dm (.nm 0)) (λb=>(bN (V (n+2)) .yes b).calm) (λb=>(ak (V (n+2)) eQ b).calm) ([p.1,p.2].map D.int) (fF [RM (L2.W.d (ao p))] 1 [])=.ok (([p.1,p.2].filter λ_=>RQ).map λi=>D.bl (okN i)):=by
   refine ic (λb=>∃a,b=[a]) ?_ ⟨RP,rfl⟩;rintro b⟨a,rfl⟩i _;refine⟨_,rfl,⟨_,rfl⟩,rfl,λ_=>?_⟩;unfold eQ;symm_saturate;rw[Qw,get_some];symm_saturate;rw[Dz];rfl
  show(eO _ _ _ ([p.1,p.2].map D.int) (fF [RM (L2.W.d (ao p))] 1 [])>>=λr=>T.ok (D.lst r))=_;rw[e];rfl
 unfold kL;symm_saturate;rw[f];symm_saturate;show((((ak (V (n+2)) (.lc ["place"] [] (.nm 0) (.aB ↑0) .yes eQ) [⇑(ao p)]>>=λd=>T.ok [A.d d])>>=λas=>gr as>>=λg=>oX .all g)>>=λd=>T.ok (Fl.rt d))>>=_)>>=_=_;rw[c];show T.ok (D.bl ([okN p.1,okN p.2].all id))=_;unfold z0;cases okN p.1<;>cases okN p.2<;>rfl
noncomputable def me(l d:Int)(p:Pt):Pt:=if l=0 then(p.1+d,p.2)else(p.1,p.2+d)
def uR(a:l=0\/l=1)(p:Pt):ai defs gv (n+1) 11 [.d (ao p),.d (aA l),.d (.int d)]=.ok (ao (me l d p)):=by
 rw[az (d:=qj) rfl rfl];rcases a with rfl|rfl<;>kernel_rfl
noncomputable def bJ(x:Pt×Pt):D:=.tup [ao x.1,ao x.2]
noncomputable def mx(i j:Int):Int:=if j>i then j else i
noncomputable def mn(i j:Int):Int:=if j<i then j else i
noncomputable def yE(a b:Pt×Pt):Bool:=!(decide (mn a.2.1 b.2.1<mx a.1.1 b.1.1)||decide (mn a.2.2 b.2.2<mx a.1.2 b.1.2))
def GH:yE a b=RQ↔((a.1.1<=a.2.1/\a.1.1<=b.2.1)/\b.1.1<=a.2.1/\b.1.1<=b.2.1)/\(a.1.2<=a.2.2/\a.1.2<=b.2.2)/\b.1.2<=a.2.2/\b.1.2<=b.2.2:=by
 unfold yE;rw[TK,Xw,Θ2,Θ2];unfold mx mn;constructor
 .rintro⟨d,c⟩;split at d<;>split at d<;>split at c<;>split at c<;>omega
 .intro h;constructor<;>split<;>split<;>omega
def wo(a b):∃d,ai defs gv (n+1) 4 [.d (bJ a),.d (bJ b)]=.ok d/\gq d=!yE a b:=by
 have f:av (V n) (.asg (.tup 2 (.tup 2 (.nm 2∘.nm 3∘.nil)∘.tup 2 (.nm 4∘.nm 5∘.nil)∘.nil)) (.tup (↑0∘↑1∘.nil))) [⇑(bJ a),⇑(bJ b),RP,RP,RP,RP,RP,RP]=.ok (.nx [⇑(bJ a),⇑(bJ b),⇑(ao a.1),⇑(ao a.2),⇑(ao b.1),⇑(ao b.2),RP,RP]):=by kernel_rfl
 have e:ak (V n) (.tup ((.bi .max (.idx ↑2 (.cst (.int 0))∘.idx ↑4 (.cst (.int 0))∘.nil))∘(.bi .max (.idx ↑2 (.cst (.int 1))∘.idx ↑4 (.cst (.int 1))∘.nil))∘.nil)) [⇑(bJ a),⇑(bJ b),⇑(ao a.1),⇑(ao a.2),⇑(ao b.1),⇑(ao b.2),RP,RP]=.ok (ao (mx a.1.1 b.1.1,mx a.1.2 b.1.2)):=by kernel_rfl
 have c:ak (V n) (.tup ((.bi .min (.idx ↑3 (.cst (.int 0))∘.idx ↑5 (.cst (.int 0))∘.nil))∘(.bi .min (.idx ↑3 (.cst (.int 1))∘.idx ↑5 (.cst (.int 1))∘.nil))∘.nil)) [⇑(bJ a),⇑(bJ b),⇑(ao a.1),⇑(ao a.2),⇑(ao b.1),⇑(ao b.2),⇑(ao (mx a.1.1 b.1.1,mx a.1.2 b.1.2)),RP]=.ok (ao (mn a.2.1 b.2.1,mn a.2.2 b.2.2)):=by kernel_rfl
 have t:bN (V n) (.Cj (.aK .Gt (.idx ↑6 (.cst (.int 0))) (.idx ↑7 (.cst (.int 0)))) (.d8 (.aK .Gt (.idx ↑6 (.cst (.int 1))) (.idx ↑7 (.cst (.int 1)))))) [⇑(bJ a),⇑(bJ b),⇑(ao a.1),⇑(ao a.2),⇑(ao b.1),⇑(ao b.2),⇑(ao (mx a.1.1 b.1.1,mx a.1.2 b.1.2)),⇑(ao (mn a.2.1 b.2.1,mn a.2.2 b.2.2))]=.ok (decide (mn a.2.1 b.2.1<mx a.1.1 b.1.1)||decide (mn a.2.2 b.2.2<mx a.1.2 b.1.2)):=by
  show(if decide (mn a.2.1 b.2.1<mx a.1.1 b.1.1)=RQ then T.ok RQ else T.ok (decide (mn a.2.2 b.2.2<mx a.1.2 b.1.2)))=_;cases decide (mn a.2.1 b.2.1<mx a.1.1 b.1.1)<;>rfl
 rw[az rfl rfl];unfold kM yE;show∃d,(av (V n) (_∘_) [⇑(bJ a),⇑(bJ b),RP,RP,RP,RP,RP,RP]>>=jW)=.ok d/\_;rw[aR f,ba e];show∃d,(av (V n) (.set 7 _∘_) [⇑(bJ a),⇑(bJ b),⇑(ao a.1),⇑(ao a.2),⇑(ao b.1),⇑(ao b.2),⇑(ao (mx a.1.1 b.1.1,mx a.1.2 b.1.2)),RP]>>=jW)=.ok d/\_;rw[ba c];show∃d,(av (V n) (.iff _ _ _∘_) [⇑(bJ a),⇑(bJ b),⇑(ao a.1),⇑(ao a.2),⇑(ao b.1),⇑(ao b.2),⇑(ao (mx a.1.1 b.1.1,mx a.1.2 b.1.2)),⇑(ao (mn a.2.1 b.2.1,mn a.2.2 b.2.2))]>>=jW)=.ok d/\_;rw[aL,bg,t,af];cases decide (mn a.2.1 b.2.1<mx a.1.1 b.1.1)||decide (mn a.2.2 b.2.2<mx a.1.2 b.1.2)with
 |true=>exact⟨.br,rfl,rfl⟩|false=>exact⟨_,rfl,rfl⟩
theorem ie:∀(S:List Int),dM (S.map D.int)=RM S
 |[]=>rfl|x::S=>by
  show(dM (S.map D.int)).map (x::·)=_;rw[ie S];rfl
theorem wq(c:Int):∀(L:List Int),jG (.int c) (L.map D.int)=RM (decide (c∈L))
 |[]=>by simp[jG]|x::L=>by
  rw[Sr];unfold jG;have:dh 50 (.int x) (.int c)=RM (x==c):=rfl;rw[this,wq c L];by_cases e:x=c;.simp[e]
  .rw[Ξ.mpr e];have:c≠x:=T8 e;simp[this]
def mf(c)(F:List Int):be .NotIn (.int c) (.tup (F.map D.int))=.ok (.bl (!decide (c∈F))):=by rw[lC,wq];rfl
def DB(c)(F:List Int):be .In (.int c) (.tup (F.map D.int))=.ok (.bl (decide (c∈F))):=by
 show(T.get (jG (.int c) (F.map D.int))>>=λb=>T.ok (D.bl b))=_;rw[wq];rfl
def eZ{d:Type}{f}{e}{l:List d}(S:ah->Prop)(j:nQ (V n) it ρ=.ok (l.map f))(p:S (fF ρ own.length js))(h:∀ρ,S ρ->∀a∈l,∃b,dm tg (f a) ρ=.ok b/\S b/\ak (V n) elt b=.ok (e a)):ak (V n) (.lc own js tg it .yes elt) ρ=.ok (.lst (l.map e)):=by
 rw[wm,j,af];have:=ic (tc:=λρ=>(bN (V n) .yes ρ).calm) (te:=λρ=>(ak (V n) elt ρ).calm) S (λρ i a ha=>by
  obtain⟨b,o,m,k⟩:=h ρ i a ha;exact⟨b,o,m,rfl,λ_=>by rw[k];rfl⟩) p;rw[this,List.filter_eq_self.mpr λ_ _=>rfl];rfl
def yF{d:Type}{f}{c}{e}{l:List d}(S:ah->Prop)(j:nQ (V n) it ρ=.ok (l.map f))(q:S (fF ρ own.length js))(h:∀ρ,S ρ->∀a∈l,∃b,dm tg (f a) ρ=.ok b/\S b/\bN (V n) t b=.ok (c a)/\ak (V n) elt b=.ok (e a)):ak (V n) (.lc own js tg it t elt) ρ=.ok (.lst ((l.filter c).map e)):=by
 rw[wm,j,af];rw[ic S (λρ i a ha=>by
  obtain⟨b,p,o,m,k⟩:=h ρ i a ha;exact⟨b,p,o,by rw[m];rfl,λ_=>by rw[k];rfl⟩) q];rfl
def dB(g:ak (V n) a ρ=.ok x)(f:ak (V n) b ρ=.ok y):ak (V n) (.tup (a∘b∘.nil)) ρ=.ok (.tup [x,y]):=by
 show(((ak (V n) a ρ>>=λd=>(ak (V n) b ρ>>=λd=>T.ok [A.d d])>>=λe=>T.ok (A.d d::e)))>>=λas=>gr as>>=λc=>T.need (decide (c.length<=R1))>>=λ_=>T.ok (D.tup c))=_;rw[g,f];show(T.need (decide (2<=R1))>>=λ_=>T.ok (D.tup [x,y]))=_;rw[HD];rfl
def sA(h:ak (V n) a ρ=.ok x):ak (V n) (.bi f (a∘.nil)) ρ=oX f [x]:=by
 show((ak (V n) a ρ>>=λd=>T.ok [A.d d])>>=λas=>gr as>>=λb=>oX f b)=_;rw[h];rfl
structure qr(P:List Pt)(b:Pt×Pt):Prop where
 x0:b.1.1∈P.map (·.1)x1:∀p∈P,b.1.1<=p.1
 y0:b.1.2∈P.map (·.2)y1:∀p∈P,b.1.2<=p.2
 u0:b.2.1∈P.map (·.1)u1:∀p∈P,p.1<=b.2.1
 v0:b.2.2∈P.map (·.2)v1:∀p∈P,p.2<=b.2.2
def sj(h:ua ns=RM m):oX .top [.lst (ns.map D.int)]=.ok (.int m):=by
 show(T.get (dM (ns.map D.int))>>=λns=>T.get (ua ns)>>=λm=>T.ok (D.int m))=_;rw[ie,get_some,af,h];rfl
def sk(h:zQ ns=RM m):oX .low [.lst (ns.map D.int)]=.ok (.int m):=by
 show(T.get (dM (ns.map D.int))>>=λns=>T.get (zQ ns)>>=λm=>T.ok (D.int m))=_;rw[ie,get_some,af,h];rfl
def DC(A:l=0\/l=1)(hP:P≠[])(M:P.length<=1000):∃b,ai defs gv (n+2) 12 [.d (.lst (P.map ao)),.d (aA l),.d (.int d)]=.ok (bJ b)/\qr (P++P.map (me l d)) b:=by
 obtain⟨Q,j⟩:∃Q,Q=P++P.map (me l d):=⟨_,rfl⟩;rw[<-j];have i:Q≠[]:=by rw[j];simp[hP]
 have nx:Q.map (·.1)≠[]:=by simpa using i
 have r:Q.map (·.2)≠[]:=by simpa using i
 obtain⟨a1,F,y,b1⟩:=lV nx;obtain⟨L,E,x,I⟩:=lV r;obtain⟨K,C,w,H⟩:=hV nx;obtain⟨J,B,v,G⟩:=hV r;refine⟨((a1,L),(K,J)),?_,y,λp c=>b1 _ (Ω3.mpr ⟨p,c,rfl⟩),x,λp c=>I _ (Ω3.mpr ⟨p,c,rfl⟩),w,λp c=>H _ (Ω3.mpr ⟨p,c,rfl⟩),v,λp c=>G _ (Ω3.mpr ⟨p,c,rfl⟩)⟩;have u:ak (V (n+1)) (.op .Add ↑0 (.lc ["spot"] [1,2] (.nm 0) (.aB ↑0) .yes dN)) [⇑(.lst (P.map ao)),⇑(aA l),↥d,RP,RP,RP]=.ok (.lst (Q.map ao)):=by
  have q:=eZ (n:=n+1) (own:=["spot"]) (js:=[1,2]) (tg:=.nm 0) (it:=.aB ↑0) (elt:=dN) (ρ:=[⇑(.lst (P.map ao)),⇑(aA l),↥d,RP,RP,RP]) (e:=λp=>ao (me l d p)) (λρ=>∃a,ρ=[a,⇑(aA l),↥d]) rfl ⟨RP,rfl⟩ (by
   rintro ρ⟨a,rfl⟩p _;refine⟨_,rfl,⟨_,rfl⟩,?_⟩;unfold dN;symm_saturate;rw[uR A];symm_saturate);show(T.ok (D.lst (P.map ao))>>=λd=>ak (V (n+1)) (.lc ["spot"] [1,2] (.nm 0) (.aB ↑0) .yes dN) _>>=λe=>qb .Add d e)=_;rw[q];show(T.need (decide ((P.map ao).length+(P.map λp=>ao (me l d p)).length<=R1))>>=λ_=>T.ok (D.lst (P.map ao++P.map λp=>ao (me l d p))))=_;rw[sd (by simp only[RV];omega),j,SA,S7];rfl
 have t:∀h g,ak (V (n+1)) (.lc ["x","y"] [] (.tup 2 (.nm 0∘.nm 1∘.nil)) (.aB ↑3) .yes lz) [⇑(.lst (P.map ao)),⇑(aA l),↥d,⇑(.lst (Q.map ao)),h,g]=.ok (.lst ((Q.map (·.1)).map D.int)):=λh g=>by
  rw[S7];exact eZ (λρ=>∃a b,ρ=[a,b]) rfl ⟨RP,RP,rfl⟩ (by
   rintro ρ⟨a,b,rfl⟩p _;exact⟨_,oE,⟨_,_,rfl⟩,rfl⟩)
 have s:∀h g,ak (V (n+1)) (.lc ["x","y"] [] (.tup 2 (.nm 0∘.nm 1∘.nil)) (.aB ↑3) .yes ly) [⇑(.lst (P.map ao)),⇑(aA l),↥d,⇑(.lst (Q.map ao)),h,g]=.ok (.lst ((Q.map (·.2)).map D.int)):=λh g=>by
  rw[S7];exact eZ (λρ=>∃a b,ρ=[a,b]) rfl ⟨RP,RP,rfl⟩ (by
   rintro ρ⟨a,b,rfl⟩p _;exact⟨_,oE,⟨_,_,rfl⟩,rfl⟩)
 rw[az rfl rfl];show(av (V (n+1)) (_∘_) [⇑(.lst (P.map ao)),⇑(aA l),↥d,RP,RP,RP]>>=jW)=_;rw[ba u];show(av (V (n+1)) (.set 4 _∘_) [⇑(.lst (P.map ao)),⇑(aA l),↥d,⇑(.lst (Q.map ao)),RP,RP]>>=jW)=_;rw[ba (t RP RP)];show(av (V (n+1)) (.set 5 _∘_) [⇑(.lst (P.map ao)),⇑(aA l),↥d,⇑(.lst (Q.map ao)),⇑(.lst ((Q.map (·.1)).map D.int)),RP]>>=jW)=_;rw[ba (s _ RP)];have o:ak (V (n+1)) ↑4 [⇑(.lst (P.map ao)),⇑(aA l),↥d,⇑(.lst (Q.map ao)),⇑(.lst ((Q.map (·.1)).map D.int)),⇑(.lst ((Q.map (·.2)).map D.int))]=.ok (.lst ((Q.map (·.1)).map D.int)):=rfl;have m:ak (V (n+1)) ↑5 [⇑(.lst (P.map ao)),⇑(aA l),↥d,⇑(.lst (Q.map ao)),⇑(.lst ((Q.map (·.1)).map D.int)),⇑(.lst ((Q.map (·.2)).map D.int))]=.ok (.lst ((Q.map (·.2)).map D.int)):=rfl;have k:=dB (dB ((sA o).trans (sk F)) ((sA m).trans (sk E))) (dB ((sA o).trans (sj C)) ((sA m).trans (sj B)));show(((ak (V (n+1)) (.tup ((.tup (.bi .low (↑4∘.nil)∘.bi .low (↑5∘.nil)∘.nil))∘(.tup (.bi .top (↑4∘.nil)∘.bi .top (↑5∘.nil)∘.nil))∘.nil)) [⇑(.lst (P.map ao)),⇑(aA l),↥d,⇑(.lst (Q.map ao)),⇑(.lst ((Q.map (·.1)).map D.int)),⇑(.lst ((Q.map (·.2)).map D.int))]>>=λd=>T.ok (Fl.rt d))>>=_)>>=_)=_;rw[k];rfl
section
variable{W:List Pt}{l d:Int}
noncomputable def bj(F:List Int):D:=.tup (F.map D.int)
theorem uS:∀(G:List Int)(a:Option (List Int))(o:Option L2.W),(∀c∈G,ai defs gv n 10 [.d (aj C W),.d (.int c),.d (aA l)]=.ok (bj F))->(a=RP\/a=RM F)->∃r ρ',b_ (dm (.nm 0)) (λρ=>(bN (V n) .yes ρ).calm) (uf (λρ=>(ak (V n) dy ρ).calm)) a (G.map D.int) [o,⇑(aj C W),⇑(aA l)]=.ok (r,ρ')/\(r=RM F\/G=[]/\r=a)
 |[],a,o,_,_=>⟨a,_,rfl,.inr ⟨rfl,rfl⟩⟩|c::G,a,o,b,ha=>by
  obtain⟨r,ρ',e,g⟩:=uS (n:=n) G (RM F) ↥c (λx f=>b x (RZ _ f)) (.inr rfl);refine⟨r,ρ',?_,.inl ?_⟩
  .have i:(ak (V n) dy [↥c,⇑(aj C W),⇑(aA l)]).calm=.ok (bj F):=by
    unfold dy;symm_saturate;rw[b c RX];rfl
   have h:uf (λρ=>(ak (V n) dy ρ).calm) a [↥c,⇑(aj C W),⇑(aA l)]=.ok (RM F,[↥c,⇑(aj C W),⇑(aA l)]):=by
    show((ak (V n) dy [↥c,⇑(aj C W),⇑(aA l)]).calm>>=λx=>T.get (x_ x)>>=λns=>T.need (decide (a=RP\/a=RM ns))>>=λ_=>T.ok (RM ns,([↥c,⇑(aj C W),⇑(aA l)]:ah)))=_;rw[i,af];show(T.get (dM (F.map D.int))>>=λns=>T.need (decide (a=RP\/a=RM ns))>>=λ_=>T.ok (RM ns,([↥c,⇑(aj C W),⇑(aA l)]:ah)))=_;rw[ie,get_some,af,Φ2 ha];rfl
   refine aaK ?_ e;rw[Sr,b_];show(uf _ a [↥c,⇑(aj C W),⇑(aA l)]>>=_)=_;rw[h];rfl
  .rcases g with z|z;.exact z
   .exact z.2
noncomputable def b8(C:List Cn)(F:List Int):List Pt:=F.map (ae C)
def qt(t:l=0\/l=1)(nd:(C.map (·.1)).Nodup)(w:C.length<=168)(k:F≠[])(h:F.length<=1000)(i:∀c∈F,c∈C.map (·.1))(u:∀c∈F,ai defs gv (n+4) 10 [.d (aj C W),.d (.int c),.d (aA l)]=.ok (bj F)):∃b,ai defs gv (n+5) 13 [.d (aj C W),.d (bj F),.d (aA l),.d (.int d)]=.ok (.lst [bJ b])/\qr (b8 C F++(b8 C F).map (me l d)) b:=by
 obtain⟨b,B,hb⟩:=DC (n:=n+2) (P:=b8 C F) (d:=d) t (by unfold b8;simpa using k) (by unfold b8;rw[RV];exact h);refine⟨b,?_,hb⟩;have p:ak (V (n+4)) (.Ck ["c"] [0,2] (.nm 0) (.aB ↑1) .yes dy) [⇑(aj C W),⇑(bj F),⇑(aA l),↥d,⇑(cZ C),RP]=.ok (.lst [bj F]):=by
  obtain⟨r,m,e,j⟩:=uS (n:=n+4) F RP RP u (.inl rfl);have j:r=RM F:=j.elim id λz=>Ξ1 z.1 k;subst j;show(b_ _ _ _ RP (F.map D.int) [RP,⇑(aj C W),⇑(aA l)]>>=λr=>T.ok (D.lst (Cg r.1)))=_;rw[e];rfl
 have o:ak (V (n+4)) (.lc ["numbers"] [2,3,4] (.nm 0) (.aB ↑5) .yes kJ) [⇑(aj C W),⇑(bj F),⇑(aA l),↥d,⇑(cZ C),⇑(.lst [bj F])]=.ok (.lst [bJ b]):=by
  refine eZ (own:=["numbers"]) (js:=[2,3,4]) (l:=[bj F]) (f:=λx=>x) (e:=λ_=>bJ b) (λg=>∃a,g=[a,⇑(aA l),↥d,⇑(cZ C)]) rfl ⟨RP,rfl⟩ ?_;rintro g⟨a,rfl⟩x v;rw[Ω1.mp v];refine⟨_,rfl,⟨_,rfl⟩,?_⟩;have q:ak (V (n+4)) (.lc ["c"] [3] (.nm 0) (.aB ↑0) .yes kH) [⇑(bj F),⇑(aA l),↥d,⇑(cZ C)]=.ok (.lst ((b8 C F).map ao)):=by
   unfold b8;rw[S7];refine eZ (own:=["c"]) (js:=[3]) (l:=F) (f:=D.int) (λg=>∃a,g=[a,⇑(cZ C)]) rfl ⟨RP,rfl⟩ ?_;rintro g⟨a,rfl⟩c y;refine⟨_,rfl,⟨_,rfl⟩,?_⟩;show aT (cZ C) (.int c)=_;rw[jn (i c y)];rfl
  show((ak (V (n+4)) (.lc ["c"] [3] (.nm 0) (.aB ↑0) .yes kH) [⇑(bj F),⇑(aA l),↥d,⇑(cZ C)]>>=λx=>T.ok [A.d x,A.d (aA l),A.d (.int d)])>>=λas=>((V (n+4)).call 12 as).at' _)=_;rw[q];show(ai defs gv (n+4) 12 [.d (.lst ((b8 C F).map ao)),.d (aA l),.d (.int d)]).at' _=_;rw[B];rfl
 rw[az (d:=oo) rfl rfl];unfold oo;have s:ak (V (n+4)) (.call 5 (↑0∘.nil)) [⇑(aj C W),⇑(bj F),⇑(aA l),↥d,RP,RP]=.ok (cZ C):=by
  show(ai defs gv (n+4) 5 [.d (aj C W)]).at' _=_;rw[g8 nd w];rfl
 show(av (V (n+4)) (_∘_) [⇑(aj C W),⇑(bj F),⇑(aA l),↥d,RP,RP]>>=jW)=_;rw[ba s];unfold qi;show(av (V (n+4)) (.set 5 _∘_) [⇑(aj C W),⇑(bj F),⇑(aA l),↥d,⇑(cZ C),RP]>>=jW)=_;rw[ba p];unfold qh;show(((ak (V (n+4)) (.lc ["numbers"] [2,3,4] (.nm 0) (.aB ↑5) .yes kJ) [⇑(aj C W),⇑(bj F),⇑(aA l),↥d,⇑(cZ C),⇑(.lst [bj F])]>>=λd=>T.ok (Fl.rt d))>>=_)>>=_)=_;rw[o];rfl
noncomputable def aS(C:List Cn)(W:List Pt)(F:List Int)(l:Int):List (Pt×Pt):=(C.filter λc=>!decide (c.1∈F)).map (λc=>(ae C c.1,ae C c.1))++((W.filter (uQ C l)).filter λx=>!decide (x.1∈F)).map λx=>(ae C x.1,ae C x.2)
theorem GI(m:l=0\/l=1)(nd:(C.map (·.1)).Nodup)(h:C.length<=168)(wl:W.length<=336)(hW:∀x∈W,x.1∈C.map (·.1)/\x.2∈C.map (·.1)):ai defs gv (n+3) 14 [.d (aj C W),.d (bj F),.d (aA l)]=.ok (.lst ((aS C W F l).map bJ)):=by
 have z:=oM;have k:ak (V (n+2)) (.call 5 (↑0∘.nil)) [⇑(aj C W),⇑(bj F),⇑(aA l),RP,RP]=.ok (cZ C):=by
  show(ai defs gv (n+2) 5 [.d (aj C W)]).at' _=_;rw[g8 nd h];rfl
 have j:ak (V (n+2)) (.lc ["c"] [1,3] (.nm 0) (.aB ↑3) iI iJ) [⇑(aj C W),⇑(bj F),⇑(aA l),⇑(cZ C),RP]=.ok (.lst ((C.filter λc=>!decide (c.1∈F)).map λc=>bJ (ae C c.1,ae C c.1))):=by
  refine yF (own:=["c"]) (js:=[1,3]) (l:=C) (f:=kI) (λg=>∃a,g=[a,⇑(bj F),⇑(cZ C)]) rfl ⟨RP,rfl⟩ ?_;rintro g⟨a,rfl⟩c p;refine⟨_,rfl,⟨_,rfl⟩,?_,?_⟩
  .show(be .NotIn (.int c.1) (bj F)>>=aZ)=_;unfold bj;rw[mf];rfl
  .have q:ak (V (n+2)) (.idx ↑2 ↑0) [↥c.1,⇑(bj F),⇑(cZ C)]=.ok (ao (ae C c.1)):=jn (Ω3.mpr ⟨c,p,rfl⟩);exact dB q q
 have i:ak (V (n+2)) (.lc ["a","b"] [1,3] (.tup 2 (.nm 0∘.nm 1∘.nil)) (.aB (.call 9 (↑0∘↑2∘.nil))) fy fA) [⇑(aj C W),⇑(bj F),⇑(aA l),⇑(cZ C),⇑(.lst ((C.filter λc=>!decide (c.1∈F)).map λc=>bJ (ae C c.1,ae C c.1)))]=.ok (.lst (((W.filter (uQ C l)).filter λx=>!decide (x.1∈F)).map λx=>bJ (ae C x.1,ae C x.2))):=by
  refine yF (own:=["a","b"]) (js:=[1,3]) (l:=W.filter (uQ C l)) (f:=ao) (λg=>∃a b,g=[a,b,⇑(bj F),⇑(cZ C)]) ?_ ⟨RP,RP,rfl⟩ ?_
  .show((ai defs gv (n+2) 9 [.d (aj C W),.d (aA l)]).at' _>>=λd=>T.get (gL d))=_;rw[qp m nd h hW];rfl
  rintro g⟨a,b,rfl⟩x o;have hw:=hW x (Ψ.mp o).1;refine⟨_,oE,⟨_,_,rfl⟩,?_,?_⟩
  .show(be .NotIn (.int x.1) (bj F)>>=aZ)=_;unfold bj;rw[mf];rfl
  .exact dB (show ak (V (n+2)) (.idx ↑3 ↑0) _=_ from jn hw.1) (show ak (V (n+2)) (.idx ↑3 ↑1) _=_ from jn hw.2)
 rw[az (d:=gh) rfl rfl];unfold gh;show(av (V (n+2)) (_∘_) [⇑(aj C W),⇑(bj F),⇑(aA l),RP,RP]>>=jW)=_;rw[ba k];unfold iK;show(av (V (n+2)) (.set 4 _∘_) [⇑(aj C W),⇑(bj F),⇑(aA l),⇑(cZ C),RP]>>=jW)=_;rw[ba j];show(((((ak (V (n+2)) ↑4 _>>=λd=>ak (V (n+2)) (.lc ["a","b"] [1,3] (.tup 2 (.nm 0∘.nm 1∘.nil)) (.aB (.call 9 (↑0∘↑2∘.nil))) fy fA) [⇑(aj C W),⇑(bj F),⇑(aA l),⇑(cZ C),⇑(.lst ((C.filter λc=>!decide (c.1∈F)).map λc=>bJ (ae C c.1,ae C c.1)))]>>=λe=>qb .Add d e))>>=λd=>T.ok (Fl.rt d))>>=_)>>=_)=_;rw[i];have t:=Xb (λc:Cn=>!decide (c.1∈F)) C;have s:=Xb (uQ C l) W;have r:=Xb (λx:Pt=>!decide (x.1∈F)) (W.filter (uQ C l));have ea:qb .Add (.lst ((C.filter λc=>!decide (c.1∈F)).map λc=>bJ (ae C c.1,ae C c.1))) (.lst (((W.filter (uQ C l)).filter λx=>!decide (x.1∈F)).map λx=>bJ (ae C x.1,ae C x.2)))=.ok (.lst ((aS C W F l).map bJ)):=by
  show(T.need (decide (((C.filter λc=>!decide (c.1∈F)).map λc=>bJ (ae C c.1,ae C c.1)).length+(((W.filter (uQ C l)).filter λx=>!decide (x.1∈F)).map λx=>bJ (ae C x.1,ae C x.2)).length<=R1))>>=λ_=>T.ok (D.lst (_++_)))=_;rw[sd (by simp only[RV];omega)];unfold aS;rw[SA,S7,S7];rfl
 show((((qb .Add (.lst ((C.filter λc=>!decide (c.1∈F)).map λc=>bJ (ae C c.1,ae C c.1))) (.lst (((W.filter (uQ C l)).filter λx=>!decide (x.1∈F)).map λx=>bJ (ae C x.1,ae C x.2))))>>=λd=>T.ok (Fl.rt d))>>=_)>>=_)=_;rw[ea];rfl
end
theorem kQ{b:Type}(g:b->Bool):∀(l:List b),bools (l.map λa=>.bl (g a))=RM (l.map g)
 |[]=>rfl|a::l=>by
  show(bools (l.map λa=>.bl (g a))).map (g a::·)=_;rw[kQ g l];rfl
def all_bools{b:Type}(g)(l:List b):oX .all [.lst (l.map λa=>.bl (g a))]=.ok (.bl (l.all g)):=by
 show(T.get (bools (l.map λa=>.bl (g a)))>>=λbs=>T.ok (D.bl (bs.all id)))=_;rw[kQ,get_some,af,List.all_map];rfl
def any_bools{b:Type}(g)(l:List b):oX .any [.lst (l.map λa=>.bl (g a))]=.ok (.bl (l.any g)):=by
 show(T.get (bools (l.map λa=>.bl (g a)))>>=λbs=>T.ok (D.bl (bs.any id)))=_;rw[kQ,get_some,af,aaL];rfl
theorem yG{r:ah}:∀(C a:List Cn)(o:Option L2.W),((a++C).map (·.1)).Nodup->(a++C).length<=168->(∀c∈C,ak (V n) ve (↥c.1::r)=.ok (f c))->∃ρ',b_ (dm (.nm 0)) (λρ=>(bN (V n) .yes ρ).calm) (ll (λρ=>(ak (V n) ↑0 ρ).calm) (λρ=>(ak (V n) ve ρ).calm)) (a.map kI,a.map f) (C.map kI) (o::r)=.ok (((a++C).map kI,(a++C).map f),ρ')
 |[],a,o,_,_,_=>⟨o::r,by rw[TF];rfl⟩|x::C,a,o,nd,b,e=>by
  have z:=oM;have ha:a++x::C=(a++[x])++C:=by simp
  rw[ha]at nd b⊢;obtain⟨ρ',g⟩:=yG (n:=n) (ve:=ve) (r:=r) (f:=f) C (a++[x]) ↥x.1 nd b λc j=>e c (RZ _ j);refine⟨ρ',?_⟩;have i:x.1∉a.map (·.1):=λh=>by
   rw[SA,Uc]at nd;have:=nd.1;rw[SA,Uc]at this;exact this.2.2 _ h x.1 '2' rfl
  have m:putD (a.map kI) (a.map f) (.int x.1) (f x)=((a++[x]).map kI,(a++[x]).map f):=by
   unfold putD;rw[oG,Φ1 i,Ξ3 '2',SA,SA];rfl
  have l:(T.need (aC (a.map kI) (.int x.1)&&decide ((a.map kI).length<R1)):T Unit)=.ok ():=by
   rw[kP,Φ2 (show(a.map kI).length<R1 by rw[RV];simp only[SR,Vi]at b;omega)];rfl
  have k:ll (λρ=>(ak (V n) ↑0 ρ).calm) (λρ=>(ak (V n) ve ρ).calm) (a.map kI,a.map f) (↥x.1::r)=.ok (((a++[x]).map kI,(a++[x]).map f),↥x.1::r):=by
   show((ak (V n) ve (↥x.1::r)).calm>>=λy=>T.need (aC (a.map kI) (.int x.1)&&decide ((a.map kI).length<R1))>>=λ_=>T.ok (putD (a.map kI) (a.map f) (.int x.1) y,(↥x.1::r:ah)))=_;rw[e x RX,Gn,af,l,af,m]
  refine aaK ?_ g;rw[Sr,b_];show(ll _ _ (a.map kI,a.map f) (↥x.1::r)>>=_)=_;rw[k];rfl
theorem DD:∀{C:List Cn},(C.map (·.1)).Nodup->c∈C->aP (C.map kI) (C.map f) (.int c.1)=RM (f c)
 |x::C,nd,h=>by
  rw[Sr,Φ3]at nd;show(if decide (x.1=c.1)=RQ then RM (f x)else aP (C.map kI) (C.map f) (.int c.1))=_;rcases Ω2.mp h with rfl|z;.rw[Φ2 rfl,Ξ2 rfl]
  .rw[Φ1 λe=>nd.1 (by rw[e];exact Ω3.mpr ⟨c,z,rfl⟩),Ξ3 '2'];exact DD nd.2 z
def DF{C:List Cn}(nd:(C.map (·.1)).Nodup)(h:c∈C):aT (.aO (C.map kI) (C.map f)) (.int c.1)=.ok (f c):=by
 show(T.need (aC (C.map kI) (.int c.1))>>=λ_=>T.get (aP (C.map kI) (C.map f) (.int c.1)))=_;rw[kP,DD nd h];rfl
section
variable{W:List Pt}
noncomputable def nw(C:List Cn)(F:List Int)(l d:Int)(c:Cn):Pt:=if c.1∈F then me l d (ae C c.1)else ae C c.1
noncomputable def iP(C:List Cn)(F:List Int)(l d:Int):D:=.aO (C.map kI) (C.map λc=>ao (nw C F l d c))
noncomputable def kR(C:List Cn)(F:List Int)(l d:Int):List Cn:=C.map λc=>(c.1,nw C F l d c)
noncomputable def jr(C:List Cn)(W:List Pt)(F:List Int)(l d:Int)(o4 b a o7:Option L2.W):ah:=[⇑(aj C W),⇑(bj F),⇑(aA l),↥d,o4,b,a,o7]
def K2(a:∀p:Pt,ai defs gv k 11 [.d (ao p),.d (aA l),.d (.int d)]=.ok (ao (me l d p)))(nd:(C.map (·.1)).Nodup)(j:C.length<=168):ak (V k) (.dc ["c"] [1,2,3,4] (.nm 0) (.aB ↑4) .yes ↑0 (.Ht (.aK .In ↑0 ↑1) (.call 11 (.idx ↑4 ↑0∘↑2∘↑3∘.nil)) (.idx ↑4 ↑0))) (jr C W F l d ⇑(cZ C) i g o7)=.ok (iP C F l d):=by
 obtain⟨b,e⟩:=yG (ve:=.Ht (.aK .In ↑0 ↑1) (.call 11 (.idx ↑4 ↑0∘↑2∘↑3∘.nil)) (.idx ↑4 ↑0)) (f:=λc=>ao (nw C F l d c)) C [] RP nd j λc o=>by
  have m:=jn (Ω3.mpr ⟨c,o,rfl⟩);have t:bN (V k) (.aK .In ↑0 ↑1) [↥c.1,⇑(bj F),⇑(aA l),↥d,⇑(cZ C)]=.ok (decide (c.1∈F)):=by
   show(be .In (.int c.1) (bj F)>>=aZ)=_;unfold bj;rw[DB];rfl
  have v:ak (V k) (.idx ↑4 ↑0) [↥c.1,⇑(bj F),⇑(aA l),↥d,⇑(cZ C)]=.ok (ao (ae C c.1)):=m;rw[GF,t,af];unfold nw;by_cases h:c.1∈F
  .rw[Φ2 h,Ξ2 rfl,Ξ2 h];show((ak (V k) (.idx ↑4 ↑0) [↥c.1,⇑(bj F),⇑(aA l),↥d,⇑(cZ C)]>>=λx=>T.ok [A.d x,A.d (aA l),A.d (.int d)])>>=λas=>((V k).call 11 as).at' _)=_;rw[v];show(ai defs gv k 11 [.d (ao (ae C c.1)),.d (aA l),.d (.int d)]).at' _=_;rw[a];rfl
  .rw[Φ1 h,Ξ3 '2',Ξ3 h,v]
 show(b_ _ _ _ ([],[]) (C.map kI) [RP,⇑(bj F),⇑(aA l),↥d,⇑(cZ C)]>>=λr=>T.ok (D.aO r.1.1 r.1.2))=_;rw[show b_ _ _ _ ([],[]) (C.map kI) [RP,⇑(bj F),⇑(aA l),↥d,⇑(cZ C)]=_ from e];rfl
def GJ(nd:(C.map (·.1)).Nodup)(G:C.length<=168)(f5:ai defs gv k 5 [.d (aj C W)]=.ok (cZ C))(s:∀p:Pt,ai defs gv k 11 [.d (ao p),.d (aA l),.d (.int d)]=.ok (ao (me l d p)))(I:∀p:Pt,ai defs gv k 3 [.d (ao p)]=.ok (.bl (z0 p)))(o:ai defs gv k 14 [.d (aj C W),.d (bj F),.d (aA l)]=.ok (.lst ((aS C W F l).map bJ)))(K:ai defs gv k 13 [.d (aj C W),.d (bj F),.d (aA l),.d (.int d)]=.ok (.lst [bJ b]))(H:∀x:Pt×Pt,∃d,ai defs gv k 4 [.d (bJ b),.d (bJ x)]=.ok d/\gq d=!yE b x):∃ρ,ai defs gv (k+1) 15 [.d (aj C W),.d (bj F),.d (aA l),.d (.int d)]=if(C.all λc=>z0 (nw C F l d c))&&!((aS C W F l).any (yE b))then .ok (aj (kR C F l d) W)else .exc ⟨.exc 73 [],ρ⟩:=by
 have E:ak (V k) (.call 5 (↑0∘.nil)) (jr C W F l d RP RP RP RP)=.ok (cZ C):=by
  show(ai defs gv k 5 [.d (aj C W)]).at' _=_;rw[f5];rfl
 have B:ak (V k) (.lc ["c"] [5] (.nm 0) (.aB ↑5) .yes j5) (jr C W F l d ⇑(cZ C) ⇑(iP C F l d) RP RP)=.ok (.lst (C.map λc=>.bl (z0 (nw C F l d c)))):=by
  refine eZ (own:=["c"]) (js:=[5]) (l:=C) (f:=kI) (λρ=>∃a,ρ=[a,⇑(iP C F l d)]) rfl ⟨RP,rfl⟩ ?_;rintro ρ⟨a,rfl⟩c j;refine⟨_,rfl,⟨_,rfl⟩,?_⟩;have q:ak (V k) (.idx ↑1 ↑0) [↥c.1,⇑(iP C F l d)]=.ok (ao (nw C F l d c)):=DF nd j;show((ak (V k) (.idx ↑1 ↑0) [↥c.1,⇑(iP C F l d)]>>=λx=>T.ok [A.d x])>>=λas=>((V k).call 3 as).at' _)=_;rw[q];show(ai defs gv k 3 [.d (ao (nw C F l d c))]).at' _=_;rw[I];rfl
 have h:bN (V k) (.rD (.sy (.bi .all (.lc ["c"] [5] (.nm 0) (.aB ↑5) .yes j5∘.nil)))) (jr C W F l d ⇑(cZ C) ⇑(iP C F l d) RP RP)=.ok (!(C.all λc=>z0 (nw C F l d c))):=by
  show((ak (V k) (.bi .all (.lc ["c"] [5] (.nm 0) (.aB ↑5) .yes j5∘.nil)) (jr C W F l d ⇑(cZ C) ⇑(iP C F l d) RP RP)>>=Cp)>>=λc=>T.ok (!c))=_;rw[sA B,all_bools];rfl
 have z:ak (V k) (.call 14 (↑0∘↑1∘↑2∘.nil)) (jr C W F l d ⇑(cZ C) ⇑(iP C F l d) RP RP)=.ok (.lst ((aS C W F l).map bJ)):=by
  show(ai defs gv k 14 [.d (aj C W),.d (bj F),.d (aA l)]).at' _=_;rw[o];rfl
 have t:nQ (V k) (.aB (.call 13 (↑0∘↑1∘↑2∘↑3∘.nil))) (jr C W F l d ⇑(cZ C) ⇑(iP C F l d) ⇑(.lst ((aS C W F l).map bJ)) RP)=.ok [bJ b]:=by
  show((ai defs gv k 13 [.d (aj C W),.d (bj F),.d (aA l),.d (.int d)]).at' _>>=λd=>T.get (gL d))=_;rw[K];rfl
 have y:ak (V k) (.lc ["thing"] [7] (.nm 0) (.aB ↑6) .yes j4) (jr C W F l d ⇑(cZ C) ⇑(iP C F l d) ⇑(.lst ((aS C W F l).map bJ)) ⇑(bJ b))=.ok (.lst ((aS C W F l).map λx=>.bl (yE b x))):=by
  refine eZ (own:=["thing"]) (js:=[7]) (l:=aS C W F l) (f:=bJ) (λρ=>∃a,ρ=[a,⇑(bJ b)]) rfl ⟨RP,rfl⟩ ?_;rintro ρ⟨a,rfl⟩x L;refine⟨_,rfl,⟨_,rfl⟩,?_⟩;obtain⟨r,J,i⟩:=H x;show((ai defs gv k 4 [.d (bJ b),.d (bJ x)]).at' _>>=λd=>be .IsNot d .br)=_;rw[J];show(T.ok (D.bl (!gq r)))=_;rw[i,Bool.not_not]
 have g:bN (V k) (.sy (.bi .any (.lc ["thing"] [7] (.nm 0) (.aB ↑6) .yes j4∘.nil))) (jr C W F l d ⇑(cZ C) ⇑(iP C F l d) ⇑(.lst ((aS C W F l).map bJ)) ⇑(bJ b))=.ok ((aS C W F l).any (yE b)):=by
  show(ak (V k) (.bi .any (.lc ["thing"] [7] (.nm 0) (.aB ↑6) .yes j4∘.nil)) (jr C W F l d ⇑(cZ C) ⇑(iP C F l d) ⇑(.lst ((aS C W F l).map bJ)) ⇑(bJ b))>>=Cp)=_;rw[sA y,any_bools];rfl
 have w:ak (V k) (.lc ["c"] [5] (.nm 0) (.aB ↑5) .yes j3) (jr C W F l d ⇑(cZ C) ⇑(iP C F l d) ⇑(.lst ((aS C W F l).map bJ)) ⇑(bJ b))=.ok (.lst ((kR C F l d).map cD)):=by
  unfold kR;rw[S7];refine eZ (own:=["c"]) (js:=[5]) (l:=C) (f:=kI) (λρ=>∃a,ρ=[a,⇑(iP C F l d)]) rfl ⟨RP,rfl⟩ ?_;rintro ρ⟨a,rfl⟩c j;refine⟨_,rfl,⟨_,rfl⟩,?_⟩;unfold j3;have q:aT (iP C F l d) (kI c)=.ok (ao (nw C F l d c)):=DF nd j;symm_saturate;rw[q];show _=T.ok (cD (c.1,nw C F l d c));generalize nw C F l d c=p;rfl
 rw[az (d:=rW) rfl rfl];unfold rW;show∃ρ,(av (V k) (_∘_) (jr C W F l d RP RP RP RP)>>=jW)=_;rw[ba E];unfold uA;show∃ρ,(av (V k) (.set 5 _∘_) (jr C W F l d ⇑(cZ C) RP RP RP)>>=jW)=_;rw[ba (K2 s nd G)];unfold uz;show∃ρ,(av (V k) (.iff _ _ _∘_) (jr C W F l d ⇑(cZ C) ⇑(iP C F l d) RP RP)>>=jW)=_;cases v:C.all λc=>z0 (nw C F l d c)with
 |false=>
  rw[v]at h;refine⟨jr C W F l d ⇑(cZ C) ⇑(iP C F l d) RP RP,?_⟩;rw[aL,bg,h,af];rfl|true=>
  rw[v]at h;rw[aR (ρ':=jr C W F l d ⇑(cZ C) ⇑(iP C F l d) RP RP) (by rw[bg,h,af];rfl)];unfold uy;rw[ba z];unfold ux;show∃ρ,(av (V k) (.dU _ _ _∘_) (jr C W F l d ⇑(cZ C) ⇑(iP C F l d) ⇑(.lst ((aS C W F l).map bJ)) RP)>>=jW)=_;cases u:(aS C W F l).any (yE b)with
  |true=>
   rw[u]at g;have f:di (dm (.nm 7)) (av (V k) c9) [bJ b] (jr C W F l d ⇑(cZ C) ⇑(iP C F l d) ⇑(.lst ((aS C W F l).map bJ)) RP)=.exc ⟨.exc 73 [],jr C W F l d ⇑(cZ C) ⇑(iP C F l d) ⇑(.lst ((aS C W F l).map bJ)) ⇑(bJ b)⟩:=by
    have e:av (V k) c9 (jr C W F l d ⇑(cZ C) ⇑(iP C F l d) ⇑(.lst ((aS C W F l).map bJ)) ⇑(bJ b))=.exc ⟨.exc 73 [],jr C W F l d ⇑(cZ C) ⇑(iP C F l d) ⇑(.lst ((aS C W F l).map bJ)) ⇑(bJ b)⟩:=by
     unfold c9;rw[aL,bg,g,af];rfl
    rw[di];show(av (V k) c9 (jr C W F l d ⇑(cZ C) ⇑(iP C F l d) ⇑(.lst ((aS C W F l).map bJ)) ⇑(bJ b))>>=_)=_;rw[e];rfl
   refine⟨jr C W F l d ⇑(cZ C) ⇑(iP C F l d) ⇑(.lst ((aS C W F l).map bJ)) ⇑(bJ b),?_⟩;rw[aL,bX,t,af,f];rfl|false=>
   rw[u]at g;have f:di (dm (.nm 7)) (av (V k) c9) [bJ b] (jr C W F l d ⇑(cZ C) ⇑(iP C F l d) ⇑(.lst ((aS C W F l).map bJ)) RP)=.ok (.nx (jr C W F l d ⇑(cZ C) ⇑(iP C F l d) ⇑(.lst ((aS C W F l).map bJ)) ⇑(bJ b))):=by
    have e:av (V k) c9 (jr C W F l d ⇑(cZ C) ⇑(iP C F l d) ⇑(.lst ((aS C W F l).map bJ)) ⇑(bJ b))=.ok (.nx (jr C W F l d ⇑(cZ C) ⇑(iP C F l d) ⇑(.lst ((aS C W F l).map bJ)) ⇑(bJ b))):=by
     unfold c9;rw[aL,bg,g,af];rfl
    rw[di];show(av (V k) c9 (jr C W F l d ⇑(cZ C) ⇑(iP C F l d) ⇑(.lst ((aS C W F l).map bJ)) ⇑(bJ b))>>=_)=_;rw[e];rfl
   refine⟨[],?_⟩;rw[aR (by rw[bX,t,af,f])];unfold uw;have m:=dB (n:=k) ((sA (f:=.tuple) w).trans (show oX .tuple [.lst ((kR C F l d).map cD)]=.ok (.tup ((kR C F l d).map cD))from rfl)) (show ak (V k) (.idx ↑0 (.cst (.int 1))) (jr C W F l d ⇑(cZ C) ⇑(iP C F l d) ⇑(.lst ((aS C W F l).map bJ)) ⇑(bJ b))=.ok (.tup (W.map ao))from rfl);show(((ak (V k) (.tup ((.bi .tuple (.lc ["c"] [5] (.nm 0) (.aB ↑5) .yes j3∘.nil))∘.idx ↑0 (.cst (.int 1))∘.nil)) (jr C W F l d ⇑(cZ C) ⇑(iP C F l d) ⇑(.lst ((aS C W F l).map bJ)) ⇑(bJ b))>>=λd=>T.ok (Fl.rt d))>>=_)>>=_)=_;rw[m];rfl
def DH(h:l=0\/l=1)(nd:(C.map (·.1)).Nodup)(a:C.length<=168)(wl:W.length<=336)(hW:∀x∈W,x.1∈C.map (·.1)/\x.2∈C.map (·.1))(j:F≠[])(f:F.length<=1000)(g:∀c∈F,c∈C.map (·.1))(i:∀c∈F,ai defs gv (n+4) 10 [.d (aj C W),.d (.int c),.d (aA l)]=.ok (bj F)):∃b ρ,qr (b8 C F++(b8 C F).map (me l d)) b/\ai defs gv (n+6) 15 [.d (aj C W),.d (bj F),.d (aA l),.d (.int d)]=if(C.all λc=>z0 (nw C F l d c))&&!((aS C W F l).any (yE b))then .ok (aj (kR C F l d) W)else .exc ⟨.exc 73 [],ρ⟩:=by
 obtain⟨b,m,hb⟩:=qt (d:=d) h nd a j f g i;obtain⟨b,m,hb⟩:=qt h nd a j f g i;obtain⟨ρ,e⟩:=GJ nd a (g8 nd a) (λp=>uR h p) (λp=>GG p) (GI h nd a wl hW) m (λx=>wo b x);exact⟨b,ρ,hb,e⟩
end
structure Mv(C:List Cn)(W:List Pt):Prop where
 cl:C.length<=59
 wl:W.length<=336
 cn:(C.map (·.1)).Nodup
 hW:∀x∈W,x.1∈C.map (·.1)/\x.2∈C.map (·.1)cv:∀c∈C,0<=c.1/\c.1<1000
 xv:∀c∈C,0<=c.2.1/\c.2.1<=1000000
 yv:∀c∈C,0<=c.2.2/\c.2.2<=1000000
 or:∀x∈W,((ae C x.1).1=(ae C x.2).1/\(ae C x.1).2<=(ae C x.2).2)\/((ae C x.1).2=(ae C x.2).2/\(ae C x.1).1<=(ae C x.2).1)
theorem ig:∀{C:List Cn},(C.map (·.1)).Nodup->c∈C->ae C c.1=c.2
 |x::C,nd,h=>by
  rw[Sr,Φ3]at nd;unfold ae;rcases Ω2.mp h with rfl|z;.rw[Ξ2 rfl]
  .rw[Ξ3 λe=>nd.1 (by rw[e];exact Ω3.mpr ⟨c,z,rfl⟩)];exact ig nd.2 z
def bY.N5{W}{T}(h:bY W T):bY W (λx=>¬T x):=λx a b=>by
 rcases b with z|z;.exact⟨z,λy=>z (h x a (.inr y)).1⟩
 .exact⟨λy=>z (h x a (.inl y)).2,z⟩
def DJ(nd:S.Nodup)(h:bY P (·∈S))(mn:∀T:Int->Prop,T c->bY P T->∀x∈S,T x)(h':d∈S)(e:a.Nodup)(i:d∈a)(b:bY P (·∈a))(f:∀T:Int->Prop,T d->bY P T->∀x∈a,T x):sortI a=sortI S:=by
 have cS:=Classical.byContradiction λz=>mn (λx=>x∉a) z b.N5 d h' i;have p:=(V5 e nd).mpr λx=>⟨λg=>f (·∈S) h' h x g,λg=>mn (·∈a) cS b x g⟩;exact t8 ((sortI_perm a).trans p) (nK a)
structure Rn(C:List Cn)(W:List Pt)(l c:Int)(F:List Int):Prop where
 cF:c∈F
 len:F.length<=60
 GK:∀x∈F,x∈C.map (·.1)cls:bY (W.filter (uQ C l)) (·∈F)same:∀x∈F,md l (ae C x)=md l (ae C c)run:∀n,∀x∈F,ai defs gv (n+4) 10 [.d (aj C W),.d (.int x),.d (aA l)]=.ok (bj F)
def Mv.rn{W}(N:Mv C W)(p:l=0\/l=1)(q:c∈C.map (·.1)):∃F,Rn C W l c F:=by
 have cl:=N.cl;have CW:bY (W.filter (uQ C l)) (·∈C.map (·.1)):=λx h _=>N.hW x (Ψ.mp h).1;have f:(C.map (·.1)).length<=60:=by rw[RV];omega
 obtain⟨S,_,n1,n2,n3,g,b⟩:=oF (n:=0) f q CW;have mem:∀x,x∈sortI S↔x∈S:=λx=>(sortI_perm S).mem_iff;refine⟨sortI S,(mem c).mpr n2,?_,λx a=>b x ((mem x).mp a),λx hw d=>?_,λx a=>?_,λn x a=>?_⟩
 .rw[(sortI_perm S).length_eq];exact SO (gZ n1 b) f
 .have:=n3 x hw (d.imp (mem _).mp (mem _).mp);exact⟨(mem _).mpr this.1,(mem _).mpr this.2⟩
 .refine g (λy=>md l (ae C y)=md l (ae C c)) rfl (λw hw d=>?_) x ((mem x).mp a);have e:=Φ0 (Ψ.mp hw).2;rcases d with z|z;.exact⟨z,e.symm.trans z⟩
  .exact⟨e.trans z,z⟩
 .obtain⟨s,i,o,m,k,j,r⟩:=oF f (b x ((mem x).mp a)) CW;rw[DJ n1 n3 g ((mem x).mp a) o m k j]at i;exact K1 p N.cn '0' N.hW (b x ((mem x).mp a)) i
theorem DK:∀(C a:List Cn),((a++C).map (·.1)).Nodup->(a++C).length<=168->eN (C.map λc=>.tup [.int c.1,f c]) (a.map kI,a.map f)=RM ((a++C).map kI,(a++C).map f)
 |[],a,_,_=>by rw[TF];rfl|x::C,a,nd,b=>by
  have z:=oM;have ha:a++x::C=(a++[x])++C:=by simp
  rw[ha]at nd b⊢;have d:=DK (f:=f) C (a++[x]) nd b;have g:x.1∉a.map (·.1):=λe=>by
   rw[SA,Uc]at nd;have:=nd.1;rw[SA,Uc]at this;exact this.2.2 _ e x.1 '2' rfl
  have h:putD (a.map kI) (a.map f) (.int x.1) (f x)=((a++[x]).map kI,(a++[x]).map f):=by
   unfold putD;rw[oG,Φ1 g,Ξ3 '2',SA,SA];rfl
  rw[Sr];show(if aC (a.map kI) (.int x.1)&&decide ((a.map kI).length<R1)then eN (C.map λc=>.tup [.int c.1,f c]) (putD (a.map kI) (a.map f) (.int x.1) (f x))else RP)=_;rw[kP,Φ2 (show(a.map kI).length<R1 by rw[RV];simp only[SR,Vi]at b;omega),h];exact d
noncomputable def tp(l:Int)(p:Pt):Pt:=if l=0 then p else(p.2,p.1)
noncomputable def lJ(C:List Cn)(l:Int):D:=.aO (C.map kI) (C.map λc=>ao (tp l c.2))
section
variable{W:List Pt}{F:List Int}{l d:Int}
theorem qu(h:l=0\/l=1)(nd:(C.map (·.1)).Nodup)(i:C.length<=168):ai defs gv (n+1) 27 [.d (aj C W),.d (aA l)]=.ok (lJ C l):=by
 have q:ak (V n) (.lc ["_law_c","_law_x","_law_y"] [1] (.tup 3 (.nm 0∘.nm 1∘.nm 2∘.nil)) (.aB (.idx ↑0 (.cst (.int 0)))) .yes kK) [⇑(aj C W),⇑(aA l)]=.ok (.lst (C.map λc=>.tup [.int c.1,ao (tp l c.2)])):=by
  refine eZ (own:=["_law_c","_law_x","_law_y"]) (js:=[1]) (l:=C) (f:=cD) (λg=>∃a b c,g=[a,b,c,⇑(aA l)]) rfl ⟨RP,RP,RP,rfl⟩ ?_;rintro g⟨a,b,c,rfl⟩x _;refine⟨[↥x.1,↥x.2.1,↥x.2.2,⇑(aA l)],rfl,⟨_,_,_,rfl⟩,?_⟩;rcases h with rfl|rfl<;>kernel_rfl
 rw[az (d:=fC) rfl rfl];unfold fC;show(((ak (V n) (.bi .dict (.lc ["_law_c","_law_x","_law_y"] [1] (.tup 3 (.nm 0∘.nm 1∘.nm 2∘.nil)) (.aB (.idx ↑0 (.cst (.int 0)))) .yes kK∘.nil)) [⇑(aj C W),⇑(aA l)]>>=λd=>T.ok (Fl.rt d))>>=_)>>=_)=_;rw[sA q];have e:=DK (f:=λc=>ao (tp l c.2)) C [] nd i;show((((T.get (eN (C.map λc=>.tup [.int c.1,ao (tp l c.2)]) ([],[]))>>=λr=>T.ok (D.aO r.1 r.2))>>=λd=>T.ok (Fl.rt d))>>=_)>>=_)=_;rw[show eN (C.map λc=>.tup [.int c.1,ao (tp l c.2)]) ([],[])=_ from e];rfl
def oH(nd:(C.map (·.1)).Nodup)(b:c∈C.map (·.1)):aT (lJ C l) (.int c)=.ok (ao (tp l (ae C c))):=by
 obtain⟨x,a,rfl⟩:=Ω3.mp b;rw[ig nd a];exact DF nd a
end
theorem aU{j:Type}{f:j->D}{c:j->Bool}(S:ah->Prop):∀{l:List j}{ρ:ah},(∀ρ,S ρ->∀a∈l,∃b,g (f a) ρ=.ok b/\(if c a then body b=.ok (.rt r)else∃d,body b=.ok (.nx d)/\S d))->S ρ->if l.any c then di g body (l.map f) ρ=.ok (.rt r)else∃ρ',di g body (l.map f) ρ=.ok (.nx ρ')/\S ρ'
 |[],ρ,_,h=>by
  show∃ρ',_;exact⟨ρ,rfl,h⟩|a::l,ρ,h,s=>by
  obtain⟨b,q,i⟩:=h ρ s a RX;rw[Sr,Vb];unfold di;rw[q];cases e:c a with
  |true=>
   rw[e]at i;have i:body b=.ok (.rt r):=i;show(body b>>=_)=_;rw[i];rfl|false=>
   rw[e]at i;have i:∃d,body b=.ok (.nx d)/\S d:=i;obtain⟨d,p,o⟩:=i;have k:=aU S (l:=l) (ρ:=d) (λρ n x m=>h ρ n x (RZ _ m)) o;show if l.any c then(body b>>=_)=_ else∃ρ',(body b>>=_)=_/\_;rw[p];exact k
def wu(f:ak v a ρ=.ok x)(e:ak v b ρ=.ok y):av v (.par i j (a∘b∘.nil)∘r) ρ=av v r ((ρ.set i ⇑x).set j ⇑y):=by
 refine aR ?_;have q:fZ v (a∘b∘.nil) ρ=.ok [.d x,.d y]:=by
  show(ak v a ρ>>=λd=>(ak v b ρ>>=λd=>T.ok [A.d d])>>=λc=>T.ok (A.d d::c))=_;rw[f,e];rfl
 show(fZ v (a∘b∘.nil) ρ>>=λas=>gr as>>=_)=_;rw[q];rfl
section
variable{C:List Cn}{W:List Pt}{F:List Int}{l d:Int}
structure DL where
 h:Int
 we:Int
 ea:Int
 so:Int
 no:Int
structure Bx(C:List Cn)(F:List Int)(l d:Int)(b:DL):Prop where
 h:∀x∈F,md l (ae C x)=b.h
 we:b.we=mn b.h (b.h+d)ea:b.ea=mx b.h (b.h+d)so:b.so∈F.map (λc=>(tp l (ae C c)).2)/\∀x∈F,b.so<=(tp l (ae C x)).2
 no:b.no∈F.map (λc=>(tp l (ae C c)).2)/\∀x∈F,(tp l (ae C x)).2<=b.no
noncomputable def kS(C:List Cn)(F:List Int)(l:Int)(b:DL)(c:Cn):Bool:=!decide (c.1∈F)&&((decide (b.we<=(tp l (ae C c.1)).1)&&decide ((tp l (ae C c.1)).1<=b.ea))&&(decide (b.so<=(tp l (ae C c.1)).2)&&decide ((tp l (ae C c.1)).2<=b.no)))
noncomputable def wx(C:List Cn)(l:Int)(x:Pt):Int:=mn (tp l (ae C x.1)).2 (tp l (ae C x.2)).2
noncomputable def wy(C:List Cn)(l:Int)(x:Pt):Int:=mx (tp l (ae C x.1)).2 (tp l (ae C x.2)).2
noncomputable def HH(C:List Cn)(F:List Int)(l:Int)(b:DL)(x:Pt):Bool:=((tp l (ae C x.1)).1==(tp l (ae C x.2)).1)&&(!decide (x.1∈F)&&(decide (b.we<=(tp l (ae C x.1)).1)&&decide ((tp l (ae C x.1)).1<=b.ea)))
noncomputable def pf(C:List Cn)(F:List Int)(l:Int)(b:DL)(x:Pt):Bool:=HH C F l b x&&(decide (wx C l x<=b.no)&&decide (b.so<=wy C l x))
noncomputable def out(b:DL):Bool:=decide (b.we<0)||decide (1000000<b.ea)
noncomputable def fD(C:List Cn)(W:List Pt)(F:List Int)(l d:Int)(b a o7 o8 o9 o10 o11 o12 o13 o14 o15:Option L2.W):ah:=[⇑(aj C W),⇑(bj F),⇑(aA l),↥d,⇑(lJ C l),b,a,o7,o8,o9,o10,o11,o12,o13,o14,o15]
noncomputable def bI(i:Int):Option L2.W:=↥i
variable{o5 o6 o7 o8 o9 o10 o11 o12 o13 o14 o15:Option L2.W}
theorem qv(nd:(C.map (·.1)).Nodup)(f:c∈C.map (·.1))(g:ak (V k) ↑4 ρ=.ok (lJ C l))(a:ak (V k) ↑j ρ=.ok (.int c))(b:i=0\/i=1):ak (V k) (.idx (.idx ↑4 ↑j) (.cst (.int i))) ρ=.ok (.int (if i=0 then(tp l (ae C c)).1 else(tp l (ae C c)).2)):=by
 show((ak (V k) ↑4 ρ>>=λd=>ak (V k) ↑j ρ>>=λe=>aT d e)>>=λd=>aT d (.int i))=_;rw[g,a];show(aT (lJ C l) (.int c)>>=λd=>aT d (.int i))=_;rw[oH nd f];rcases b with rfl|rfl<;>rfl
def DM(v)(o o')(a b c)(ρ):bN v (.rC o o' a b c) ρ=(do
  let d<-ak v a ρ;let e<-ak v b ρ;let y<-aZ (<-be o d e)if y then do let f<-ak v c ρ;aZ (<-be o' e f)else .ok RT):=rfl
def yH(h:ak (V k) a ρ=.ok (.int x))(g:ak (V k) b ρ=.ok (.int y))(e:ak (V k) c ρ=.ok (.int z)):bN (V k) (.rC .LtE .LtE a b c) ρ=.ok (decide (x<=y)&&decide (y<=z)):=by
 rw[DM,h,g,af,af,le_int];show(if decide (x<=y)=RQ then(ak (V k) c ρ>>=λf=>be .LtE (.int y) f>>=aZ)else T.ok RT)=_;rw[e];cases decide (x<=y)<;>rfl
def K3(h:ak (V k) a ρ=.ok (.int x))(g:ak (V k) b ρ=.ok (.int y))(e:ak (V k) c ρ=.ok (.int z)):ak (V k) (.F2 .LtE .LtE a b c) ρ=.ok (.bl (decide (x<=y)&&decide (y<=z))):=by
 rw[yD,h,g,af,af,le_int];rw[e];cases decide (x<=y)<;>rfl
def mh(f:bN (V k) a ρ=.ok x)(e:bN (V k) b ρ=.ok y):bN (V k) (.fI a b) ρ=.ok (x&&y):=by
 show(bN (V k) a ρ>>=λc=>if c then bN (V k) b ρ else .ok RT)=_;rw[f,e];cases x<;>rfl
theorem DN(f:ak (V k) a ρ=.ok (.bl x))(e:ak (V k) b ρ=.ok (.bl y)):ak (V k) (.and a b) ρ=.ok (.bl (x&&y)):=by
 show(ak (V k) a ρ>>=λd=>aZ d>>=λc=>if c then ak (V k) b ρ else .ok (.bl RT))=_;rw[f,e];cases x<;>rfl
theorem N6(nd:(C.map (·.1)).Nodup)(f:c∈C):let ρ:=fD C W F l d (bI b.h) (bI b.we) (bI b.ea) (bI b.so) (bI b.no) ⇑(kI c) o11 o12 o13 o14 o15;if kS C F l b c then av (V k) cQ ρ=.ok (.rt (.bl RT))else av (V k) cQ ρ=.ok (.nx ρ):=by
 intro ρ;have a:c.1∈C.map (·.1):=Ω3.mpr ⟨c,f,rfl⟩;have t:bN (V k) (.fI (.aK .NotIn ↑10 ↑1) (.fI (.rC .LtE .LtE ↑6 (.idx (.idx ↑4 ↑10) (.cst (.int 0))) ↑7) (.d8 (.rC .LtE .LtE ↑8 (.idx (.idx ↑4 ↑10) (.cst (.int 1))) ↑9)))) ρ=.ok (kS C F l b c):=by
  refine mh ?_ (mh (yH rfl (qv nd a rfl rfl (.inl rfl)) rfl) (yH rfl (qv nd a rfl rfl (.inr rfl)) rfl));show(be .NotIn (.int c.1) (bj F)>>=aZ)=_;unfold bj;rw[mf];rfl
 unfold cQ;cases e:kS C F l b c with
 |true=>rw[e]at t;show av _ _ _=_;rw[aL,bg,t,af];rfl|false=>rw[e]at t;show av _ _ _=_;rw[aL,bg,t,af];rfl
theorem N7(nd:(C.map (·.1)).Nodup)(u:x.1∈C.map (·.1))(s:x.2∈C.map (·.1)):∃m g c,let ρ:=λo13 o14 o15=>fD C W F l d (bI b.h) (bI b.we) (bI b.ea) (bI b.so) (bI b.no) o10 (bI x.1) (bI x.2) o13 o14 o15;if pf C F l b x then av (V k) cP (ρ o13 o14 o15)=.ok (.rt (.bl RT))else av (V k) cP (ρ o13 o14 o15)=.ok (.nx (ρ m g c)):=by
 refine⟨⇑(.bl (HH C F l b x)),bI (wx C l x),bI (wy C l x),?_⟩;intro ρ;have u1:∀p q r,ak (V k) (.idx (.idx ↑4 ↑11) (.cst (.int 0))) (ρ p q r)=.ok (.int (tp l (ae C x.1)).1):=λp q r=>qv (l:=l) nd u rfl rfl (.inl rfl);have w:∀p q r,ak (V k) (.idx (.idx ↑4 ↑12) (.cst (.int 0))) (ρ p q r)=.ok (.int (tp l (ae C x.2)).1):=λp q r=>qv (l:=l) nd s rfl rfl (.inl rfl);have v1:∀p q r,ak (V k) (.idx (.idx ↑4 ↑11) (.cst (.int 1))) (ρ p q r)=.ok (.int (tp l (ae C x.1)).2):=λp q r=>qv (l:=l) nd u rfl rfl (.inr rfl);have n:∀p q r,ak (V k) (.idx (.idx ↑4 ↑12) (.cst (.int 1))) (ρ p q r)=.ok (.int (tp l (ae C x.2)).2):=λp q r=>qv (l:=l) nd s rfl rfl (.inr rfl);have y:ak (V k) (.and (.cmp .Eq (.idx (.idx ↑4 ↑11) (.cst (.int 0))) (.idx (.idx ↑4 ↑12) (.cst (.int 0)))) (.and (.cmp .NotIn ↑11 ↑1) (.one (.F2 .LtE .LtE ↑6 (.idx (.idx ↑4 ↑11) (.cst (.int 0))) ↑7)))) (ρ o13 o14 o15)=.ok (.bl (HH C F l b x)):=by
  refine DN ?_ (DN ?_ (K3 rfl (u1 _ _ _) rfl))
  .show(ak (V k) (.idx (.idx ↑4 ↑11) (.cst (.int 0))) (ρ o13 o14 o15)>>=λd=>ak (V k) (.idx (.idx ↑4 ↑12) (.cst (.int 0))) (ρ o13 o14 o15)>>=λe=>be .Eq d e)=_;rw[u1,w];exact ma _ _
  .show be .NotIn (.int x.1) (bj F)=_;unfold bj;rw[mf]
 have a:∀(f:BI)(p q r)(i j:Int),ak (V k) (.idx (.idx ↑4 ↑11) (.cst (.int 1))) (ρ p q r)=.ok (.int i)->ak (V k) (.idx (.idx ↑4 ↑12) (.cst (.int 1))) (ρ p q r)=.ok (.int j)->ak (V k) (.bi f (.idx (.idx ↑4 ↑11) (.cst (.int 1))∘.idx (.idx ↑4 ↑12) (.cst (.int 1))∘.nil)) (ρ p q r)=oX f [.int i,.int j]:=λf p q r i j a1 B=>by
  show((ak (V k) (.idx (.idx ↑4 ↑11) (.cst (.int 1))) (ρ p q r)>>=λd=>(ak (V k) (.idx (.idx ↑4 ↑12) (.cst (.int 1))) (ρ p q r)>>=λd=>T.ok [A.d d])>>=λv=>T.ok (A.d d::v))>>=λas=>gr as>>=λz=>oX f z)=_;rw[a1,B];rfl
 have t:bN (V k) (.fI (.sy ↑13) (.fI (.aK .LtE ↑14 ↑9) (.d8 (.aK .GtE ↑15 ↑8)))) (ρ ⇑(.bl (HH C F l b x)) (bI (wx C l x)) (bI (wy C l x)))=.ok (pf C F l b x):=mh rfl (mh rfl rfl);unfold cP;have e:av (V k) (.set 13 (.and (.cmp .Eq (.idx (.idx ↑4 ↑11) (.cst (.int 0))) (.idx (.idx ↑4 ↑12) (.cst (.int 0)))) (.and (.cmp .NotIn ↑11 ↑1) (.one (.F2 .LtE .LtE ↑6 (.idx (.idx ↑4 ↑11) (.cst (.int 0))) ↑7))))∘(.par 14 15 ((.bi .min (.idx (.idx ↑4 ↑11) (.cst (.int 1))∘.idx (.idx ↑4 ↑12) (.cst (.int 1))∘.nil))∘(.bi .max (.idx (.idx ↑4 ↑11) (.cst (.int 1))∘.idx (.idx ↑4 ↑12) (.cst (.int 1))∘.nil))∘.nil))∘(.iff (.fI (.sy ↑13) (.fI (.aK .LtE ↑14 ↑9) (.d8 (.aK .GtE ↑15 ↑8)))) (.ret (.cst (.bl RT))∘.nil) .nil)∘.nil) (ρ o13 o14 o15)=av (V k) ((.iff (.fI (.sy ↑13) (.fI (.aK .LtE ↑14 ↑9) (.d8 (.aK .GtE ↑15 ↑8)))) (.ret (.cst (.bl RT))∘.nil) .nil)∘.nil) (ρ ⇑(.bl (HH C F l b x)) (bI (wx C l x)) (bI (wy C l x))):=by
  rw[ba y];show av (V k) (.par 14 15 _∘_) (ρ ⇑(.bl (HH C F l b x)) o14 o15)=_;rw[wu ((a .min _ _ _ _ _ (v1 _ _ _) (n _ _ _)).trans (show _=T.ok (D.int (wx C l x))from rfl)) ((a .max _ _ _ _ _ (v1 _ _ _) (n _ _ _)).trans (show _=T.ok (D.int (wy C l x))from rfl))];rfl
 rw[e];cases o:pf C F l b x with
 |true=>rw[o]at t;show av _ _ _=_;rw[aL,bg,t,af];rfl|false=>rw[o]at t;show av _ _ _=_;rw[aL,bg,t,af];rfl
end
section
variable{C:List Cn}{W:List Pt}{F:List Int}{l d:Int}
def DO(l)(p):(tp l p).1=md l p:=by
 unfold tp md;split<;>rfl
def Qx:(10:Int)^(6:Int).toNat=1000000:=by decide
def DP:ak (V k) (.op .Pow (.cst (.int 10)) (.cst (.int 6))) ρ=.ok (.int 1000000):=by
 show(T.need (decide ((10)=10)&&decide (0<=(6)/\(6)<=30))>>=λ_=>T.ok (D.int ((10)^(6:Int).toNat)))=_;rw[Qx];rfl
noncomputable def wz(C:List Cn)(W:List Pt)(F:List Int)(l:Int)(b:DL):Bool:=!out b&&(!(C.any (kS C F l b))&&!(W.any (pf C F l b)))
def GL(nd:(C.map (·.1)).Nodup)(Z:ai defs gv k 27 [.d (aj C W),.d (aA l)]=.ok (lJ C l))(L:F≠[])(v:∀c∈F,c∈C.map (·.1))(hs:∀x∈F,md l (ae C x)=h)(hW:∀x∈W,x.1∈C.map (·.1)/\x.2∈C.map (·.1)):∃b,Bx C F l d b/\ai defs gv (k+1) 28 [.d (aj C W),.d (bj F),.d (aA l),.d (.int d)]=.ok (.bl (wz C W F l b)):=by
 have H:F.map (λc=>(tp l (ae C c)).2)≠[]:=by simpa using L
 obtain⟨s,E,U,bs⟩:=lV H;obtain⟨t,et,mt,bt⟩:=hV H;obtain⟨b,hb⟩:∃b:DL,b=⟨h,mn h (h+d),mx h (h+d),s,t⟩:=⟨_,rfl⟩;refine⟨b,by rw[hb];exact⟨hs,rfl,rfl,⟨U,λx o=>bs _ (Ω3.mpr ⟨x,o,rfl⟩)⟩,⟨mt,λx o=>bt _ (Ω3.mpr ⟨x,o,rfl⟩)⟩⟩,?_⟩;have P:ak (V k) (.call 27 (↑0∘↑2∘.nil)) [⇑(aj C W),⇑(bj F),⇑(aA l),↥d,RP,RP,RP,RP,RP,RP,RP,RP,RP,RP,RP,RP]=.ok (lJ C l):=by
  show(ai defs gv k 27 [.d (aj C W),.d (aA l)]).at' _=_;rw[Z];rfl
 have O:ak (V k) (.idx (.idx ↑4 (.idx ↑1 (.cst (.int 0)))) (.cst (.int 0))) (fD C W F l d RP RP RP RP RP RP RP RP RP RP RP)=.ok (.int b.h):=by cases F with
  |nil=>exact Ξ1 rfl L|cons x F=>
   have e0:aT (bj (x::F)) (.int 0)=.ok (.int x):=by
    unfold bj;rw[rZ,Sr,KI];rfl
   show((aT (bj (x::F)) (.int 0)>>=λe=>aT (lJ C l) e)>>=λd=>aT d (.int 0))=_;rw[e0,af,oH nd (v x RX)];show T.ok (D.int (tp l (ae C x)).1)=_;rw[DO,hs x RX,hb]
 have w:∀(f)(ρ)(i),ak (V k) ↑5 ρ=.ok (.int i)->ak (V k) ↑3 ρ=.ok (.int d)->ak (V k) (.bi f (↑5∘.op .Add ↑5 ↑3∘.nil)) ρ=oX f [.int i,.int (i+d)]:=λf ρ i a1 G=>by
  show((ak (V k) ↑5 ρ>>=λx=>((ak (V k) ↑5 ρ>>=λx=>ak (V k) ↑3 ρ>>=λy=>qb .Add x y)>>=λd=>T.ok [A.d d])>>=λN=>T.ok (A.d x::N))>>=λas=>gr as>>=λds=>oX f ds)=_;rw[a1,G];rfl
 have p:∀(n)(ρ),nQ (V k) (.aB ↑1) ρ=.ok (F.map D.int)->fF ρ 1 [4]=[RP,⇑(lJ C l)]->n=.idx (.idx ↑1 ↑0) (.cst (.int 1))->ak (V k) (.lc ["_law_c"] [4] (.nm 0) (.aB ↑1) .yes n) ρ=.ok (.lst ((F.map λc=>(tp l (ae C c)).2).map D.int)):=λn ρ a1 G a3=>by
  rw[S7];refine eZ (λρ=>∃a,ρ=[a,⇑(lJ C l)]) a1 ⟨RP,G⟩ ?_;rintro ρ⟨a,rfl⟩c B;refine⟨_,rfl,⟨_,rfl⟩,?_⟩;rw[a3];show(aT (lJ C l) (.int c)>>=λd=>aT d (.int 1))=_;rw[oH nd (v c B)];rfl
 have z:bN (V k) (.Cj (.aK .Lt ↑6 (.cst (.int 0))) (.d8 (.aK .Gt ↑7 (.op .Pow (.cst (.int 10)) (.cst (.int 6)))))) (fD C W F l d (bI b.h) (bI b.we) (bI b.ea) (bI b.so) (bI b.no) RP RP RP RP RP RP)=.ok (out b):=by
  show(if decide (b.we<0)=RQ then T.ok RQ else(ak (V k) (.op .Pow (.cst (.int 10)) (.cst (.int 6))) (fD C W F l d (bI b.h) (bI b.we) (bI b.ea) (bI b.so) (bI b.no) RP RP RP RP RP RP)>>=λe=>be .Gt (.int b.ea) e>>=aZ))=_;rw[DP];unfold out;cases decide (b.we<0)<;>rfl
 rw[az rfl rfl];unfold eU;show(av (V k) (_∘_) [⇑(aj C W),⇑(bj F),⇑(aA l),↥d,RP,RP,RP,RP,RP,RP,RP,RP,RP,RP,RP,RP]>>=jW)=_;rw[ba P];unfold n_;show(av (V k) (.set 5 _∘_) (fD C W F l d RP RP RP RP RP RP RP RP RP RP RP)>>=jW)=_;rw[ba O];show(av (V k) (.par 6 7 _∘_) (fD C W F l d (bI b.h) RP RP RP RP RP RP RP RP RP RP)>>=jW)=_;rw[wu ((w .min _ b.h rfl rfl).trans (show _=T.ok (D.int b.we)by rw[hb];rfl)) ((w .max _ b.h rfl rfl).trans (show _=T.ok (D.int b.ea)by rw[hb];rfl))];show(av (V k) (.par 8 9 _∘_) (fD C W F l d (bI b.h) (bI b.we) (bI b.ea) RP RP RP RP RP RP RP RP)>>=jW)=_;rw[wu ((sA (p n9 _ rfl rfl rfl)).trans ((sk E).trans (show _=T.ok (D.int b.so)by rw[hb]))) ((sA (p n8 _ rfl rfl rfl)).trans ((sj et).trans (show _=T.ok (D.int b.no)by rw[hb])))];show(av (V k) (.iff _ _ _∘_) (fD C W F l d (bI b.h) (bI b.we) (bI b.ea) (bI b.so) (bI b.no) RP RP RP RP RP RP)>>=jW)=_;unfold wz;cases K:out b with
 |true=>
  rw[K]at z;rw[aL,bg,z,af];rfl|false=>
  rw[K]at z;rw[aR (by rw[bg,z,af];rfl)];have m:=aU (g:=dm (.nm 10)) (c:=kS C F l b) (λρ=>∃o10,ρ=fD C W F l d (bI b.h) (bI b.we) (bI b.ea) (bI b.so) (bI b.no) o10 RP RP RP RP RP) (by
   rintro ρ⟨o10,rfl⟩c B;refine⟨_,rfl,?_⟩;have:=N6 (W:=W) (F:=F) (l:=l) (d:=d) (k:=k) (b:=b) (o11:=RP) (o12:=RP) (o13:=RP) (o14:=RP) (o15:=RP) nd B;cases q:kS C F l b c with
   |true=>rw[q]at this;exact this|false=>rw[q]at this;exact⟨_,this,_,rfl⟩) ⟨RP,rfl⟩;have J:nQ (V k) (.aB ↑4) (fD C W F l d (bI b.h) (bI b.we) (bI b.ea) (bI b.so) (bI b.no) RP RP RP RP RP RP)=.ok (C.map kI):=rfl;cases M:C.any (kS C F l b)with
  |true=>
   rw[M]at m;have m:di (dm (.nm 10)) (av (V k) cQ) (C.map kI) (fD C W F l d (bI b.h) (bI b.we) (bI b.ea) (bI b.so) (bI b.no) RP RP RP RP RP RP)=.ok (.rt (.bl RT)):=m;rw[aL,bX,J,af,m];rfl|false=>
   rw[M]at m;have m:∃ρ',di (dm (.nm 10)) (av (V k) cQ) (C.map kI) (fD C W F l d (bI b.h) (bI b.we) (bI b.ea) (bI b.so) (bI b.no) RP RP RP RP RP RP)=.ok (.nx ρ')/\∃o10,ρ'=fD C W F l d (bI b.h) (bI b.we) (bI b.ea) (bI b.so) (bI b.no) o10 RP RP RP RP RP:=m;obtain⟨ρ',Y,o10,rfl⟩:=m;rw[aR (by rw[bX,J,af,Y])];unfold n6;have j:=aU (g:=dm (.tup 2 (.nm 11∘.nm 12∘.nil))) (body:=av (V k) cP) (f:=ao) (c:=pf C F l b) (r:=.bl RT) (λρ=>∃o11 o12 o13 o14 o15,ρ=fD C W F l d (bI b.h) (bI b.we) (bI b.ea) (bI b.so) (bI b.no) o10 o11 o12 o13 o14 o15) (l:=W) (ρ:=fD C W F l d (bI b.h) (bI b.we) (bI b.ea) (bI b.so) (bI b.no) o10 RP RP RP RP RP) (by
    rintro ρ⟨o11,o12,o13,o14,o15,rfl⟩x o;refine⟨_,rfl,?_⟩;obtain⟨S,R,Q,this⟩:=N7 (W:=W) (F:=F) (l:=l) (d:=d) (k:=k) (b:=b) (x:=x) (o10:=o10) (o13:=o13) (o14:=o14) (o15:=o15) nd (hW x o).1 (hW x o).2;cases q:pf C F l b x with
    |true=>rw[q]at this;exact this|false=>rw[q]at this;exact⟨_,this,_,_,_,_,_,rfl⟩) ⟨RP,RP,RP,RP,RP,rfl⟩;have I:nQ (V k) (.aB (.idx ↑0 (.cst (.int 1)))) (fD C W F l d (bI b.h) (bI b.we) (bI b.ea) (bI b.so) (bI b.no) o10 RP RP RP RP RP)=.ok (W.map ao):=rfl;cases u:W.any (pf C F l b)with
   |true=>
    rw[u]at j;have j:di (dm (.tup 2 (.nm 11∘.nm 12∘.nil))) (av (V k) cP) (W.map ao) (fD C W F l d (bI b.h) (bI b.we) (bI b.ea) (bI b.so) (bI b.no) o10 RP RP RP RP RP)=.ok (.rt (.bl RT)):=j;rw[aL,bX,I,af,j];rfl|false=>
    rw[u]at j;have j:∃ρ',di (dm (.tup 2 (.nm 11∘.nm 12∘.nil))) (av (V k) cP) (W.map ao) (fD C W F l d (bI b.h) (bI b.we) (bI b.ea) (bI b.so) (bI b.no) o10 RP RP RP RP RP)=.ok (.nx ρ')/\_:=j;obtain⟨ρ',X,_⟩:=j;rw[aR (by rw[bX,I,af,X])];rfl
def DQ:dw 1=RQ/\dw 0=RQ:=⟨by decide,by decide⟩
noncomputable def mi(b:Bool):Int:=if b then 1 else 0
def HI(i)(b):qb .Mult (.int i) (.int (mi b))=.ok (.int (i*mi b)):=by
 show(T.need (dw i||dw (mi b))>>=λ_=>T.ok (D.int (i*mi b)))=_;have:dw (mi b)=RQ:=by cases b;exact DQ.2;exact DQ.1
 rw[this,Bool.or_true];rfl
inductive SI(C:List Cn)(W:List Pt)(F:List Int)(l d:Int)(ds:List D)(ρ:ah):Prop|mk(C1 C2:List Cn)(o5 o6 o7 o8:Option L2.W)(eC:C=C1++C2)(hd:ds=C2.map cD)(eρ:ρ=[⇑(aj C W),⇑(bj F),⇑(aA l),↥d,RM (.own (.lst ((C1.map λc=>((c.1,nw C F l d c):Cn)).map cD))),o5,o6,o7,o8])
def N8(j:l=0\/l=1){Ls:List Cn}(B:nw C F l d c=if c.1∈F then me l d c.2 else c.2)(H:Ls.length<=168):∃t,av (V k) gf [⇑(aj C W),⇑(bj F),⇑(aA l),↥d,RM (.own (.lst (Ls.map cD))),↥c.1,↥c.2.1,↥c.2.2,o8]=.ok (.nx [⇑(aj C W),⇑(bj F),⇑(aA l),↥d,RM (.own (.lst ((Ls++[(c.1,nw C F l d c)]).map cD))),↥c.1,↥c.2.1,↥c.2.2,t]):=by
 have z:=oM;obtain⟨f,g⟩:∃f,f=decide (c.1∈F):=⟨_,rfl⟩;have s:ak (V k) (.op .Mult ↑3 (.bi .int (.cmp .In ↑5 ↑1∘.nil))) [⇑(aj C W),⇑(bj F),⇑(aA l),↥d,RM (.own (.lst (Ls.map cD))),↥c.1,↥c.2.1,↥c.2.2,o8]=.ok (.int (d*mi f)):=by
  have q:ak (V k) (.cmp .In ↑5 ↑1) [⇑(aj C W),⇑(bj F),⇑(aA l),↥d,RM (.own (.lst (Ls.map cD))),↥c.1,↥c.2.1,↥c.2.2,o8]=.ok (.bl f):=by
   rw[g];exact DB c.1 F
  show(T.ok (D.int d)>>=λx=>ak (V k) (.bi .int (.cmp .In ↑5 ↑1∘.nil)) _>>=λy=>qb .Mult x y)=_;rw[sA q];exact HI d f
 have o:∀(e:Ex)(b:Bool)(h:ah)(i:Int),ak (V k) e h=.ok (.bl b)->ak (V k) ↑8 h=.ok (.int i)->ak (V k) (.op .Mult ↑8 (.bi .int (e∘.nil))) h=.ok (.int (i*mi b)):=λe b h i G E=>by
  show(ak (V k) ↑8 h>>=λx=>ak (V k) (.bi .int (e∘.nil)) h>>=λy=>qb .Mult x y)=_;rw[E,sA G];exact HI i b
 have r:ak (V k) (.tup (↑5∘(.op .Add ↑6 (.op .Mult ↑8 (.bi .int (.cmp .Eq ↑2 (.cst (.str "x"))∘.nil))))∘(.op .Add ↑7 (.op .Mult ↑8 (.bi .int (.cmp .Eq ↑2 (.cst (.str "y"))∘.nil))))∘.nil)) [⇑(aj C W),⇑(bj F),⇑(aA l),↥d,RM (.own (.lst (Ls.map cD))),↥c.1,↥c.2.1,↥c.2.2,↥(d*mi f)]=.ok (cD (c.1,nw C F l d c)):=by
  have v:=o (.cmp .Eq ↑2 (.cst (.str "x"))) (decide (l=0)) [⇑(aj C W),⇑(bj F),⇑(aA l),↥d,RM (.own (.lst (Ls.map cD))),↥c.1,↥c.2.1,↥c.2.2,↥(d*mi f)] (d*mi f) (by rcases j with rfl|rfl<;>rfl) rfl;have u:=o (.cmp .Eq ↑2 (.cst (.str "y"))) (decide (l=1)) [⇑(aj C W),⇑(bj F),⇑(aA l),↥d,RM (.own (.lst (Ls.map cD))),↥c.1,↥c.2.1,↥c.2.2,↥(d*mi f)] (d*mi f) (by rcases j with rfl|rfl<;>rfl) rfl;show((T.ok (D.int c.1)>>=λx=>((T.ok (D.int c.2.1)>>=λa=>ak (V k) (.op .Mult ↑8 (.bi .int (.cmp .Eq ↑2 (.cst (.str "x"))∘.nil))) _>>=λb=>qb .Add a b)>>=λy=>((T.ok (D.int c.2.2)>>=λa=>ak (V k) (.op .Mult ↑8 (.bi .int (.cmp .Eq ↑2 (.cst (.str "y"))∘.nil))) _>>=λb=>qb .Add a b)>>=λz=>T.ok [A.d z])>>=λn=>T.ok (A.d y::n))>>=λn=>T.ok (A.d x::n))>>=λas=>gr as>>=λp=>T.need (decide (p.length<=R1))>>=λ_=>T.ok (D.tup p))=_;rw[v,u];show(T.need (decide (3<=R1))>>=λ_=>T.ok (D.tup [.int c.1,.int (c.2.1+d*mi f*mi (decide (l=0))),.int (c.2.2+d*mi f*mi (decide (l=1)))]))=_;rw[Q5,kO,af,B];have w:(c.2.1+d*mi f*mi (decide (l=0)),c.2.2+d*mi f*mi (decide (l=1)))=if c.1∈F then me l d c.2 else c.2:=by
   by_cases m:c.1∈F
   .rw[Ξ2 m,g,Φ2 m];rcases j with rfl|rfl<;>simp[mi,me]
   .rw[Ξ3 m,g,Φ1 m];rcases j with rfl|rfl<;>simp[mi]
  rw[<-w];rfl
 refine⟨↥(d*mi f),?_⟩;unfold gf;rw[ba s];show(((ak (V k) (.tup (↑5∘(.op .Add ↑6 (.op .Mult ↑8 (.bi .int (.cmp .Eq ↑2 (.cst (.str "x"))∘.nil))))∘(.op .Add ↑7 (.op .Mult ↑8 (.bi .int (.cmp .Eq ↑2 (.cst (.str "y"))∘.nil))))∘.nil)) [⇑(aj C W),⇑(bj F),⇑(aA l),↥d,RM (.own (.lst (Ls.map cD))),↥c.1,↥c.2.1,↥c.2.2,↥(d*mi f)]>>=λx=>T.need (decide ((Ls.map cD).length<R1))>>=λ_=>T.ok (Fl.nx _)))>>=_)=_;rw[r,af,Φ2 (show(Ls.map cD).length<R1 by rw[RV];omega),SA];rfl
def wA(z:l=0\/l=1)(nd:(C.map (·.1)).Nodup)(B:C.length<=168):ai defs gv (k+1) 26 [.d (aj C W),.d (bj F),.d (aA l),.d (.int d)]=.ok (aj (kR C F l d) W):=by
 have A:∀c∈C,nw C F l d c=if c.1∈F then me l d c.2 else c.2:=λc s=>by unfold nw;rw[ig nd s]
 have f:=wg (g:=dm (.tup 3 (.nm 5∘.nm 6∘.nm 7∘.nil))) (body:=av (V k) gf) (SI C W F l d) ?_ (ρ:=[⇑(aj C W),⇑(bj F),⇑(aA l),↥d,RM (.own (.lst [])),RP,RP,RP,RP]) ⟨[],C,RP,RP,RP,RP,rfl,rfl,rfl⟩
 .obtain⟨u,e,m,j,q,p,o,o8,i,hd,h⟩:=f;have D:j=[]:=by cases j with
   |nil=>rfl|cons _ _=>cases hd
  subst D;rw[TF]at i;subst i;rw[h]at e;rw[az rfl rfl];have v:av (V k) (.oY 4 .nil) [⇑(aj C W),⇑(bj F),⇑(aA l),↥d,RP,RP,RP,RP,RP]=.ok (.nx [⇑(aj C W),⇑(bj F),⇑(aA l),↥d,RM (.own (.lst [])),RP,RP,RP,RP]):=by kernel_rfl
  show(av (V k) (.oY 4 .nil∘_) [⇑(aj C W),⇑(bj F),⇑(aA l),↥d,RP,RP,RP,RP,RP]>>=jW)=_;rw[aR v,aR (by rw[bX];exact e)];unfold n0;have t:=dB (n:=k) (a:=.bi .tuple (↑4∘.nil)) (b:=.idx ↑0 (.cst (.int 1))) (ρ:=[⇑(aj C W),⇑(bj F),⇑(aA l),↥d,⇑(.lst ((kR C F l d).map cD)),q,p,o,o8]) rfl rfl;show(((ak (V k) (.tup (.bi .tuple (↑4∘.nil)∘.idx ↑0 (.cst (.int 1))∘.nil)) [⇑(aj C W),⇑(bj F),⇑(aA l),↥d,⇑(.lst ((kR C F l d).map cD)),q,p,o,o8]>>=λd=>T.ok (Fl.rt d))>>=_)>>=_)=_;rw[t];rfl
 .rintro x ds ρ⟨m,j,q,p,o,o8,i,hd,h⟩;cases j with
  |nil=>cases hd|cons c j=>
   rw[(Ug hd).1,(Ug hd).2,h];have s:c∈C:=by rw[i];simp
   have r:m.length<=168:=by rw[i,SR]at B;omega
   obtain⟨w,e⟩:=N8 z (A c s) (Ls:=m.map λc=>((c.1,nw C F l d c):Cn)) (by rw[RV];exact r);have E:(m++[c]).map (λc=>((c.1,nw C F l d c):Cn))=m.map (λc=>((c.1,nw C F l d c):Cn))++[(c.1,nw C F l d c)]:=by rw[SA];rfl
   refine⟨_,_,rfl,e,SI.mk (m++[c]) j ↥c.1 ↥c.2.1 ↥c.2.2 w (by rw[i];simp) rfl ?_⟩;rw[E]
end
section
variable{W:List Pt}{F:List Int}{l d c:Int}{b:DL}{s:Pt×Pt}
def Mv.at(N:Mv C W)(e:i∈C.map (·.1)):(0<=(ae C i).1/\(ae C i).1<=1000000)/\0<=(ae C i).2/\(ae C i).2<=1000000:=by
 obtain⟨x,a,rfl⟩:=Ω3.mp e;rw[ig N.cn a];exact⟨N.xv x a,N.yv x a⟩
def qw(i j):mn i j<=i/\mn i j<=j/\(mn i j=i\/mn i j=j):=by
 unfold mn;split<;>omega
def qx(i j):i<=mx i j/\j<=mx i j/\(mx i j=i\/mx i j=j):=by
 unfold mx;split<;>omega
def mj:z0 p=RQ↔(0<=p.1/\p.1<=1000000)/\0<=p.2/\p.2<=1000000:=by
 unfold z0 okN;rw[R4,R4,R4,Φ,Φ,Φ,Φ]
def GN:out b=RT↔0<=b.we/\b.ea<=1000000:=by
 unfold out;rw[Xw,Θ2,Θ2];omega
theorem uT(i:l=0\/l=1)(N:Mv C W)(R:Rn C W l c F)(B:Bx C F l d b):(C.all λc=>z0 (nw C F l d c))=!out b:=by
 have hw:=qw b.h (b.h+d);have m:=qx b.h (b.h+d);rw[<-B.we]at hw;rw[<-B.ea]at m;rw[UO,Tj,TK,GN];constructor
 .intro h;obtain⟨x,e,ex⟩:=Ω3.mp (R.GK c R.cF);have f:=mj.mp (h x e);have j:=N.at (R.GK c R.cF);have a:=B.h c R.cF;unfold nw at f;rw[ex,Ξ2 R.cF]at f;rcases i with rfl|rfl
  .have f:(0<=(ae C c).1+d/\(ae C c).1+d<=1000000)/\0<=(ae C c).2/\(ae C c).2<=1000000:=f;have a:(ae C c).1=b.h:=a;omega
  .have f:(0<=(ae C c).1/\(ae C c).1<=1000000)/\0<=(ae C c).2+d/\(ae C c).2+d<=1000000:=f;have a:(ae C c).2=b.h:=a;omega
 .intro h x e;have k:x.1∈C.map (·.1):=Ω3.mpr ⟨x,e,rfl⟩;have j:=N.at k;refine mj.mpr ?_;unfold nw;by_cases g:x.1∈F
  .rw[Ξ2 g];have a:=B.h x.1 g;rcases i with rfl|rfl
   .show(0<=(ae C x.1).1+d/\(ae C x.1).1+d<=1000000)/\0<=(ae C x.1).2/\(ae C x.1).2<=1000000;have a:(ae C x.1).1=b.h:=a;omega
   .show(0<=(ae C x.1).1/\(ae C x.1).1<=1000000)/\0<=(ae C x.1).2+d/\(ae C x.1).2+d<=1000000;have a:(ae C x.1).2=b.h:=a;omega
  .rw[Ξ3 g];exact j
def z4(f:l=0\/l=1)(R:Rn C W l c F)(B:Bx C F l d b)(S:qr (b8 C F++(b8 C F).map (me l d)) s):tp l s.1=(b.we,b.so)/\tp l s.2=(b.ea,b.no):=by
 have hw:=qw b.h (b.h+d);have he:=qx b.h (b.h+d);rw[<-B.we]at hw;rw[<-B.ea]at he;have mem:∀{p},p∈b8 C F++(b8 C F).map (me l d)->∃x∈F,p=ae C x\/p=me l d (ae C x):=λ{p}hp=>by
  rcases Ω.mp hp with z|z
  .obtain⟨x,f,rfl⟩:=Ω3.mp z;exact⟨x,f,.inl rfl⟩
  .obtain⟨q,hq,rfl⟩:=Ω3.mp z;obtain⟨x,f,rfl⟩:=Ω3.mp hq;exact⟨x,f,.inr rfl⟩
 have j:∀{x},x∈F->ae C x∈b8 C F++(b8 C F).map (me l d):=λ{x}f=>SX _ (Ω3.mpr ⟨x,f,rfl⟩);have y:∀{x},x∈F->me l d (ae C x)∈b8 C F++(b8 C F).map (me l d):=λ{x}f=>Sk _ (Ω3.mpr ⟨_,Ω3.mpr ⟨x,f,rfl⟩,rfl⟩);obtain⟨N,o,g⟩:=Ω3.mp B.so.1;obtain⟨O,r,i⟩:=Ω3.mp B.no.1;obtain⟨G,K,e1⟩:=Ω3.mp S.x0;obtain⟨E,J,e2⟩:=Ω3.mp S.y0;obtain⟨D,I,e3⟩:=Ω3.mp S.u0;obtain⟨A,H,e4⟩:=Ω3.mp S.v0;obtain⟨x1,w,U⟩:=mem K;obtain⟨n,v,T⟩:=mem J;obtain⟨m,u,Q⟩:=mem I;obtain⟨k,t,P⟩:=mem H;rcases f with rfl|rfl
 .have c1:=S.x1 _ (j R.cF);have e:=S.x1 _ (y R.cF);have c2:=S.y1 _ (j o);have c3:=S.u1 _ (j R.cF);have a:=S.u1 _ (y R.cF);have c4:=S.v1 _ (j r);have e:s.1.1<=(ae C c).1+d:=e;have a:(ae C c).1+d<=s.2.1:=a;have hc:(ae C c).1=b.h:=B.h c R.cF;have M:(ae C x1).1=b.h:=B.h x1 w;have L:(ae C m).1=b.h:=B.h m u;have g2:b.so<=(ae C n).2:=B.so.2 n v;have g4:(ae C k).2<=b.no:=B.no.2 k t;have g:(ae C N).2=b.so:=g;have i:(ae C O).2=b.no:=i;have Z:G.1=b.h\/G.1=b.h+d:=by
   rcases U with rfl|rfl;.exact .inl M
   .exact .inr (by show(ae C x1).1+d=_;omega)
  have Y:E.2=(ae C n).2:=by rcases T with rfl|rfl<;>rfl
  have X:D.1=b.h\/D.1=b.h+d:=by
   rcases Q with rfl|rfl;.exact .inl L
   .exact .inr (by show(ae C m).1+d=_;omega)
  have V:A.2=(ae C k).2:=by rcases P with rfl|rfl<;>rfl
  exact⟨ZJ (show s.1.1=b.we by omega) (show s.1.2=b.so by omega),ZJ (show s.2.1=b.ea by omega) (show s.2.2=b.no by omega)⟩
 .have c1:=S.y1 _ (j R.cF);have e:=S.y1 _ (y R.cF);have c2:=S.x1 _ (j o);have c3:=S.v1 _ (j R.cF);have a:=S.v1 _ (y R.cF);have c4:=S.u1 _ (j r);have e:s.1.2<=(ae C c).2+d:=e;have a:(ae C c).2+d<=s.2.2:=a;have hc:(ae C c).2=b.h:=B.h c R.cF;have M:(ae C n).2=b.h:=B.h n v;have L:(ae C k).2=b.h:=B.h k t;have g2:b.so<=(ae C x1).1:=B.so.2 x1 w;have g4:(ae C m).1<=b.no:=B.no.2 m u;have g:(ae C N).1=b.so:=g;have i:(ae C O).1=b.no:=i;have Z:E.2=b.h\/E.2=b.h+d:=by
   rcases T with rfl|rfl;.exact .inl M
   .exact .inr (by show(ae C n).2+d=_;omega)
  have Y:G.1=(ae C x1).1:=by rcases U with rfl|rfl<;>rfl
  have X:A.2=b.h\/A.2=b.h+d:=by
   rcases P with rfl|rfl;.exact .inl L
   .exact .inr (by show(ae C k).2+d=_;omega)
  have V:D.1=(ae C m).1:=by rcases Q with rfl|rfl<;>rfl
  exact⟨ZJ (show s.1.2=b.we by omega) (show s.1.1=b.so by omega),ZJ (show s.2.2=b.ea by omega) (show s.2.1=b.no by omega)⟩
def N9(f:l=0\/l=1)(a e):yE a e=RQ↔(((tp l a.1).1<=(tp l a.2).1/\(tp l a.1).1<=(tp l e.2).1)/\(tp l e.1).1<=(tp l a.2).1/\(tp l e.1).1<=(tp l e.2).1)/\((tp l a.1).2<=(tp l a.2).2/\(tp l a.1).2<=(tp l e.2).2)/\(tp l e.1).2<=(tp l a.2).2/\(tp l e.1).2<=(tp l e.2).2:=by
 rw[GH];rcases f with rfl|rfl;.exact Iff.rfl
 .exact And.comm
def N_(a:l=0\/l=1)(N:Mv C W)(hw:x∈W):((tp l (ae C x.1)).1=(tp l (ae C x.2)).1/\(tp l (ae C x.1)).2<=(tp l (ae C x.2)).2)\/((tp l (ae C x.1)).2=(tp l (ae C x.2)).2/\(tp l (ae C x.1)).1<=(tp l (ae C x.2)).1):=by
 have:=N.or x hw;rcases a with rfl|rfl;.exact this
 .exact this.symm
def K4(e:l=0\/l=1)(R:Rn C W l c F)(B:Bx C F l d b):b.we<=b.ea/\b.so<=b.no:=by
 have hw:=qw b.h (b.h+d);have a:=qx b.h (b.h+d);rw[<-B.we]at hw;rw[<-B.ea]at a;exact⟨'0',W6 (B.so.2 c R.cF) (B.no.2 c R.cF)⟩
def hits(k:l=0\/l=1)(N:Mv C W)(R:Rn C W l c F)(B:Bx C F l d b)(S:qr (b8 C F++(b8 C F).map (me l d)) s):(aS C W F l).any (yE s)=(C.any (kS C F l b)||W.any (pf C F l b)):=by
 obtain⟨v,u⟩:=z4 k R B S;have bl:=K4 k R B;have j:∀e:Pt×Pt,yE s e=RQ↔((b.we<=b.ea/\b.we<=(tp l e.2).1)/\(tp l e.1).1<=b.ea/\(tp l e.1).1<=(tp l e.2).1)/\(b.so<=b.no/\b.so<=(tp l e.2).2)/\(tp l e.1).2<=b.no/\(tp l e.1).2<=(tp l e.2).2:=λe=>by rw[N9 k,v,u]
 unfold aS;rw[List.any_append];congr 1
 .rw[UO,Wf,Wf];constructor
  .rintro⟨e,n,h⟩;obtain⟨x,f,rfl⟩:=Ω3.mp n;obtain⟨g,i⟩:=Ψ.mp f;have:=(j _).mp h;refine⟨x,g,?_⟩;unfold kS;simp only[R4,Φ];exact⟨i,⟨this.1.1.2,this.1.2.1⟩,this.2.1.2,this.2.2.1⟩
  .rintro⟨x,g,h⟩;unfold kS at h;simp only[R4,Φ]at h;exact⟨_,Ω3.mpr ⟨x,Ψ.mpr ⟨g,h.1⟩,rfl⟩,(j _).mpr ⟨⟨⟨bl.1,h.2.1.1⟩,h.2.1.2,Xv _⟩,⟨bl.2,h.2.2.1⟩,h.2.2.2,Xv _⟩⟩
 .rw[UO,Wf,Wf];constructor
  .rintro⟨e,n,h⟩;obtain⟨x,f,rfl⟩:=Ω3.mp n;obtain⟨m,i⟩:=Ψ.mp f;obtain⟨a,ha⟩:=Ψ.mp m;have ha:md l (ae C x.1)=md l (ae C x.2):=Φ0 ha;rw[<-DO,<-DO]at ha;have:=(j _).mp h;have r:=qw (tp l (ae C x.1)).2 (tp l (ae C x.2)).2;have q:=qx (tp l (ae C x.1)).2 (tp l (ae C x.2)).2;refine⟨x,a,?_⟩;unfold pf HH wx wy;simp only[R4,Φ,Θ3];refine⟨⟨ha,i,?_,this.1.2.1⟩,W6 r.1 this.2.2.1,W6 this.2.1.2 q.2.1⟩;have p:=this.1.1.2;have p:b.we<=(tp l (ae C x.2)).1:=p;rw[ha];exact p
  .rintro⟨x,a,h⟩;unfold pf HH wx wy at h;simp only[R4,Φ,Θ3]at h;obtain⟨⟨ha,i,y,w⟩,A,z⟩:=h;have o:=N_ k N a;have t:(tp l (ae C x.1)).2<=(tp l (ae C x.2)).2:=by
    rcases o with o|o;.exact o.2
    .exact Int.le_of_eq o.1
   have r:=qw (tp l (ae C x.1)).2 (tp l (ae C x.2)).2;have q:=qx (tp l (ae C x.1)).2 (tp l (ae C x.2)).2;refine⟨_,Ω3.mpr ⟨x,Ψ.mpr ⟨Ψ.mpr ⟨a,Φ2 (show md l (ae C x.1)=md l (ae C x.2)by rw[<-DO,<-DO];exact ha)⟩,i⟩,rfl⟩,(j _).mpr ⟨⟨⟨bl.1,?_⟩,w,Int.le_of_eq ha⟩,⟨bl.2,?_⟩,?_,t⟩⟩
   .show b.we<=(tp l (ae C x.2)).1;rw[<-ha];exact y
   .show b.so<=(tp l (ae C x.2)).2;omega
   .show(tp l (ae C x.1)).2<=b.no;omega
def free_eq(a:l=0\/l=1)(N:Mv C W)(R:Rn C W l c F)(B:Bx C F l d b)(S:qr (b8 C F++(b8 C F).map (me l d)) s):((C.all λc=>z0 (nw C F l d c))&&!((aS C W F l).any (yE s)))=wz C W F l b:=by
 rw[uT a N R B,hits a N R B S];unfold wz;rw[Bool.not_or]
end
section
variable{W:List Pt}{l d c:Int}{b:DL}
def wB:(kR C F l d).map (·.1)=C.map (·.1):=by
 unfold kR;rw[S7];rfl
def yI(nd:(C.map (·.1)).Nodup)(e:i∈C.map (·.1)):ae (kR C F l d) i=if i∈F then me l d (ae C i)else ae C i:=by
 obtain⟨x,a,rfl⟩:=Ω3.mp e;have:((x.1,nw C F l d x))∈kR C F l d:=Ω3.mpr ⟨x,a,rfl⟩;rw[show x.1=((x.1,nw C F l d x)).1 from rfl,ig (by rw[wB];exact nd) this];rfl
def K5(h:wz C W F l b=RQ):∀x∈C,kS C F l b x=RT:=λx a=>by
 unfold wz at h;simp only[R4,TK]at h;have:=List.any_eq_false.mp h.2.1 x a;simpa using this
def Mv.moved(s:l=0\/l=1)(N:Mv C W)(R:Rn C W l c F)(B:Bx C F l d b)(h:wz C W F l b=RQ):Mv (kR C F l d) W:=by
 have hw:=qw b.h (b.h+d);have G:=qx b.h (b.h+d);rw[<-B.we]at hw;rw[<-B.ea]at G;have m:=by
  have e:=uT s N R B;unfold wz at h;rw[R4]at h;rw[h.1]at e;exact Ψ0.mp e
 have fN:∀{i j},i∈F->j∈C.map (·.1)->j∉F->(tp l (ae C i)).2=(tp l (ae C j)).2->¬(b.we<=(tp l (ae C j)).1/\(tp l (ae C j)).1<=b.ea):=λ{i j}u D A t z=>by
  obtain⟨y,p,rfl⟩:=Ω3.mp D;have q:=K5 h y p;have:kS C F l b y=RQ:=by
   unfold kS;simp only[R4,Φ,TK,Θ2];exact⟨A,z,by rw[<-t];exact B.so.2 i u,by rw[<-t];exact B.no.2 i u⟩
  rw[q]at this;cases this
 refine⟨by unfold kR;rw[RV];exact N.cl,N.wl,by rw[wB];exact N.cn,λx g=>by rw[wB];exact N.hW x g,λx r=>?_,λx r=>?_,λx r=>?_,λx g=>?_⟩
 .obtain⟨y,p,rfl⟩:=Ω3.mp r;exact N.cv y p
 .obtain⟨y,p,rfl⟩:=Ω3.mp r;exact(mj.mp (m y p)).1
 .obtain⟨y,p,rfl⟩:=Ω3.mp r;exact(mj.mp (m y p)).2
 .have w:=N.hW x g;rw[yI N.cn w.1,yI N.cn w.2];have o:=N.or x g;have cls:∀(v),(x.1∈F\/x.2∈F)->x.1∈F/\x.2∈F:=λv E=>R.cls x (Ψ.mpr ⟨g,Φ2 v⟩) E;by_cases k:x.1∈F
  .by_cases f:x.2∈F
   .rw[Ξ2 k,Ξ2 f];rcases s with rfl|rfl
    .show((ae C x.1).1+d=(ae C x.2).1+d/\(ae C x.1).2<=(ae C x.2).2)\/((ae C x.1).2=(ae C x.2).2/\(ae C x.1).1+d<=(ae C x.2).1+d);omega
    .show((ae C x.1).1=(ae C x.2).1/\(ae C x.1).2+d<=(ae C x.2).2+d)\/((ae C x.1).2+d=(ae C x.2).2+d/\(ae C x.1).1<=(ae C x.2).1);omega
   .rw[Ξ2 k,Ξ3 f];have hu:=B.h x.1 k;have a:md l (ae C x.1)≠md l (ae C x.2):=λz=>f (cls z (.inl k)).2;rcases s with rfl|rfl
    .have a:=a;have hu:(ae C x.1).1=b.h:=hu;have st:=λq:(ae C x.1).2=(ae C x.2).2=>fN k w.2 f q;have n:=o.elim (λz=>Ξ1 z.1 a) id;have st:=st n.1;have st:¬(b.we<=(ae C x.2).1/\(ae C x.2).1<=b.ea):=st;show((ae C x.1).1+d=(ae C x.2).1/\(ae C x.1).2<=(ae C x.2).2)\/((ae C x.1).2=(ae C x.2).2/\(ae C x.1).1+d<=(ae C x.2).1);omega
    .have a:=a;have hu:(ae C x.1).2=b.h:=hu;have st:=λq:(ae C x.1).1=(ae C x.2).1=>fN k w.2 f q;have n:=o.elim id (λz=>Ξ1 z.1 a);have st:=st n.1;have st:¬(b.we<=(ae C x.2).2/\(ae C x.2).2<=b.ea):=st;show((ae C x.1).1=(ae C x.2).1/\(ae C x.1).2+d<=(ae C x.2).2)\/((ae C x.1).2+d=(ae C x.2).2/\(ae C x.1).1<=(ae C x.2).1);omega
  .by_cases f:x.2∈F
   .rw[Ξ3 k,Ξ2 f];have hu:=B.h x.2 f;have a:md l (ae C x.1)≠md l (ae C x.2):=λz=>k (cls z (.inr f)).1;rcases s with rfl|rfl
    .have a:=a;have hu:(ae C x.2).1=b.h:=hu;have n:=o.elim (λz=>Ξ1 z.1 a) id;have st:=fN f w.1 k (show(ae C x.2).2=(ae C x.1).2 from n.1.symm);have st:¬(b.we<=(ae C x.1).1/\(ae C x.1).1<=b.ea):=st;show((ae C x.1).1=(ae C x.2).1+d/\(ae C x.1).2<=(ae C x.2).2)\/((ae C x.1).2=(ae C x.2).2/\(ae C x.1).1<=(ae C x.2).1+d);omega
    .have a:=a;have hu:(ae C x.2).2=b.h:=hu;have n:=o.elim id (λz=>Ξ1 z.1 a);have st:=fN f w.1 k (show(ae C x.2).1=(ae C x.1).1 from n.1.symm);have st:¬(b.we<=(ae C x.1).2/\(ae C x.1).2<=b.ea):=st;show((ae C x.1).1=(ae C x.2).1/\(ae C x.1).2<=(ae C x.2).2+d)\/((ae C x.1).2=(ae C x.2).2+d/\(ae C x.1).1<=(ae C x.2).1);omega
   .rw[Ξ3 k,Ξ3 f];exact o
theorem K6(h:ai defs gv k 10 [.d net,.d a,.d x]=.ok g)(f:ai defs gv k 15 [.d net,.d g,.d x,.d e]=.ok r):ai defs gv (k+1) 16 [.d net,.d a,.d x,.d e]=.ok r:=by
 rw[az rfl rfl];unfold ji;symm_saturate;rw[h];symm_saturate;rw[f];symm_saturate
theorem K7(h:ai defs gv k 10 [.d net,.d a,.d x]=.ok g)(f:ai defs gv k 15 [.d net,.d g,.d x,.d e]=.exc y):∃ρ,ai defs gv (k+1) 16 [.d net,.d a,.d x,.d e]=.exc ⟨y.x,ρ⟩:=by
 rw[az (d:=ji) rfl rfl];unfold ji;symm_saturate;rw[h];symm_saturate;rw[f];exact⟨_,rfl⟩
theorem DR(f:ai defs gv k 10 [.d net,.d a,.d x]=.exc y):∃ρ,ai defs gv (k+1) 16 [.d net,.d a,.d x,.d e]=.exc ⟨y.x,ρ⟩:=by
 rw[az rfl rfl];unfold ji;symm_saturate;rw[f];exact⟨_,rfl⟩
def Oa(n:Nat):(V n).cls 0=RM 24:=rfl
theorem K8(h:ai defs gv n 16 [.d net,.d a,.d x,.d e]=.ok r):ai defs gv (n+1) 30 [.d net,.d a,.d x,.d e]=.ok r:=by
 rw[az rfl rfl];unfold eV;simp only[LC,KH,v9,OO,gr,af,ou,iW,Cl,Sd,c8,A.w,Lm,Ls,VY,if_true];rw[h];rfl
noncomputable def wC(c:RW):D:=.lst [.bl (decide (c=49)),.bl (decide (c=61)),.bl (decide (c=73)),.bl RT]
theorem wD{c}(f:c=49\/c=61\/c=73)(h:ai defs gv n 16 [.d net,.d a,.d x,.d e]=.exc ⟨.exc c [],ρ⟩):ai defs gv (n+1) 30 [.d net,.d a,.d x,.d e]=.ok (wC c):=by
 rw[az rfl rfl];unfold eV;simp only[LC,KH,v9,OO,gr,af,ou,iW,Cl,Sd,c8,A.w,Lm,Ls,VY,if_true];rw[h];rcases f with rfl|rfl|rfl<;>rfl
def K9(h:ai defs gv n 6 [.d net,.d a]=.ok (.bl RT)):ai defs gv (n+4) 30 [.d net,.d a,.d x,.d e]=.ok (wC 49):=by
 obtain⟨f,q⟩:=GD h;obtain⟨f,q⟩:=yC q;obtain⟨f,q⟩:=DR q;exact wD (.inl rfl) q
def K_(h:ai defs gv n 6 [.d net,.d a]=.ok (.bl RQ))(ha:jG x [.str "x",.str "y"]=RM RT):ai defs gv (n+4) 30 [.d net,.d a,.d x,.d e]=.ok (wC 61):=by
 obtain⟨f,q⟩:=yA h ha;obtain⟨f,q⟩:=yC q;obtain⟨f,q⟩:=DR (e:=e) q;exact wD (.inr (.inl rfl)) q
noncomputable def bT(C:List Cn)(W:List Pt)(F:List Int)(l d:Int)(f:Bool):D:=if f then aj (kR C F l d) W else wC 73
def Mv.move(N:Mv C W)(m:8<=k)(e:l=0\/l=1)(R:Rn C W l c F):∃b,Bx C F l d b/\ai defs gv k 28 [.d (aj C W),.d (bj F),.d (aA l),.d (.int d)]=.ok (.bl (wz C W F l b))/\ai defs gv k 30 [.d (aj C W),.d (.int c),.d (aA l),.d (.int d)]=.ok (bT C W F l d (wz C W F l b)):=by
 obtain⟨n,rfl⟩:=Tf m;have cl:=N.cl;have g:F≠[]:=λz=>by have:=R.cF;rw[z]at this;cases this
 obtain⟨b,B,p⟩:=GL (k:=n+7) (d:=d) (h:=md l (ae C c)) N.cn (qu (n:=n+6) e N.cn '0') g R.GK R.same N.hW;refine⟨b,B,p,?_⟩;obtain⟨s,q,S,a⟩:=DH (n:=n) (d:=d) e N.cn '0' N.wl N.hW g (by have:=R.len;omega) R.GK (R.run n);rw[free_eq e N R B S]at a;have i:=R.run (n+2) c R.cF;unfold bT;cases f:wz C W F l b with
 |true=>
  rw[f]at a;exact K8 (K6 i a)|false=>
  rw[f]at a;obtain⟨j,o⟩:=K7 i a;exact wD (.inr (.inr rfl)) o
end
section
def DV(a:1<=k)(i):ai defs gv k 17 [.feed,.d (.int i)]=.draw i λi=>.ok (.int i):=by
 obtain⟨n,rfl⟩:=Tf a;exact qk n i
def j9(b:1<=k)(c:gP ρ 0=RQ)(h:ak (V k) e ρ=.ok (.int i)):ak (V k) (.call 17 (.feed 0 (e∘.nil))) ρ=.draw i λj=>.ok (.int j):=by
 show((T.need (gP ρ 0)>>=λ_=>(ak (V k) e ρ>>=λd=>T.ok [A.d d])>>=λa=>T.ok (A.feed::a))>>=λas=>(ai defs gv k 17 as).at' ρ)=_;rw[c,h];show(ai defs gv k 17 [.feed,.d (.int i)]).at' ρ=_;rw[DV b];rfl
def GO(h:(av v s ρ).wp m λb a=>∃ρ',b=.nx ρ'/\(av v r ρ').wp a Q):(av v (s∘r) ρ).wp m Q:=by
 rw[aL,T.wp_bind];refine T.wp_mono (λb a q=>?_) h;obtain⟨ρ',rfl,q⟩:=q;exact q
def Ob{L:List Int}{j:Int}(b:0<=j)(a:j<L.length):aT (.lst (L.map D.int)) (.int j)=.ok (.int (L.getD j.toNat 0)):=by
 show T.get (fL (L.map D.int) j)=_;rw[sg b a];rfl
def j_(b:1<=k){L:List Int}(c:gP ρ 0=RQ)(h:ak (V k) e ρ=.ok (.lst (L.map D.int)))(a:ak (V k) n ρ=.ok (.int L.length)):ak (V k) (.idx e (.call 17 (.feed 0 (n∘.nil)))) ρ=.draw (L.length:Int) λj=>aT (.lst (L.map D.int)) (.int j):=by
 show(ak (V k) e ρ>>=λd=>ak (V k) (.call 17 (.feed 0 (n∘.nil))) ρ>>=λe=>aT d e)=_;rw[h,j9 b c a];rfl
def jo{L:List Int}{Q}(d:0<L.length)(c:L.length<=100)(b:0<m)(q:∀i:Int,Q (.int i) (m-1)):(T.draw (L.length) λj=>aT (.lst (L.map D.int)) (.int j)).wp m Q:=by
 rw[T.fi];refine⟨'0','0',b,λj j0 a=>?_⟩;rw[Ob j0 a];exact q _
def uU{L:List Int}{f:D->T a}{Q:a->Nat->Prop}(e:0<L.length)(d:L.length<=100)(c:0<m)(q:∀i:Int,(f (.int i)).wp (m-1) Q):((T.draw (L.length:Int) λj=>aT (.lst (L.map D.int)) (.int j))>>=f).wp m Q:=by
 show(T.draw (L.length:Int) λj=>aT (.lst (L.map D.int)) (.int j)>>=f).wp m Q;rw[T.fi];refine⟨'0','0',c,λj j0 b=>?_⟩;rw[Ob j0 b];exact q _
noncomputable def LD(net g x t:D)(u:Int)(L:List Int)(o7 o8:Option L2.W):ah:=[RM .feed,⇑net,⇑g,⇑x,⇑t,↥u,⇑(.lst (L.map D.int)),o7,o8]
def DW{Q}(h:(ak v e ρ).wp m λd a=>Q (.rt d) a):(av v (.ret e∘r) ρ).wp m Q:=by
 rw[aL,T.wp_bind];show((ak v e ρ>>=λd=>T.ok (Fl.rt d)).wp m _);rw[T.wp_bind];exact h
def g9{a b r:bq}(h:bN v c ρ=.ok RT):av v (.iff c a .nil∘r) ρ=av v r ρ:=aR (by rw[bg,h];rfl)
def oI{Q}(h:bN v c ρ=.ok RQ)(q:(ak v e ρ).wp m λd a=>Q (.rt d) a):(av v (.iff c (.ret e∘.nil) .nil∘r) ρ).wp m Q:=by
 rw[aL,bg,h,T.wp_bind];exact DW q
def La(c:1<=k)(p:0<L.length)(e:L.length<=100)(s:3<=m):(av (V k) rQ (LD net g x t u L o7 o8)).wp m λq o=>m<=o+3/\∃i:Int,q=.rt (.int i):=by
 unfold rQ;refine jm ?_;rw[j_ c (L:=L) rfl rfl (by
  show T.ok (D.int (L.map D.int).length)=_;rw[RV])];refine jo p e '0' λy=>?_;show(av (V k) _ (LD net g x t u L ↥y o8)).wp (m-1) _;refine jm ?_;rw[j9 c rfl rfl,T.fi];refine⟨by decide,by decide,'0',λj j0 r=>?_⟩;rw[T.dO];show(av (V k) _ (LD net g x t u L ↥y ↥j)).wp (m-1-1) _;have a:∀i:Int,bN (V k) (.aK .Eq ↑8 (.cst (.int i))) (LD net g x t u L ↥y ↥j)=.ok (decide (j=i)):=λi=>by
  show(T.get (dh 60 (.int j) (.int i))>>=λb=>T.ok (D.bl b))>>=aZ=_;rfl
 by_cases n:j=0
 .refine oI (by rw[a,Φ2 n]) ?_;show(ak (V k) (.call 17 (.feed 0 (.op .Pow (.cst (.int 10)) (.cst (.int 6))∘.nil))) (LD net g x t u L ↥y ↥j)>>=λd=>qb .Sub d (.int 500000)).wp _ _;rw[j9 c rfl DP];show(T.draw 1000000 λi=>T.ok (D.int (i-500000))).wp _ _;rw[T.fi];exact⟨by decide,by decide,'0',λi _ _=>⟨'0',_,rfl⟩⟩
 rw[g9 (b:=.nil) (by rw[a,Φ1 n])];by_cases l:j=1
 .refine oI (by rw[a,Φ2 l]) ?_;rw[j_ c (L:=[1,-1,0,2,-2]) rfl rfl rfl];exact jo '1' '1' '0' λi=>⟨'0',_,rfl⟩
 rw[g9 (b:=.nil) (by rw[a,Φ1 l])];by_cases h:j=2
 .refine oI (by rw[a,Φ2 h]) ?_;show(T.ok (D.int ((y-u)/2))).wp _ _;exact⟨'0',_,rfl⟩
 rw[g9 (b:=.nil) (by rw[a,Φ1 h])];by_cases f:j=3
 .refine oI (by rw[a,Φ2 f]) ?_;rw[j_ c (L:=[1000000,-1000000,10^30,1000000+1-u,-1-u]) rfl (by kernel_rfl) rfl];exact jo '2' '2' '0' λi=>⟨'0',_,rfl⟩
 rw[g9 (b:=.nil) (by rw[a,Φ1 f])];refine DW ?_;show(ak (V k) (.idx (.lst (.cst (.int 0)∘.cst (.int 1)∘.neg (.cst (.int 1))∘.nil)) (.call 17 (.feed 0 (.cst (.int 3)∘.nil)))) (LD net g x t u L ↥y ↥j)>>=λd=>qb .Add (.int (y-u)) d).wp _ _;rw[j_ c (L:=[0,1,-1]) rfl rfl rfl];exact uU '1' '1' '0' λi=>⟨'0',_,rfl⟩
theorem ints_map:∀L:List Int,dM (L.map D.int)=RM L
 |[]=>rfl|i::L=>by rw[Sr];show(dM (L.map D.int)).map (i::·)=_;rw[ints_map L];rfl
theorem oJ:∀L:List Int,(bW L).length<=L.length
 |[]=>R5 _|i::L=>by
  unfold bW;have:=oJ L;split;.rw[Ss];omega
  .rw[Ss,Ss];omega
variable{W:List Pt}
def Lb(E:1<=k)(G:ai defs gv k 27 [.d (aj C W),.d (aA l)]=.ok (lJ C l))(N:Mv C W)(R:Rn C W l c F)(B:3<=m):(ai defs gv (k+1) 29 [.feed,.d (aj C W),.d (bj F),.d (aA l)]).wp m λd s=>m<=s+3/\∃i:Int,d=.int i:=by
 have cl:=N.cl;obtain⟨j,p,v⟩:∃j p,F=j::p:=by cases F with
  |nil=>have:=R.cF;cases this|cons a b=>exact⟨a,b,rfl⟩
 have n:=R.GK _ (by rw[v];exact RX);rw[az rfl rfl];show(av (V k) jk.body [RM .feed,⇑(aj C W),⇑(bj F),⇑(aA l),RP,RP,RP,RP,RP]>>=_).wp m _;have K:ak (V k) (.call 27 (↑1∘↑3∘.nil)) [RM .feed,⇑(aj C W),⇑(bj F),⇑(aA l),RP,RP,RP,RP,RP]=.ok (lJ C l):=by
  symm_saturate;rw[G];symm_saturate
 show(av (V k) (.set 4 (.call 27 (↑1∘↑3∘.nil))∘rR) [RM .feed,⇑(aj C W),⇑(bj F),⇑(aA l),RP,RP,RP,RP,RP]>>=_).wp m _;rw[ba K];show(av (V k) rR [RM .feed,⇑(aj C W),⇑(bj F),⇑(aA l),⇑(lJ C l),RP,RP,RP,RP]>>=_).wp m _;unfold rR;have J:ak (V k) (.idx (.idx ↑4 (.idx ↑2 (.cst (.int 0)))) (.cst (.int 0))) [RM .feed,⇑(aj C W),⇑(bj F),⇑(aA l),⇑(lJ C l),RP,RP,RP,RP]=.ok (.int (tp l (ae C j)).1):=by
  rw[v];show((aT (.tup (D.int j::p.map D.int)) (.int 0)>>=λe=>aT (lJ C l) e)>>=λd=>aT d (.int 0))=_;rw[rZ,KI];show(aT (lJ C l) (.int j)>>=λd=>aT d (.int 0))=_;rw[oH N.cn n];rfl
 rw[ba J];have I:ak (V k) (.lc ["_law_c"] [4] (.nm 0) (.aB ↑4) .yes og) [RM .feed,⇑(aj C W),⇑(bj F),⇑(aA l),⇑(lJ C l),⇑(.int (tp l (ae C j)).1),RP,RP,RP]=.ok (.lst (C.map λx=>.int (tp l (ae C x.1)).1)):=by
  refine eZ (λr=>∃a,r=[a,⇑(lJ C l)]) rfl ⟨RP,rfl⟩ ?_;rintro r⟨a,rfl⟩x A;refine⟨[↥x.1,⇑(lJ C l)],rfl,⟨_,rfl⟩,?_⟩;show(aT (lJ C l) (.int x.1)>>=λd=>aT d (.int 0))=_;rw[oH N.cn (Ω3.mpr ⟨x,A,rfl⟩)];rfl
 have z:=oM;obtain⟨h,o⟩:∃h:List Int,h=(C.map λx=>(tp l (ae C x.1)).1)++[0,1000000]:=⟨_,rfl⟩;have Q:h.length<=61:=by rw[o];simp;omega
 have H:ak (V k) (.bi .sorted ((.bi .set ((.op .Add (.lc ["_law_c"] [4] (.nm 0) (.aB ↑4) .yes og) (.lst (.cst (.int 0)∘.op .Pow (.cst (.int 10)) (.cst (.int 6))∘.nil)))∘.nil))∘.nil)) [RM .feed,⇑(aj C W),⇑(bj F),⇑(aA l),⇑(lJ C l),⇑(.int (tp l (ae C j)).1),RP,RP,RP]=.ok (.lst ((sortI (bW h)).map D.int)):=by
  have a1:ak (V k) (.op .Add (.lc ["_law_c"] [4] (.nm 0) (.aB ↑4) .yes og) (.lst (.cst (.int 0)∘.op .Pow (.cst (.int 10)) (.cst (.int 6))∘.nil))) [RM .feed,⇑(aj C W),⇑(bj F),⇑(aA l),⇑(lJ C l),⇑(.int (tp l (ae C j)).1),RP,RP,RP]=.ok (.lst (h.map D.int)):=by
   show(ak (V k) (.lc ["_law_c"] [4] (.nm 0) (.aB ↑4) .yes og) _>>=λd=>ak (V k) (.lst (.cst (.int 0)∘.op .Pow (.cst (.int 10)) (.cst (.int 6))∘.nil)) _>>=λe=>qb .Add d e)=_;rw[I];show(T.need (decide ((C.map λx=>D.int (tp l (ae C x.1)).1).length+2<=R1))>>=λ_=>T.ok (D.lst ((C.map λx=>D.int (tp l (ae C x.1)).1)++[.int 0,.int 1000000])))=_;rw[sd (by rw[RV];omega),o,SA,S7];rfl
  have O:=ints_map h;have S:=oJ h;have M:oX .set [.lst (h.map D.int)]=.ok (.aJ (bW h)):=by
   show(T.get (dM (h.map D.int))>>=λns=>T.need (decide (ns.length<=300))>>=λ_=>T.ok (D.aJ (bW ns)))=_;rw[O];show(T.need (decide (h.length<=300))>>=λ_=>T.ok (D.aJ (bW h)))=_;rw[Φ2 (show h.length<=300 by omega)];rfl
  have L:oX .sorted [.aJ (bW h)]=.ok (.lst ((sortI (bW h)).map D.int)):=by
   show(T.need (decide ((bW h).length<64))>>=λ_=>T.ok (D.lst ((sortI (bW h)).map D.int)))=_;rw[Φ2 (show(bW h).length<64 by omega)];rfl
  rw[sA (sA a1|>.trans M),L]
 show(av (V k) (.set 6 _∘rQ) [RM .feed,⇑(aj C W),⇑(bj F),⇑(aA l),⇑(lJ C l),⇑(.int (tp l (ae C j)).1),RP,RP,RP]>>=_).wp m _;rw[ba H];have y:0<(sortI (bW h)).length:=WU (a:=0) ((sortI_perm _).mem_iff.mpr (fH.mpr (by rw[o];simp)));have w:(sortI (bW h)).length<=100:=by rw[(sortI_perm _).length_eq];have:=oJ h;omega
 rw[T.wp_bind];refine T.wp_mono (λP s q=>?_) (La E y w B);obtain⟨q,i,rfl⟩:=q;exact⟨q,i,rfl⟩
end
structure DX(k wt:Nat)(d:D):Prop where
 LF:rm d=RQ
 HJ:(rl d).showable=RQ
 LG:(rl d).depth<=k
 lv:(rl d).leavesShort 13=RQ
 wt:(rl d).weight<=wt
structure Qy(k wt:Nat)(ds:List D):Prop where
 LF:nH ds=RQ
 HJ:aam (i9 ds)=RQ
 LG:PyData.depthAll (i9 ds)<=k
 lv:Zp 13 (i9 ds)=RQ
 wt:YM (i9 ds)<=ds.length*(wt+1)
theorem Oc:∀{ds:List D},(∀d∈ds,DX k wt d)->Qy k wt ds
 |[],_=>⟨rfl,rfl,SH _,rfl,by simp[i9,YM]⟩|d::ds,h=>by
  have a:=h d RX;have b:=Oc (ds:=ds) λx c=>h x (RZ _ c);refine⟨?_,?_,?_,?_,?_⟩;.simp[nH,a.LF,b.LF]
  .simp[i9,aam,a.HJ,b.HJ]
  .simp only[i9,PyData.depthAll];exact Nat.max_le.mpr ⟨a.LG,b.LG⟩
  .simp[i9,Zp,a.lv,b.lv]
  .simp only[i9,YM,Ss,Nat.succ_mul];have:=a.wt;have:=b.wt;omega
def mo(h:∀d∈ds,DX k wt d):DX (k+1) (ds.length*(wt+1)) (.tup ds):=by
 have s:=Oc h;exact⟨s.LF,s.HJ,Nat.succ_le_succ s.LG,s.lv,s.wt⟩
def DY{i:Int}(h:i.natAbs<10^12):i.natAbs.log2<40:=by
 by_cases e:i.natAbs=0;.rw[e];decide
 .exact(Nat.log2_lt e).mpr '0'
def GP(h:i.natAbs<10^12):DX 0 40 (.int i):=by
 have l:=DY h;refine⟨rfl,?_,R5 _,?_,?_⟩
 .show decide (i.natAbs.log2<1920)=RQ;exact Φ2 '0'
 .show decide ((PyData.shown (.int i)).length<=13)=RQ;exact Φ2 (PyData.shown_int_le h)
 .show(if i==0 then 0 else i.natAbs.log2+1)<=40;split<;>omega
def DX.mono{k b wt a}(h:DX k wt d)(c:k<=b)(hw:wt<=a):DX b a d:=⟨h.LF,h.HJ,SO h.LG c,h.lv,SO h.wt hw⟩
def Lc(h:DX 8 1000000 d):rp d=RQ:=by
 unfold rp;rw[h.LF,h.HJ,Φ2 h.LG,Φ2 (PyData.shown_fits '1' '1' h.lv (SO h.wt '1'))];rfl
def yJ(b:FH d=RQ)(a:rp d=RQ):oX .repr [d]=.ok (.str (rl d).shown):=by
 show(T.need (FH d&&rp d)>>=λ_=>T.ok (D.str (rl d).shown))=_;rw[b,a];rfl
def GQ(s):be .NotEq (.str s) (.str s)=.ok (.bl RT):=by
 show(T.get (RM (s==s))>>=λb=>T.ok (D.bl (!b)))=_;rw[beq_self_eq_true];rfl
def GR{L:List Pt}(nd:L.Nodup)(h:∀p∈L,0<=p.1/\p.1<7/\0<=p.2/\p.2<6):L.length<=42:=by
 have n2:(L.map λp=>p.1*6+p.2).Nodup:=List.pairwise_map.mpr (Ws (λ{a b}ha hb c z=>c (by
  have f:=h a ha;have g:=h b hb;exact ZJ '0' '0')) nd);have:=gZ (m:=(SQ 42).map Int.ofNat) n2 λx d=>by
  obtain⟨p,e,rfl⟩:=Ω3.mp d;have f:=h p e;exact Ω3.mpr ⟨(p.1*6+p.2).toNat,List.mem_range.mpr '0',by show((p.1*6+p.2).toNat:Int)=_;omega⟩
 rw[RV,RV,WW]at this;exact this
def yK{xs:List Int}(v:∀x∈xs,0<=x/\x<=1000000)(i):0<=xs.getD i 0/\xs.getD i 0<=1000000:=by
 rw[TY];cases e:xs[i]? with
 |none=>exact⟨by decide,by decide⟩|some x=>exact v x (SE e)
def rise{xs:List Int}(h:xs.Pairwise (·<·)){i j:Int}(c:0<=i)(b:i<j)(a:j<xs.length):xs.getD i.toNat 0<xs.getD j.toNat 0:=by
 rw[TY,TY,R_ '0',R_ '0'];exact List.pairwise_iff_getElem.mp h _ _ _ _ '0'
def Od{A}{W}(hw:w<=7)(z:h<=6)(e:Num w h A)(f:(xs.length:Int)=w)(B:(b.length:Int)=h)(o:∀x∈xs,0<=x/\x<=1000000)(n:∀y∈b,0<=y/\y<=1000000)(s:xs.Pairwise (·<·))(r:b.Pairwise (·<·))(hN:Dv E A xs b C W):Mv C W:=by
 have GK:∀p∈A.map (·.1),look A p∈C.map (·.1):=λp a=>Ω3.mpr ⟨j8 A xs b p,(hN.cs _).mpr ⟨p,a,rfl⟩,rfl⟩;have u:(A.map (·.1)).length<=42:=GR e.nd λp a=>by
  have:=e.yO _ (dG a);exact⟨this.1,aan this.2.1 hw,this.2.2.1,aan this.2.2.2 z⟩
 have t:(C.map (·.1)).length<=(A.map (·.2)).length:=gZ hN.cn λx f=>by
  obtain⟨c,d,rfl⟩:=Ω3.mp f;obtain⟨p,a,rfl⟩:=(hN.cs c).mp d;exact Ω3.mpr ⟨(p,look A p),dG a,rfl⟩
 have j:∀p∈A.map (·.1),ae C (look A p)=(xs.getD p.1.toNat 0,b.getD p.2.toNat 0):=λp a=>ig (c:=j8 A xs b p) hN.cn ((hN.cs _).mpr ⟨p,a,rfl⟩);simp only[RV]at u t;refine⟨'0',hN.wl,hN.cn,λx f=>?_,λc d=>?_,λc d=>?_,λc d=>?_,λx i=>?_⟩
 .obtain⟨p,q,l,k,a,_,F,rfl⟩:=(hN.ws x).mp f;exact⟨GK p a,GK q F.mem⟩
 .obtain⟨p,a,rfl⟩:=(hN.cs c).mp d;exact e.val _ (dG a)
 .obtain⟨p,a,rfl⟩:=(hN.cs c).mp d;exact yK o _
 .obtain⟨p,a,rfl⟩:=(hN.cs c).mp d;exact yK n _
 .obtain⟨p,q,l,k,a,v,F,rfl⟩:=(hN.ws x).mp i;show((ae C (look A p)).1=(ae C (look A q)).1/\(ae C (look A p)).2<=(ae C (look A q)).2)\/((ae C (look A p)).2=(ae C (look A q)).2/\(ae C (look A p)).1<=(ae C (look A q)).1);rw[j p a,j q F.mem];have g:=e.yO _ (dG a);have m:=e.yO _ (dG F.mem);have g:0<=p.1/\p.1<w/\0<=p.2/\p.2<h:=g;have m:0<=q.1/\q.1<w/\0<=q.2/\q.2<h:=m;have G:q.1=p.1+k*l:=by rw[F.eq];rfl
  have D:q.2=p.2+k*(1-l):=by rw[F.eq];rfl
  have kp:=F.pos;rcases v with rfl|rfl
  .refine .inl ⟨?_,Int.le_of_lt (rise r g.2.2.1 '0' '0')⟩;rw[show q.1=p.1 by omega]
  .refine .inr ⟨?_,Int.le_of_lt (rise s g.1 '0' '0')⟩;rw[show q.2=p.2 by omega]
def uV{L:List Int}(h:∀i∈L,i.natAbs<10^12):DX 1 (L.length*41) (.tup (L.map D.int)):=by
 have:=mo (k:=0) (wt:=40) (ds:=L.map D.int) λd hd=>by
  obtain⟨i,a,rfl⟩:=Ω3.mp hd;exact GP (h i a)
 rw[RV]at this;exact this
def Mv.HJ{W}(N:Mv C W):rp (aj C W)=RQ:=by
 have cl:=N.cl;have wl:=N.wl;have l:DX 2 100000 (.tup (C.map cD)):=(mo (wt:=123) λd hd=>by
  obtain⟨c,g,rfl⟩:=Ω3.mp hd;have a:=N.cv c g;have b:=N.xv c g;have e:=N.yv c g;refine uV (L:=[c.1,c.2.1,c.2.2]) λi f=>?_;simp only[Ts,T5,or_false]at f;omega).mono '1' (by rw[RV];omega);have j:DX 2 100000 (.tup (W.map ao)):=(mo (wt:=82) λd hd=>by
  obtain⟨x,h,rfl⟩:=Ω3.mp hd;have w:=N.hW x h;obtain⟨a,ha,n⟩:=Ω3.mp w.1;obtain⟨b,hb,m⟩:=Ω3.mp w.2;have a:=N.cv a ha;have b:=N.cv b hb;refine uV (L:=[x.1,x.2]) λi f=>?_;simp only[Ts,T5,or_false]at f;omega).mono '1' (by rw[RV];omega);refine Lc ((mo (k:=2) (wt:=100000) λd hd=>?_).mono '1' '2');simp only[Ts,T5,or_false]at hd;rcases hd with rfl|rfl;.exact l
 .exact j
def Ld:rp (wC 73)=RQ:=by kernel_rfl
def Mv.rep{W}(N:f=RQ->Mv (kR C F l d) W):oX .repr [bT C W F l d f]=.ok (.str (rl (bT C W F l d f)).shown):=by cases f with
 |true=>exact yJ rfl (N rfl).HJ|false=>exact yJ rfl Ld
theorem sr(S:ah->Prop):∀{ds:List D}{ρ:ah},(∀d∈ds,∀ρ,S ρ->∃b a,g d ρ=.ok b/\body b=.ok (.nx a)/\S a)->S ρ->∃ρ',di g body ds ρ=.ok (.nx ρ')/\S ρ'
 |[],ρ,_,h=>⟨ρ,rfl,h⟩|d::ds,ρ,f,h=>by
  obtain⟨b,a,j,i,c⟩:=f d RX ρ h;obtain⟨ρ',e,q⟩:=sr (g:=g) (body:=body) S (ds:=ds) (ρ:=a) (λd hd=>f d (RZ _ hd)) c;exact⟨ρ',by rw[di,j,af,i,af];exact e,q⟩
section
variable{k m:Nat}{W:List Pt}{F:List Int}{l c d t:Int}{s1 s2 s3 o5 o6 o7 o8 o9 o10 o11 o12 o13:Option L2.W}
noncomputable def b7(s1 s2 s3:Option L2.W)(net:D)(o5 o6 o7 o8 o9 o10 o11 o12 o13:Option L2.W):ah:=[RM .feed,s1,s2,s3,⇑net,o5,o6,o7,o8,o9,o10,o11,o12,o13]
def HK(f:t%2=0\/t%2=1):∃e:Int,∀(net)(s1 s2 s3 o6 o7 o8 o10 o11 o12 o13),ak (V k) (.idx (.lst (↑9∘.op .Pow (.cst (.int 10)) (.cst (.int 30))∘.nil)) (.op .Mod ↑5 (.cst (.int 2)))) (b7 s1 s2 s3 net ↥t o6 o7 o8 ↥d o10 o11 o12 o13)=.ok (.int e):=by
 have i:∀(net)(s1 s2 s3 o6 o7 o8 o10 o11 o12 o13),ak (V k) (.op .Mod ↑5 (.cst (.int 2))) (b7 s1 s2 s3 net ↥t o6 o7 o8 ↥d o10 o11 o12 o13)=.ok (.int (t%2)):=λ_ _ _ _ _ _ _ _ _ _ _=>rfl;have g:∀(net)(s1 s2 s3 o6 o7 o8 o10 o11 o12 o13),ak (V k) (.lst (↑9∘.op .Pow (.cst (.int 10)) (.cst (.int 30))∘.nil)) (b7 s1 s2 s3 net ↥t o6 o7 o8 ↥d o10 o11 o12 o13)=.ok (.lst [.int d,.int (10^30)]):=λ_ _ _ _ _ _ _ _ _ _ _=>by kernel_rfl
 have b:∀(net)(s1 s2 s3 o6 o7 o8 o10 o11 o12 o13),ak (V k) (.idx (.lst (↑9∘.op .Pow (.cst (.int 10)) (.cst (.int 30))∘.nil)) (.op .Mod ↑5 (.cst (.int 2)))) (b7 s1 s2 s3 net ↥t o6 o7 o8 ↥d o10 o11 o12 o13)=aT (.lst [.int d,.int (10^30)]) (.int (t%2)):=λnet s1 s2 s3 o6 o7 o8 o10 o11 o12 o13=>by
  show(ak (V k) (.lst _) (b7 s1 s2 s3 net ↥t o6 o7 o8 ↥d o10 o11 o12 o13)>>=λa=>ak (V k) (.op .Mod _ _) (b7 s1 s2 s3 net ↥t o6 o7 o8 ↥d o10 o11 o12 o13)>>=λe=>aT a e)=_;rw[g,i];rfl
 rcases f with h|h;.exact⟨d,λ_ _ _ _ _ _ _ _ _ _ _=>by rw[b,h];rfl⟩
 .exact⟨10^30,λ_ _ _ _ _ _ _ _ _ _ _=>by rw[b,h];rfl⟩
theorem Le(N:Mv C W)(f:8<=k){a x e:D}(h:(∃b,a=.bl b)\/a=.br\/(∃s,a=.str s)\/(∃xs,a=.tup xs)\/a=.int 1000):ai defs gv k 30 [.d (aj C W),.d a,.d x,.d e]=.ok (wC 49):=by
 obtain⟨n,rfl⟩:=Tf f;have cl:=N.cl;refine K9 ?_;rcases h with h|h|h|h|rfl;.exact si (yy (.inr (.inl h)))
 .exact si (yy (.inl h))
 .exact si (yy (.inr (.inr (.inl h))))
 .exact si (yy (.inr (.inr (.inr (.inl h)))))
 .rw[has_int N.cn '0',Φ1 λz=>?_];obtain⟨c,g,e⟩:=Ω3.mp z;have:=N.cv c g;omega
def Lf(N:Mv C W)(a:8<=k)(b:c∈C.map (·.1))(ha:jG x [.str "x",.str "y"]=RM RT):ai defs gv k 30 [.d (aj C W),.d (.int c),.d x,.d e]=.ok (wC 61):=by
 obtain⟨n,rfl⟩:=Tf a;have cl:=N.cl;exact K_ (by rw[has_int N.cn '0',Φ2 b]) ha
def g_(i:ak (V k) a1 ρ=.ok x1)(h:ak (V k) b ρ=.ok x2)(g:ak (V k) a ρ=.ok x3)(e:ak (V k) a4 ρ=.ok x4):ak (V k) (.call f (a1∘b∘a∘a4∘.nil)) ρ=(ai defs gv k f [.d x1,.d x2,.d x3,.d x4]).at' ρ:=by
 rw[show ak (V k) (.call f (a1∘b∘a∘a4∘.nil)) ρ=(fZ (V k) (a1∘b∘a∘a4∘.nil) ρ>>=λas=>(ai defs gv k f as).at' ρ)from rfl];simp only[(v9 (V k)).2.1,(v9 (V k)).1,i,h,g,e,af]
def GS(p:ak (V k) a1 ρ=.ok x1)(o:ak (V k) b ρ=.ok x2)(n:ak (V k) a ρ=.ok x3)(j:ak (V k) a4 ρ=.ok x4)(i:ak (V k) a5 ρ=.ok f)(h:ak (V k) a6 ρ=.ok e):ak (V k) (.tup (a1∘b∘a∘a4∘a5∘a6∘.nil)) ρ=.ok (.tup [x1,x2,x3,x4,f,e]):=by
 rw[show ak (V k) (.tup (a1∘b∘a∘a4∘a5∘a6∘.nil)) ρ=(fZ (V k) (a1∘b∘a∘a4∘a5∘a6∘.nil) ρ>>=λas=>gr as>>=λg=>T.need (decide (g.length<=R1))>>=λ_=>T.ok (D.tup g))from rfl];simp only[(v9 (V k)).2.1,(v9 (V k)).1,p,o,n,j,i,h];show(T.need (decide (6<=R1))>>=λ_=>T.ok (D.tup [x1,x2,x3,x4,f,e]))=_;rw[sd '1'];rfl
def GU(b:ak (V k) a1 ρ=.ok x1):ak (V k) (.tup (a1∘.nil)) ρ=.ok (.tup [x1]):=by
 rw[show ak (V k) (.tup (a1∘.nil)) ρ=(fZ (V k) (a1∘.nil) ρ>>=λas=>gr as>>=λa=>T.need (decide (a.length<=R1))>>=λ_=>T.ok (D.tup a))from rfl];simp only[(v9 (V k)).2.1,b];show(T.need (decide (1<=R1))>>=λ_=>T.ok (D.tup [x1]))=_;rw[sd '1'];rfl
def Oe(f:ai defs gv k 30 [.d net,.d a,.d x,.d (.int e)]=.ok (wC 49))(g:ak (V k) (.idx (.lst (↑9∘.op .Pow (.cst (.int 10)) (.cst (.int 30))∘.nil)) (.op .Mod ↑5 (.cst (.int 2)))) (b7 s1 s2 s3 net o5 o6 o7 o8 o9 o10 o11 ⇑a ⇑x)=.ok (.int e)):av (V k) lY (b7 s1 s2 s3 net o5 o6 o7 o8 o9 o10 o11 ⇑a ⇑x)=.ok (.nx (b7 s1 s2 s3 net o5 o6 o7 o8 o9 o10 o11 ⇑a ⇑x)):=by
 unfold lY;refine(g9 (b:=.nil) ?_).trans rfl;rw[(Gh (V k)).2.2.2.2.2.2.1];have h:ak (V k) (.call 30 (↑4∘↑12∘↑13∘(.idx (.lst (↑9∘.op .Pow (.cst (.int 10)) (.cst (.int 30))∘.nil)) (.op .Mod ↑5 (.cst (.int 2))))∘.nil)) (b7 s1 s2 s3 net o5 o6 o7 o8 o9 o10 o11 ⇑a ⇑x)=.ok (wC 49):=by
  rw[g_ (x1:=net) (x2:=a) (x3:=x) rfl rfl rfl g,f];rfl
 rw[h];rfl
def Lg(a:ai defs gv k 30 [.d net,.d (.int c),.d x,.d (.int e)]=.ok (wC 61))(f:ak (V k) (.idx (.lst (↑9∘.op .Pow (.cst (.int 10)) (.cst (.int 30))∘.nil)) (.op .Mod ↑5 (.cst (.int 2)))) (b7 s1 s2 s3 net o5 ↥c o7 o8 o9 o10 o11 o12 ⇑x)=.ok (.int e)):av (V k) lX (b7 s1 s2 s3 net o5 ↥c o7 o8 o9 o10 o11 o12 ⇑x)=.ok (.nx (b7 s1 s2 s3 net o5 ↥c o7 o8 o9 o10 o11 o12 ⇑x)):=by
 refine(g9 (b:=.nil) ?_).trans rfl;have g:ak (V k) (.call 30 (↑4∘↑6∘↑13∘(.idx (.lst (↑9∘.op .Pow (.cst (.int 10)) (.cst (.int 30))∘.nil)) (.op .Mod ↑5 (.cst (.int 2))))∘.nil)) (b7 s1 s2 s3 net o5 ↥c o7 o8 o9 o10 o11 o12 ⇑x)=.ok (wC 61):=by
  rw[g_ rfl rfl rfl f,a];rfl
 rw[(Gh (V k)).2.2.2.2.2.2.1];rw[g];rfl
def Of(N:Mv C W)(s:8<=k)(B:l=0\/l=1)(w:c∈C.map (·.1))(q:t%2=0\/t%2=1)(M:f=RQ->Mv (kR C F l d) W):∃b a,Mv b W/\b.length=C.length/\av (V k) rS (b7 s1 s2 s3 (aj C W) ↥t ↥c ⇑(aA l) o8 ↥d ⇑(bT C W F l d f) o11 o12 o13)=.ok (.nx (b7 s1 s2 s3 (aj b W) ↥t ↥c ⇑(aA l) o8 ↥d ⇑(bT C W F l d f) o11 o12 a)):=by
 obtain⟨e,v⟩:=HK (k:=k) (d:=d) q;obtain⟨b,A,r,z⟩:∃b,Mv b W/\b.length=C.length/\∀h,av (V k) ym (b7 s1 s2 s3 (aj C W) ↥t ↥c ⇑(aA l) o8 ↥d ⇑(bT C W F l d f) o11 o12 h)=.ok (.nx (b7 s1 s2 s3 (aj b W) ↥t ↥c ⇑(aA l) o8 ↥d ⇑(bT C W F l d f) o11 o12 h)):=by cases f with
  |true=>exact⟨kR C F l d,M rfl,by unfold kR;rw[RV],λ_=>rfl⟩|false=>exact⟨C,N,rfl,λ_=>rfl⟩
 have i:nQ (V k) (.aB (.tup (.cst (.str "z")∘.cst (.str "")∘.cst (.str "xy")∘.cst (.br)∘.cst (.bl RQ)∘.cst (.int 0)∘.tup (↑7∘.nil)∘.nil))) (b7 s1 s2 s3 (aj C W) ↥t ↥c ⇑(aA l) o8 ↥d ⇑(bT C W F l d f) o11 o12 o13)=.ok [.str "z",.str "",.str "xy",.br,.bl RQ,.int 0,.tup [aA l]]:=by
  generalize bT C W F l d f=u;generalize aj C W=net;generalize aA l=x;kernel_rfl
 obtain⟨p,y,a,rfl⟩:=sr (g:=dm (.nm 13)) (body:=av (V k) lX) (λo=>∃a,o=b7 s1 s2 s3 (aj C W) ↥t ↥c ⇑(aA l) o8 ↥d ⇑(bT C W F l d f) o11 o12 a) (ds:=[.str "z",.str "",.str "xy",.br,.bl RQ,.int 0,.tup [aA l]]) (λx j o n=>by
  obtain⟨a,rfl⟩:=n;have ha:jG x [.str "x",.str "y"]=RM RT:=by
   simp only[Ts,T5,or_false]at j;rcases j with rfl|rfl|rfl|rfl|rfl|rfl|rfl;.decide
   .decide
   .decide
   .rfl
   .rfl
   .rfl
   .rfl
  exact⟨b7 s1 s2 s3 (aj C W) ↥t ↥c ⇑(aA l) o8 ↥d ⇑(bT C W F l d f) o11 o12 ⇑x,b7 s1 s2 s3 (aj C W) ↥t ↥c ⇑(aA l) o8 ↥d ⇑(bT C W F l d f) o11 o12 ⇑x,rfl,Lg (e:=e) (net:=aj C W) (Lf N s w ha) (v (aj C W) s1 s2 s3 ↥c ⇑(aA l) o8 ⇑(bT C W F l d f) o11 o12 ⇑x),_,rfl⟩) ⟨o13,rfl⟩;refine⟨b,a,A,r,?_⟩;unfold rS;rw[aR (by rw[bX,i,af];exact y)];exact z a
def Og(N:Mv C W)(E:8<=k)(z:l=0\/l=1)(G:c∈C.map (·.1))(B:t%2=0\/t%2=1)(M:f=RQ->Mv (kR C F l d) W):∃o j n,Mv o W/\o.length=C.length/\av (V k) lZ (b7 s1 s2 s3 (aj C W) ↥t ↥c ⇑(aA l) o8 ↥d ⇑(bT C W F l d f) o11 o12 o13)=.ok (.nx (b7 s1 s2 s3 (aj o W) ↥t ↥c ⇑(aA l) o8 ↥d ⇑(bT C W F l d f) o11 j n)):=by
 obtain⟨e,L⟩:=HK (k:=k) (d:=d) B;have cb:c.natAbs.log2<1920:=by
  obtain⟨x,z,rfl⟩:=Ω3.mp G;have:=N.cv x z;have:=DY (i:=x.1) '0';omega
 have i:nQ (V k) (.aB (.tup ((.tup (.cst (.int 1000)∘↑7∘.nil))∘(.tup (.cst (.bl RQ)∘↑7∘.nil))∘(.tup (.cst (.bl RT)∘.cst (.str "x")∘.nil))∘(.tup (.cst (.br)∘.cst (.str "z")∘.nil))∘(.tup (.bi .str (↑6∘.nil)∘↑7∘.nil))∘(.tup (.tup (↑6∘.nil)∘.cst (.br)∘.nil))∘.nil))) (b7 s1 s2 s3 (aj C W) ↥t ↥c ⇑(aA l) o8 ↥d ⇑(bT C W F l d f) o11 o12 o13)=.ok ([(.int 1000,aA l),(.bl RQ,aA l),(.bl RT,.str "x"),(.br,.str "z"),(.str (toString c),aA l),(.tup [.int c],.br)].map λ(p:D×D)=>.tup [p.1,p.2]):=by
  have q:ak (V k) (.bi .str (↑6∘.nil)) (b7 s1 s2 s3 (aj C W) ↥t ↥c ⇑(aA l) o8 ↥d ⇑(bT C W F l d f) o11 o12 o13)=.ok (.str (toString c)):=by
   refine(sA rfl).trans ?_;show(T.need (decide (c.natAbs.log2<1920))>>=λ_=>T.ok (D.str (toString c)))=_;rw[Φ2 cb];rfl
  generalize bT C W F l d f=u at*;generalize aj C W=net at*;generalize aA l=x at*;generalize R:toString c=s at*;rw[(HC (V k)).2.2,GS (dB rfl rfl) (dB rfl rfl) (dB rfl rfl) (dB rfl rfl) (dB q rfl) (dB (GU rfl) rfl),af];rfl
 obtain⟨H,O,j,n,rfl⟩:=sr (g:=dm (.tup 2 (.nm 12∘.nm 13∘.nil))) (λA=>∃j n,A=b7 s1 s2 s3 (aj C W) ↥t ↥c ⇑(aA l) o8 ↥d ⇑(bT C W F l d f) o11 j n) (ds:=[(.int 1000,aA l),(.bl RQ,aA l),(.bl RT,.str "x"),(.br,.str "z"),(.str (toString c),aA l),(.tup [.int c],.br)].map λ(p:D×D)=>.tup [p.1,p.2]) (λx w A v=>by
  obtain⟨j,n,rfl⟩:=v;obtain⟨⟨a,y⟩,ha,rfl⟩:=Ω3.mp w;have K:(∃b,a=.bl b)\/a=.br\/(∃s,a=.str s)\/(∃I,a=.tup I)\/a=.int 1000:=by
   simp only[Ts,T5,or_false,VU]at ha;rcases ha with h|h|h|h|h|h;.exact .inr (.inr (.inr (.inr h.1)))
   .exact .inl ⟨_,h.1⟩
   .exact .inl ⟨_,h.1⟩
   .exact .inr (.inl h.1)
   .exact .inr (.inr (.inl ⟨_,h.1⟩))
   .exact .inr (.inr (.inr (.inl ⟨_,h.1⟩)))
  exact⟨b7 s1 s2 s3 (aj C W) ↥t ↥c ⇑(aA l) o8 ↥d ⇑(bT C W F l d f) o11 ⇑a ⇑y,b7 s1 s2 s3 (aj C W) ↥t ↥c ⇑(aA l) o8 ↥d ⇑(bT C W F l d f) o11 ⇑a ⇑y,rfl,Oe (Le N E K) (L (aj C W) s1 s2 s3 ↥c ⇑(aA l) o8 ⇑(bT C W F l d f) o11 ⇑a ⇑y),_,_,rfl⟩) ⟨o12,o13,rfl⟩;obtain⟨o,r,Q,J,P⟩:=Of N E z G B M;refine⟨o,j,r,Q,J,?_⟩;unfold lZ;rw[aR (by rw[bX,i,af];exact O)];exact P
end
def DZ(a:0<=j)(h:j<=1000000):zR (.int j)=.ok (bC j.toNat):=by
 unfold zR;simp only[bS,af];rw[Φ2 (show-(2^62)<=j by omega),Φ2 h];rfl
def Rb(e)(ρ)(d)(h:ak (V n) e ρ=.ok d):nQ (V n) (.jV (e∘.nil)) ρ=zR d:=by
 rw[(HC (V n)).1,(v9 (V n)).2.1,h,af,(v9 (V n)).1,af,af];rfl
section
variable{k m:Nat}{W:List Pt}{s1 s2 s3 o5 o6 o7 o8 o9 o10 o11 o12 o13:Option L2.W}
def Oh(M:f=RQ->Mv (kR C F l d) W)(e:ai defs gv k 30 [.d (aj C W),.d (.int c),.d (aA l),.d (.int d)]=.ok (bT C W F l d f)):av (V k) l9 (b7 s1 s2 s3 (aj C W) o5 ↥c ⇑(aA l) o8 ↥d ⇑(bT C W F l d f) o11 o12 o13)=.ok (.nx (b7 s1 s2 s3 (aj C W) o5 ↥c ⇑(aA l) o8 ↥d ⇑(bT C W F l d f) o11 o12 o13)):=by
 have r:=Mv.rep M;generalize bT C W F l d f=u at*;generalize aj C W=a at*;generalize aA l=x at*;refine(g9 (b:=.nil) ?_).trans rfl;have g:ak (V k) (.call 30 (↑4∘↑6∘↑7∘↑9∘.nil)) (b7 s1 s2 s3 a o5 ↥c ⇑x o8 ↥d ⇑u o11 o12 o13)=.ok u:=by
  rw[g_ rfl rfl rfl rfl,e];rfl
 rw[(Gh (V k)).2.2.2.2.2.2.1,(sA g).trans r,(sA rfl).trans r,af,af,GQ];rfl
def Oi(N:Mv C W)(D:8<=k)(y:l=0\/l=1)(E:c∈C.map (·.1))(z:t%2=0\/t%2=1)(M:f=RQ->Mv (kR C F l d) W)(A:ai defs gv k 30 [.d (aj C W),.d (.int c),.d (aA l),.d (.int d)]=.ok (bT C W F l d f)):∃h u s r q j i e b,Mv h W/\h.length=C.length/\av (V k) l_ (b7 s1 s2 s3 (aj C W) ↥t ↥c ⇑(aA l) o8 ↥d ⇑(bT C W F l d f) o11 o12 o13)=.ok (.nx (b7 s1 s2 s3 (aj h W) ↥t u s r q j i e b)):=by
 have v:nQ (V k) (.jV (.cst (.int 2)∘.nil)) (b7 s1 s2 s3 (aj C W) ↥t ↥c ⇑(aA l) o8 ↥d ⇑(bT C W F l d f) o11 o12 o13)=.ok (bC 2):=(Rb _ _ _ rfl).trans (DZ '1' '1');obtain⟨p,G,a,rfl⟩:=sr (g:=dm (.nm 11)) (body:=av (V k) l9) (λo=>∃a,o=b7 s1 s2 s3 (aj C W) ↥t ↥c ⇑(aA l) o8 ↥d ⇑(bT C W F l d f) a o12 o13) (ds:=bC 2) (λx w o n=>by
  obtain⟨a,rfl⟩:=n;exact⟨b7 s1 s2 s3 (aj C W) ↥t ↥c ⇑(aA l) o8 ↥d ⇑(bT C W F l d f) ⇑x o12 o13,b7 s1 s2 s3 (aj C W) ↥t ↥c ⇑(aA l) o8 ↥d ⇑(bT C W F l d f) ⇑x o12 o13,rfl,Oh M A,_,rfl⟩) ⟨o11,rfl⟩;obtain⟨h,e,b,J,B,I⟩:=Og (s1:=s1) (s2:=s2) (s3:=s3) (o8:=o8) (o11:=a) (o12:=o12) (o13:=o13) N D y E z M;have H:av (V k) l_ (b7 s1 s2 s3 (aj C W) ↥t ↥c ⇑(aA l) o8 ↥d ⇑(bT C W F l d f) o11 o12 o13)=av (V k) lZ (b7 s1 s2 s3 (aj C W) ↥t ↥c ⇑(aA l) o8 ↥d ⇑(bT C W F l d f) a o12 o13):=by
  unfold l_;exact aR (by rw[bX,v,af];exact G)
 exact⟨h,_,_,_,_,_,_,_,_,J,B,H.trans I⟩
theorem Oj(N:Mv C W)(s:8<=k)(j:l=0\/l=1)(R:Rn C W l c F)(u:t%2=0\/t%2=1):∃i r q p o g f e a,Mv i W/\i.length=C.length/\av (V k) rT (b7 s1 s2 s3 (aj C W) ↥t ↥c ⇑(aA l) ⇑(bj F) ↥d o10 o11 o12 o13)=.ok (.nx (b7 s1 s2 s3 (aj i W) ↥t r q p o g f e a)):=by
 have cl:=N.cl;obtain⟨b,B,z,y⟩:=N.move s j R;have M:wz C W F l b=RQ->Mv (kR C F l d) W:=λh=>N.moved j R B h;obtain⟨i,r,q,p,o,g,f,e,a,E,v,x⟩:=Oi (s1:=s1) (s2:=s2) (s3:=s3) (o8:=⇑(bj F)) (o11:=o11) (o12:=o12) (o13:=o13) N s j (R.GK _ R.cF) u M y;refine⟨i,r,q,p,o,g,f,e,a,E,v,?_⟩;have w:ai defs gv k 26 [.d (aj C W),.d (bj F),.d (aA l),.d (.int d)]=.ok (aj (kR C F l d) W):=by
  obtain⟨n,rfl⟩:=Tf s;exact wA j N.cn '0'
 unfold rT;rw[ba rfl];refine aaK (aR ?_) x;show av (V k) (.iff _ _ _) (b7 s1 s2 s3 (aj C W) ↥t ↥c ⇑(aA l) ⇑(bj F) ↥d ⇑(wC 73) o11 o12 o13)=_;have D:ak (V k) (.call 28 (↑4∘↑8∘↑7∘↑9∘.nil)) (b7 s1 s2 s3 (aj C W) ↥t ↥c ⇑(aA l) ⇑(bj F) ↥d ⇑(wC 73) o11 o12 o13)=.ok (.bl (wz C W F l b)):=by
  rw[g_ rfl rfl rfl rfl,z];rfl
 have A:ak (V k) (.call 26 (↑4∘↑8∘↑7∘↑9∘.nil)) (b7 s1 s2 s3 (aj C W) ↥t ↥c ⇑(aA l) ⇑(bj F) ↥d ⇑(wC 73) o11 o12 o13)=.ok (aj (kR C F l d) W):=by
  rw[g_ rfl rfl rfl rfl,w];rfl
 rw[bg,(Gh (V k)).2.2.2.2.2.1,D,af,wj,af];cases wz C W F l b with
 |true=>
  rw[ba A];rfl|false=>rfl
end
section
variable{net g x:D}{W:List Pt}{F:List Int}{l c d t:Int}{s1 s2 s3 o5 o6 o7 o8 o9 o10 o11 o12 o13:Option L2.W}
def Ol{t:T Fl}(e:t=.ok a)(q:Q a m):t.wp m Q:=by rw[e,T.dO];exact q
def Om(a:ai defs gv k 10 [.d net,.d (.int c),.d x]=.ok g):ak (V k) (.call 10 (↑4∘↑6∘↑7∘.nil)) (b7 s1 s2 s3 net o5 ↥c ⇑x o8 o9 o10 o11 o12 o13)=.ok g:=by
 unfold b7;symm_saturate;rw[a];symm_saturate
def Lh(hw:(ai defs gv k 29 [.feed,.d net,.d g,.d x]).wp m Q):(ak (V k) (.call 29 (.feed 0 (↑4∘↑8∘↑7∘.nil))) (b7 s1 s2 s3 net o5 o6 ⇑x ⇑g o9 o10 o11 o12 o13)).wp m Q:=by
 show((T.ok [A.feed,A.d net,A.d g,A.d x])>>=λas=>(ai defs gv k 29 as).at' _).wp _ _;rw[af,T.wp_at];exact hw
def Oo(a:9<=k)(R:Rn C W l c F):ai defs gv k 10 [.d (aj C W),.d (.int c),.d (aA l)]=.ok (bj F):=by
 obtain⟨n,rfl⟩:=Tf a;exact R.run (n+5) c R.cF
def Oq(N:Mv C W)(f:9<=k)(b:l=0\/l=1)(R:Rn C W l c F)(e:3<=m):(ai defs gv k 29 [.feed,.d (aj C W),.d (bj F),.d (aA l)]).wp m λd a=>m<=a+3/\∃i:Int,d=.int i:=by
 have cl:=N.cl;obtain⟨n,rfl⟩:=Tf f;exact Lb '0' (qu b N.cn '0') N R e
theorem GV(N:Mv C W)(u:9<=k)(r:l=0\/l=1)(E:c∈C.map (·.1))(z:3<=m)(y:t%2=0\/t%2=1)(q:∀i p o n j h f b a s,Mv i W->i.length=C.length->m<=s+3->Q (.nx (b7 s1 s2 s3 (aj i W) ↥t p o n j h f b a)) s):(av (V k) (.set 8 (.call 10 (↑4∘↑6∘↑7∘.nil))∘rV) (b7 s1 s2 s3 (aj C W) ↥t ↥c ⇑(aA l) o8 o9 o10 o11 o12 o13)).wp m Q:=by
 obtain⟨F,R⟩:=N.rn r E;rw[ba (Om (Oo u R))];unfold rV;refine jm (Lh (s1:=s1) (s2:=s2) (s3:=s3) (wp_call (Oq N u r R z) λe w B=>?_));obtain⟨v,d,rfl⟩:=B;obtain⟨i,p,o,n,j,h,f,b,a,H,A,G⟩:=Oj (k:=k) (t:=t) (s1:=s1) (s2:=s2) (s3:=s3) (d:=d) (o10:=o10) (o11:=o11) (o12:=o12) (o13:=o13) N '0' r R y;refine Ol G ?_;exact q i p o n j h f b a w H A v
theorem Li(N:Mv C W)(G:9<=k)(H:0<C.length)(R:5<=m)(A:t%2=0\/t%2=1){Q}(q:∀n u s r p h f b a o,Mv n W->n.length=C.length->m<=o+5->Q (.nx (b7 s1 s2 s3 (aj n W) ↥t u s r p h f b a)) o):(av (V k) oh (b7 s1 s2 s3 (aj C W) ↥t o6 o7 o8 o9 o10 o11 o12 o13)).wp m Q:=by
 have cl:=N.cl;refine jm ?_;have z:ak (V k) (.idx ↑4 (.cst (.int 0))) (b7 s1 s2 s3 (aj C W) ↥t o6 o7 o8 o9 o10 o11 o12 o13)=.ok (.tup (C.map cD)):=rfl;have K:ak (V k) (.call 17 (.feed 0 ((.bi .len (.idx ↑4 (.cst (.int 0))∘.nil))∘.nil))) (b7 s1 s2 s3 (aj C W) ↥t o6 o7 o8 o9 o10 o11 o12 o13)=.draw (C.length) λj=>.ok (.int j):=j9 '0' rfl (by
  rw[sA z];show T.ok (D.int (C.map cD).length)=_;rw[RV]);show(((ak (V k) (.idx ↑4 (.cst (.int 0))) (b7 s1 s2 s3 (aj C W) ↥t o6 o7 o8 o9 o10 o11 o12 o13)>>=λd=>ak (V k) (.call 17 (.feed 0 ((.bi .len (.idx ↑4 (.cst (.int 0))∘.nil))∘.nil))) (b7 s1 s2 s3 (aj C W) ↥t o6 o7 o8 o9 o10 o11 o12 o13)>>=λe=>aT d e))>>=λd=>aT d (.int 0)).wp m _;rw[z,K];show(T.draw (C.length) λj=>aT (.tup (C.map cD)) (.int j)>>=λd=>aT d (.int 0)).wp m _;rw[T.fi];refine⟨'0','0','0',λj j0 P=>?_⟩;have y:j.toNat<C.length:='0'
 rw[T.wp_bind];refine Gk (NW j0 (by rw[Sn,R_ y];rfl)) ?_;have i:C[j.toNat].1∈C.map (·.1):=Ω3.mpr ⟨_,List.getElem_mem y,rfl⟩;generalize C[j.toNat]=x at i;obtain⟨c,v⟩:∃c,x.1=c:=⟨_,rfl⟩;show(av (V k) _ (b7 s1 s2 s3 (aj C W) ↥t ↥x.1 o7 o8 o9 o10 o11 o12 o13)).wp (m-1) Q;rw[v]at i⊢;refine jm ?_;have J:ak (V k) (.call 17 (.feed 0 (.cst (.int 2)∘.nil))) (b7 s1 s2 s3 (aj C W) ↥t ↥c o7 o8 o9 o10 o11 o12 o13)=.draw 2 λj=>.ok (.int j):=j9 '0' rfl rfl;have I:ak (V k) (.lst (.cst (.str "x")∘.cst (.str "y")∘.nil)) (b7 s1 s2 s3 (aj C W) ↥t ↥c o7 o8 o9 o10 o11 o12 o13)=.ok (.lst [.str "x",.str "y"]):=rfl;show(ak (V k) (.lst (.cst (.str "x")∘.cst (.str "y")∘.nil)) (b7 s1 s2 s3 (aj C W) ↥t ↥c o7 o8 o9 o10 o11 o12 o13)>>=λd=>ak (V k) (.call 17 (.feed 0 (.cst (.int 2)∘.nil))) (b7 s1 s2 s3 (aj C W) ↥t ↥c o7 o8 o9 o10 o11 o12 o13)>>=λe=>aT d e).wp _ _;rw[I,J];show(T.draw 2 λj=>aT (.lst [.str "x",.str "y"]) (.int j)).wp _ _;rw[T.fi];refine⟨by decide,by decide,'0',λl O M=>?_⟩;have w:l=0\/l=1:='0'
 have ea:aT (.lst [.str "x",.str "y"]) (.int l)=.ok (aA l):=by rcases w with rfl|rfl<;>rfl
 rw[ea,T.dO];refine GV N G w i '0' A λn u s r p h f b a o L E B=>q n u s r p h f b a o L E '0'
end
section
variable{W:List Pt}
def z_(f:D->D->Option Bool)(xs:List D):bp f xs []=RM RQ:=by cases xs<;>rfl
def GW(xs):be .Eq (.tup xs) (.tup [])=.ok (.bl (xs.length==0)):=by
 show(T.get ((bp (dh 59) xs []).map λb=>b&&xs.length==([]).length)>>=λb=>T.ok (D.bl b))=_;rw[z_];rfl
def Lj(N:Mv C W)(Q:9<=k)(Z:20<=m):(av (V k) om (b7 s1 s2 s3 (aj C W) RP RP RP RP RP RP RP RP RP)).wp m (λR q=>m<=q+20/\R=.rt (.bl RQ)):=by
 have G:bN (V k) (.aK .Eq (.idx ↑4 (.cst (.int 0))) (.tup .nil)) (b7 s1 s2 s3 (aj C W) RP RP RP RP RP RP RP RP RP)=.ok ((C.map cD).length==0):=by
  unfold b7;symm_saturate;rw[GW];rfl
 unfold om;by_cases E:C.length=0
 .refine oI (by rw[G,RV,Θ3.mpr E]) ?_;exact⟨'0',rfl⟩
 .rw[g9 (b:=.nil) (by rw[G,RV,Ξ.mpr E])];refine GO ?_;have M:nQ (V k) (.jV (.cst (.int 4)∘.nil)) (b7 s1 s2 s3 (aj C W) RP RP RP RP RP RP RP RP RP)=.ok (bC 4):=(Rb _ _ _ rfl).trans (DZ '1' '1');rw[bX,M,af];refine eW (λr s q=>(∀x∈r,∃t:Int,x=.int t/\(t%2=0\/t%2=1))/\r.length<=4/\m<=q+5*(4-r.length)/\∃h u p o n l f e c a,Mv h W/\0<h.length/\s=b7 s1 s2 s3 (aj h W) u p o n l f e c a) ?_ ?_ ⟨λx v=>?_,by simp[bC],by simp[bC],C,_,_,_,_,_,_,_,_,_,N,'0',rfl⟩
  .intro d r s D w;obtain⟨z,F,y,h,u,p,o,n,l,f,e,c,a,H,j,g⟩:=w;rw[g];rw[Ss]at F y;obtain⟨t,rfl,O⟩:=z d RX;show(T.ok (b7 s1 s2 s3 (aj h W) ↥t p o n l f e c a)).wp D _;rw[T.dO];exact Li H Q j '0' O λB Y X U S L K J I q A hl P=>⟨λx v=>z x (RZ _ v),'0','0',B,_,_,_,_,_,_,_,_,_,A,'0',rfl⟩
  .intro s D w;obtain⟨z,F,y,h,u,p,o,n,l,f,e,c,a,H,j,g⟩:=w;rw[g];rw[Td]at y;exact⟨_,rfl,'0',rfl⟩
  .obtain⟨i,hi,rfl⟩:=Ω3.mp v;exact⟨_,rfl,'0'⟩
def yL(c:2<=k)(hw:1<=w/\w<=7)(b:10<=m):(ai defs gv k 18 [.feed,.d (.int w)]).wp m (λd a=>m<=a+10/\∃xs:List Int,d=.lst (xs.map D.int)/\(xs.length)=w/\(∀x∈xs,0<=x/\x<=1000000)/\xs.Pairwise (·<·)):=by
 obtain⟨n,rfl⟩:=Tf c;exact Di hw b
def GX(c:2<=k)(hw:2<=w/\w<=7)(f:2<=h/\h<=6)(b:60<=m):(ai defs gv k 19 [.feed,.d (.int w),.d (.int h)]).wp m (λd a=>m<=a+60/\∃E:List Eg,d=.lst (E.map eD)/\E.length<=84/\∀e∈E,e.ok w h):=by
 obtain⟨n,rfl⟩:=Tf c;exact Dl hw f b
def wF{E:List Eg}(f:2<=k)(g:∀e∈E,e.ok w h)(c:E.length<=84)(b:200<=m):(ai defs gv k 25 [.feed,.d (.lst (E.map eD))]).wp m (λd a=>m<=a+200/\∃A:List (Pt×Int),d=gx A/\Num w h A):=by
 obtain⟨n,rfl⟩:=Tf f;exact uM g c b
def Ot{E}{A}(l:3<=k)(hw:w<=7)(o:h<=7)(p:∀e∈E,e.ok w h)(j:E.length<=84)(q:Num w h A)(i:(xs.length)=w)(g:(a.length)=h)(c:∀x∈xs,0<=x/\x<=1000000)(b:∀y∈a,0<=y/\y<=1000000):(ai defs gv k 24 [.d (.lst (E.map eD)),.d (gx A),.d (.lst (xs.map D.int)),.d (.lst (a.map D.int))]).wp m (λd f=>f=m/\∃ C W ,d=aj C W/\Dv E A xs a C W):=by
 obtain⟨n,rfl⟩:=Tf l;exact KZ hw o p j q i g c b
theorem GY(L:600<=m):(ai defs gv (n+10) 31 [.feed]).wp m (λd g=>m<=g+600/\d=.bl RQ):=by
 have z:=oM;rw[az (d:=gX) rfl rfl];obtain⟨k,a⟩:∃k,n+9=k:=⟨_,rfl⟩;rw[a];have s:9<=k:='0'
 clear a;have cd:=DV (k:=k) '0';unfold gX;subst_eqs;simp only[cd,T.fi,T.dO];refine⟨by decide,by decide,'0',λw x v=>⟨by decide,by decide,'0',λh N M=>?_⟩⟩;refine wp_call (GX '0' '0' '0' '0') ?_;intro d K hd;obtain⟨F,E,rfl,b,l⟩:=hd;unfold uF;subst_eqs;refine wp_call (wF '0' l b '0') ?_;intro d J hd;obtain⟨D,A,rfl,o⟩:=hd;refine wp_call (yL '0' '0' '0') ?_;intro d I hd;obtain⟨B,u,rfl,j,f,r⟩:=hd;refine wp_call (yL '0' '0' '0') ?_;intro d H hd;obtain⟨y,t,rfl,i,c,p⟩:=hd;refine wp_call (Ot '0' '0' '0' l b o j i f c) ?_;intro d G hd;obtain⟨P,C,W,rfl,hN⟩:=hd;refine T.wp_mono (λO g q=>?_) (Lj (k:=k) (Od '0' '0' o j i f c r p hN) s '0');obtain⟨q,e⟩:=q;rw[e];exact⟨'0',rfl⟩
end
def whole:(av (gv.ev (ai defs gv 39)) rest (RP::RM .feed::Tu (v8.length-2) RP)).o_ 1000000 (λl=>l=.rt (.bl RQ)):=by
 refine T.rX ?_;obtain⟨k,f⟩:∃k,k=39:=⟨_,rfl⟩;rw[<-f];unfold rest;subst_eqs;refine⟨by decide,?_⟩;refine eW (λe b j=>e.length<=5/\1000000<=j+600*(5-e.length)/\∃o,b=[RP,RM .feed,o]) ?_ ?_ ?_;rotate_left 2;.exact⟨by simp[bC],by simp[],RP,rfl⟩
 .intro d e b i c;obtain⟨h,g,o,a⟩:=c;rw[a];simp only[Ss]at h g;unfold De;subst_eqs;rw[f];refine wp_call (GY '0') ?_;intro d m hd;obtain⟨q,rfl⟩:=hd;rw[wj,T.dO];exact⟨'0','0',_,rfl⟩
 .intro b i c;obtain⟨h,g,o,a⟩:=c;rw[a];unfold Dd;subst_eqs
end K26
end
open PySem PySem.W PyProof.Rows
theorem PySem.Challenge.cw_wallplan_k26_long_moves_holds : PySem.Challenge.rw_wallplan_k26_long_moves.Holds := by
 refine head (L2.Ew (l:=VB) (n:=63) (k:=40) (x:=RN "_law_script") (K:=head.heap_39) (CX:=λ_=>L2.y9) (sp:=λw=>L2.C3 (head.heap_39 w.params)) rfl '1' rfl ⟨rfl,by decide,by decide,rfl⟩ (λw h Y=>PySem.W.kIn_of Y) ?F ?S ?C)
 case F=>
  intro w mg m h p G b
  obtain ⟨f,fd,j,i,g⟩:=K26.NV K26.whole w.params
  have e:mg (RN "law")=RM (.ref f):=VX p G j
  have o:(RM (Sm f):Option RR)=RM (.ref m):=e.symm.trans b
  cases o
  exact ⟨fd,λs u=>.of_eq (i [u] rfl),λbase X G=>g rfl X G⟩
 case S=>exact λw H a ns c _ d=>⟨a,ns,rfl,d,c,λ_=>rfl⟩
 case C=>exact λ_ _ _ _ _ z=>z
