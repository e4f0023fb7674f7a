import PyProof.Rows.All
import Wide.All
import OpenK.AllK
import Wide.FinOn
import Lean
import PyProof.EqAt
import PyProof.EqKinds
import PyProof.TupleCall
import PyProof.NeKinds
import PyProof.ZipIter
import PyProof.EnumMake
import PyProof.InstStoreFacts
import Open.Row
import KE.KDictOf
import PyProof.AttrMissHeap
import PyProof.ListRange
import PyProof.Rows.IntBool
import PyProof.Rows.ListMul
import PyProof.SliceStr2
import PyProof.StrBlockI
import PyProof.StrWalks
import PySem.Challenge.RW_wallplan_k40_openings_made
set_option Elab.async false
set_option linter.all false
set_option maxRecDepth 100000
set_option maxHeartbeats 0
local macro_rules | `(tactic| omega) => `(tactic| lia)

open Option renaming some->KE,none->KL,map_some->Mq,map_eq_some_iff->ON,getD_none->P7,getD_some->P_,isSome_some->RL
open PySem renaming wpAny_bind->KH,Value->KJ,wpAny_pure->KP,Shared->KR,Addr->KS,sizeLine->KU,model->K4,Expr->K7,Program->Lb,starEach->Ld,Str->Lf,Heap->Lu,World->Lv,compareOp->Lx,Around->Lz,wpAny_newObj_type->LC,wpAny_holding->LF,wpAny_callSpecial?_slot->LH,wpAny_field->LK,wpAny_call_entry->LN,mainGlobals->LQ,cLine->L6,assignEach->L8,Obj->L_,wpAny_seqItems->Mb,wpAny_truthy_bool->Mi,FuncData->Ml,sysModules->Mu,mem_of_lookup->Mv,Pos->My,bootBuiltins->Mz,wpAny_mono->MI,Scope->MQ,Stmt->MR,eval->MT,wpAny_Call_Name_kw->MU,wpAny_setField_rec->MV,swappedStores->MW,wpAny_typeNameOfWhole_keyiter->MZ,sizeLine->M0,cellsFrom->Nf,wpAny_rule->Ng,binaryOp->Nh,NameKind->Nj,wpAny_passesOwn->Nr,foldedSetIterable->Nu,wpAny_typeNameOf_keyiter->NB,wpAny_isInstance->NI,backTo->NN,wpAny_specialOf->NV,swapsWith->NX,behindInMarks->NY,wpAny_attempt->N0,pyNext->N1,sizeLine_eq->N5,wpAny_forIn_list->N9,wpAny_typeOf->N_,pushCells->Ob,IsPair->Og,wpAny_standAt->Oi,CmpOp->Oj,attributeBase->Om,ZipApart->Oq,letOwnedTupleGo->Ov,sliceBounds->OC,DictEntry->OD,rawInt->OG,getItem->OK,wpAny_pyIter_list->OM,isSubtype_tuple_tuple->OS,wpAny_updateSeq_pair->O4,wpAny_execs_nil->O7,IsPart->O8,wpAny_tupleItemsOf->Po,wpAny_setField->Pq,firstArgMember->Pr,Sem->Pu,wpAny_sequenceKey->PD,wpAny_dictEntries->PJ,unsupported->PM,assign->PR,assignInOrder->PU,swapsWithSole->PV,Params->PX,wpAny_onRaise->PY,PassesOwn->P1,Arguments->P4,noFill_tuple_add->P5,builtinsNs->Qi,holding->Qj,rule->Qk,wpAny_pyNext_list_item->Ql,codeAny_mono->Qm,call->Qr,wpAny_Assign_Subscript->Qt,wpAny_loadPart'->QH,pushCells_keeps->QJ,wpAny_dictEpoch->QL,field->QM,codeAny_builtin->QP,wpAny_pyNext_list_end->QR,wpAny_notOrdered_dict->QX,wpAny_isOneOf_keyiter->QZ,builtinLookup_eq_fast->Q3,Env->Q4,Operator->Q8,isSubtype_stop->Rf,wpAny_pyIter_keyiter->Rg,wpAny_newTuple->Rh,boot_len->Rk,standAt->Rm,lastMarks->Ro,seqIndex?->Rp,valueAt->Rq,callerA->Rr,seq_tuple_add->Rw,evalPart_none->Ry,Comprehension->RA,isTrue->RF,call_meets->RK,wpAny_eqBool_tuple->RM,isInstance->RN,wpAny_pyIter_tuple->RO,getattributeRaised->RR,bindArgs->RX,concat_meets->RY,seqIndex_neg->RZ,eqIsQuiet_byValue->R1,pyIter->Sb,eqIsQuiet->Se,Model->Sf,seqIndex_of->Sg,subscripted->Sh,IsZip->Sj,wpAny_letGo->Sk,loadIfAlive->Sm,storedH->Sn,entryOfKey->Sr,wpAny_Name->Ss,bindName->Su,bindL->Sv,bindC->Sw,typeLookup->Sx,typeIs_str->SA,closureFor->SD,compTurn->SE,Tok->SH,spliced->SJ,BindsTo->SK,typeOf->SN,relabel->SO,collect->SQ,again->SR,atKey->SS,fresh->SU
open PySem.Str renaming ofString->KI,length->Sz
open Bool renaming true->KN,false->KO,and_eq_true->KW,false_eq_true->K_,false_ne_true->La,not_true->LS,or_eq_true->Mc,eq_iff_iff->MB,not_eq_true'->M1,true_and->ND,or_false->NZ,not_false->Pp,false_and->Q6
open PySem.Heap renaming get?_push_of_some->KQ,lt_size->K5,get?_push_size->K9,size_push->Mn,SameBut->Mr,get?_update_self->OR,ExtBut->O3,get?_update_other->Qq
open Option.some renaming inj->KY,injEq->N3
open PySem.W renaming Frag->KZ,kia_one->L5,kitOne->Ni,keepIn->N6,nsIn->Od,cellsFrom_some->OH,codeIn->OI,mg_of->O0,methodObj->Py,kitx_list->PB,fnOf->Qo,instObj->QB,lookIn->Q9,kitx_tuple->RG,mg_none_of->RT,kitx_dict->RW
open PyProof.Rows renaming wpS_bind->K0,wpS_pure->K6,pendingOf->Lc,Keyed->Lh,SortSt->Ln,slot_tuple_getitem->L4,callWith_type1->Mj,elem'->ML,SortKind->M9,arrOf->M_,IntsAre->Nv,wpS_modify->NR,seqObj->Of,wpS_get->OO,wpS_mono->O5,assignInOrder_cons->Ph,slicePart_none->Pl,args_tuple_getitem->Pm,AllBare->Pz,envOfC->Qn,subscriptTail_builtinR->Qp,boot_list->Qu,IsTup->Qz,get?_update_seq->QN,wpS->Q5,failedOf->Ri,tupleItemsOf_->Rx,subscriptTail->Rz,listUpdate_at->RC,assignInOrder_nil->RV,seqEpoch_at->Sl,Subscript_->Sy,gallopOf->SF
open List renaming mem_cons_of_mem->K1,mem_cons_self->K2,size_toArray->K3,mem_append_right->Lg,map_cons->Li,getElem?_eq_getElem->Lk,length_map->Lq,getElem?_map->Lr,append_assoc->Ly,map_map->LA,append_nil->LB,lookup_cons->LD,getElem?_append_right->LJ,length_cons->LM,mem_of_getElem?->LR,map_congr_left->LV,getElem?_append_left->LX,range->LY,length_append->LZ,take_of_length_le->L9,length_nil->Ma,all_eq_true->Me,getElem?_set->Mk,replicate->Mm,mem_cons->Mx,zip_cons_cons->MF,not_mem_nil->MH,extract_eq_drop_take->MP,length_replicate->MS,mem_append_left->MX,getElem?_set_ne->MY,map_append->M4,nodup_cons->M6,filterMap_cons->M7,getElem?_set_self->Na,map_nil->Nd,perm_append_comm->Nn,drop_eq_getElem_cons->Nq,any_cons->NA,all_cons->NC,getElem?_replicate->NH,forIn_nil->NJ,find?_cons->NU,forIn_cons->NW,take_append_drop->N2,mem_of_mem_eraseIdx->Ou,length->OA,reverse_perm->OQ,length_filter_le->OT,length_take->OU,getElem_mem->OW,length_range->PK,nodup_append->PQ,length_drop->P6,drop_length->Qa,zipIdx_cons->Qb,eraseIdx_cons_succ->Qh,map_id'->Qx,pairwise_lt_range->Qy,of_mem_zip->QF,map_id->Rj,mem_map_of_mem->Rv,zip_nil_right->RI,ext_getElem?->R4,getElem?_inj->R5,pairwise_map->R9,lookup->Si
open Nat renaming le_refl->K8,lt_of_lt_of_le->Le,ne_of_lt->Lp,lt_irrefl->LU,le_trans->L7,zero_le->Mo,ne_of_gt->Nc,eq_of_beq_eq_true->Np,le_of_eq->Oa,lt_of_le_of_lt->Ow,add_assoc->OY,reduceAdd->O1,le_of_lt->Pc,le_succ->PF,lt_succ_of_lt->PH,lt_succ_self->P9,le_add_right->Qd,add_sub_cancel_left->Qe,lt_trans->R0,beq->So
open PySem.Value renaming ref->Lj,none->ME,bool->N4,int->Rl,str->Sa
open PySem.Builtin.SmallTypes renaming nextOf->Ll,ownedTupleIsFree->Lw,ownedTupleHandOut->Oh
open List.Perm renaming append_left->LO,trans->MD,of_eq->Nt,append_right->NS
open Ne renaming symm->LP
open Array renaming toList_append->LW,length_toList->Mf,getElem?_toList->Mg,getElem?_eq_getElem->Mt,perm_iff_toList_perm->MM,toList_push->MN,size_push->M5,toList_extract->Nx,size_append->Ny,forIn_toList->NO,getElem?_eq_none->NP,mem_toList_iff->N7,toList_reverse->N8,toList_setIfInBounds->Pt,toList_map->Qf,toList_modify->Ru,size_extract->RQ,toList->RU
open PySem.Builtin.Tuple renaming tupleExact->L3,tupleHashOf->Ms,tupleItemsOf->Nl
open PySem.NameKind renaming cell->Md,free->Mp
open PySem.F renaming slot_zip_next->Mh,slot_tuple_iterator_next->MK,slot_dict_keyiterator_next->M3,args_zip_next_1->NL,plainAttrs_list->NM,entry_zip_next->NQ,args_tuple_add_2->Ol,args_tuple_iterator_next_1->Oy,entry_tuple_add->OB,entry_tuple_iterator_next->OF,slot_tuple_add->OJ,args_dict_keyiterator_next_1->OV,entry_dict_keyiterator_next->O2,slot_list_append->PZ,slot_list_extend->P0,slot_tuple_hash->P8,slot_tuple_eq->QV
open PySem.Txt renaming lower->Mw,slice->MG,contains->Oc,isalpha->OE,slice_le->Pe
open ForInStep renaming yield->MA,done->OP
open False renaming elim->MJ
open PySem.Builtin.Slice renaming slicePlaces->MO,sliceApplied->Nk,sliceAdjust->Oe,sliceFields->Pw
open PySem.Obj renaming mapSeq->M2,data_mapFields->Ox,isFreed_of_fields->Q1,cls_mapFields->R3
open PySem.Heap.SameBut renaming update->M8,refl->R8
open Int renaming toNat_natCast->Nw,emod_lt_of_pos->Oz,emod_nonneg->Pa,le_refl->PL
open PySem.SeqAt renaming EqAt->Nz,RcNeAt->Pd,RcAt->Qs
open PySem.Challenge renaming rw_wallplan_k40_openings_made->NF
open Function renaming comp_apply->NG,comp_def->R_
open PySem.Builtin.List renaming listTooLong->Oo
open List.Pairwise renaming imp_of_mem->Ot,map->PN
open Or renaming inl->OL,inr->Pn
open Sum renaming inl->OX,inr->Px
open Prod.mk renaming injEq->OZ
open PySem.Around renaming under_plainId->O6
open List.cons renaming injEq->O9
open PySem.Builtin.Dict_items renaming ownsTuple->O_
open PySem.W.Frag renaming In->Pb
open Prod renaming ext_iff->Pf
open PySem.Calls renaming Name_function_global->Pg,spliced_cons->Pk,spliced_nil->PC,call_len_list->Rt
open True renaming intro->Pj
open PySem.Builtin.Range renaming rangeSize->P2
open PySem.Builtin.Dict renaming updateFrom->Qg,pairItems->Qw,showsAll->QY
open PySem.Unicode renaming isAlpha->QQ
open PySem.SeqAt.EqAt renaming int_tuple->Q_,str_tuple->Ra,tuple_int->Rb,tuple_str->Rc,int_str->RD,str_int->RE,int_int->RH
open PyProof.Rows.IsTup renaming new->Rn
open PySem.Heap.IsSliceOf renaming new->RJ
open PyProof.Rows.SortSt renaming mk'->RP
open PySem.Code renaming quiet_builtin->RS
open PySem.PyData renaming hasDictAll->R6
open PySem.Env renaming kindOf->SG
section
namespace PySem.W.Fast
noncomputable def te13052408679150730464:=0
noncomputable def te16555476440528808052:=0
noncomputable def te5452508617037859911:=0
noncomputable def te4868988410673395695:=0
end PySem.W.Fast
open PySem PySem.W PyProof.Rows
open_top head for PySem.Challenge.rw_wallplan_k40_openings_made
end
section
namespace L2
open PySem PySem.Spec PyProof.Rows
abbrev Key:=Sum Int Lf
noncomputable def kU:Key->KJ->Bool
 |.inl k,v=>Value.isInt k v|.inr x,v=>Value.isStrOf x v
noncomputable def He(w:Lv):Key->Int
 |.inl k=>hashInt k|.inr x=>hashStr w x
theorem aH:∀{k:Key}{v:KJ},kU k v=KN->(∃i t,k=OX i/\v=Rl i t)\/(∃x t,k=Px x/\v=Sa x t)
 |.inl i,v,h=>by
  obtain⟨t,e⟩:=Value.isInt_shape (k:=i) (v:=v) h;exact .inl ⟨i,t,rfl,e⟩|.inr x,v,h=>by
  obtain⟨t,e⟩:=Value.isStrOf_shape (x:=x) (v:=v) h;exact .inr ⟨x,t,rfl,e⟩
theorem su(i:Int)(t:SH):kU (.inl i) (.int i t)=KN:=by simp[kU,Value.isInt]
theorem sv(x:Lf)(t:SH):kU (.inr x) (.str x t)=KN:=by simp[kU,Value.isStrOf]
theorem Ae(a b:Int):decide ((OX a:Key)=OX b)=(a==b):=by
 by_cases e:a=b;.subst e;simp
 .have h:¬(OX a:Key)=OX b:=λq=>e (Sum.inl.inj q);rw[decide_eq_false h];exact(beq_eq_false_iff_ne.mpr e).symm
theorem Af(a b:Lf):decide ((Px a:Key)=Px b)=decide (a=b):=by
 by_cases e:a=b;.subst e;simp
 .have h:¬(Px a:Key)=Px b:=λq=>e (Sum.inr.inj q);rw[decide_eq_false h,decide_eq_false e]
theorem Ag(a:Int)(b:Lf):decide ((OX a:Key)=Px b)=KO:=decide_eq_false (λq=>nomatch q)
theorem Ah(a:Lf)(b:Int):decide ((Px a:Key)=OX b)=KO:=decide_eq_false (λq=>nomatch q)
noncomputable def ar(prog:Lb)(w:Lv):PySem.KeyKind prog w Key where
 is:=kU;hash:=He w;inj:=λv a b ha hb=>by
  rcases aH ha with⟨i,t,rfl,rfl⟩|⟨x,t,rfl,rfl⟩
  .rcases aH hb with⟨j,u,rfl,e⟩|⟨y,u,rfl,e⟩;.injection e with c _;rw[c]
   .exact nomatch e
  .rcases aH hb with⟨j,u,rfl,e⟩|⟨y,u,rfl,e⟩;.exact nomatch e
   .injection e with c _;rw[c]
 byValue:=λk v h=>by rcases aH h with⟨i,t,rfl,rfl⟩|⟨x,t,rfl,rfl⟩<;>rfl
 pyHash:=λd h=>by
  rcases aH d with⟨i,t,rfl,rfl⟩|⟨x,t,rfl,rfl⟩;.exact wpAny_pyHash_int h
  .exact wpAny_pyHash_str h
 eqBool:=λhu d h=>by
  rcases aH hu with⟨i,t,rfl,rfl⟩|⟨x,t,rfl,rfl⟩
  .rcases aH d with⟨j,u,rfl,rfl⟩|⟨y,u,rfl,rfl⟩;.rw[Ae]at h;exact wpAny_eqBool_int h
   .rw[Ag]at h;exact RD i t y u _ _ _ _ h
  .rcases aH d with⟨j,u,rfl,rfl⟩|⟨y,u,rfl,rfl⟩;.rw[Ah]at h;exact RE x t j u _ _ _ _ h
   .rw[Af]at h;exact wpAny_eqBool_str h
 «strs»:=λk x t v h=>by
  rcases aH h with⟨i,u,rfl,e⟩|⟨y,u,rfl,e⟩;.exact nomatch e
  .injection e with c _;subst c;cases v<;>rfl
theorem iG(prog:Lb)(w:Lv)(i:Int)(t:SH):(ar prog w).is (.inl i) (.int i t)=KN:=su i t
theorem nj(prog:Lb)(w:Lv)(x:Lf)(t:SH):(ar prog w).is (.inr x) (.str x t)=KN:=sv x t
end L2
namespace L2
open PySem PySem.Spec PyProof.Rows
inductive V where|bw|bl(b:Bool)|int(i:Int)|str(x:Lf)|Ai(b:Array UInt8)|Du(b:UInt64)|ref(a:KS)|ty(n:String)deriving DecidableEq
noncomputable def RelV:V->KJ->Prop
 |.bw,u=>u=ME|.bl b,u=>u=N4 b|.int i,u=>∃t,u=Rl i t|.str x,u=>∃t,u=Sa x t|.Ai b,u=>∃t,u=Value.bytes b t|.Du b,u=>∃t,u=Value.float b t|.ref a,u=>u=Lj a|.ty n,u=>u=Value.type n
noncomputable abbrev aq:List V->List KJ->Prop:=Paired RelV
theorem aq.length{xs:List V}{us:List KJ}(r:aq xs us):xs.length=us.length:=Paired.length r
theorem aq.get:∀{xs:List V}{us:List KJ}{i:Nat}{x:V},aq xs us->xs[i]?=KE x->∃u,us[i]?=KE u/\RelV x u
 |_,_,_,_,.nil,e=>by simp at e|_,_,0,_,.cons r _,e=>by simp at e;subst e;exact⟨_,rfl,r⟩|_,_,i+1,x,.cons _ t,e=>by
  obtain⟨u,b,a⟩:=aq.get (i:=i) (x:=x) t (by simpa using e);exact⟨u,by simpa using b,a⟩
theorem aq.set{x:V}{u:KJ}(r:RelV x u):∀{xs:List V}{us:List KJ}(i:Nat),aq xs us->aq (xs.set i x) (us.set i u)
 |_,_,_,.nil=>.nil|_,_,0,.cons _ t=>.cons r t|_,_,i+1,.cons q t=>.cons q (aq.set r i t)
theorem aq.append:∀{xs ys:List V}{us ws:List KJ},aq xs us->aq ys ws->aq (xs++ys) (us++ws)
 |_,_,_,_,.nil,s=>s|_,_,_,_,.cons r t,s=>.cons r (aq.append t s)
theorem aq.take:∀{xs:List V}{us:List KJ}(n:Nat),aq xs us->aq (xs.take n) (us.take n)
 |_,_,0,_=>.nil|_,_,_+1,.nil=>.nil|_,_,n+1,.cons r t=>.cons r (aq.take n t)
theorem aq.drop:∀{xs:List V}{us:List KJ}(n:Nat),aq xs us->aq (xs.drop n) (us.drop n)
 |_,_,0,r=>r|_,_,_+1,.nil=>.nil|_,_,n+1,.cons _ t=>aq.drop n t
noncomputable def l7:Option V->Option KJ->Prop
 |some v,KE u=>RelV v u|none,KL=>True|_,_=>False
noncomputable def KV{a:Type}:List (a×V)->List (a×KJ)->Prop:=Paired λ(p:a×V)(q:a×KJ)=>p.1=q.1/\RelV p.2 q.2
noncomputable def kV:Key->V
 |.inl i=>.int i|.inr x=>.str x
inductive HO where|lst(xs:List V)|tup(xs:List V)|dK(kvs:List (Key×V))|dT(kvs:List (List Key×V))|set(S:Int->Bool)(n:Nat)|ins(C dx:KS)(fs:List (Lf×V))|own(x:KS)|xd(fs:List (Lf×V))|met(f x:KS)|Hg(lo hi:Int)|b6(o:L_)(u:HO)|tS(ps:Array KJ)|ext(φ:Lu->Prop)
abbrev Hp:=KS->Option HO
noncomputable def upd(H:Hp)(a:KS)(o:HO):Hp:=λb=>if b=a then KE o else H b
theorem ai{H:Hp}{a:KS}{o:HO}:upd H a o a=KE o:=by unfold upd;rw[if_pos rfl]
theorem af{H:Hp}{a b:KS}{o:HO}(h:b≠a):upd H a o b=H b:=by unfold upd;rw[if_neg h]
theorem cf{H:Hp}{a:KS}{o u:HO}:upd (upd H a o) a u=upd H a u:=by funext b;unfold upd;split<;>rfl
theorem ay{H:Hp}{a b:KS}{o:HO}(h:H a=KE o)(h':H b=KL):a≠b:=by intro e;subst e;rw[h]at h';cases h'
section
variable(P:Lb)(w:Lv)
noncomputable def bj(H:Hp)(h:Lu)(a:KS):HO->Prop
 |.lst d=>d.length<=KU/\∃(c:List KJ)(n:Nat),aq d c/\h.get? a=KE {cls:=.type "list",data:=.seq c.toArray n}|.tup d=>d.length<=KU/\∃c:List KJ,aq d c/\Qz h a c.toArray|.dK b=>b.length<=KU/\(a==Mu)=KO/\∃j,KV b j/\h.DictOf (ar P w) a j|.dT b=>b.length<=KU/\(a==Mu)=KO/\∃d:List (List Key×KS×KJ),Paired (λ(p:List Key×V)(q:List Key×KS×KJ)=>p.1=q.1/\H q.2.1=KE (.tup (p.1.map kV))/\RelV p.2 q.2.2) b d/\∃o m s,h.get? a=KE o/\o.ExactDict/\o.data=.dict m s/\m.toList=d.map (Sr (tupleKind (ar P w)))/\(d.map (·.1)).Nodup|.set S n=>h.SetOf (intKind P w) a S n|.ins C g fs=>H g=KE (.own a)/\fs.length<=1000/\g≠a/\h.get? a=KE (QB C g)/\∃e,h.Ns1 g e/\(∀f,l7 (fs.lookup f) (e f))/\PySem.Within e (fs.map (·.1))|.own _=>∃o,h.get? a=KE o|.xd fs=>∃e,h.Ns1 a e/\∀f,l7 (fs.lookup f) (e f)|.Hg lo r=>∃t u v,h.get? a=KE {cls:=.type "range",data:=.fields #[.int lo t,.int r u,.int 1 v]}|.b6 o u=>h.get? a=KE o/\bj H h a u|.tS ps=>h.get? a=KE {cls:=.none,data:=.fields ps}|.met f x=>h.get? a=KE (Py (.ref f) (.ref x))|.ext i=>i h/\(∃o,h.get? a=KE o)/\∀l k:Lu,i l->(∀o,l.get? a=KE o->k.get? a=KE o)->i k
noncomputable def iH(H:Hp)(h:Lu):Prop:=∀a o,H a=KE o->bj P w H h a o
end
section
variable{P:Lb}{w:Lv}{H H':Hp}{h h':Lu}{a:KS}{o:HO}
theorem bj.lt(x:bj P w H h a o):a<h.objs.size:=by cases o with
 |lst c=>obtain⟨_,_,_,_,e⟩:=x;exact K5 e|tup c=>obtain⟨_,_,_,p⟩:=x;exact p.lt|dK b=>obtain⟨_,_,_,_,o,_,_,e,_⟩:=x;exact K5 e|dT b=>obtain⟨_,_,_,_,o,_,_,e,_⟩:=x;exact K5 e|set S n=>obtain⟨o,_,_,_,e,_⟩:=x;exact K5 e|ins C i fs=>obtain⟨_,_,_,e,_⟩:=x;exact K5 e|own y=>obtain⟨_,e⟩:=x;exact K5 e|xd fs=>obtain⟨_,⟨_,_,_,e,_⟩,_⟩:=x;exact K5 e|Hg lo g=>obtain⟨_,_,_,e⟩:=x;exact K5 e|b6 ob u=>obtain⟨e,_⟩:=x;exact K5 e|tS ps=>exact K5 (show h.get? a=KE _ from x)|met f y=>exact K5 (show h.get? a=KE _ from x)|ext d=>obtain⟨_,⟨_,e⟩,_⟩:=x;exact K5 e
theorem Paired.Aj{g e:Type}{F G:g->e->Prop}:∀{d:List g}{c:List e},Paired F d c->(∀a b,F a b->G a b)->Paired G d c
 |_,_,.nil,_=>.nil|_,_,.cons r t,f=>.cons (f _ _ r) (Paired.Aj t f)
theorem bj.dW(x:bj P w H h a o)(k:∀b u,(b=a\/H b=KE (.own a))->h.get? b=KE u->h'.get? b=KE u)(E:∀b,H b=KE (.own a)->H' b=KE (.own a))(D:∀b xs,H b=KE (.tup xs)->H' b=KE (.tup xs)):bj P w H' h' a o:=by induction o with
 |lst xs=>obtain⟨z,j,n,r,e⟩:=x;exact⟨z,j,n,r,k _ _ (.inl rfl) e⟩|tup xs=>obtain⟨z,j,r,ob,e,c⟩:=x;exact⟨z,j,r,ob,k _ _ (.inl rfl) e,c⟩|dK s=>obtain⟨z,y,A,r,ob,g,i,e,c⟩:=x;exact⟨z,y,A,r,ob,g,i,k _ _ (.inl rfl) e,c⟩|dT s=>
  obtain⟨z,y,xs,r,ob,g,i,e,c⟩:=x;exact⟨z,y,xs,Paired.Aj r λp q z=>⟨z.1,D _ _ z.2.1,z.2.2⟩,ob,g,i,k _ _ (.inl rfl) e,c⟩|set S n=>obtain⟨ob,g,i,t,e,c⟩:=x;exact⟨ob,g,i,t,k _ _ (.inl rfl) e,c⟩|ins C J fs=>
  obtain⟨d,z,ne,e,m,⟨l,g,i,F,c⟩,r⟩:=x;exact⟨E _ d,z,ne,k _ _ (.inl rfl) e,m,⟨l,g,i,k _ _ (.inr d) F,c⟩,r⟩|own y=>obtain⟨ob,e⟩:=x;exact⟨ob,k _ _ (.inl rfl) e⟩|xd fs=>obtain⟨m,⟨l,g,i,e,c⟩,r⟩:=x;exact⟨m,⟨l,g,i,k _ _ (.inl rfl) e,c⟩,r⟩|Hg lo I=>obtain⟨t,u,v,e⟩:=x;exact⟨t,u,v,k _ _ (.inl rfl) e⟩|b6 ob u B=>obtain⟨e,q⟩:=x;exact⟨k _ _ (.inl rfl) e,B q⟩|tS ps=>
  have e:h.get? a=KE {cls:=.none,data:=.fields ps}:=x;show h'.get? a=KE {cls:=.none,data:=.fields ps};exact k a _ (.inl rfl) e|met f y=>
  have e:h.get? a=KE (Py (.ref f) (.ref y)):=x;show h'.get? a=KE (Py (.ref f) (.ref y));exact k a _ (.inl rfl) e|ext G=>obtain⟨p,⟨o,e⟩,st⟩:=x;exact⟨st _ _ p λo q=>k _ _ (.inl rfl) q,⟨o,k _ _ (.inl rfl) e⟩,st⟩
theorem iH.lt(x:iH P w H h)(e:H a=KE o):a<h.objs.size:=(x a o e).lt
theorem iH.fresh(x:iH P w H h)(e:h.objs.size<=a):H a=KL:=by cases q:H a with
 |none=>rfl|some u=>exact absurd (Le (x.lt q) e) (LU _)
theorem iH.kept(x:iH P w H h)(k:∀b u,h.get? b=KE u->h'.get? b=KE u):iH P w H h':=λa o e=>(x a o e).dW (λb u _ q=>k b u q) (λ_ q=>q) λ_ _ q=>q
theorem iH.laid(x:iH P w H h)(k:∀b u,h.get? b=KE u->h'.get? b=KE u)(f:h.objs.size<=a)(new:bj P w (upd H a o) h' a o):iH P w (upd H a o) h':=λb u e=>by
 have d:=x.fresh f;by_cases hb:b=a;.subst hb;rw[ai]at e;cases e;exact new
 .rw[af hb]at e;exact(x b u e).dW (λc v _ q=>k c v q) (λc q=>by rw[af (ay q d)];exact q) λc g q=>by rw[af (ay q d)];exact q
end
noncomputable def Rd(H:Hp)(a:KS)(u:HO):Prop:=H a=KE u\/∃o,H a=KE (.b6 o u)
theorem Rd.ok{P:Lb}{w:Lv}{H:Hp}{h:Lu}{a:KS}{u:HO}(r:Rd H a u)(x:iH P w H h):bj P w H h a u:=by
 rcases r with r|⟨o,r⟩;.exact x a u r
 .obtain⟨_,q⟩:=x a _ r;exact q
noncomputable def GA:Option HO->Prop
 |some (.lst _)=>True|some (.dK _)=>True|some (.dT _)=>True|some (.set _ _)=>True|some (.ins _ _ _)=>True|some (.ext _)=>True|_=>False
section
variable{P:Lb}{w:Lv}{H:Hp}{h h':Lu}{x e:KS}{o':HO}
theorem iH.write(ok:iH P w H h)(i:GA (H x))(n:e=x\/H e=KE (.own x))(k:∀b u,b≠e->h.get? b=KE u->h'.get? b=KE u)(l:∃u,h'.get? e=KE u)(new:bj P w (upd H x o') h' x o'):iH P w (upd H x o') h':=λb u q=>by
 have d:∀c y,H c=KE (.own y)->c≠x:=λc y r z=>by subst z;rw[r]at i;exact i
 have f:∀c g,H c=KE (.tup g)->c≠x:=λc g r z=>by subst z;rw[r]at i;exact i
 by_cases hb:b=x;.subst hb;rw[ai]at q;cases q;exact new
 .rw[af hb]at q;by_cases a:b=e
  .have m:H b=KE (.own x):=by
    rcases n with z|z;.exact absurd (a.trans z) hb
    .rw[a];exact z
   rw[q]at m;cases m;obtain⟨v,o⟩:=l;exact⟨v,by rw[a];exact o⟩
  .refine(ok b u q).dW (λc v j r=>k c v ?_ r) (λc r=>by rw[af (d c b r)];exact r) λc g r=>by rw[af (f c g r)];exact r
   rcases j with rfl|j;.exact a
   .rintro rfl;rcases n with z|z;.exact d c b j z
    .rw[j]at z;cases z;exact hb rfl
end
structure Un(fs ex:List KS)(H H':Hp)(h h':Lu):Prop where
 keep:∀b o,h.get? b=KE o->H b=KL->b∉fs->b∉ex->h'.get? b=KE o
 slot:∀b o,h.get? b=KE o->H b=KL->b∈fs->b∉ex->∃sl,h'.get? b=KE {o with slots:=sl}free:∀b o,h.get? b=KE o->H b=KL->b∉ex->H' b=KL
 there:∀b o,h.get? b=KE o->b∉ex->∃o',h'.get? b=KE o'
 iW:∀b xs,H b=KE (.tup xs)->H' b=KE (.tup xs)gV:∀b o u,H b=KE (.b6 o u)->H' b=KE (.b6 o u)iX:∀b ps,H b=KE (.tS ps)->∃more,H' b=KE (.tS (ps++more))
section
variable{fs fs' ex ex':List KS}{H H1 H2:Hp}{h h1 h2 h':Lu}{a x e:KS}{o:HO}
theorem Un.any(u:Un fs ex H H1 h h1){b:KS}{ob:L_}(q:h.get? b=KE ob)(n:H b=KL)(c:b∉ex):∃d,h1.get? b=KE {ob with slots:=d}:=by
 by_cases hb:b∈fs;.exact u.slot b ob q n hb c
 .exact⟨ob.slots,u.keep b ob q n hb c⟩
theorem Un.kept(k:∀b u,h.get? b=KE u->h'.get? b=KE u):Un fs ex H H h h':=⟨λb ob q _ _ _=>k b ob q,λb ob q _ _ _=>⟨ob.slots,k b ob q⟩,λ_ _ _ n _=>n,λb ob q _=>⟨ob,k b ob q⟩,λ_ _ q=>q,λ_ _ _ q=>q,λ_ ps q=>⟨#[],by rw[q];simp⟩⟩
theorem Un.refl:Un fs ex H H h h:=Un.kept λ_ _ q=>q
theorem Un.laid(k:∀b u,h.get? b=KE u->h'.get? b=KE u)(f:h.objs.size<=a)(c:H a=KL):Un fs ex H (upd H a o) h h' where
 keep:=λb u q _ _ _=>k b u q;slot:=λb u q _ _ _=>⟨u.slots,k b u q⟩;free:=λb u q n _=>by rw[af (Lp (Le (K5 q) f))];exact n
 there:=λb u q _=>⟨u,k b u q⟩;iW:=λb d q=>by rw[af (ay q c)];exact q
 gV:=λb u d q=>by rw[af (ay q c)];exact q
 iX:=λb ps q=>⟨#[],by rw[af (ay q c),q];simp⟩
theorem Un.write(d:GA (H x))(l:e=x\/H e=KE (.own x))(k:∀b u,b≠e->h.get? b=KE u->h'.get? b=KE u)(g:∃u,h'.get? e=KE u):Un fs ex H (upd H x o) h h':=by
 have i:∀b,H b=KL->b≠x:=λb n z=>by subst z;rw[n]at d;exact d
 have hb:∀b,H b=KL->b≠e:=λb n z=>by
  subst z;rcases l with r|r;.exact i b n r
  .rw[n]at r;cases r
 have f:∀b u,H b=KE u->¬GA (KE u)->b≠x:=λb u q nm z=>by subst z;rw[q]at d;exact nm d
 refine⟨λb u q n _ _=>k b u (hb b n) q,λb u q n _ _=>⟨u.slots,k b u (hb b n) q⟩,λb u q n _=>by rw[af (i b n)];exact n,λb u q _=>?_,λb j q=>by rw[af (f b _ q λz=>z)];exact q,λb u j q=>by rw[af (f b _ q λz=>z)];exact q,λb ps q=>⟨#[],by rw[af (f b _ q λz=>z),q];simp⟩⟩;by_cases c:b=e;.subst c;exact g
 .exact⟨u,k b u c q⟩
end
noncomputable def GB(h:Lu)(H:Hp):List KS:=(LY h.objs.size).filter λa=>(H a).isSome
noncomputable def l9(h:Lu)(H:Hp):Lu:=PySem.W.hideAll h (GB h H)
theorem sx(h:Lu)(H:Hp):(l9 h H).objs.size=h.objs.size:=PySem.W.hideAll_size _ _
theorem t6{h:Lu}{H:Hp}{b:KS}{o:L_}(e:h.get? b=KE o)(n:H b=KL):(l9 h H).get? b=KE o:=PySem.W.hideAll_get _ e λa=>by
  have q:(H b).isSome=KN:=(List.mem_filter.mp a).2;rw[n]at q;simp at q
theorem xm{h:Lu}{H:Hp}{b:KS}{o:L_}(e:(l9 h H).get? b=KE o):h.get? b=KE o/\H b=KL:=by
 have a:h.get? b=KE o:=PySem.W.of_hideAll (GB h H) e;refine⟨a,?_⟩;cases q:H b with
 |none=>rfl|some x=>
  have c:b∈GB h H:=List.mem_filter.mpr ⟨List.mem_range.mpr (K5 a),by simp[q]⟩;have z:(l9 h H).get? b=KL:=PySem.W.hideAll_none (GB h H) c;rw[z]at e;cases e
end L2
namespace L2
open PySem PySem.Spec PyProof.Rows
structure Mod(K:KZ)(mg:Lf->Option KJ)(base:Lu):Prop where
 GC:K.In base
 glob:base.Ns LQ mg
 blt:∃mb,base.Ns Qi mb/\∀x:Lf,x≠"__name__"->mb x=Mz x
 nolimit:base.NoLimit
structure Cx where
 prog:Lb
 w:Lv
 K:KZ
 mg:Lf->Option KJ
 base:Lu
 A:Lz
 N:List Lf
 b7:KR
 gh:Hp
 env:Q4
 outer:List Q4
 stack:List Q4
 ex:List KS
 fn:Lf->Bool
 calm:Bool
 pn:List (KS×L_)xe:KJ->KR->Prop
noncomputable def sA(l:List Q4):List KS:=l.filterMap (·.frame)
noncomputable abbrev Cx.fs(X:Cx):List KS:=sA X.outer
noncomputable def m_(sc:MQ)(x:Lf):Prop:=sc.names.lookup x=KE .local\/sc.names.lookup x=KE .cell\/sc.names.lookup x=KE .free
noncomputable def Loc(sc:MQ)(x:Lf):Prop:=sc.names.lookup x=KE .local\/sc.names.lookup x=KE .cell
noncomputable def Look(env:Q4)(h:Lu)(m:Lf->Option KJ)(x:Lf)(u:KJ):Prop:=(env.kindOf x=KE .local/\m x=KE u)\/((env.kindOf x=KE .cell\/env.kindOf x=KE .free)/\∃c,env.cells.lookup x=KE c/\h.IsCell c (KE u))
structure Cx.Ok(X:Cx):Prop where
 mod:Mod X.K X.mg X.base
 kind:X.env.scope.kind=.function
 glob:X.env.globals=LQ
 blt:X.env.builtins=Qi
 above:X.b7.heap.objs.size<=X.env.locals
 inj:∀x y c,X.env.cells.lookup x=KE c->X.env.cells.lookup y=KE c->x=y
 has:∀x,(X.env.kindOf x=KE .cell\/X.env.kindOf x=KE .free)->∃c,X.env.cells.lookup x=KE c
 Dv:∀x c,X.fn x=KN->X.env.cells.lookup x=KE c->X.b7.heap.objs.size<=c
 hd:X.calm=KN->X.A.handled=KL
 frames:X.A.frames=KE X.stack
 DP:X.stack=X.outer\/(X.stack=X.env::X.outer/\X.env.frame=KE X.env.locals)Hh:∀b∈X.ex,b≠X.env.locals/\∀x c,X.env.cells.lookup x=KE c->c≠b
 bs:∀b o,X.base.get? b=KE o->X.b7.heap.get? b=KE o/\X.gh b=KL
 xo:X.base.objs.size<=X.b7.heap.objs.size
 sC:∀b o,X.base.get? b=KE o->b∉X.ex
 t7:∀b∈X.ex,b∉X.fs
 iY:X.b7.heap.FunFrames X.base X.outer
 Ak:∀b∈X.fs,X.gh b=KL
structure Inv(X:Cx)(pins:List (KS×L_))(σ:List (Option V))(H:Hp)(s:KR):Prop where
 ok:X.Ok
 os:s.os=X.b7.os
 bare:Pz s.gens
 base:Un X.fs X.ex X.gh H X.b7.heap s.heap
 loc:∃m,s.heap.Ns X.env.locals m/\∀(i:Nat)(x:Lf)(v:V),X.N[i]?=KE x->σ[i]?=KE (KE v)->m_ X.env.scope x->∃u,RelV v u/\Look X.env s.heap m x u
 cell:∀x c,X.env.cells.lookup x=KE c->∃v,s.heap.IsCell c v
 free:H X.env.locals=KL
 cY:∀x c,X.env.cells.lookup x=KE c->H c=KL
 pin:∀p∈X.pn++pins,s.heap.get? p.1=KE p.2/\H p.1=KL/\p.1≠X.env.locals/\p.1∉X.fs/\∀v,p.2.data≠.cell v
 aM:iH X.prog X.w H s.heap
 len:σ.length=X.N.length
section
variable{X:Cx}{pins:List (KS×L_)}{σ:List (Option V)}{H H':Hp}{s:KR}{h':Lu}
theorem Cx.Ok.Hj(ok:X.Ok){b:KS}{o:L_}(e:X.base.get? b=KE o):b∉X.fs:=λhb=>by
 have:=(ok.iY.mem hb).1;rw[e]at this;cases this
theorem Inv.bs(I:Inv X pins σ H s):∀b o,X.base.get? b=KE o->s.heap.get? b=KE o/\H b=KL:=λb o e=>⟨I.base.keep b o (I.ok.bs b o e).1 (I.ok.bs b o e).2 (I.ok.Hj e) (I.ok.sC b o e),I.base.free b o (I.ok.bs b o e).1 (I.ok.bs b o e).2 (I.ok.sC b o e)⟩
theorem Inv.bk(I:Inv X pins σ H s):∀b o,X.base.get? b=KE o->s.heap.get? b=KE o:=λb o e=>(I.bs b o e).1
theorem Inv.mod(I:Inv X pins σ H s):Mod X.K X.mg X.base:=I.ok.mod
theorem Inv.kH(I:Inv X pins σ H s):X.K.In s.heap:=I.ok.mod.GC.keeps I.bk
theorem Inv.lt(I:Inv X pins σ H s):X.env.locals<s.heap.objs.size:=let⟨_,a,_⟩:=I.loc;a.lt
theorem Inv.sz(I:Inv X pins σ H s):X.b7.heap.objs.size<=s.heap.objs.size:=L7 I.ok.above (Pc I.lt)
theorem Inv.Al(I:Inv X pins σ H s){a:KS}(h:s.heap.objs.size<=a):a∉X.fs:=λhb=>by
 obtain⟨_,o,b,_⟩:=I.ok.iY.mem hb;exact absurd (Le (K5 b) (L7 I.sz h)) (LU _)
theorem Inv.Am(I:Inv X pins σ H s):∀x c,X.env.cells.lookup x=KE c->c≠X.env.locals:=λx c e z=>by
 obtain⟨v,o,d,hd⟩:=I.cell x c e;obtain⟨m,⟨f,g,h,a,b,_⟩,_⟩:=I.loc;rw[z,a]at d;cases d;rw[b]at hd;cases hd
theorem Inv.iY(I:Inv X pins σ H s):s.heap.FunFrames X.base X.outer:=by
 have all:∀(l:List Q4),(∀b∈sA l,b∈X.fs)->X.b7.heap.FunFrames X.base l->s.heap.FunFrames X.base l:=by
  intro l;induction l with
  |nil=>intro _ _;trivial|cons env r f=>
   intro d j;obtain⟨k,⟨L,o,a,i,h,hd⟩,g⟩:=j;have c:L∈X.fs:=d L (by unfold sA;rw[M7,a];exact K2);obtain⟨m,e⟩:=I.base.slot L o h (I.ok.Ak L c) c λz=>I.ok.t7 L z c;exact⟨k,⟨L,_,a,i,e,hd⟩,f (λb hb=>d b (by unfold sA;rw[M7,a];exact K1 _ hb)) g⟩
 exact all X.outer (λ_ hb=>hb) I.ok.iY
theorem Inv.stack(I:Inv X pins σ H s):s.heap.FunFrames X.base X.stack:=by
 rcases I.ok.DP with e|⟨e,b⟩;.rw[e];exact I.iY
 .rw[e];obtain⟨m,a,_⟩:=I.loc;refine .cons (by rw[I.ok.kind];decide) b a ?_ I.iY;exact Heap.get?_none_of_le (L7 I.ok.xo I.ok.above)
theorem Inv.jn(I:Inv X pins σ H s):∀b∈sA X.stack,b∈X.env.locals::X.fs:=λb hb=>by
 rcases I.ok.DP with e|⟨e,a⟩;.rw[e]at hb;exact K1 _ hb
 .rw[e]at hb;unfold sA at hb;rw[M7,a]at hb;exact hb
theorem Inv.qM(I:Inv X pins σ H s):∀b∈sA X.stack,H b=KL:=λb hb=>by
 rcases List.mem_cons.mp (I.jn b hb)with e|hb;.rw[e];exact I.free
 .obtain⟨_,o,a,_⟩:=I.ok.iY.mem hb;exact I.base.free b o a (I.ok.Ak b hb) λz=>I.ok.t7 b z hb
theorem Inv.step{g':Array GenState}{t':Nat}{d':Drawn}{ch:List KS}(I:Inv X pins σ H s)(g:∀b∈ch,(b∈X.ex\/X.b7.heap.objs.size<=b)/\b≠X.env.locals/\(∀x c,X.env.cells.lookup x=KE c->c≠b)/\∀p∈X.pn++pins,p.1≠b)(keep:∀b o,b≠X.env.locals->b∉X.fs->b∉ch->s.heap.get? b=KE o->H b=KL->h'.get? b=KE o)(slot:∀b o,b≠X.env.locals->b∈X.fs->b∉ch->s.heap.get? b=KE o->H b=KL->∃F,h'.get? b=KE {o with slots:=F})(free:∀b o,b∉ch->s.heap.get? b=KE o->H b=KL->H' b=KL)(there:∀b o,b∉ch->s.heap.get? b=KE o->∃o',h'.get? b=KE o')(iW:∀b xs,H b=KE (.tup xs)->H' b=KE (.tup xs))(gV:∀b o u,H b=KE (.b6 o u)->H' b=KE (.b6 o u))(iX:∀b ps,H b=KE (.tS ps)->∃B,H' b=KE (.tS (ps++B)))(ns:∀m,s.heap.Ns X.env.locals m->h'.Ns X.env.locals m)(aM:iH X.prog X.w H' h')(P:Pz g'):Inv X pins σ H' {s with heap:=h',gens:=g',drawn:=d',toks:=t'}:=by
 have A:∀b o,X.b7.heap.get? b=KE o->b≠X.env.locals:=λb o e=>Lp (Le (K5 e) I.ok.above);have j:∀b o,X.b7.heap.get? b=KE o->b∉X.ex->b∉ch:=λb o e a hb=>by
  rcases(g b hb).1 with z|z;.exact a z
  .exact absurd (Le (K5 e) z) (LU _)
 have h:∀x c,X.env.cells.lookup x=KE c->∀v,s.heap.IsCell c v->h'.IsCell c v:=λx c e v D=>by
  obtain⟨o,y,hd⟩:=D;have f:c∉ch:=λz=>(g c z).2.2.1 x c e rfl;by_cases K:c∈X.fs
  .obtain⟨F,q⟩:=slot c o (I.Am x c e) K f y (I.cY x c e);exact⟨_,q,hd⟩
  .exact⟨o,keep c o (I.Am x c e) K f y (I.cY x c e),hd⟩
 refine⟨I.ok,I.os,P,⟨λb o e n hb a=>?_,λb o e n hb a=>?_,λb o e n a=>?_,λb o e a=>?_,λb xs e=>iW b xs (I.base.iW b xs e),λb o xs e=>gV b o xs (I.base.gV b o xs e),λb ps e=>?_⟩,?_,λx c e=>?_,?_,λx c e=>?_,λp J=>?_,aM,I.len⟩;.exact keep b o (A b o e) hb (j b o e a) (I.base.keep b o e n hb a) (I.base.free b o e n a)
 .obtain⟨F,t⟩:=I.base.slot b o e n hb a;obtain⟨E,C⟩:=slot b _ (A b o e) hb (j b o e a) t (I.base.free b o e n a);exact⟨E,C⟩
 .obtain⟨o',t⟩:=I.base.there b o e a;exact free b o' (j b o e a) t (I.base.free b o e n a)
 .obtain⟨o',t⟩:=I.base.there b o e a;exact there b o' (j b o e a) t
 .obtain⟨M,t⟩:=I.base.iX b ps e;obtain⟨L,C⟩:=iX b _ t;exact⟨M++L,by rw[C,Array.append_assoc]⟩
 .obtain⟨m,N,O⟩:=I.loc;refine⟨m,ns m N,λi x v t C Q=>?_⟩;obtain⟨u,r,l⟩:=O i x v t C Q;refine⟨u,r,?_⟩;rcases l with l|⟨k,c,e,z⟩;.exact .inl l
  .exact .inr ⟨k,c,e,h x c e _ z⟩
 .obtain⟨v,z⟩:=I.cell x c e;exact⟨v,h x c e v z⟩
 .obtain⟨m,⟨o,_,_,y,_⟩,_⟩:=I.loc;exact free _ o (λz=>(g _ z).2.1 rfl) y I.free
 .obtain⟨v,o,y,hd⟩:=I.cell x c e;exact free c o (λz=>(g c z).2.2.1 x c e rfl) y (I.cY x c e)
 .obtain⟨e,n,ne,G,d⟩:=I.pin p J;have f:p.1∉ch:=λz=>(g p.1 z).2.2.2 p J rfl;exact⟨keep p.1 p.2 ne G f e n,free p.1 p.2 f e n,ne,G,d⟩
theorem Inv.un{t':Nat}(I:Inv X pins σ H s)(u:Un X.fs [] H H' s.heap h')(aM:iH X.prog X.w H' h'):Inv X pins σ H' {s with heap:=h',toks:=t'}:=by
 obtain⟨m,⟨o,p,q,f,r⟩,_⟩:=id I.loc;obtain⟨j,i⟩:=u.any f I.free (by simp);exact I.step (g':=s.gens) (d':=s.drawn) (ch:=[]) (λ_ z=>nomatch z) (λb o _ hb _ e n=>u.keep b o e n hb (by simp)) (λb o _ hb _ e n=>u.slot b o e n hb (by simp)) (λb o _ e n=>u.free b o e n (by simp)) (λb o _ e=>u.there b o e (by simp)) u.iW u.gV u.iX (λl h=>by
  obtain⟨k,c,d,a,g⟩:=h;rw[f]at a;cases a;exact⟨_,c,d,i,g⟩) aM I.bare
theorem Inv.call{g':Array GenState}{t':Nat}{d':Drawn}{ch:List KS}(I:Inv X pins σ H s)(u:Un (sA X.stack) ch H H' s.heap h')(aM:iH X.prog X.w H' h')(q:Pz g')(f:∀b∈ch,(b∈X.ex\/X.b7.heap.objs.size<=b)/\b≠X.env.locals/\(∀x c,X.env.cells.lookup x=KE c->c≠b)/\∀p∈X.pn++pins,p.1≠b):Inv X pins σ H' {s with heap:=h',gens:=g',drawn:=d',toks:=t'}:=by
 obtain⟨m,⟨o,A,B,j,r⟩,_⟩:=id I.loc;obtain⟨t,g⟩:=u.any j I.free λz=>(f _ z).2.1 rfl;exact I.step (ch:=ch) f (λb o g hb a e n=>u.keep b o e n (λz=>(List.mem_cons.mp (I.jn b z)).elim g hb) a) (λb o _ _ a e n=>u.any e n a) (λb o a e n=>u.free b o e n a) (λb o a e=>u.there b o e a) u.iW u.gV u.iX (λy l=>by
  obtain⟨v,h,i,d,k⟩:=l;rw[j]at d;cases d;exact⟨_,h,i,g,k⟩) aM q
theorem Inv.turned{t':Nat}{it:KS}(I:Inv X pins σ H s)(k:∀b o,b≠it->s.heap.get? b=KE o->h'.get? b=KE o)(h:H it=KL)(f:it≠X.env.locals)(t:it∈X.ex\/X.b7.heap.objs.size<=it)(l:∀x c,X.env.cells.lookup x=KE c->c≠it)(j:∀p∈X.pn++pins,p.1≠it):Inv X pins σ H {s with heap:=h',toks:=t'}:=by
 have d:∀b u,H b=KE u->b≠it:=λb u e z=>by rw[z,h]at e;cases e
 refine I.step (g':=s.gens) (d':=s.drawn) (ch:=[it]) (λb hb=>?_) (λb o _ _ a e _=>k b o (λz=>a (by simp[z])) e) (λb o _ _ a e _=>⟨o.slots,k b o (λz=>a (by simp[z])) e⟩) (λ_ _ _ _ n=>n) (λb o a e=>⟨o,k b o (λz=>a (by simp[z])) e⟩) (λ_ _ e=>e) (λ_ _ _ e=>e) (λb ps e=>⟨#[],by rw[e];simp⟩) (λm i=>?_) (λb u e=>?_) I.bare
 .have e:b=it:=by simpa using hb
  subst e;exact⟨t,f,l,j⟩
 .obtain⟨o,w,y,g,r⟩:=i;exact⟨o,w,y,k _ o (LP f) g,r⟩
 .refine(I.aM b u e).dW (λc v a q=>k c v ?_ q) (λ_ q=>q) λ_ _ q=>q;rcases a with z|z;.rw[z];exact d b u e
  .exact d c _ z
theorem Inv.tok(I:Inv X pins σ H s)(t:Nat):Inv X pins σ H {s with toks:=t}:=I.un (h':=s.heap) (t':=t) Un.refl I.aM
theorem Inv.kept{t':Nat}(I:Inv X pins σ H s)(k:∀b u,s.heap.get? b=KE u->h'.get? b=KE u):Inv X pins σ H {s with heap:=h',toks:=t'}:=I.un (Un.kept k) (I.aM.kept k)
theorem Inv.laid{a:KS}{o:HO}{t':Nat}(I:Inv X pins σ H s)(k:∀b u,s.heap.get? b=KE u->h'.get? b=KE u)(c:s.heap.objs.size<=a)(new:bj X.prog X.w (upd H a o) h' a o):Inv X pins σ (upd H a o) {s with heap:=h',toks:=t'}:=I.un (Un.laid k c (I.aM.fresh c)) (I.aM.laid k c new)
theorem Inv.write{x e:KS}{o:HO}{t':Nat}(I:Inv X pins σ H s)(c:GA (H x))(d:e=x\/H e=KE (.own x))(k:∀b u,b≠e->s.heap.get? b=KE u->h'.get? b=KE u)(a:∃u,h'.get? e=KE u)(new:bj X.prog X.w (upd H x o) h' x o):Inv X pins σ (upd H x o) {s with heap:=h',toks:=t'}:=I.un (Un.write c d k a) (I.aM.write c d k a new)
theorem Inv.dX{a:List (KS×L_)}(I:Inv X pins σ H s)(h:∀p∈a,s.heap.get? p.1=KE p.2/\H p.1=KL/\p.1≠X.env.locals/\p.1∉X.fs/\∀v,p.2.data≠.cell v):Inv X a σ H s:=⟨I.ok,I.os,I.bare,I.base,I.loc,I.cell,I.free,I.cY,λp b=>(List.mem_append.mp b).elim (λz=>I.pin p (MX _ z)) (h p),I.aM,I.len⟩
theorem nk{N:List Lf}(hN:N.Nodup){i j:Nat}{x:Lf}(a:N[i]?=KE x)(b:N[j]?=KE x):i=j:=by
 obtain⟨f,d⟩:=List.getElem?_eq_some_iff.mp a;obtain⟨e,c⟩:=List.getElem?_eq_some_iff.mp b;exact(List.getElem_inj hN).mp (d.trans c.symm)
theorem sD{M:Sf}{A:Lz}{E:KJ->KR->Prop}{i:Nat}{x:Lf}{v:V}{u:KJ}{Q:Unit->KR->Prop}(I:Inv X pins σ H s)(hN:X.N.Nodup)(P:X.N[i]?=KE x)(B:Loc X.env.scope x)(r:RelV v u)(h:∀s',Inv X pins (σ.set i (KE v)) H s'->(∃a,Mr a s.heap s'.heap/\(a=X.env.locals\/X.env.cells.lookup x=KE a))->Q () s')(hf:X.fn x=KN\/X.env.scope.names.lookup x=KE .local:=by first|exact .inl rfl|exact .inr rfl|assumption):wpAny M A (storeName X.env x u) Q E s:=by
 obtain⟨m,hn,hl⟩:=id I.loc;have R:(X.env.scope.kind==.class||(X.env.scope.kind==.module&&X.env.locals !=X.env.globals))=KO:=by rw[I.ok.kind];rfl
 have G:i<σ.length:=by rw[I.len];exact(List.getElem?_eq_some_iff.mp P).1
 have Am:=I.Am;have g:∀{a:KS}{h':Lu},(∃o,s.heap.get? a=KE o/\H a=KL)->Mr a s.heap h'->iH X.prog X.w H h':=λ{a h'}ha f b ob e=>by
  obtain⟨_,_,C⟩:=ha;refine(I.aM b ob e).dW (λc U t q=>(f.2 c ?_).trans q) (λ_ q=>q) λ_ _ q=>q;rintro rfl;rcases t with rfl|t;.rw[C]at e;cases e
  .rw[C]at t;cases t
 rcases B with F|F
 .refine wpAny_storeName_local F hn (λh' a2 f=>?_) R;obtain⟨oL,_,_,a0,_⟩:=id hn;refine h _ ⟨I.ok,I.os,I.bare,⟨λb o e n hb B=>?_,λb o e n hb B=>?_,I.base.free,λb o e B=>?_,I.base.iW,I.base.gV,I.base.iX⟩,⟨_,a2,λj y Y l D e3=>?_⟩,λy c e=>?_,I.free,I.cY,λp hp=>?_,g ⟨oL,a0,I.free⟩ f,by simpa using I.len⟩ ⟨_,f,.inl rfl⟩;.exact(f.2 b (Lp (Le (K5 e) I.ok.above))).trans (I.base.keep b o e n hb B)
  .obtain⟨sl,l⟩:=I.base.slot b o e n hb B;exact⟨sl,(f.2 b (Lp (Le (K5 e) I.ok.above))).trans l⟩
  .obtain⟨o',l⟩:=I.base.there b o e B;exact⟨o',(f.2 b (Lp (Le (K5 e) I.ok.above))).trans l⟩
  .by_cases J:j=i
   .subst J;rw[P]at l;cases l;rw[Na G]at D;cases D;exact⟨u,r,.inl ⟨F,by simp⟩⟩
   .rw[MY (LP J)]at D;obtain⟨Z,r',q⟩:=hl j y Y l D e3;refine⟨Z,r',?_⟩;rcases q with⟨k,e⟩|⟨k,c,e,z⟩
    .refine .inl ⟨k,?_⟩;have:y≠x:=λe=>J (nk hN l (e▸P));simp[this,e]
    .exact .inr ⟨k,c,e,z.sameBut f (Am y c e)⟩
  .obtain⟨U,z⟩:=I.cell y c e;exact⟨U,z.sameBut f (Am y c e)⟩
  .obtain⟨e,n,ne,nf,d⟩:=I.pin p hp;exact⟨(f.2 p.1 ne).trans e,n,ne,nf,d⟩
 .have K:X.fn x=KN:=by
   rcases hf with z|z;.exact z
   .rw[z]at F;cases F
  obtain⟨c,t⟩:=I.ok.has x (.inl F);obtain⟨U,z⟩:=I.cell x c t;refine wpAny_storeName_cell I.ok.kind F t z (λh' T f=>?_);obtain⟨oc,O,L⟩:=id z;refine h {s with heap:=h'} ⟨I.ok,I.os,I.bare,⟨λb o e n hb B=>?_,λb o e n hb B=>?_,I.base.free,λb o e B=>?_,I.base.iW,I.base.gV,I.base.iX⟩,⟨m,hn.sameBut f (LP (Am x c t)),λj y Y l D e3=>?_⟩,λy W e=>?_,I.free,I.cY,λp hp=>?_,g ⟨oc,O,I.cY x c t⟩ f,by simpa using I.len⟩ ⟨c,f,.inr t⟩;.exact(f.2 b (Lp (Le (K5 e) (I.ok.Dv x c K t)))).trans (I.base.keep b o e n hb B)
  .obtain⟨sl,l⟩:=I.base.slot b o e n hb B;exact⟨sl,(f.2 b (Lp (Le (K5 e) (I.ok.Dv x c K t)))).trans l⟩
  .obtain⟨o',l⟩:=I.base.there b o e B;exact⟨o',(f.2 b (Lp (Le (K5 e) (I.ok.Dv x c K t)))).trans l⟩
  .by_cases J:j=i
   .subst J;rw[P]at l;cases l;rw[Na G]at D;cases D;exact⟨u,r,.inr ⟨.inl F,c,t,T⟩⟩
   .rw[MY (LP J)]at D;obtain⟨Z,r',q⟩:=hl j y Y l D e3;refine⟨Z,r',?_⟩;rcases q with q|⟨k,W,e,z'⟩;.exact .inl q
    .refine .inr ⟨k,W,e,z'.sameBut f ?_⟩;rintro rfl;exact J (nk hN l (I.ok.inj _ _ _ e t▸P))
  .by_cases S:W=c;.subst S;exact⟨_,T⟩
   .obtain⟨w2,z2⟩:=I.cell y W e;exact⟨w2,z2.sameBut f S⟩
  .obtain⟨e,n,ne,nf,d⟩:=I.pin p hp;refine⟨(f.2 p.1 ?_).trans e,n,ne,nf,d⟩;intro q;rw[q,O]at e;have q':oc=p.2:=KY e;exact d U (by rw[<-q'];exact L)
theorem gi{M:Sf}{A:Lz}{E:KJ->KR->Prop}{i:Nat}{x:Lf}{v:V}{u:KJ}{Q:Unit->KR->Prop}(I:Inv X pins σ H s)(hN:X.N.Nodup)(c:X.N[i]?=KE x)(b:Loc X.env.scope x)(r:RelV v u)(h:∀a,Inv X pins (σ.set i (KE v)) H a->Q () a)(d:X.fn x=KN\/X.env.scope.names.lookup x=KE .local:=by first|exact .inl rfl|exact .inr rfl|assumption):wpAny M A (storeName X.env x u) Q E s:=sD I hN c b r (λa e _=>h a e) d
theorem Inv.DQ{a:KR}{ch:List KS}(I:Inv X pins σ H s)(g:a.os=s.os)(u:Un (sA X.stack) ch H H' s.heap a.heap)(aM:iH X.prog X.w H' a.heap)(h:Pz a.gens)(d:∀b∈ch,(b∈X.ex\/X.b7.heap.objs.size<=b)/\b≠X.env.locals/\(∀x c,X.env.cells.lookup x=KE c->c≠b)/\∀p∈X.pn++pins,p.1≠b):Inv X pins σ H' a:=by
 obtain⟨h',g',d',t',f⟩:=a;have e:f=s.os:=g;subst e;exact I.call (g':=g') (t':=t') (d':=d') u aM h d
end
abbrev XK:=KJ->Option KS->Hp->Prop
abbrev St:=List (Option V)
abbrev VK:=V->Hp->Prop
abbrev TE:=St->Hp->VK->Prop
abbrev TT:=St->Hp->(Bool->Hp->Prop)->Prop
abbrev TA:=St->Hp->(List V->Hp->Prop)->Prop
structure Ends where
 nx:St->Hp->Prop
 rt:VK
 bk:St->Hp->Prop:=λ_ _=>False
 ct:St->Hp->Prop:=λ_ _=>False
abbrev TS:=Ends->St->Hp->Prop
inductive EP(X:Cx)(pins:List (KS×L_))(σ:St)(Q:VK)(u:KJ)(s':KR):Prop where|mk(v:V)(H':Hp)(I:Inv X pins σ H' s')(r:RelV v u)(q:Q v H')
inductive TP(X:Cx)(pins:List (KS×L_))(σ:St)(Q:Bool->Hp->Prop)(b:Bool)(s':KR):Prop where|mk(H':Hp)(I:Inv X pins σ H' s')(q:Q b H')
inductive AP(X:Cx)(pins:List (KS×L_))(σ:St)(Q:List V->Hp->Prop)(us:List KJ)(s':KR):Prop where|mk(vs:List V)(H':Hp)(I:Inv X pins σ H' s')(r:aq vs us)(q:Q vs H')
noncomputable def SP(X:Cx)(b:List (KS×L_))(D:Ends)(f:Flow)(d:KR):Prop:=match f with
 |.next=>∃a c,Inv X b a c d/\D.nx a c|.brk=>∃a c,Inv X b a c d/\D.bk a c|.cont=>∃a c,Inv X b a c d/\D.ct a c|.ret u=>∃v a c,Inv X b a c d/\RelV v u/\D.rt v c
noncomputable def PE(X:Cx)(e:K7)(t:TE):Prop:=∀(a:List (KS×L_))(s:KR)(b:St)(H:Hp)(Q:VK),Inv X a b H s->t b H Q->wpAny (K4 X.prog X.w) X.A (MT e X.env) (EP X a b Q) X.xe s
noncomputable def PT(X:Cx)(e:K7)(t:TT):Prop:=∀(a:List (KS×L_))(s:KR)(b:St)(H:Hp)(Q:Bool->Hp->Prop),Inv X a b H s->t b H Q->wpAny (K4 X.prog X.w) X.A (RF e X.env (MT e X.env)) (TP X a b Q) X.xe s
noncomputable def PW(X:Cx)(e:K7)(t:TT):Prop:=∀(whole:Pu KJ)(a:List (KS×L_))(s:KR)(b:St)(H:Hp)(Q:Bool->Hp->Prop),Inv X a b H s->t b H Q->wpAny (K4 X.prog X.w) X.A (RF e X.env whole) (TP X a b Q) X.xe s
theorem PW.pt{X:Cx}{e:K7}{t:TT}(h:PW X e t):PT X e t:=h _
noncomputable def PA(X:Cx)(d:List K7)(t:TA):Prop:=∀(c:My)(a:List (KS×L_))(s:KR)(b:St)(H:Hp)(Q:List V->Hp->Prop),Inv X a b H s->t b H Q->wpAny (K4 X.prog X.w) X.A (SJ (NN c (Ld d X.env))) (AP X a b Q) X.xe s
noncomputable def PS(X:Cx)(st:MR)(t:TS):Prop:=∀(a:List (KS×L_))(s:KR)(b:St)(H:Hp)(D:Ends),Inv X a b H s->t D b H->wpAny (K4 X.prog X.w) X.A (exec st X.env) (SP X a D) X.xe s
noncomputable def nc(X:Cx)(st:List MR)(t:TS):Prop:=∀(a:List (KS×L_))(s:KR)(b:St)(H:Hp)(D:Ends),Inv X a b H s->t D b H->wpAny (K4 X.prog X.w) X.A (execs st X.env) (SP X a D) X.xe s
theorem aU{b:Type}{t:Pu b}{Q Q':b->KR->Prop}{M:Sf}{A:Lz}{E:KJ->KR->Prop}{s:KR}(h:wpAny M A t Q E s)(c:∀a s,Q a s->Q' a s):wpAny M A t Q' E s:=MI h c λ_ _ x=>x
end L2
namespace L2
open PySem PySem.Spec PyProof.Rows
section
variable{X:Cx}
noncomputable def DR(i:Nat):TE:=λa H Q=>∃v,a[i]?=KE (KE v)/\Q v H
noncomputable def tC(v:V):TE:=λ_ H Q=>Q v H
theorem bP{i:Nat}{x:Lf}{pos:My}(hN:X.N[i]?=KE x)(n:m_ X.env.scope x)(hd:(x==("__debug__":Lf))=KO:=by decide)(g:(x==("__classdict__":Lf))=KO:=by decide):PE X (.Name x pos) (DR i):=by
 intro f s k H Q I h;obtain⟨v,e,h⟩:=h;obtain⟨m,o,q⟩:=I.loc;obtain⟨u,r,l⟩:=q i x v hN e n;have d:EP X f k Q u s:=⟨v,H,I,r,h⟩;rcases l with⟨b,p⟩|⟨b,c,j,a⟩;.exact Ss (wpAny_loadName_local I.ok.kind b o p d) hd
 .rcases b with b|b;.exact Ss (wpAny_loadName_cell I.ok.kind b j a d) hd
  .exact Ss (wpAny_loadName_free I.ok.kind b j a d g) hd
theorem aA{i j pos}:PE X (.Constant (.int i) j pos) (tC (.int i)):=λ_ _ _ H _ I h=>wpAny_Constant_int ⟨.int i,H,I.tok _,⟨_,rfl⟩,h⟩
theorem DV{b j pos}:PE X (.Constant (.bool b) j pos) (tC (.bl b)):=λ_ _ _ H _ I h=>Constant_bool ⟨.bl b,H,I,rfl,h⟩
theorem An{j pos}:PE X (.Constant .none j pos) (tC .bw):=λ_ _ _ H _ I h=>Constant_none ⟨.bw,H,I,rfl,h⟩
theorem Ao{x j pos}:PE X (.Constant (.str x) j pos) (tC (.str x)):=λ_ _ _ H _ I h=>Calls.Constant_str ⟨.str x,H,I.tok _,⟨_,rfl⟩,h⟩
noncomputable def Gl(X:Cx)(x:Lf):Prop:=X.env.kindOf x=KE .globalImplicit
theorem qN{E:KJ->KR->Prop}{a:List (KS×L_)}{s:KR}{b:St}{H:Hp}{x:Lf}{u:KJ}{pos:My}{Q:KJ->KR->Prop}(I:Inv X a b H s)(d:Gl X x)(c:X.mg x=KE u)(h:Q u s)(hd:(x==("__debug__":Lf))=KO:=by decide):wpAny (K4 X.prog X.w) X.A (MT (.Name x pos) X.env) Q E s:=Pg I.ok.kind d (Calls.loadGlobal_global (by rw[I.ok.glob];exact I.mod.glob.keeps I.bk) c h) hd
theorem eL{E:KJ->KR->Prop}{a:List (KS×L_)}{s:KR}{b:St}{H:Hp}{x:Lf}{u:KJ}{pos:My}{Q:KJ->KR->Prop}(I:Inv X a b H s)(f:Gl X x)(e:X.mg x=KL)(c:Mz x=KE u)(h:Q u s)(d:x≠"__name__":=by decide)(hd:(x==("__debug__":Lf))=KO:=by decide):wpAny (K4 X.prog X.w) X.A (MT (.Name x pos) X.env) Q E s:=by
 obtain⟨j,i,g⟩:=I.mod.blt;exact Pg I.ok.kind f (Calls.loadGlobal_builtin (by rw[I.ok.glob];exact I.mod.glob.keeps I.bk) e (by rw[I.ok.blt];exact i.keeps I.bk) ((g x d).trans c) h) hd
theorem xp{x:Lf}{v:V}{u:KJ}{pos:My}(b:Gl X x)(a:X.mg x=KE u)(r:RelV v u)(hd:(x==("__debug__":Lf))=KO:=by decide):PE X (.Name x pos) (tC v):=λ_ _ _ H _ I h=>qN I b a ⟨v,H,I,r,h⟩ hd
theorem xq{x:Lf}{v:V}{u:KJ}{pos:My}(d:Gl X x)(c:X.mg x=KL)(a:Mz x=KE u)(r:RelV v u)(b:x≠"__name__":=by decide)(hd:(x==("__debug__":Lf))=KO:=by decide):PE X (.Name x pos) (tC v):=λ_ _ _ H _ I h=>eL I d c a ⟨v,H,I,r,h⟩ b hd
variable{a b:K7}{ta tb:TE}{pos:My}
variable{tA tB':TT}{rest:List K7}
noncomputable def Hk(t u:TT):TT:=λd H Q=>t d H λc e=>if c=KN then u d e Q else Q KO e
noncomputable def J6(t u:TT):TT:=λd H Q=>t d H λc e=>if c=KN then Q KN e else u d e Q
noncomputable def Hl(t:TT):TT:=λd H Q=>t d H λc e=>Q (!c) e
theorem qO(ha:PT X a tA):PW X (.BoolOp .And [a] pos) tA:=by
 intro g d s f H Q I h;refine isTrue_and (aU (ha d s f H Q I h) λc s1 e=>?_);cases c with
 |true=>exact isTrue_and_nil e|false=>exact e
theorem Aq(ha:PT X a tA):PW X (.BoolOp .Or [a] pos) tA:=by
 intro g d s f H Q I h;refine isTrue_or (aU (ha d s f H Q I h) λc s1 e=>?_);cases c with
 |false=>exact isTrue_or_nil e|true=>exact e
theorem t8(ha:PT X a tA)(hb:PW X (.BoolOp .And (b::rest) pos) tB'):PW X (.BoolOp .And (a::b::rest) pos) (Hk tA tB'):=by
 intro k d s f H Q I h;refine isTrue_and (aU (ha d s f H _ I h) λc s1 e=>?_);obtain⟨j,i,g⟩:=e;cases c with
 |true=>exact hb k d s1 f j Q i g|false=>exact⟨j,i,g⟩
theorem DW(ha:PT X a tA)(hb:PW X (.BoolOp .Or (b::rest) pos) tB'):PW X (.BoolOp .Or (a::b::rest) pos) (J6 tA tB'):=by
 intro k d s f H Q I h;refine isTrue_or (aU (ha d s f H _ I h) λc s1 e=>?_);obtain⟨j,i,g⟩:=e;cases c with
 |true=>exact⟨j,i,g⟩|false=>exact hb k d s1 f j Q i g
theorem Ar(ha:PT X a tA):PT X (.UnaryOp .Not a pos) (Hl tA):=by
 intro d s e H Q I h;exact isTrue_not (aU (ha d s e H (λc g=>Q (!c) g) I h) λc j z=>by obtain⟨i,f,q⟩:=z;exact⟨i,f,q⟩)
noncomputable def DX(ta tb:TE):TE:=λd H Q=>ta d H λx e=>∃c,x=.bl c/\if c=KN then tb d e Q else Q (.bl KO) e
noncomputable def Hm(ta tb:TE):TE:=λd H Q=>ta d H λx e=>∃c,x=.bl c/\if c=KN then Q (.bl KN) e else tb d e Q
noncomputable def DY(ta:TE):TE:=λd H Q=>ta d H λx e=>∃c,x=.bl c/\Q (.bl (!c)) e
theorem As{op}{t:TE}(h:PE X a t):PE X (.BoolOp op [a] pos) t:=λc s d H Q I hw=>BoolOp_one (h c s d H Q I hw)
theorem Au(ha:PE X a ta)(hb:PE X (.BoolOp .And (b::rest) pos) tb):PE X (.BoolOp .And (a::b::rest) pos) (DX ta tb):=by
 intro d s g H Q I h;refine BoolOp_and (aU (ha d s g H _ I h) λv s1 f=>?_);obtain⟨x,j,i,k,e⟩:=f;obtain⟨c,rfl,e⟩:=e;cases k;refine Mi ?_;cases c with
 |true=>exact hb d s1 g j Q i e|false=>exact⟨.bl KO,j,i,rfl,e⟩
theorem DZ(ha:PE X a ta)(hb:PE X (.BoolOp .Or (b::rest) pos) tb):PE X (.BoolOp .Or (a::b::rest) pos) (Hm ta tb):=by
 intro d s g H Q I h;refine BoolOp_or (aU (ha d s g H _ I h) λv s1 f=>?_);obtain⟨x,j,i,k,e⟩:=f;obtain⟨c,rfl,e⟩:=e;cases k;refine Mi ?_;cases c with
 |false=>exact hb d s1 g j Q i e|true=>exact⟨.bl KN,j,i,rfl,e⟩
theorem Av(ha:PE X a ta):PE X (.UnaryOp .Not a pos) (DY ta):=by
 intro d s g H Q I h;refine UnaryOp_ (aU (ha d s g H _ I h) λv s1 e=>?_);obtain⟨x,k,j,i,f⟩:=e;obtain⟨c,rfl,f⟩:=f;cases i;exact not_of (Mi ⟨.bl (!c),k,j,rfl,f⟩)
noncomputable def J7(t:TT)(ta tb:TE):TE:=λd H Q=>t d H λc e=>if c=KN then ta d e Q else tb d e Q
theorem t9{c:K7}(l:PT X c tA)(ha:PE X a ta)(hb:PE X b tb):PE X (.IfExp c a b pos) (J7 tA ta tb):=by
 intro e s f H Q I h;refine wpAny_IfExp (aU (l e s f H _ I h) λd s1 g=>?_);obtain⟨k,j,i⟩:=g;cases d with
 |true=>exact ha e s1 f k Q j i|false=>exact hb e s1 f k Q j i
end
end L2
namespace L2
open PySem PySem.Spec PyProof.Rows
noncomputable def dF(K:KZ)(H:Hp)(a:KS)(xs:List V):Prop:=Rd H a (.lst xs)\/∃(o:L_)(b:Array KJ)(n:Nat),K.lookup a=KE o/\o.cls=.type "list"/\o.dict=KL/\o.data=.seq b n/\b.size<=KU/\aq xs b.toList
noncomputable def gj(K:KZ)(H:Hp)(a:KS)(xs:List V):Prop:=Rd H a (.tup xs)\/∃(o:L_)(b:Array KJ)(n:Nat),K.lookup a=KE o/\o.cls=.type "tuple"/\o.data=.seq b n/\b.size<=KU/\aq xs b.toList
noncomputable def Hn:KJ->Option V
 |.none=>KE .bw|.bool b=>KE (.bl b)|.int i _=>KE (.int i)|.str x _=>KE (.str x)|.bytes b _=>KE (.Ai b)|.float b _=>KE (.Du b)|.ref a=>KE (.ref a)|.type n=>KE (.ty n)|_=>KL
theorem RelV.abs{x:V}{u:KJ}(r:RelV x u):Hn u=KE x:=by cases x with
 |bw=>cases r;rfl|bl _=>cases r;rfl|int _=>obtain⟨t,rfl⟩:=r;rfl|str _=>obtain⟨t,rfl⟩:=r;rfl|Ai _=>obtain⟨t,rfl⟩:=r;rfl|Du _=>obtain⟨t,rfl⟩:=r;rfl|ref _=>cases r;rfl|ty _=>cases r;rfl
theorem RelV.inj{x y:V}{u:KJ}(r:RelV x u)(q:RelV y u):x=y:=KY (r.abs.symm.trans q.abs)
theorem aq.inj:∀{xs ys:List V}{us:List KJ},aq xs us->aq ys us->xs=ys
 |_,_,_,.nil,.nil=>rfl|_,_,_,.cons r t,.cons b a=>by rw[r.inj b,aq.inj t a]
section
variable{X:Cx}{pins:List (KS×L_)}{σ:St}{H:Hp}{s:KR}{a:KS}{xs ys:List V}
theorem dF.of{K:KZ}(h:H a=KE (.lst xs)):dF K H a xs:=.inl (.inl h)
theorem gj.of{K:KZ}(h:H a=KE (.tup xs)):gj K H a xs:=.inl (.inl h)
theorem Inv.list(I:Inv X pins σ H s)(h:dF X.K H a xs):∃b:List KJ,aq xs b/\PlainL s.heap a b.toArray/\xs.length<=KU:=by
 rcases h with h|⟨o,b,n,d,f,hd,c,g,r⟩
 .obtain⟨z,b,n,r,e⟩:=h.ok I.aM;exact⟨b,r,⟨_,n,e,rfl,rfl,rfl⟩,z⟩
 .refine⟨b.toList,r,⟨o,n,I.kH a o d,f,hd,by simpa using c⟩,?_⟩;have e:=r.length;simp only[Mf]at e;omega
theorem Inv.tuple(I:Inv X pins σ H s)(h:gj X.K H a xs):∃b:List KJ,aq xs b/\Qz s.heap a b.toArray/\xs.length<=KU:=by
 rcases h with h|⟨o,b,n,d,f,c,g,r⟩
 .obtain⟨z,b,r,p⟩:=h.ok I.aM;exact⟨b,r,p,z⟩
 .refine⟨b.toList,r,⟨o,I.kH a o d,f,n,by simpa using c⟩,?_⟩;have e:=r.length;simp only[Mf]at e;omega
theorem Inv.t_(I:Inv X pins σ H s)(h:dF X.K H a xs)(h':dF X.K H a ys):xs=ys:=by
 obtain⟨c,r,⟨o,n,e,_,_,d⟩,_⟩:=I.list h;obtain⟨b,i,⟨k,l,f,_,_,g⟩,_⟩:=I.list h';rw[e]at f;cases f;rw[d]at g;injection g with j _;have:c=b:=by simpa using congrArg RU j
 subst this;exact r.inj i
theorem Inv.sE(I:Inv X pins σ H s)(h:gj X.K H a xs)(h':gj X.K H a ys):xs=ys:=by
 obtain⟨c,r,⟨o,e,_,n,d⟩,_⟩:=I.tuple h;obtain⟨b,i,⟨k,f,_,l,g⟩,_⟩:=I.tuple h';rw[e]at f;cases f;rw[d]at g;injection g with j _;have:c=b:=by simpa using congrArg RU j
 subst this;exact r.inj i
end
noncomputable abbrev Cx.kL(X:Cx)(E:KJ->KR->Prop):Cx:={X with xe:=E}
noncomputable abbrev Cx.Dw(X:Cx):Cx:=X.kL λ_ _=>False
theorem Cx.Ok.kL{X:Cx}(ok:X.Ok)(E:KJ->KR->Prop):(X.kL E).Ok:=⟨ok.mod,ok.kind,ok.glob,ok.blt,ok.above,ok.inj,ok.has,ok.Dv,ok.hd,ok.frames,ok.DP,ok.Hh,ok.bs,ok.xo,ok.sC,ok.t7,ok.iY,ok.Ak⟩
theorem Cx.Ok.eM{X:Cx}{E:KJ->KR->Prop}(ok:(X.kL E).Ok):X.Ok:=⟨ok.mod,ok.kind,ok.glob,ok.blt,ok.above,ok.inj,ok.has,ok.Dv,ok.hd,ok.frames,ok.DP,ok.Hh,ok.bs,ok.xo,ok.sC,ok.t7,ok.iY,ok.Ak⟩
section
variable{X:Cx}{pins:List (KS×L_)}{σ:St}{H:Hp}{s:KR}{E:KJ->KR->Prop}
theorem Inv.kL(I:Inv X pins σ H s)(E:KJ->KR->Prop):Inv (X.kL E) pins σ H s:=⟨I.ok.kL E,I.os,I.bare,I.base,I.loc,I.cell,I.free,I.cY,I.pin,I.aM,I.len⟩
theorem Inv.eM(I:Inv (X.kL E) pins σ H s):Inv X pins σ H s:=⟨I.ok.eM,I.os,I.bare,I.base,I.loc,I.cell,I.free,I.cY,I.pin,I.aM,I.len⟩
theorem SP.eM{D:Ends}{f:Flow}{c:KR}(h:SP (X.kL E) pins D f c):SP X pins D f c:=by cases f with
 |next=>obtain⟨a,b,I,q⟩:=h;exact⟨a,b,I.eM,q⟩|brk=>obtain⟨a,b,I,q⟩:=h;exact⟨a,b,I.eM,q⟩|cont=>obtain⟨a,b,I,q⟩:=h;exact⟨a,b,I.eM,q⟩|ret u=>obtain⟨v,a,b,I,r,q⟩:=h;exact⟨v,a,b,I.eM,r,q⟩
theorem nc.Dw{st:List MR}{t:TS}(h:nc X.Dw st t):nc X st t:=λpins s σ H D I hw=>MI (h pins s σ H D (I.kL _) hw) (λ_ _ q=>q.eM) λ_ _ z=>MJ z
end
section
variable{X:Cx}{st:MR}{rest:List MR}{t u:TS}{e:K7}{te:TE}{pos:My}
noncomputable def D1:TS:=λD a H=>D.nx a H
noncomputable def Hq(t u:TS):TS:=λD a H=>t {D with nx:=u D} a H
theorem jd:nc X [] D1:=λ_ _ a H _ I h=>O7 ⟨a,H,I,h⟩
theorem aZ(g:PS X st t)(d:nc X rest u):nc X (st::rest) (Hq t u):=by
 intro a s c H D I h;refine wpAny_execs_cons (aU (g a s c H {D with nx:=u D} I h) λf s1 q=>?_);cases f with
 |next=>
  obtain⟨b,j,i,q⟩:=q;exact d a s1 b j D i q|ret v=>exact q|brk=>exact q|cont=>exact q
theorem gm(c:PS X st t):nc X [st] t:=by
 intro a s b H D I h;refine wpAny_execs_cons (aU (c a s b H D I h) λf s1 q=>?_);cases f with
 |next=>exact O7 q|ret v=>exact q|brk=>exact q|cont=>exact q
theorem Inv.quiet{a:List (KS×L_)}{b:St}{H:Hp}{s:KR}(I:Inv X a b H s):interactive X.env=KO:=by simp[interactive,I.ok.kind]
noncomputable def D2(te:TE):TS:=λD a H=>te a H λ_ b=>D.nx a b
theorem l_(f:PE X e te)(d:NX e KL pos.line X.env=pure KO:=by rfl):PS X (.Expr e pos) (D2 te):=by
 intro a s b H D I h;exact wpAny_Expr_any (aU (f a s b H _ I h) λv s1⟨x,i,g,j,c⟩=>⟨b,i,g,c⟩) I.quiet d
noncomputable def Hr(te:TE):TS:=λD a H=>te a H D.rt
theorem fO(f:PE X e te):PS X (.Return (KE e) pos) (Hr te):=by
 intro a s b H D I h;exact wpAny_Return_some (aU (f a s b H _ I h) λv s1⟨x,i,g,c,d⟩=>⟨x,b,i,g,c,d⟩)
noncomputable def Ht(c:TT)(t u:TS):TS:=λD a H=>c a H λb d=>if b=KN then t D a d else u D a d
theorem qP{c:K7}{a b:List MR}{tc:TT}(m:PT X c tc)(ha:nc X a t)(hb:nc X b u):PS X (.If c a b pos) (Ht tc t u):=by
 intro f s g H D I h;refine wpAny_If (aU (m f s g H _ I h) λd s1 i=>?_);obtain⟨l,k,j⟩:=i;cases d with
 |true=>exact ha f s1 g l D k j|false=>exact hb f s1 g l D k j
end
abbrev TG:=V->St->Hp->(St->Hp->Prop)->Prop
abbrev xr:=List V->St->Hp->(St->Hp->Prop)->Prop
noncomputable def PG(X:Cx)(a:K7)(t:TG):Prop:=∀(b:List (KS×L_))(s:KR)(d:St)(H:Hp)(v:V)(u:KJ)(Q:St->Hp->Prop),Inv X b d H s->RelV v u->t v d H Q->wpAny (K4 X.prog X.w) X.A (PR a X.env u) (λ_ f=>∃c e,Inv X b c e f/\Q c e) X.xe s
noncomputable def zD(X:Cx)(g:List K7)(t:xr):Prop:=∀(a:List (KS×L_))(s:KR)(c:St)(H:Hp)(d:List V)(e:List KJ)(Q:St->Hp->Prop),Inv X a c H s->aq d e->t d c H Q->wpAny (K4 X.prog X.w) X.A (PU ((L8 g X.env).map (·.2)) e) (λ_ h=>∃b f,Inv X a b f h/\Q b f) X.xe s
abbrev Aw:=V->V->V->Hp->(Hp->Prop)->Prop
noncomputable def D3(X:Cx)(t:Aw):Prop:=∀(a:List (KS×L_))(s:KR)(b:St)(H:Hp)(o i v:V)(c iv u:KJ)(Q:Hp->Prop),Inv X a b H s->RelV o c->RelV i iv->RelV v u->t o i v H Q->wpAny (K4 X.prog X.w) X.A (setItem c iv u) (λ_ e=>∃d,Inv X a b d e/\Q d) X.xe s
section
variable{X:Cx}{pos:My}
noncomputable def kW(i:Nat):TG:=λv a H Q=>Q (a.set i (KE v)) H
theorem ma{i:Nat}{x:Lf}(hN:X.N.Nodup)(c:X.N[i]?=KE x)(b:Loc X.env.scope x)(d:X.fn x=KN\/X.env.scope.names.lookup x=KE .local:=by first|exact .inl rfl|exact .inr rfl|assumption):PG X (.Name x pos) (kW i):=by
 intro a s f H v u Q I r h;exact wpAny_assign_Name (gi I hN c b r (λg e=>⟨_,H,e,h⟩) d)
noncomputable def Hu:xr:=λb a H Q=>b=[]/\Q a H
noncomputable def D4(t:TG)(u:xr):xr:=λc b H Q=>∃v r,c=v::r/\t v b H λa d=>u r a d Q
theorem xt:zD X [] Hu:=by
 intro a s b H c d Q I r h;obtain⟨e,h⟩:=h;subst e;cases r;exact RV ⟨b,H,I,h⟩
theorem ua{e:K7}{b:List K7}{t:TG}{u:xr}(l:PG X e t)(k:zD X b u)(j:(L8 (e::b) X.env).map (·.2)=PR e X.env::(L8 b X.env).map (·.2):=by rfl):zD X (e::b) (D4 t u):=by
 intro a s f H p w Q I r h;obtain⟨v,q,m,h⟩:=h;subst m;cases r with|cons r g=>
  rw[j];refine Ph (aU (l a s f H _ _ _ I r h) λ_ s1 d=>?_);obtain⟨c,o,n,i⟩:=d;exact k a s1 c o _ _ Q n g i
noncomputable def Hv(K:KZ)(n:Nat)(t:xr):TG:=λv c H Q=>∃a b,v=.ref a/\gj K H a b/\b.length=n/\t b c H Q
theorem Ax{d:List K7}{k:Nat}{t:xr}{n:Nat}(z:X.calm=KN)(h:zD X d t)(x:(L8 d X.env).length=n:=by rfl)(f:(L8 d X.env).findIdx? (·.1)=KL:=by rfl):PG X (.Tuple d k pos) (Hv X.K n t):=by
 intro c s g H v u Q I r hw;obtain⟨a,l,B,w,y,hw⟩:=hw;subst B;cases r;obtain⟨m,i,q,D⟩:=I.tuple w;refine assign_Tuple_tuple (I.ok.hd z) q (by simp[x,<-y,i.length]) f λA p=>?_;have C:Inv X c g H {s with heap:=A}:=I.kept (t':=s.toks) λb o e=>p b o (Lp (K5 e)) e;exact h c _ g H l _ Q C (by simpa using i) hw
noncomputable def Hw(to ti:TE)(t:Aw):TG:=λv a H Q=>to a H λo d=>ti a d λi c=>t o i v c λb=>Q a b
theorem pC{o i:K7}{to ti:TE}{t:Aw}(m:PE X o to)(n:PE X i ti)(l:D3 X t)(ha:∀v,PR (.Subscript o i pos) X.env v=(do
   let c<-Qj [v] (MT o X.env)let iv<-Qj [v,c] (MT i X.env)Rm pos;Qj [v,c,iv] (setItem c iv v)release [v,c,iv] []):=by intro _;rfl):PG X (.Subscript o i pos) (Hw to ti t):=by
 intro b s d H v u Q I r h;rw[ha];refine KH (LF (aU (m b s d H _ I h) λc s1 a=>?_));obtain⟨x,B,w,f,k⟩:=a;refine KH (LF (aU (n b s1 d B _ w k) λiv s2 a=>?_));obtain⟨y,A,q,e,j⟩:=a;refine KH (Oi (KH (LF (aU (l b s2 d A x y v c iv u _ q f e r j) λ_ C a=>?_))));obtain⟨z,p,g⟩:=a;exact wpAny_release ⟨d,z,p,g⟩
noncomputable def Ay(te:TE)(g:TG):TS:=λD a H=>te a H λx b=>g x a b D.nx
theorem md{tg e:K7}{te:TE}{g:TG}(j:PE X e te)(i:PG X tg g)(f:PV [tg] e pos.line X.env=pure KO:=by rfl)(hw:MW [tg] e X.env=pure KL:=by rfl)(k:(L8 [tg] X.env).map (·.2)=[PR tg X.env]:=by rfl):PS X (.Assign [tg] e pos) (Ay te g):=by
 intro a s b H D I h;refine wpAny_Assign_stores (aU (j a s b H _ I h) λv s1⟨x,m,l,c,d⟩=>?_) f hw;rw[k];exact aU (i a s1 b m x v _ l c d) λ_ s2 q=>q
theorem cD{i:Nat}{x:Lf}{e:K7}{te:TE}{a:My}(hN:X.N.Nodup)(k:X.N[i]?=KE x)(g:Loc X.env.scope x)(m:PE X e te)(j:NX e (KE (.Name x a)) pos.line X.env=pure KO:=by rfl)(l:X.fn x=KN\/X.env.scope.names.lookup x=KE .local:=by first|exact .inl rfl|exact .inr rfl|assumption):PS X (.Assign [.Name x a] e pos) (Ay te (kW i)):=by
 intro b s c H D I h;refine wpAny_Assign_Name (aU (m b s c H _ I h) λv s1⟨y,p,o,d,f⟩=>?_) j;exact gi o hN k g d (λs2 n=>⟨_,p,n,f⟩) l
noncomputable def D8(i j:Nat)(c:TA):TS:=λD a H=>c a H λb d=>∃v w,b=[v,w]/\D.nx ((a.set i (KE v)).set j (KE w)) d
theorem Az{i j:Nat}{x y:Lf}{a b:K7}{z:TA}{n m pt:My}{kt k2 pt2}(T:X.calm=KN)(hN:X.N.Nodup)(S:X.N[i]?=KE x)(R:X.N[j]?=KE y)(t:i≠j)(C:X.env.scope.names.lookup x=KE .local)(B:X.env.scope.names.lookup y=KE .local)(ha:PA X [a,b] z)(hw:MW [.Tuple [.Name x n,.Name y m] kt pt] (.Tuple [a,b] k2 pt2) X.env=pure (KE [x,y]))(Q:PV [.Tuple [.Name x n,.Name y m] kt pt] (.Tuple [a,b] k2 pt2) pos.line X.env=pure KO:=by rfl):PS X (.Assign [.Tuple [.Name x n,.Name y m] kt pt] (.Tuple [a,b] k2 pt2) pos) (D8 i j z):=by
 intro c s u H D I h;rw[exec_Assign_arm];refine KH (Oi ?_);rw[Q];refine KH (KP ?_);rw[if_neg (by decide)];refine KH (Tuple_ (aU (ha _ c s u H _ I h) λK s1 g=>?_));obtain⟨vs,J,I1,M,l⟩:=g;obtain⟨v,w,U,l⟩:=l;subst U;obtain⟨f,d,rfl,L,k⟩:∃f d,K=[f,d]/\RelV v f/\RelV w d:=by cases M with|cons p q=>cases q with|cons P O=>
    cases O;exact⟨_,_,rfl,p,P⟩
 refine LC ?_ (by show 2<=KU;decide);have Z:Inv X c u J {s1 with heap:=s1.heap.push {cls:=.type "tuple",data:=.seq [f,d].toArray}}:=I1.kept (t':=s1.toks) λb o e=>KQ _ e;rw[hw];refine KH (KP ?_);show wpAny (K4 X.prog X.w) X.A (do Qk "assign.swapped-stores";let items<-unpackItems (.ref s1.heap.objs.size) 2 KL;PU [λv=>Su X.env y v,λv=>Su X.env x v] items.reverse;pure Flow.next) _ _ _;refine KH (Ng (KH (unpackItems_tuple (items:=#[f,d]) (I.ok.hd T) (Rn s1.heap _) λh' r=>?_)));have Y:=Z.kept (h':=h') (t':=s1.toks) λb o e=>r b o (Lp (K5 e)) e;show wpAny _ _ (PU [λv=>Su X.env y v,λv=>Su X.env x v] [d,f]>>=λ_=>pure Flow.next) _ _ _;refine KH (Ph (wpAny_bindName (gi Y hN R (.inl B) k (λs2 W=>?_) (.inr B))));refine Ph (wpAny_bindName (gi W hN S (.inl C) L (λs3 G=>RV (KP ?_)) (.inr C)));rw[List.set_comm _ _ (LP t)]at G;exact⟨_,J,G,l⟩
end
section
variable{X:Cx}{pos:My}
noncomputable def AA(c:TT)(h:TS):TS:=λD a H=>∃W:Nat->St->Hp->Prop,(∃m,W m a H)/\∀m a H,W m a H->c a H λb f=>if b=KN then∃N:St->Hp->Prop,(∀d g,N d g->∃e,e<m/\W e d g)/\h {D with nx:=N,ct:=N,bk:=D.nx} a f else D.nx a f
theorem ub{c:K7}{body:List MR}{tc:TT}{t:TS}(u:P1 (K4 X.prog X.w) X.A X.env X.xe)(K:PT X c tc)(hb:nc X body t):PS X (.While c body [] pos) (AA tc t):=by
 intro d s C H D I h;obtain⟨W,⟨J,F⟩,i⟩:=h;refine wpAny_While (codeAny_whileLoop (λn G=>∃g B,Inv X d g B G/\W n g B) ?_ J ⟨C,H,I,F⟩);rintro n s1⟨e,z,L,E⟩;refine Nr u (aU (K d s1 e z _ L (i n e z E)) λb s2 m=>?_);obtain⟨y,x,l⟩:=m;cases b with
 |true=>
  obtain⟨N,hN,l⟩:=l;rw[if_pos rfl];refine Nr u (aU (hb d s2 e y _ x l) λf M k=>?_);cases f with
  |next=>
   obtain⟨a,j,r,n3⟩:=k;obtain⟨p,q,o⟩:=hN a j n3;exact⟨p,q,a,j,r,o⟩|cont=>
   obtain⟨a,j,r,n3⟩:=k;obtain⟨p,q,o⟩:=hN a j n3;exact⟨p,q,a,j,r,o⟩|brk=>exact k|ret v=>exact k
 |false=>
  rw[if_neg La];exact O7 ⟨e,y,x,l⟩
end
structure It where
 go:Nat->Hp->Prop
 GD:Nat->Hp->V->Hp->Prop
 stop:Nat->Hp->Prop
noncomputable def dG(X:Cx)(a:List (KS×L_))(H:Hp)(b:KS):Prop:=H b=KL/\b≠X.env.locals/\b∉X.fs/\(b∈X.ex\/X.b7.heap.objs.size<=b)/\(∀x c,X.env.cells.lookup x=KE c->c≠b)/\∀p∈X.pn++a,p.1≠b
theorem Inv.AB{X:Cx}{a:List (KS×L_)}{d:St}{H H':Hp}{s:KR}{b:KS}(I:Inv X a d H s)(hb:s.heap.objs.size<=b)(g:H' b=KL):dG X a H' b:=by
 refine⟨g,Nc (Le I.lt hb),I.Al hb,.inr (L7 I.sz hb),λx c e z=>?_,λp f z=>?_⟩
 .obtain⟨v,q⟩:=I.cell x c e;exact absurd (Le q.lt (by rw[z];exact hb)) (LU _)
 .exact absurd (Le (K5 (I.pin p f).1) (by rw[z];exact hb)) (LU _)
structure Turn(P:Lb)(w:Lv)(K:KZ)(tg:K7)(J:It)(fp:List KS)(it:KS)(tn:Nat->Lu->Prop):Prop where
 mem:it∈fp
 obj:∀i h,tn i h->∀b∈fp,∃o,h.get? b=KE o/\∀v,o.data≠.cell v
 keep:∀i h h',tn i h->(∀b∈fp,∀o,h.get? b=KE o->h'.get? b=KE o)->tn i h'
 item:∀(X:Cx),X.prog=P->X.w=w->X.K=K->X.calm=KN->∀(i:Nat)(pins:List (KS×L_))(s:KR)(σ:St)(H:Hp)(E:KJ->KR->Prop),Inv X pins σ H s->(∀b∈fp,dG X pins H b)->tn i s.heap->J.go i H->wpAny (K4 P w) X.A (N1 (.ref it)) (λr s1=>∃u,r=KE u/\wpAny (K4 P w) X.A (Ov tg (.ref it) u) (λ_ s2=>∃x H',Inv X pins σ H' s2/\RelV x u/\J.GD i H x H'/\tn (i+1) s2.heap/\∀b∈fp,H' b=KL) E s1) E s
 done:∀(X:Cx),X.prog=P->X.w=w->X.K=K->X.calm=KN->∀(i:Nat)(pins:List (KS×L_))(s:KR)(σ:St)(H:Hp)(E:KJ->KR->Prop),Inv X pins σ H s->(∀b∈fp,dG X pins H b)->tn i s.heap->J.stop i H->wpAny (K4 P w) X.A (N1 (.ref it)) (λr s1=>r=KL/\Inv X pins σ H s1) E s
 self:∀(A:Lz)(i:Nat)(s:KR)(Q:KJ->KR->Prop)(E:KJ->KR->Prop),tn i s.heap->Q (.ref it) s->wpAny (K4 P w) A (Sb (.ref it)) Q E s
abbrev TI:=St->Hp->(It->Hp->Prop)->Prop
noncomputable def JF(X:Cx)(a:List (KS×L_))(h:St)(tg:K7)(R:It->Hp->Prop)(c:KJ)(s2:KR):Prop:=∃(f:KS)(g:List KS)(e:Nat->Lu->Prop)(J:It)(d:Hp),c=.ref f/\Inv X a h d s2/\Turn X.prog X.w X.K tg J g f e/\e 0 s2.heap/\(∀b∈g,dG X a d b)/\R J d
noncomputable def PI(X:Cx)(tg iter:K7)(c:TI):Prop:=∀(a:List (KS×L_))(s:KR)(b:St)(H:Hp)(R:It->Hp->Prop),Inv X a b H s->c b H R->wpAny (K4 X.prog X.w) X.A (MT iter X.env) (λv s1=>wpAny (K4 X.prog X.w) X.A (Sb v) (JF X a b tg R) X.xe s1) X.xe s
theorem nq{M:Sf}{A:Lz}{E:KJ->KR->Prop}{s:KR}{tg:K7}{it:KS}{u:KJ}{o:L_}{n:String}{b:Array KJ}{Q:Unit->KR->Prop}(c:s.heap.get? it=KE o)(e:o.cls=.type n)(hd:o.data=.fields b)(d:["enumerate","zip","dict_itemiterator","dict_reverseitemiterator","odict_iterator","itertools.zip_longest","itertools.pairwise"].contains n=KO)(a:Q () s):wpAny M A (Ov tg (.ref it) u) Q E s:=by
  unfold Ov;cases tg<;>first
    |exact KP a|(cases u<;>first
        |exact KP a
        | (refine KH (wpAny_load c ?_);rw[e,hd];show wpAny M A (if(["enumerate","zip","dict_itemiterator","dict_reverseitemiterator","odict_iterator","itertools.zip_longest","itertools.pairwise"].contains n&&b[0]?==KE (OG _))=KN then _ else _) Q E s;rw[if_neg (by intro h;rw[d,Q6]at h;cases h)];exact KP a))
noncomputable def JG(K:KZ)(a:KS):It:=⟨λi H=>∃b x,dF K H a b/\b[i]?=KE x,λi H x c=>c=H/\∀b,dF K H a b->b[i]?=KE x,λi H=>∃b,dF K H a b/\b.length<=i⟩
noncomputable def JH(K:KZ)(a:KS):It:=⟨λi H=>∃b x,gj K H a b/\b[i]?=KE x,λi H x c=>c=H/\∀b,gj K H a b->b[i]?=KE x,λi H=>∃b,gj K H a b/\b.length<=i⟩
noncomputable def Hx(lo:Int)(n:Nat):It:=⟨λi _=>i<n,λi H x a=>a=H/\x=.int (lo+i),λi _=>n<=i⟩
theorem sF{P:Lb}{w:Lv}{K:KZ}{tg:K7}(a it:KS):Turn P w K tg (JG K a) [it] it (λi h=>h.IsListIter it a i)where
 mem:=by simp
 obj:=λi h st b hb=>by
  have e:b=it:=by simpa using hb
  subst e;obtain⟨o,e,c,d⟩:=st;exact⟨o,e,λv z=>by rw[d]at z;cases z⟩
 keep:=λi h n st k=>st.at λo e=>k it (by simp) o e;item:=by
  intro X hP hw hK J i f s G H E I m st y;subst hP hw hK;obtain⟨L,x,l,t⟩:=y;obtain⟨r,q,p,O⟩:=I.list l;obtain⟨u,hu,N⟩:=q.get t;obtain⟨F,D,R,C,B,A⟩:=m it (by simp);refine Ql st p.isList (x:=u) (by simpa using hu) λn g M=>?_;have T:Inv X f G H {s with heap:=n}:=I.turned (t':=s.toks) (λb o hb e=>(M.2 b hb).trans e) F D C B A;obtain⟨o,e,c,d⟩:=id g;exact⟨u,rfl,nq (s:={s with heap:=n}) e c d (by decide) ⟨x,H,T,N,⟨rfl,λU Q=>by rw[I.t_ Q l];exact t⟩,g,λb hb=>(m b hb).1⟩⟩
 done:=by
  intro X hP hw hK J i f s G H E I m st y;subst hP hw hK;obtain⟨L,l,t⟩:=y;obtain⟨r,q,p,O⟩:=I.list l;obtain⟨F,D,R,C,B,A⟩:=m it (by simp);have V:=q.length;exact QR (I.ok.hd J) st p.isList (by simp;omega) λn S=>⟨rfl,I.turned (t':=s.toks) (λb o hb e=>S b o hb e) F D C B A⟩
 self:=λ_ _ _ _ _ st h=>wpAny_pyIter_listiter st h
theorem pD{P:Lb}{w:Lv}{K:KZ}{tg:K7}(a it:KS):Turn P w K tg (JH K a) [it] it (λi h=>h.IsTupleIter it a i)where
 mem:=by simp
 obj:=λi h st b hb=>by
  have e:b=it:=by simpa using hb
  subst e;obtain⟨o,e,c,d⟩:=st;exact⟨o,e,λv z=>by rw[d]at z;cases z⟩
 keep:=λi h q st k=>st.at λo e=>k it (by simp) o e;item:=by
  intro X hP hw hK J i f s G H E I n st y;subst hP hw hK;obtain⟨L,x,m,t⟩:=y;obtain⟨g,r,p,O⟩:=I.tuple m;obtain⟨u,hu,N⟩:=r.get t;obtain⟨F,D,R,C,B,A⟩:=n it (by simp);refine wpAny_pyNext_tuple_item st (show s.heap.IsTuple a g.toArray from p) (x:=u) (by simpa using hu) λq j M=>?_;have T:Inv X f G H {s with heap:=q}:=I.turned (t':=s.toks) (λb o hb e=>(M.2 b hb).trans e) F D C B A;obtain⟨o,e,c,d⟩:=id j;exact⟨u,rfl,nq (s:={s with heap:=q}) e c d (by decide) ⟨x,H,T,N,⟨rfl,λU Q=>by rw[I.sE Q m];exact t⟩,j,λb hb=>(n b hb).1⟩⟩
 done:=by
  intro X hP hw hK J i f s G H E I n st y;subst hP hw hK;obtain⟨L,m,t⟩:=y;obtain⟨g,r,p,O⟩:=I.tuple m;obtain⟨F,D,R,C,B,A⟩:=n it (by simp);have V:=r.length;exact wpAny_pyNext_tuple_end (I.ok.hd J) st (show s.heap.IsTuple a g.toArray from p) (by simp;omega) λq S=>⟨rfl,I.turned (t':=s.toks) (λb o hb e=>S b o hb e) F D C B A⟩
 self:=λ_ _ _ _ _ st h=>wpAny_pyIter_tupleiter st h
theorem pE{P:Lb}{w:Lv}{K:KZ}{tg:K7}(it:KS)(lo:Int)(n:Nat):Turn P w K tg (Hx lo n) [it] it (λi h=>IsRangeIter h it (lo+(i:Nat)*1) ((n:Int)-(i:Nat)) 1)where
 mem:=by simp
 obj:=λi h st b hb=>by
  have e:b=it:=by simpa using hb
  subst e;exact⟨_,st,λv z=>by
   have B:Data.fields _=Data.cell v:=z;cases B⟩
 keep:=λi h j st k=>k it (by simp) _ st;item:=by
  intro X hP hw hK m i a s y H E I g st l;subst hP hw hK;obtain⟨x,u,F,r,q,p⟩:=g it (by simp);have W:=Walks.range (prog:=X.prog) (w:=X.w) (I.ok.hd m) it lo 1 n;refine W.item i s _ _ l st λv j A D d C=>?_;obtain⟨t,rfl⟩:=D;have J:Inv X a y H {s with heap:=j,toks:=A}:=I.turned (λb o hb e=>C b o (by simpa using hb) e) x u r q p;refine⟨_,rfl,nq (s:={s with heap:=j,toks:=A}) (n:="range_iterator") d rfl rfl (by decide) ⟨.int (lo+i),H,J,⟨t,?_⟩,⟨rfl,rfl⟩,d,λb hb=>(g b hb).1⟩⟩;rw[Int.mul_one]
 done:=by
  intro X hP hw hK m i a s y H E I g st l;subst hP hw hK;obtain⟨x,u,F,r,q,p⟩:=g it (by simp);exact wpAny_pyNext_range_end (I.ok.hd m) st (by have:n<=i:=l;omega) λj G=>⟨rfl,I.turned (t':=s.toks) (λb o hb e=>G b o hb e) x u r q p⟩
 self:=λ_ _ _ _ _ st h=>wpAny_pyIter_rangeiter st h
end L2
namespace L2
open PySem PySem.Spec PyProof.Rows
section
variable{X:Cx}{tg:K7}
theorem uc{d:List (KS×L_)}{i:St}{H:Hp}{s:KR}{R:It->Hp->Prop}{E:KJ->KR->Prop}{lo c:Int}{t u v:SH}{j:Nat}(I:Inv X d i H s)(p:-(2^62)<=lo)(n:lo<2^62)(m:-(2^62)<=c)(l:c<2^62)(q:R (Hx lo (c-lo).toNat) H):wpAny (K4 X.prog X.w) X.A (Sb (.ref s.heap.objs.size)) (JF X d i tg R) E {s with heap:=s.heap.push {cls:=.type "range",data:=.fields #[.int lo t,.int c u,.int 1 v]},toks:=j}:=by
 refine wpAny_pyIter_range (IsRange.new ..) (small_one p n m l) ?_;have k:Inv X d i H {s with heap:=s.heap.push {cls:=.type "range",data:=.fields #[.int lo t,.int c u,.int 1 v]},toks:=j}:=I.kept λb o e=>KQ _ e;refine⟨(s.heap.push {cls:=.type "range",data:=.fields #[.int lo t,.int c u,.int 1 v]}).objs.size,[(s.heap.push {cls:=.type "range",data:=.fields #[.int lo t,.int c u,.int 1 v]}).objs.size],_,_,H,rfl,k.kept (t':=j) λb o e=>KQ _ e,pE _ lo (c-lo).toNat,?_,λb hb=>?_,q⟩
 .have x:lo+((0:Nat):Int)*1=lo:=by simp
  have r:(((c-lo).toNat:Nat):Int)-((0:Nat):Int)=P2 lo c 1:=by rw[rangeSize_one];split<;>omega
  show IsRangeIter _ _ (lo+((0:Nat):Int)*1) ((((c-lo).toNat:Nat):Int)-((0:Nat):Int)) 1;rw[x,r];exact K9 _ rfl
 .have e:b=(s.heap.push {cls:=.type "range",data:=.fields #[.int lo t,.int c u,.int 1 v]}).objs.size:=by simpa using hb
  subst e;exact k.AB (K8 _) (k.aM.fresh (K8 _))
noncomputable def D9(c:TA):TI:=λa H R=>c a H λb d=>∃j:Int,b=[.int j]/\-(2^62)<=j/\j<2^62/\R (Hx 0 j.toNat) d
theorem sG{a:K7}{d:TA}{p pos:My}(n:Gl X "range")(m:X.mg "range"=KL)(ha:PA X [a] d)(l:Ld [a] X.env=[(KO,MT a X.env)]:=by rfl):PI X tg (.Call (.Name "range" p) [a] [] pos) (D9 d):=by
 intro b s f H R I h;refine Call_ (eL I n m boot_range (Mj (aU (ha pos b s f H _ I h) λv s1⟨u,w,o,i,c⟩=>?_) l rfl));obtain⟨j,e,c,k,q⟩:=c;subst e;cases i with|cons r g=>
  cases g;obtain⟨t,rfl⟩:=r;exact call_range_1 (uc o (by omega) (by omega) c k (by simpa using q))
noncomputable def Hy(f:TI)(g:TG)(h:TS):TS:=λD a H=>f a H λJ k=>∃W:Nat->Nat->St->Hp->Prop,(∃m,W 0 m a k)/\∀i m a H,W i m a H->(J.stop i H/\D.nx a H)\/(J.go i H/\∃N:St->Hp->Prop,(∀b c,N b c->∃e,e<m/\W (i+1) e b c)/\∀x c,J.GD i H x c->g x a c λd j=>h {D with nx:=N,ct:=N,bk:=D.nx} d j)
noncomputable def dY(fp:List KS)(h:Lu):List (KS×L_):=fp.filterMap λb=>(h.get? b).map λo=>(b,o)
theorem dZ{fp:List KS}{h:Lu}{b:KS}{o:L_}(hb:b∈fp)(e:h.get? b=KE o):(b,o)∈dY fp h:=List.mem_filterMap.mpr ⟨b,hb,by rw[e];rfl⟩
theorem kX{fp:List KS}{h:Lu}{p:KS×L_}(a:p∈dY fp h):p.1∈fp/\h.get? p.1=KE p.2:=by
 obtain⟨b,hb,e⟩:=List.mem_filterMap.mp a;cases q:h.get? b with
 |none=>rw[q]at e;cases e|some o=>
  rw[q]at e;have c:(b,o)=p:=KY e;subst c;exact⟨hb,q⟩
theorem Inv.pinned{a:List (KS×L_)}{c:St}{H:Hp}{s:KR}{fp:List KS}(I:Inv X a c H s)(i:∀b∈fp,dG X a H b)(h:∀b∈fp,∃o,s.heap.get? b=KE o/\∀v,o.data≠.cell v):Inv X (a++dY fp s.heap) c H s:=I.dX λp g=>(List.mem_append.mp g).elim (λz=>I.pin p (Lg _ z)) λz=>by
  obtain⟨hb,e⟩:=kX z;obtain⟨l,k,j,_⟩:=i p.1 hb;obtain⟨o,f,d⟩:=h p.1 hb;rw[e]at f;cases f;exact⟨e,l,k,j,d⟩
theorem Inv.gp{a pl:List (KS×L_)}{b:St}{H:Hp}{s:KR}(I:Inv X (a++pl) b H s):Inv X a b H s:=I.dX λp c=>I.pin p (Lg _ (MX _ c))
theorem AD{iter:K7}{body:List MR}{V:TI}{g:TG}{Z:TS}{pos:My}(G:P1 (K4 X.prog X.w) X.A X.env X.xe)(hc:X.calm=KN)(hi:PI X tg iter V)(hg:PG X tg g)(hb:nc X body Z)(hs:∀x,Nu iter X.env x=pure x:=by intro _;rfl):PS X (.For tg iter body [] pos) (Hy V g Z):=by
 intro c s U H D I h;refine wpAny_For (aU (hi c s U H _ I h) λv s1 h1=>aU h1 λa0 s2 h2=>?_) hs;obtain⟨it,L,Y,J,H2,e,I2,T,aW,f2,W,⟨m0,w0⟩,C⟩:=h2;subst e;have p:∀{y:Hp},(∀b∈L,y b=KL)->∀b∈L,dG X c y b:=λhn b hb=>⟨hn b hb,(f2 b hb).2⟩;refine codeAny_forLoop_any (λn s'=>∃i l y,Inv X c l y s'/\Y i s'.heap/\(∀b∈L,y b=KL)/\W i n l y) ?_ m0 ⟨0,U,H2,I2,aW,λb hb=>(f2 b hb).1,w0⟩;rintro n s3⟨i,k,M,I3,E,K,w3⟩;rcases C i n k M w3 with⟨stop,qn⟩|⟨go,N,hN,step⟩
 .refine Nr G (aU (T.done X rfl rfl rfl hc i c s3 k M X.xe I3 (p K) E stop) λr s4 j=>?_);obtain⟨Q,I4⟩:=j;subst Q;exact O7 ⟨k,M,I4,qn⟩
 .refine Nr G (aU (T.item X rfl rfl rfl hc i c s3 k M X.xe I3 (p K) E go) λr s4 j=>?_);obtain⟨u,Q,h4⟩:=j;subst Q;refine Nr G (aU h4 λ_ s5 j=>?_);obtain⟨x,H5,I5,r5,y5,B,R⟩:=j;have S:=I5.pinned (p R) (T.obj _ _ B);refine Nr G (aU (hg _ s5 k H5 x u _ S r5 (step x H5 y5)) λ_ s6 j=>?_);obtain⟨O,H6,I6,q6⟩:=j;refine Nr G (aU (hb _ s6 O H6 _ I6 q6) λf P z=>?_);have SR:∀{a:St}{t:Hp},Inv X (c++dY L s5.heap) a t P->N a t->∃m,m<n/\∃i l y,Inv X c l y P/\Y i P.heap/\(∀b∈L,y b=KL)/\W i m l y:=λ{a t}q F=>by
   obtain⟨m',hm,w7⟩:=hN a t F;refine⟨m',hm,i+1,a,t,q.gp,T.keep _ _ _ B λb hb o e=>(q.pin (b,o) (Lg _ (Lg _ (dZ hb e)))).1,λb hb=>?_,w7⟩;obtain⟨o,e,d⟩:=T.obj _ _ B b hb;exact(q.pin (b,o) (Lg _ (Lg _ (dZ hb e)))).2.1
  cases f with
  |next=>obtain⟨a,t,q,F⟩:=z;exact SR q F|cont=>obtain⟨a,t,q,F⟩:=z;exact SR q F|brk=>obtain⟨a,t,q,z⟩:=z;exact⟨a,t,q.gp,z⟩|ret v=>obtain⟨x7,a,t,q,r7,z⟩:=z;exact⟨x7,a,t,q.gp,r7,z⟩
end
end L2
namespace L2
open PySem PySem.Spec PyProof.Rows
abbrev R2:=V->V->Hp->VK->Prop
noncomputable def iZ(X:Cx)(f:KJ->KJ->Pu KJ)(r:R2):Prop:=∀(a:List (KS×L_))(s:KR)(b:St)(H:Hp)(x y:V)(v u:KJ)(Q:VK),Inv X a b H s->RelV x v->RelV y u->r x y H Q->wpAny (K4 X.prog X.w) X.A (f v u) (EP X a b Q) X.xe s
noncomputable def Hz(X:Cx)(f:KJ->Pu KJ)(r:V->Hp->VK->Prop):Prop:=∀(a:List (KS×L_))(s:KR)(b:St)(H:Hp)(x:V)(v:KJ)(Q:VK),Inv X a b H s->RelV x v->r x H Q->wpAny (K4 X.prog X.w) X.A (f v) (EP X a b Q) X.xe s
noncomputable def dH(X:Cx)(f:KJ)(r:List V->Hp->VK->Prop):Prop:=∀(a:List (KS×L_))(s:KR)(b:St)(H:Hp)(c:List V)(d:List KJ)(Q:VK),Inv X a b H s->aq c d->r c H Q->wpAny (K4 X.prog X.w) X.A (call f d) (EP X a b Q) X.xe s
noncomputable def HA(X:Cx)(r:V->Hp->(Bool->Hp->Prop)->Prop):Prop:=∀(a:List (KS×L_))(s:KR)(b:St)(H:Hp)(x:V)(v:KJ)(Q:Bool->Hp->Prop),Inv X a b H s->RelV x v->r x H Q->wpAny (K4 X.prog X.w) X.A (truthy v) (TP X a b Q) X.xe s
noncomputable def D_(r:R2)(c b:TE):TE:=λa H Q=>c a H λx e=>b a e λy d=>r x y d Q
noncomputable def J8(r:V->Hp->VK->Prop)(b:TE):TE:=λa H Q=>b a H λx c=>r x c Q
noncomputable def rI(C:Int->Int->Prop)(g:Int->Int->V):R2:=λx y H Q=>∃i j,x=.int i/\y=.int j/\C i j/\Q (g i j) H
noncomputable def zE(g:Int->Int->V):R2:=λx y H Q=>∃i j,x=.int i/\y=.int j/\Q (g i j) H
noncomputable def rU(g:Int->V):V->Hp->VK->Prop:=λx H Q=>∃i,x=.int i/\Q (g i) H
section
variable{X:Cx}{a b c:K7}{ta tb tc:TE}{pos:My}
theorem AE(ha:PE X a ta)(hb:PE X b tb){d:List (KS×L_)}{s:KR}{g:St}{H:Hp}{R:V->V->Hp->Prop}(I:Inv X d g H s)(h:ta g H λx l=>tb g l λy i=>R x y i){Q:KJ->KR->Prop}{f:KJ->KJ->Pu KJ}(q:∀v u s2 x y i,Inv X d g i s2->RelV x v->RelV y u->R x y i->wpAny (K4 X.prog X.w) X.A (f v u) Q X.xe s2):wpAny (K4 X.prog X.w) X.A (MT a X.env) (λv k=>wpAny (K4 X.prog X.w) X.A (MT b X.env) (λu j=>wpAny (K4 X.prog X.w) X.A (f v u) Q X.xe j) X.xe k) X.xe s:=by
 refine aU (ha d s g H _ I h) λv s1 e=>?_;obtain⟨x,l,t,n,p⟩:=e;refine aU (hb d s1 g l _ t p) λu s2 e=>?_;obtain⟨y,i,r,m,o⟩:=e;exact q v u s2 x y i r n m o
theorem bf{op:Q8}{r:R2}(i:iZ X (Nh op) r)(ha:PE X a ta)(hb:PE X b tb):PE X (.BinOp a op b pos) (D_ r ta tb):=by
 intro d s e H Q I h;exact wpAny_BinOp (AE ha hb I h λv u s2 x y k j g f q=>i d s2 e k x y v u Q j g f q)
theorem Ea{op:UnaryOp}{r:V->Hp->VK->Prop}(i:Hz X (unaryOp op) r)(ha:PE X a ta):PE X (.UnaryOp op a pos) (J8 r ta):=by
 intro d s e H Q I h;exact UnaryOp_ (aU (ha d s e H _ I h) λv s1⟨x,k,j,f,g⟩=>i d s1 e k x v Q j f g)
theorem GF{f:KJ->KJ->Pu KJ}{C:Int->Int->Prop}{g:Int->Int->Int}(Qk:∀(i j:Int)(t u:SH)(s:KR)(Q:KJ->KR->Prop)(E:KJ->KR->Prop),C i j->Q (.int (g i j) s.toks) {s with toks:=s.toks+1}->wpAny (K4 X.prog X.w) X.A (f (.int i t) (.int j u)) Q E s):iZ X f (rI C λi j=>.int (g i j)):=by
 intro d s n H x y v u Q I l k h;obtain⟨i,j,rfl,rfl,m,q⟩:=h;obtain⟨t,rfl⟩:=l;obtain⟨e,rfl⟩:=k;exact Qk i j t e s _ _ m ⟨.int (g i j),H,I.tok _,⟨_,rfl⟩,q⟩
theorem HB{f:KJ->KJ->Pu KJ}{g:Int->Int->Int}(Qk:∀(i j:Int)(t u:SH)(s:KR)(Q:KJ->KR->Prop)(E:KJ->KR->Prop),Q (.int (g i j) s.toks) {s with toks:=s.toks+1}->wpAny (K4 X.prog X.w) X.A (f (.int i t) (.int j u)) Q E s):iZ X f (zE λi j=>.int (g i j)):=by
 intro d s m H x y v u Q I l k h;obtain⟨i,j,rfl,rfl,q⟩:=h;obtain⟨t,rfl⟩:=l;obtain⟨e,rfl⟩:=k;exact Qk i j t e s _ _ ⟨.int (g i j),H,I.tok _,⟨_,rfl⟩,q⟩
theorem xu{f:KJ->KJ->Pu KJ}{g:Int->Int->Bool}(Qk:∀(i j:Int)(t u:SH)(s:KR)(Q:KJ->KR->Prop)(E:KJ->KR->Prop),Q (.bool (g i j)) s->wpAny (K4 X.prog X.w) X.A (f (.int i t) (.int j u)) Q E s):iZ X f (zE λi j=>.bl (g i j)):=by
 intro d s m H x y v u Q I l k h;obtain⟨i,j,rfl,rfl,q⟩:=h;obtain⟨t,rfl⟩:=l;obtain⟨e,rfl⟩:=k;exact Qk i j t e s _ _ ⟨.bl (g i j),H,I,rfl,q⟩
noncomputable def HC(i j:Int):Prop:=0<j/\j<1073741824
noncomputable def Eb(i j:Int):Prop:=0<=j/\j<=1000000/\i.natAbs<2^64
noncomputable def xv(i j:Int):Prop:=(-(2^64)<i/\i<2^64)\/(-(2^64)<j/\j<2^64)
theorem xv.ok{i j:Int}(h:xv i j):IntMulOk i j:=by
 rcases h with⟨e,d⟩|⟨e,d⟩;.exact .of_left (intBits_le_64 e d)
 .exact .of_right (intBits_le_64 e d)
theorem jo:iZ X (Nh .Add) (zE λi j=>.int (i+j)):=HB λ_ _ _ _ _ _ _ q=>add_int q
theorem fP:iZ X (Nh .Mult) (rI xv λi j=>.int (i*j)):=GF λ_ _ _ _ _ _ _ d q=>mul_int q d.ok
theorem me:iZ X (Nh .FloorDiv) (rI HC λi j=>.int (i/j)):=GF λi j _ _ _ _ _ d q=>by
 have f:(0:Int)<j:=d.1;have e:j<1073741824:=d.2;exact floordiv_int (by omega) (by rw[Int.fdiv_eq_ediv_of_nonneg i (by omega)];exact q) (.inl (PyProof.noPylong_small (by omega)))
theorem dw:iZ X (Nh .Mod) (rI (λ_ j=>0<j) λi j=>.int (i%j)):=GF λi j _ _ _ _ _ d q=>by
 have e:(0:Int)<j:=d;exact mod_int' (by omega) (by rw[Int.fmod_eq_emod_of_nonneg i (by omega)];exact q)
theorem ud:iZ X (Nh .Pow) (rI Eb λi j=>.int (i^j.toNat)):=GF λ_ _ _ _ _ _ _ d q=>pow_int_small d.1 d.2.1 d.2.2 q
theorem J9{f:KJ->Pu KJ}{g:Int->Int}(Qk:∀(i:Int)(t:SH)(s:KR)(Q:KJ->KR->Prop)(E:KJ->KR->Prop),Q (.int (g i) s.toks) {s with toks:=s.toks+1}->wpAny (K4 X.prog X.w) X.A (f (.int i t)) Q E s):Hz X f (rU λi=>.int (g i)):=by
 intro d s j H x v Q I e h;obtain⟨i,rfl,q⟩:=h;obtain⟨t,rfl⟩:=e;exact Qk i t s _ _ ⟨.int (g i),H,I.tok _,⟨_,rfl⟩,q⟩
theorem AF:Hz X (unaryOp .USub) (rU λi=>.int (-i)):=J9 λ_ _ _ _ _ q=>neg_int q
end
section
variable{X:Cx}{a b c:K7}{ta tb tc:TE}{pos:My}
theorem zF:iZ X (Lx .Lt) (zE λi j=>.bl (decide (i<j))):=xu λ_ _ _ _ _ _ _ q=>lt_int q
theorem Ec:iZ X (Lx .LtE) (zE λi j=>.bl (decide (i<=j))):=xu λ_ _ _ _ _ _ _ q=>le_int q
theorem uf:iZ X (Lx .Gt) (zE λi j=>.bl (decide (j<i))):=xu λ_ _ _ _ _ _ _ q=>gt_int q
theorem Ed:iZ X (Lx .GtE) (zE λi j=>.bl (decide (j<=i))):=xu λ_ _ _ _ _ _ _ q=>ge_int q
theorem gW(b:K7){op:Oj}(h:op≠.In:=by decide)(d:op≠.NotIn:=by decide):NY op b=KO:=by
 have f:(op==CmpOp.In)=KO:=by cases op<;>first|rfl|exact absurd rfl h
 have e:(op==CmpOp.NotIn)=KO:=by cases op<;>first|rfl|exact absurd rfl d
 cases b<;>simp[NY,f,e]
theorem xw{op:Oj}{r:R2}(i:iZ X (Lx op) r)(ha:PE X a ta)(hb:PE X b tb)(j:NY op b=KO):PE X (.Compare a [op] [b] pos) (D_ r ta tb):=by
 intro d s e H Q I h;exact wpAny_Compare1 (AE ha hb I h λv u s2 x y l k g f q=>i d s2 e l x y v u Q k g f q) j
noncomputable def ug(t:TE):TT:=λd H Q=>t d H λx e=>∃k,x=.bl k/\Q k e
theorem fu{op:Oj}{r:R2}(o:iZ X (Lx op) r)(ha:PE X a ta)(hb:PE X b tb)(p:NY op b=KO):PT X (.Compare a [op] [b] pos) (ug (D_ r ta tb)):=by
 intro d s f H Q I h;refine wpAny_isTrue_Compare1 (aU (ha d s f H _ I h) λv s1⟨x,C,w,j,n⟩=>aU (hb d s1 f C _ w n) λu s2⟨y,B,t,i,m⟩=>aU (o d s2 f B x y v u _ t j i m) λc D⟨z,A,q,g,k,e,l⟩=>?_) p;subst e;cases g;exact Mi ⟨A,q,l⟩
noncomputable def pF(r g:R2)(ta tb tc:TE):TE:=λd H Q=>ta d H λx j=>tb d j λy i=>r x y i λz e=>∃k,z=.bl k/\(if k=KN then tc d e λf h=>g y f h Q else Q (.bl KO) e)
theorem uh{op g:Oj}{r m:R2}(J:iZ X (Lx op) r)(j:iZ X (Lx g) m)(ha:PE X a ta)(hb:PE X b tb)(L:PE X c tc)(K:Ro [op,g] [b,c]=KO:=by with_unfolding_all rfl):PE X (.Compare a [op,g] [b,c] pos) (pF r m ta tb tc):=by
 intro f s i H Q I h;refine Compare_chain (aU (ha f s i H _ I h) λv s1⟨x,S,O,D,G⟩=>chain_link (aU (hb f s1 i S _ O G) λu s2⟨y,R,N,l,F⟩=>aU (J f s2 i R x y v u _ N D l F) λd A⟨z,p,o,C,k,e,n⟩=>?_)) K;subst e;cases C;refine Mi ?_;cases k with
 |false=>exact ite_ff ⟨.bl KO,p,o,rfl,n⟩|true=>exact ite_tt (chain_last (aU (L f A i p _ o n) λt w⟨q,P,M,B,E⟩=>j f w i P y q u t Q M l B E))
theorem ui{op g:Oj}{r n:R2}(N:iZ X (Lx op) r)(l:iZ X (Lx g) n)(ha:PE X a ta)(hb:PE X b tb)(P:PE X c tc)(O:Ro [op,g] [b,c]=KO:=by with_unfolding_all rfl):PT X (.Compare a [op,g] [b,c] pos) (ug (pF r n ta tb tc)):=by
 intro f s i H Q I h;refine isTrue_chain (aU (ha f s i H _ I h) λv s1⟨x,H1,W,F,L⟩=>test_link (aU (hb f s1 i H1 _ W L) λu s2⟨y,H2,V,m,K⟩=>aU (N f s2 i H2 x y v u _ V F m K) λd B⟨z,q,p,E,k,e,o⟩=>?_)) O;subst e;cases E;refine Mi ?_;cases k with
 |false=>
  obtain⟨k',S,M⟩:=o;cases S;exact ite_ff ⟨q,p,M⟩|true=>
  refine ite_tt (test_last (aU (P f B i q _ p o) λw A⟨t,Z,U,D,J⟩=>aU (l f A i Z y t u w _ U m D J) λd' s5 j=>?_));obtain⟨z2,Y,T,C,k2,R,G⟩:=j;subst R;cases C;exact Mi ⟨Y,T,G⟩
noncomputable def Ee(K:KZ)(x:V)(H:Hp)(k:Bool):Prop:=match x with
 |.bw=>k=KO|.bl b=>k=b|.int i=>k=(i !=0)|.str y=>y.length<=KU/\k=((y.length:Int)!=0)|.Ai y=>y.size<=KU/\k=((y.size:Int)!=0)|.ref p=>(∃d,dF K H p d/\k=!d.isEmpty)\/(∃d,gj K H p d/\k=!d.isEmpty)\/∃e,H p=KE (.dK e)/\k=!e.isEmpty|_=>False
theorem pG{e:Type}{d:List (e×V)}{f:List (e×KJ)}(r:KV d f):(!f.isEmpty)=!d.isEmpty:=by cases r<;>rfl
theorem jq{xs:List V}{d:List KJ}(r:aq xs d):(!d.toArray.isEmpty)=!xs.isEmpty:=by cases r<;>simp
theorem fQ:(KU:Nat)<2^63:=by rw[N5];decide
theorem AG:HA X (λx H Q=>∃k,Ee X.K x H k/\Q k H):=by
 intro z s D H x v Q I l h;obtain⟨k,e,q⟩:=h;have F:=fQ;have E:KU=16777216:=N5;cases x with
 |bw=>
  cases l;have d:k=KO:=e;subst d;exact truthy_none ⟨H,I,q⟩|bl b=>
  cases l;have d:k=b:=e;subst d;exact Mi ⟨H,I,q⟩|int i=>
  obtain⟨t,rfl⟩:=l;have d:k=(i !=0):=e;subst d;exact PySem.P.truthy_int ⟨H,I,q⟩|str y=>
  obtain⟨t,rfl⟩:=l;obtain⟨B,d⟩:y.length<=KU/\k=((y.length:Int)!=0):=e;subst d;exact PySem.P.truthy_str (by omega) ⟨H,I.tok _,q⟩|Ai y=>
  obtain⟨t,rfl⟩:=l;obtain⟨B,d⟩:y.size<=KU/\k=((y.size:Int)!=0):=e;subst d;exact PySem.W.truthy_bytes (by omega) ⟨H,I.tok _,q⟩|ref p=>
  cases l;have d:(∃j,dF X.K H p j/\k=!j.isEmpty)\/(∃j,gj X.K H p j/\k=!j.isEmpty)\/∃f,H p=KE (.dK f)/\k=!f.isEmpty:=e;rcases d with⟨j,n,d⟩|⟨j,n,d⟩|⟨f,n,d⟩
  .subst d;obtain⟨u,r,pl,A⟩:=I.list n;have g:=r.length;exact wpAny_truthy_list pl.isList (by simp only[K3];omega) ⟨H,I.tok _,by rw[jq r];exact q⟩
  .subst d;obtain⟨u,r,pl,A⟩:=I.tuple n;have g:=r.length;exact truthy_tuple pl (by simp only[K3];omega) ⟨H,I.tok _,by rw[jq r];exact q⟩
  .subst d;obtain⟨A,C,o,r,m⟩:f.length<=KU/\(p==Mu)=KO/\∃o,KV f o/\s.heap.DictOf (ar X.prog X.w) p o:=I.aM p _ n;have g:f.length=o.length:=Paired.length r;exact wpAny_truthy_dict C m (by omega) ⟨H,I.tok _,by rw[pG r];exact q⟩|_=>exact(show False from e).elim
theorem uj(ha:PE X a ta)(i:∀whole,RF a X.env whole=(do let v<-whole;Rm a.pos;Qj [v] (truthy v))):PT X a (λe H Q=>ta e H λx H'=>∃k,Ee X.K x H' k/\Q k H'):=by
 intro d s e H Q I h;exact isTrue_plain (aU (ha d s e H _ I h) λv s1⟨x,l,j,f,g⟩=>AG d s1 e l x v Q j f g) (i _)
theorem vals1{x:V}{us:List KJ}(r:aq [x] us):∃u,us=[u]/\RelV x u:=by cases r with|cons e d=>cases d;exact⟨_,rfl,e⟩
theorem vals2{x y:V}{us:List KJ}(r:aq [x,y] us):∃u w',us=[u,w']/\RelV x u/\RelV y w':=by cases r with|cons g f=>cases f with|cons e d=>cases d;exact⟨_,_,rfl,g,e⟩
noncomputable def HD(K:KZ)(x:V)(H:Hp)(n:Nat):Prop:=match x with
 |.str y=>y.length<=KU/\n=y.length|.Ai y=>y.size<=KU/\n=y.size|.ref p=>(∃d,dF K H p d/\n=d.length)\/∃d,gj K H p d/\n=d.length|_=>False
theorem uk:dH X (.builtin "len") (λxs H Q=>∃x n,xs=[x]/\HD X.K x H n/\Q (.int n) H):=by
 intro l s v H xs w Q I r h;obtain⟨x,n,rfl,e,q⟩:=h;obtain⟨u,rfl,g⟩:=vals1 r;have A:=fQ;have z:KU=16777216:=N5;cases x with
 |str y=>
  obtain⟨t,rfl⟩:=g;obtain⟨o,f⟩:y.length<=KU/\n=y.length:=e;subst f;exact len_str (by omega) ⟨.int _,H,I.tok _,⟨_,rfl⟩,q⟩|Ai y=>
  obtain⟨t,rfl⟩:=g;obtain⟨o,f⟩:y.size<=KU/\n=y.size:=e;subst f;exact PySem.W.len_bytes (by omega) ⟨.int _,H,I.tok _,⟨_,rfl⟩,q⟩|ref p=>
  cases g;have f:(∃xs,dF X.K H p xs/\n=xs.length)\/∃xs,gj X.K H p xs/\n=xs.length:=e;rcases f with⟨xs,k,f⟩|⟨xs,k,f⟩
  .subst f;obtain⟨j,i,pl,m⟩:=I.list k;have d:=i.length;exact Rt pl.isList (by simp only[K3];omega) ⟨.int xs.length,H,I.tok _,⟨_,by simp only[K3];rw[d]⟩,q⟩
  .subst f;obtain⟨j,i,pl,m⟩:=I.tuple k;have d:=i.length;exact len_tuple pl (by simp only[K3];omega) ⟨.int xs.length,H,I.tok _,⟨_,by simp only[K3];rw[d]⟩,q⟩|_=>exact(show False from e).elim
end
end L2
namespace L2
open PySem PySem.Spec PyProof.Rows
structure AH(h:Lu)(x dx C:KS)(mA:Lf->Option KJ):Prop where
 obj:h.get? x=KE (QB C dx)ns:h.Ns1 dx mA
 ne:dx≠x
theorem sH{h:Lu}{g:KS}{d:Lf->Option KJ}(n:h.Ns1 g d):∃c,h.get? g=KE c/\∀name,Q9 name c=KE (d name):=by
 obtain⟨o,f,p,j,hd,l,_,k⟩:=n;refine⟨o,j,λname=>?_⟩;have e:=k name;unfold nsFind findBy at e;rw[<-Array.find?_toList]at e;unfold Q9;rw[hd];dsimp only;split
 .rename_i y q;rw[q]at e;exact congrArg KE e
 .rename_i q;rw[q]at e;have a:f.toList.any (·.refKey)=KO:=by
   rw[List.any_eq_false];intro y i;obtain⟨z,t,b⟩:=l y (Array.mem_toList_iff.mp i);simp[DictEntry.refKey,b]
  have m:¬f.toList.any (·.refKey)=KN:=by rw[a];exact La
  rw[if_neg m];exact congrArg KE e
theorem AH.look{h:Lu}{x c C:KS}{b:Lf->Option KJ}(I:AH h x c C b):∃a,PySem.W.InstAt h x (QB C c) C (KE a)/\∀name,Q9 name a=KE (b name):=let⟨a,d,e⟩:=sH I.ns;⟨a,⟨I.obj,rfl,rfl,d⟩,e⟩
theorem l7.some_of{v:V}{o:Option KJ}(r:l7 (KE v) o):∃u,o=KE u/\RelV v u:=by cases o with
 |none=>exact(show False from r).elim|some u=>exact⟨u,rfl,r⟩
section
variable{P:Lb}{w:Lv}{H H':Hp}{h h':Lu}{a C dx:KS}{fs fs':List (Lf×V)}
theorem xx(aM:iH P w H h)(e:H a=KE (.ins C dx fs)):∃b,AH h a dx C b/\(∀f,l7 (fs.lookup f) (b f))/\PySem.Within b (fs.map (·.1))/\fs.length<=1000/\H dx=KE (.own a):=by
 obtain⟨d,z,ne,ob,b,n,r,q⟩:=(show bj P w H h a (.ins C dx fs)from aM a _ e);exact⟨b,⟨ob,n,ne⟩,r,q,z,d⟩
end
structure HE(K:KZ)(C:KS):Prop where
 pg:PySem.W.plainGet K C Str.empty=KN
 hd:PySem.W.hasDictIn K C=KN
 po:PySem.W.plainOver K C=KN
 sa:PySem.W.findIn K (.ref C) "__setattr__"=KE (KE (.builtin "object.__setattr__"))
theorem HE.get{K:KZ}{C:KS}(c:HE K C)(f:Lf):PySem.W.plainGet K C f=KN:=c.pg
section
variable{X:Cx}{pins:List (KS×L_)}{σ:St}{H:Hp}{s:KR}{A:Lz}{E:KJ->KR->Prop}{Q:KJ->KR->Prop}{c:KJ}{b:Bool}
inductive i5(K:KZ)(H:Hp):V->KJ->Prop where|bw:i5 K H .bw (.type "NoneType")|bl(x:Bool):i5 K H (.bl x) (.type "bool")|int(i:Int):i5 K H (.int i) (.type "int")|str(x:Lf):i5 K H (.str x) (.type "str")|Du(x:UInt64):i5 K H (.Du x) (.type "float")|lst{a:KS}{xs:List V}(e:H a=KE (.lst xs)):i5 K H (.ref a) (.type "list")|b6{a:KS}{o:L_}{xs:List V}(e:H a=KE (.b6 o (.lst xs))):i5 K H (.ref a) (.type "list")|tup{a:KS}{xs:List V}(e:H a=KE (.tup xs)):i5 K H (.ref a) (.type "tuple")|dK{a:KS}{kvs:List (Key×V)}(e:H a=KE (.dK kvs)):i5 K H (.ref a) (.type "dict")|dT{a:KS}{kvs:List (List Key×V)}(e:H a=KE (.dT kvs)):i5 K H (.ref a) (.type "dict")|ins{a C dx:KS}{fs:List (Lf×V)}(e:H a=KE (.ins C dx fs))(cl:HE K C)(ha:PySem.W.findIn K (.ref C) "__class__"=KE (KE (.builtin "object.__class__")))(hn:PySem.W.specialIn K (.builtin "object.__class__") "__get__"=KE (KE (.builtin "getset_descriptor.__get__")))(htk:PySem.W.takesIn K (.builtin "object.__class__")=KE KN)(hm:PySem.W.mroIn K C (.type "object")=KE KN):i5 K H (.ref a) (.ref C)
theorem fv{x:V}{u t:KJ}(I:Inv X pins σ H s)(d:RelV x u)(ty:i5 X.K H x t)(e:Ni X.K t c=KE b)(h:∀v,Q (.bool b) {s with toks:=v}):wpAny (K4 X.prog X.w) A (call (.builtin "isinstance") [u,c]) Q E s:=by cases ty with
 |bw=>cases(show u=ME from d);exact L5 PySem.W.kitx_none I.kH Pj e (λz=>nomatch z) h|bl y=>cases(show u=N4 y from d);exact L5 PySem.W.kitx_bool I.kH Pj e (λz=>nomatch z) h|int i=>obtain⟨t,q⟩:=(show∃t,u=Rl i t from d);cases q;exact L5 PySem.W.kitx_int I.kH Pj e (λz=>nomatch z) h|str y=>obtain⟨t,q⟩:=(show∃t,u=Sa y t from d);cases q;exact L5 PySem.W.kitx_str I.kH Pj e (λz=>nomatch z) h|Du y=>obtain⟨t,q⟩:=(show∃t,u=Value.float y t from d);cases q;exact L5 PySem.W.kitx_float I.kH Pj e (λz=>nomatch z) h|@lst a k f=>
  cases(show u=Lj a from d);obtain⟨_,_,n,_,g⟩:=(show bj X.prog X.w H s.heap a (.lst k)from I.aM a _ f);exact L5 PB I.kH ⟨_,g,rfl⟩ e (λz=>nomatch z) h|@b6 a ob k f=>
  cases(show u=Lj a from d);obtain⟨_,_,_,n,_,g⟩:=(show bj X.prog X.w H s.heap a (.b6 ob (.lst k))from I.aM a _ f);exact L5 PB I.kH ⟨_,g,rfl⟩ e (λz=>nomatch z) h|@tup a k f=>
  cases(show u=Lj a from d);obtain⟨_,_,_,p⟩:=(show bj X.prog X.w H s.heap a (.tup k)from I.aM a _ f);obtain⟨o,g,l,_⟩:=p;exact L5 RG I.kH ⟨o,g,l⟩ e (λz=>nomatch z) h|@dK a j f=>
  cases(show u=Lj a from d);obtain⟨_,_,L,_,p⟩:=(show bj X.prog X.w H s.heap a (.dK j)from I.aM a _ f);obtain⟨o,F,G,g,l,_⟩:=p;exact L5 RW I.kH ⟨o,g,l.1⟩ e (λz=>nomatch z) h|@dT a j f=>
  cases(show u=Lj a from d);obtain⟨_,_,k,_,o,F,G,g,l,_⟩:=(show bj X.prog X.w H s.heap a (.dT j)from I.aM a _ f);exact L5 RW I.kH ⟨o,g,l.1⟩ e (λz=>nomatch z) h|@ins a C P fs f r ha B m D=>
  cases(show u=Lj a from d);obtain⟨N,O,_⟩:=xx I.aM f;obtain⟨M,J,_⟩:=O.look;exact L5 (PySem.W.kitx_own (r.get _) r.hd ha B m D) I.kH J e (λz=>nomatch z) h
end
end L2
namespace L2
open PySem PySem.Spec PyProof.Rows
structure cM(k:Nat)(A:Lz):Prop where
 hd:A.handled=KL
 dp:A.depth+3*k+5<recursionLimit
 un:A.units+16*k+200<L6
 gd:A.guards=KE []
theorem cM.mono{j k:Nat}{A:Lz}(r:cM k A)(h:j<=k):cM j A:=⟨r.hd,by have:=r.dp;omega,by have:=r.un;omega,r.gd⟩
theorem cM.deeper{k:Nat}{A:Lz}(r:cM (k+1) A)(env:Q4):cM k (A.deeper env):=⟨r.hd,by have:=r.dp;show A.depth+1+3*k+5<_;omega,by have:=r.un;show A.units+3+16*k+200<_;omega,r.gd⟩
theorem cM.depth{k:Nat}{A:Lz}(r:cM k A):A.depth<recursionLimit:=by have:=r.dp;omega
theorem cM.units{k:Nat}{A:Lz}(r:cM k A):A.units+64<L6:=by have:=r.un;omega
noncomputable def Ef:TA:=λ_ H Q=>Q [] H
noncomputable def zG(d:TE)(c:TA):TA:=λa H Q=>d a H λx f=>c a f λb e=>Q (x::b) e
section
variable{X:Cx}{e:K7}{es:List K7}{te:TE}{t:TA}{pos:My}
theorem bQ:PA X [] Ef:=λ_ _ _ _ H Q I h=>PC ⟨[],H,I,.nil,h⟩
theorem aP(ha:PE X e te)(l:PA X es t)(k:Ld (e::es) X.env=(KO,MT e X.env)::Ld es X.env:=by rfl):PA X (e::es) (zG te t):=by
 intro pos a s c H Q I h;rw[k];show wpAny _ _ (SJ ((KO,MT e X.env)::NN pos (Ld es X.env))) _ _ s;refine Pk (aU (ha a s c H _ I h) λu s1 b=>?_);obtain⟨x,p,n,g,j⟩:=b;exact aU (l pos a s1 c p _ n j) λq s2⟨d,o,m,f,i⟩=>⟨x::d,o,m,.cons g f,i⟩
noncomputable def HF(t:TA):TE:=λc H Q=>t c H λa b=>a.length<=KU/\∀p,b p=KL->Q (.ref p) (upd b p (.tup a))
noncomputable def HG(t:TA):TE:=λc H Q=>t c H λa b=>a.length<=KU/\∀p,b p=KL->Q (.ref p) (upd b p (.lst a))
theorem AI{x1}(h:PA X es t):PE X (.Tuple es x1 pos) (HF t):=by
 intro a s f H Q I j;refine wpAny_Tuple_spliced (aU (h pos a s f H _ I j) λi s1⟨g,d,c,r,z,q⟩=>⟨by rw[<-r.length];exact z,?_⟩);have k:d s1.heap.objs.size=KL:=c.aM.fresh (K8 _);refine⟨.ref s1.heap.objs.size,upd d s1.heap.objs.size (.tup g),c.laid (t':=s1.toks) (λb u e=>KQ _ e) (K8 _) ?_,rfl,q _ k⟩;exact⟨z,i,r,⟨_,K9 _ rfl,rfl,_,rfl⟩⟩
theorem mh(h:PA X es t):PE X (.List es pos) (HG t):=by
 intro a s f H Q I j;refine wpAny_List_spliced (aU (h pos a s f H _ I j) λi s1⟨g,d,c,r,z,q⟩=>⟨by rw[<-r.length];exact z,?_⟩);have k:d s1.heap.objs.size=KL:=c.aM.fresh (K8 _);refine⟨.ref s1.heap.objs.size,upd d s1.heap.objs.size (.lst g),c.laid (t':=s1.toks) (λb u e=>KQ _ e) (K8 _) ?_,rfl,q _ k⟩;exact⟨z,i,0,r,K9 _ rfl⟩
end
abbrev Sp:=List V->Hp->VK->XK->Prop
abbrev tT:=List Q4->Hp->KR->XK->KJ->KR->Prop
structure xy(P:Lb)(w:Lv)(K:KZ)(mg:Lf->Option KJ)(base:Lu)(A:Lz)(outer:List Q4)(s:KR)(H:Hp):Prop where
 frames:A.frames=KE outer
 mod:Mod K mg base
 bs:∀b o,base.get? b=KE o->s.heap.get? b=KE o/\H b=KL
 xo:base.objs.size<=s.heap.objs.size
 iY:s.heap.FunFrames base outer
 Ak:∀b∈sA outer,H b=KL
 aM:iH P w H s.heap
 bare:Pz s.gens
noncomputable def CE(outer:List Q4)(P:Lb)(w:Lv)(H:Hp)(s:KR)(Q:VK)(u:KJ)(a:KR):Prop:=∃v b,a.os=s.os/\Pz a.gens/\Un (sA outer) [] H b s.heap a.heap/\iH P w b a.heap/\RelV v u/\Q v b
noncomputable def CR(CX:tT)(outer:List Q4)(P:Lb)(w:Lv)(H:Hp)(s:KR)(Q:VK)(E:XK)(r:Result)(a:KR):Prop:=match r with
 |.ok (.ret u)=>CE outer P w H s Q u a|.ok _=>False|.error e=>CX outer H s E e a
structure dI(P:Lb)(w:Lv)(K:KZ)(mg:Lf->Option KJ)(base:Lu)(CX:tT)(k:Nat)(f:KS)(fd:Ml)(ps:List Lf)(sp:Sp):Prop where
 len:∀vs H Q E,sp vs H Q E->vs.length=ps.length
 run:∀(A:Lz)(outer:List Q4)(s:KR)(H:Hp)(args:Args)(us:List KJ)(vs:List V)(Q:VK)(E:XK),cM k A->xy P w K mg base A outer s H->SK s fd args (ps.zip us)->aq vs us->sp vs H Q E->codeAny (K4 P w) A (.call (.ref f) args) (CR CX outer P w H s Q E) s
theorem dI.mono{P:Lb}{w:Lv}{K:KZ}{mg:Lf->Option KJ}{base:Lu}{CX:tT}{j k:Nat}{f:KS}{fd:Ml}{ps:List Lf}{sp:Sp}(F:dI P w K mg base CX j f fd ps sp)(h:j<=k):dI P w K mg base CX k f fd ps sp:=⟨F.len,λA outer s H a c b Q E d=>F.run A outer s H a c b Q E (d.mono h)⟩
theorem dI.imp{P:Lb}{w:Lv}{K:KZ}{mg:Lf->Option KJ}{base:Lu}{CX:tT}{k:Nat}{f:KS}{fd:Ml}{ps:List Lf}{sp b:Sp}(F:dI P w K mg base CX k f fd ps sp)(h:∀a H Q E,b a H Q E->sp a H Q E):dI P w K mg base CX k f fd ps b:=⟨λa H Q E q=>F.len a H Q E (h _ _ _ _ q),λA outer s H c d a Q E i j hb e g=>F.run A outer s H c d a Q E i j hb e (h _ _ _ _ g)⟩
section
variable{X:Cx}{pins:List (KS×L_)}{σ:St}{H:Hp}{s s':KR}
theorem Inv.sI(I:Inv X pins σ H s):xy X.prog X.w X.K X.mg X.base X.A X.stack s H:=⟨I.ok.frames,I.ok.mod,I.bs,L7 I.ok.xo I.sz,I.stack,I.qM,I.aM,I.bare⟩
theorem Inv.after{Q:VK}{u:KJ}(I:Inv X pins σ H s)(h:CE X.stack X.prog X.w H s Q u s'):EP X pins σ Q u s':=by
 obtain⟨v,e,os,bare,un,aM,r,q⟩:=h;obtain⟨c,g,d,t,a⟩:=s';obtain rfl:a=s.os:=os;exact⟨v,e,I.call (h':=c) (g':=g) (d':=d) (t':=t) (ch:=[]) un aM bare (λb z=>absurd z (by simp)),r,q⟩
end
noncomputable def zH(sp:Sp)(a:List V)(E:XK)(t:TA):TE:=λb H Q=>t b H λc d=>sp (c++a) d Q E
noncomputable def Binds(K:KZ)(fd:Ml)(ps:List Lf)(ds:List KJ):Prop:=∀(s:KR)(a:List KJ),K.In s.heap->(a++ds).length=ps.length->SK s fd ⟨a,[]⟩ (ps.zip (a++ds))
theorem Binds.all{K:KZ}{fd:Ml}{ps:List Lf}(h:∀us:List KJ,us.length=ps.length->RX fd ⟨us,[]⟩=pure (ps.zip us)):Binds K fd ps []:=λs us _ a=>by
 rw[LB]at a⊢;exact .of_eq (h us a)
noncomputable def pH(CX:tT)(X:Cx)(E:XK):Prop:=∀(a:List (KS×L_))(c:St)(H:Hp)(s:KR)(e:KJ)(b:KR),Inv X a c H s->CX X.stack H s E e b->X.xe e b
section
variable{X:Cx}{CX:tT}{k:Nat}{f C:KS}{fd:Ml}{ps:List Lf}{sp:Sp}{dvs:List V}{ds:List KJ}{E:XK}{x m:Lf}{p pos apos:My}{e o:K7}{es:List K7}{ta:TE}{t:TA}
theorem AJ{a:List (KS×L_)}{d:St}{H:Hp}{s:KR}{Q:VK}{us:List KJ}{c:List V}(F:dI X.prog X.w X.K X.mg X.base CX k f fd ps sp)(l:cM k X.A)(hb:Binds X.K fd ps ds)(hd:aq dvs ds)(j:pH CX X E)(I:Inv X a d H s)(r:aq c us)(h:sp (c++dvs) H Q E):wpAny (K4 X.prog X.w) X.A (call (.ref f) us) (EP X a d Q) X.xe s:=by
 have g:aq (c++dvs) (us++ds):=r.append hd;have n:(us++ds).length=ps.length:=by rw[<-g.length];exact F.len _ _ _ _ h
 refine wpAny_call (Qm (F.run X.A X.stack s H ⟨us,[]⟩ (us++ds) (c++dvs) Q E l I.sI (hb s us I.kH n) g h) λr i b=>?_);cases r with
 |error e=>exact j a d H s e i I b|ok q=>cases q with
  |ret u=>exact I.after b|next=>exact MJ b|brk=>exact MJ b|cont=>exact MJ b
theorem qQ(F:dI X.prog X.w X.K X.mg X.base CX k f fd ps sp)(j:cM k X.A)(u:Gl X x)(l:X.mg x=KE (.ref f))(n:N6 X.K (.ref f)=KN)(hb:Binds X.K fd ps ds)(hd:aq dvs ds)(i:pH CX X E)(ha:PA X (e::es) t)(c:(x==("__debug__":Lf))=KO:=by decide)(v:Ld (e::es) X.env=(KO,MT e X.env)::Ld es X.env:=by rfl)(b:(NN pos (Ld es X.env)).any (·.1)=KO:=by rfl):PE X (.Call (.Name x p) (e::es) [] pos) (zH sp dvs E t):=by
 intro a s g H Q I h;refine MU (qN I u l ?_ c);refine PySem.W.callWith_K (h₀:=X.base) I.ok.mod.GC n (aU (ha pos a s g H _ I h) λz s1⟨y,B,d,r,q⟩=>⟨d.kH,?_⟩) v b;exact AJ F j hb hd i d r q
end
structure cg(N P:List Lf)(sc:MQ):Prop where
 kind:sc.kind=.function
 co:sc.isCoroutine=KO
 gen:sc.isGenerator=KO
 nd:N.Nodup
 pre:N.take P.length=P
 par:∀x∈P,sc.names.lookup x=KE .local\/sc.names.lookup x=KE .cell
 AK:∀y∈sc.names,y.2≠.free
theorem kY{kindOf:Lf->Option Nj}{x:Lf}:∀{a:List (Lf×KJ)}{m:Lf->Option KJ},(∀v,(x,v)∉a)->Sv kindOf a m x=m x
 |[],_,_=>rfl|(n,v)::r,m,h=>by
  unfold Sv;rw[kY λw hw=>h w (K1 _ hw)];split
  .have:x≠n:=by rintro rfl;exact h v K2
   simp[this]
  .rfl
theorem kZ{kindOf:Lf->Option Nj}{x:Lf}:∀{a:List (Lf×KJ)}{m:Lf->Option KJ},(∀v,(x,v)∉a)->Sw kindOf a m x=m x
 |[],_,_=>rfl|(n,v)::r,m,h=>by
  unfold Sw;rw[kZ λw hw=>h w (K1 _ hw)];split;.rfl
  .have:x≠n:=by rintro rfl;exact h v K2
   simp[this]
theorem k8{kindOf:Lf->Option Nj}{x:Lf}{v:KJ}:∀{P:List Lf}{a:List KJ}{i:Nat}{m:Lf->Option KJ},P.Nodup->P[i]?=KE x->a[i]?=KE v->kindOf x=KE .local->Sv kindOf (P.zip a) m x=KE v
 |[],_,_,_,_,h,_,_=>by simp at h|_::_,[],_,_,_,_,h,_=>by simp at h|p::P,w::a,0,m,nd,c,b,d=>by
  simp at c b;subst c;subst b;show Sv kindOf ((p,w)::P.zip a) m p=_;unfold Sv;rw[kY λv e=>(List.nodup_cons.mp nd).1 (QF e).1,if_pos d];simp|p::P,w::a,i+1,m,nd,c,b,d=>by
  show Sv kindOf ((p,w)::P.zip a) m x=_;unfold Sv;exact k8 (i:=i) (List.nodup_cons.mp nd).2 (by simpa using c) (by simpa using b) d
theorem k_{kindOf:Lf->Option Nj}{x:Lf}{v:KJ}:∀{P:List Lf}{a:List KJ}{i:Nat}{m:Lf->Option KJ},P.Nodup->P[i]?=KE x->a[i]?=KE v->kindOf x≠KE .local->Sw kindOf (P.zip a) m x=KE v
 |[],_,_,_,_,h,_,_=>by simp at h|_::_,[],_,_,_,_,h,_=>by simp at h|p::P,w::a,0,m,nd,c,b,d=>by
  simp at c b;subst c;subst b;show Sw kindOf ((p,w)::P.zip a) m p=_;unfold Sw;rw[kZ λv e=>(List.nodup_cons.mp nd).1 (QF e).1,if_neg d];simp|p::P,w::a,i+1,m,nd,c,b,d=>by
  show Sw kindOf ((p,w)::P.zip a) m x=_;unfold Sw;exact k_ (i:=i) (List.nodup_cons.mp nd).2 (by simpa using c) (by simpa using b) d
noncomputable def start(N:List Lf)(a:List V):St:=a.map KE++Mm (N.length-a.length) KL
noncomputable def kM(CX:tT)(P:Lb)(w:Lv)(K:KZ)(mg:Lf->Option KJ)(base:Lu)(N:List Lf)(b:Lf)(a:MQ)(f:KS)(cd:KJ)(A:Lz)(outer:List Q4)(s:KR)(H:Hp)(E:XK):Cx where
 prog:=P;w:=w;K:=K;mg:=mg;base:=base;A:=A.deeper (Qn b a s.heap.objs.size f cd);N:=N;b7:=s;gh:=H;env:=Qn b a s.heap.objs.size f cd;outer:=outer;stack:=Qn b a s.heap.objs.size f cd::outer;ex:=[];calm:=KN;fn:=λ_=>KN;pn:=[];xe:=λe d=>wpAny (K4 P w) (A.deeper (Qn b a s.heap.objs.size f cd)) (leaving (Qn b a s.heap.objs.size f cd) e) (λ_ c=>CX outer H s E e c) (λg c=>CX outer H s E g c) d
theorem nr{sc:MQ}{n:Nat}{x:Lf}(h:sc.names.lookup x=KE .cell):∃c,(Nf n sc.names []).lookup x=KE c:=by
 have q:=OH sc.names n [] (.inl h);exact Option.isSome_iff_exists.mp q
theorem sJ{CX:tT}{P:Lb}{w:Lv}{K:KZ}{mg:Lf->Option KJ}{base:Lu}{N ps:List Lf}{g:Lf}{d:MQ}{f:KS}{cd:KJ}{A:Lz}{outer:List Q4}{s s1:KR}{H:Hp}{E:XK}{us:List KJ}{m:List V}(S:cg N ps d)(hd:A.handled=KL)(l:xy P w K mg base A outer s H)(M:m.length=ps.length)(r:aq m us)(x:InCallC s s.heap.objs.size (Sv (Qn g d s.heap.objs.size f cd).kindOf (ps.zip us) λ_=>KL) (Nf (s.heap.objs.size+1) d.names []) (Sw (Qn g d s.heap.objs.size f cd).kindOf (ps.zip us) λ_=>KL) s1):Inv (kM CX P w K mg base N g d f cd A outer s H E) [] (start N m) H s1:=by
 have J:ps.length<=N.length:=by have:=congrArg OA S.pre;rw[OU]at this;omega
 obtain⟨F,L,rfl,G⟩:=x.done;have o:∀b:KS,b∉(kM CX P w K mg base N g d f cd A outer s H E).ex:=λb z=>absurd (show b∈([]:List KS)from z) (by simp);refine⟨⟨l.mod,S.kind,rfl,rfl,K8 _,λy z c F j=>?_,λy t=>?_,λy c _ h=>?_,λ_=>hd,Around.frames_deeper l.frames,.inr ⟨rfl,rfl⟩,λb z=>absurd z (o b),l.bs,l.xo,λb _ _=>o b,λb z=>absurd z (o b),l.iY,l.Ak⟩,rfl,l.bare,Un.kept G,⟨_,x.toInCall.ns,λi y v F j O=>?_⟩,λy c h=>⟨_,x.cell y c h⟩,l.aM.fresh (K8 _),λy c h=>?_,λp C=>absurd (show p∈([]:List (KS×L_))from C) (by simp),l.aM.kept G,?_⟩;.exact name_of_addr x.apart (Mv F) (Mv j)
 .have t:d.names.lookup y=KE .cell\/d.names.lookup y=KE .free:=t;rcases t with t|t;.exact nr t
  .exact absurd rfl (S.AK _ (Mv t))
 .exact Pc (x.above y c (Mv h))
 .have D:i<m.length:=by
   unfold start at j;by_cases D:i<m.length;.exact D
   .rw[LJ (by simpa using D)]at j;rw[NH]at j;split at j<;>cases j
  have ha:m[i]?=KE v:=by
   unfold start at j;rw[LX (by simpa using D),Lr]at j;cases e:m[i]? with
   |none=>rw[e]at j;cases j|some a=>rw[e]at j;cases j;rfl
  obtain⟨u,hu,I⟩:=r.get ha;have C:ps[i]?=KE y:=by rw[<-S.pre,List.getElem?_take_of_lt (by omega)];exact F
  have B:ps.Nodup:=by rw[<-S.pre];exact S.nd.sublist (List.take_sublist _ _)
  refine⟨u,I,?_⟩;rcases S.par y (LR C)with k|k;.exact .inl ⟨k,k8 B C hu k⟩
  .obtain⟨c,e⟩:=nr (n:=s.heap.objs.size+1) k;refine .inr ⟨.inl k,c,e,?_⟩;have q:=x.cell y c e;rw[k_ B C hu (by show d.names.lookup y≠_;rw[k];decide)]at q;exact q
 .exact l.aM.fresh (Pc (x.above y c (Mv h)))
 .unfold start;show _=N.length;rw[LZ,Lq,MS];omega
theorem zI{CX:tT}{P:Lb}{w:Lv}{K:KZ}{mg:Lf->Option KJ}{base:Lu}{k:Nat}{f:KS}{name c:Lf}{g:P4}{body:List MR}{a:MQ}{U kV C T d ct oc:KJ}{Y od:Option KS}{L:Array (Option KJ)}{N ps:List Lf}{sp:Sp}(lk:K.lookup f=KE ⟨oc,od,.func (Qo name c g body a U kV C T Y d ct),L⟩)(R:OI K d c=KN)(S:cg N ps a)(len:∀i H Q E,sp i H Q E->i.length=ps.length)(l:∀(A:Lz)(outer:List Q4)(s:KR)(H:Hp)(i:List V)(Q:VK)(E:XK),cM k (A.deeper (Qn c a s.heap.objs.size f d))->sp i H Q E->∃t,nc (kM CX P w K mg base N c a f d A outer s H E) body t/\t {nx:=λ_ H'=>Q .bw H',rt:=Q} (start N i) H):dI P w K mg base CX (k+1) f (Qo name c g body a U kV C T Y d ct) ps sp:=by
 refine⟨len,λA outer s H X us i Q E O B hb r p=>?_⟩;have hl:=len _ _ _ _ p;have Z:K.In s.heap:=B.mod.GC.keeps λb o e=>(B.bs b o e).1;have M:s.heap.NoLimit:=B.mod.nolimit.keeps λb o e=>(B.bs b o e).1;have j:∀y∈ps.zip us,a.names.lookup y.1=KE .local\/(a.names.lookup y.1=KE .cell/\((Nf (s.heap.objs.size+1) a.names []).lookup y.1).isSome=KN):=λD hy=>by
  obtain⟨n,v⟩:=D;rcases S.par n (QF hy).1 with q|q;.exact .inl q
  .exact .inr ⟨q,OH _ _ _ (.inl q)⟩
 refine codeAny_call_function O.depth (Z _ _ lk) rfl S.co S.gen rfl (PySem.W.codeRec_of Z R) (hb _ _ _ _ ?_);refine wpAny_newFunctionEnv_cells S.kind j λenv he s1 x=>?_;subst he;refine⟨M.keeps x.toInCall.keep,codeAny_func ?_⟩;obtain⟨t,ht,hq⟩:=l A outer s H i Q E (O.deeper _) p;have I:Inv (kM CX P w K mg base N c a f d A outer s H E) [] (start N i) H s1:=sJ S O.hd B hl r x;refine MI (ht [] s1 (start N i) H _ I hq) (λfl F m=>?_) λe F m=>m;have z:∀{h:St}{H':Hp}{v:V}{u:KJ},Inv (kM CX P w K mg base N c a f d A outer s H E) [] h H' F->RelV v u->Q v H'->CE outer P w H s Q u F:=λ{h H' v u}J G q=>⟨v,H',J.os,J.bare,J.base,J.aM,G,q⟩;cases fl with
 |ret u=>
  obtain⟨v,h,H',J,G,q⟩:=m;exact z J G q|next=>
  obtain⟨h,H',J,q⟩:=m;exact z (v:=V.bw) (u:=ME) J rfl q|brk=>
  obtain⟨_,_,_,q⟩:=m;exact MJ q|cont=>
  obtain⟨_,_,_,q⟩:=m;exact MJ q
end L2
namespace L2
open PySem PySem.Spec PyProof.Rows
section
variable{X:Cx}{x:Lf}{p pos:My}{e:K7}{es:List K7}{t:TA}{id T:String}{r:List V->Hp->VK->Prop}
noncomputable def HH(r:List V->Hp->VK->Prop)(t:TA):TE:=λa H Q=>t a H λb c=>r b c Q
theorem eN(q:dH X (.builtin id) r)(n:Gl X x)(m:X.mg x=KL)(k:Mz x=KE (.builtin id))(ha:PA X (e::es) t)(l:x≠"__name__":=by decide)(c:(x==("__debug__":Lf))=KO:=by decide)(o:Ld (e::es) X.env=(KO,MT e X.env)::Ld es X.env:=by rfl)(b:(NN pos (Ld es X.env)).any (·.1)=KO:=by rfl):PE X (.Call (.Name x p) (e::es) [] pos) (HH r t):=by
 intro a s d H Q I h;refine MU (eL I n m k ?_ l c);exact PyProof.Rows.callWith_builtin1 (aU (ha pos a s d H _ I h) λg s1⟨f,v,u,i,j⟩=>q a s1 d v f g Q u i j) o b
theorem lg(q:dH X (.type T) r)(n:Gl X x)(m:X.mg x=KL)(k:Mz x=KE (.type T))(ha:PA X (e::es) t)(l:x≠"__name__":=by decide)(c:(x==("__debug__":Lf))=KO:=by decide)(o:Ld (e::es) X.env=(KO,MT e X.env)::Ld es X.env:=by rfl)(b:(NN pos (Ld es X.env)).any (·.1)=KO:=by rfl):PE X (.Call (.Name x p) (e::es) [] pos) (HH r t):=by
 intro a s d H Q I h;refine MU (eL I n m k ?_ l c);exact Mj (aU (ha pos a s d H _ I h) λg s1⟨f,v,u,i,j⟩=>q a s1 d v f g Q u i j) o b
end
end L2
namespace HT
open PySem PyProof.Rows
noncomputable def lexLt:List Int->List Int->Bool
 |[],[]=>KO|[],_::_=>KN|_::_,[]=>KO|x::b,y::a=>if x=y then lexLt b a else decide (x<y)
theorem d3(x y:Int)(xs ys:List Int):lexLt (x::xs) (y::ys)=if x=y then lexLt xs ys else decide (x<y):=rfl
theorem fJ:lexLt [] []=KO:=rfl
theorem jr(y:Int)(ys:List Int):lexLt [] (y::ys)=KN:=rfl
theorem jt(x:Int)(xs:List Int):lexLt (x::xs) []=KO:=rfl
theorem um(A:Lz)(s:KR)(a:Int)(t:SH)(c:Int)(u:SH):∃e,Nz A s (.int a t) (.int c u) e/\(e=KN↔a=c):=⟨(a==c),RH a t c u,by simp⟩
theorem uo(A:Lz)(s:KR)(a:Int)(t:SH)(c:Int)(u:SH)(prog:Lb)(w:Lv)(E:KJ->KR->Prop)(Q:KJ->KR->Prop)(h:Q (.bool (decide (a<c))) s):wpAny (K4 prog w) A (richCompare .Lt (.int a t) (.int c u)) Q E s:=(PyProof.Rows.lt_int h:wpAny (K4 prog w) A (Lx .Lt (.int a t) (.int c u)) Q E s)
section
open PySem.SeqAt
open PySem.AutoSeq1 (wpAny_loadPart')
open PySem.MeetsSeq PySem.MeetsSeq2 PySem.MeetsSeq3
theorem kN(l b:KS)(items f:Array KJ)(n n2:Nat)(X N:Option KS)(S J:Array (Option KJ))(ns H:List Int)(Q:Nv items.toList ns)(P:Nv f.toList H):Meets (Builtin.«tuple.__lt__» ⟨[.ref l,.ref b],[]⟩) (λ_ R s=>s.heap.get? l=KE {cls:=.type "tuple",dict:=X,data:=.seq items n,slots:=S}/\s.heap.get? b=KE {cls:=.type "tuple",dict:=N,data:=.seq f n2,slots:=J}/\R (.ok (.ret (.bool (lexLt ns H)))) s):=.of_wp λprog w A R s h=>by
  obtain⟨I,g,d,G,os⟩:=s;obtain⟨V,hb,h⟩:=h;have f2:=AutoSeq1.sub_tuple_tuple;have Z:items.size=ns.length:=by rw[<-Q.length];simp
  have Y:f.size=H.length:=by rw[<-P.length];simp
  wp_walk using QH V,QH hb,N9 _ (λrest b K=>b.1=KL/\K=⟨I,g,d,G,os⟩/\∃(F E:List KJ)(j k:List Int),rest=F.zip E/\Nv F j/\Nv E k/\j.length+f.size=k.length+items.size/\R (.ok (.ret (.bool (lexLt j k)))) ⟨I,g,d,G,os⟩) _;case turn=>
   rintro⟨y,x⟩rest b K⟨B,rfl,F,E,j,k,m,v,o,i,r⟩;cases v with
   |nil=>rw[List.zip_nil_left]at m;cases m|cons a t D=>cases o with
    |nil=>rw[RI]at m;cases m|cons c u C=>
     rw[MF]at m;injection m with L z;injection L with T U;subst T U;rw[d3]at r;simp only[LM]at i;obtain⟨e,W,p⟩:=um A.in1 ⟨I,g,d,G,os⟩ a t c u;refine KH (W prog w _ _ ?_);cases e with
     |true=>
      rw[if_pos (p.mp rfl)]at r;wp_walk;exact⟨rfl,rfl,_,_,_,_,z,D,C,by omega,r⟩|false=>
      rw[if_neg (λq=>absurd (p.mpr q) La)]at r;have M:=uo A.in1 ⟨I,g,d,G,os⟩ a t c u prog w;wp_walk using M;exact⟨_,rfl,by simpa using r⟩
  case fin=>
   rintro⟨b1,b2⟩K⟨B,rfl,F,E,j,k,m,v,o,i,r⟩;simp only at B;subst B;have O:lexLt j k=decide (items.size<f.size):=by cases v with
    |nil=>cases o with
     |nil=>
      simp only[Ma]at i;rw[fJ];exact(decide_eq_false (by omega)).symm|cons c u hw=>
      simp only[Ma,LM]at i;rw[jr];exact(decide_eq_true (by omega)).symm
    |cons a t O=>cases o with
     |nil=>
      simp only[Ma,LM]at i;rw[jt];exact(decide_eq_false (by omega)).symm|cons c u hw=>
      rw[MF]at m;cases m
   rw[O]at r;wp_walk;exact⟨_,rfl,by simpa[Builtin.Tuple.tupleCompareSizes]using r⟩
  case h=>exact⟨rfl,rfl,items.toList,f.toList,ns,H,rfl,Q,P,by omega,h⟩
end
section
variable{prog:Lb}{w:Lv}{A:Lz}{E:KJ->KR->Prop}{s:KR}
theorem ju{l b:KS}{items a:Array KJ}{ns c:List Int}{Q:KJ->KR->Prop}(q:Qz s.heap l items)(hb:Qz s.heap b a)(t:Nv items.toList ns)(r:Nv a.toList c)(hu:A.units<L6)(h:Q (.bool (lexLt ns c)) s):wpAny (K4 prog w) A (Lx .Lt (.ref l) (.ref b)) Q E s:=by
 obtain⟨⟨v,u,m,p⟩,j,k,n,hd⟩:=id q;obtain⟨⟨o,i,data2,g⟩,d,f,n2,e⟩:=id hb;simp only at k hd f e;subst k hd f e;exact richCompare_meets_room (op:=.Lt) ⟨_,j,rfl⟩ ⟨_,d,rfl⟩ PySem.F.slot_tuple_lt PySem.F.entry_tuple_lt (PySem.F.args_tuple_lt_2 _ _) (kN l b items a n n2 u i p g ns c t r) ⟨j,d,show N4 (lexLt ns c)≠Value.notImplemented/\Q (.bool (lexLt ns c)) s from⟨(λx=>nomatch x),h⟩⟩ hu
theorem xA{t b:KS}{c ws:List KJ}{Q:KJ->KR->Prop}(r:Qz s.heap t c.toArray)(hb:Qz s.heap b ws.toArray)(m:c≠[])(v:ws=[]->Q (.ref t) s)(u:ws≠[]->Q (.ref s.heap.objs.size) {s with heap:=s.heap.push {cls:=.type "tuple",data:=.seq (c++ws).toArray}})(hsz:c.length+ws.length<=KU):wpAny (K4 prog w) A (Nh .Add (.ref t) (.ref b)) Q E s:=by
 obtain⟨⟨k,p,i,l⟩,j,o,n,hd⟩:=id r;obtain⟨⟨q,h,data2,d⟩,a,g,n2,f⟩:=id hb;simp only at o hd g f;subst o hd g f;have e:c.toArray++ws.toArray=(c++ws).toArray:=by simp
 by_cases hw:ws=[]
 .exact RY ⟨_,j,rfl⟩ ⟨_,a,rfl⟩ P5 Rw OJ OB (Ol _ _) (tuple_addW1 t b c.toArray ws.toArray n n2 p h l d (by simpa using m) (by simp[hw])) ⟨j,a,v hw⟩
 .refine RY ⟨_,j,rfl⟩ ⟨_,a,rfl⟩ P5 Rw OJ OB (Ol _ _) (tuple_addW2 t b c.toArray ws.toArray n n2 p h l d (by simpa using m) (by simpa using hw) (by rw[K3,K3];exact hsz)) ⟨j,a,?_⟩;rw[e];exact u hw
noncomputable def bI(n d:Nat):Option Int->Nat
 |none=>d|some v=>if v<0 then(v+(n:Int)).toNat else min v.toNat n
theorem uq(n d:Nat):bI n d KL=d:=rfl
theorem xB(n d k:Nat):bI n d (KE (k:Int))=min k n:=by
 show(if(k:Int)<0 then((k:Int)+(n:Int)).toNat else min (k:Int).toNat n)=min k n;rw[if_neg (by omega),Nw]
theorem AL(n d:Nat)(hd:d<=n)(o:Option Int):bI n d o<=n:=by cases o with
 |none=>exact hd|some v=>
  show(if v<0 then(v+(n:Int)).toNat else min v.toNat n)<=n;by_cases a:v<0;.rw[if_pos a];omega
  .rw[if_neg a];exact Nat.min_le_right _ _
theorem qS(v:Int)(n d:Nat):(if v<0 then max (v+(n:Int)) 0 else min v (n:Int))=((bI n d (KE v):Nat):Int):=by
 show(if v<0 then max (v+(n:Int)) 0 else min v (n:Int))=(((if v<0 then(v+(n:Int)).toNat else min v.toNat n):Nat):Int);by_cases a:v<0;.simp only[if_pos a];omega
 .simp only[if_neg a];omega
theorem pI(lo a:Option Int)(n:Nat):Oe lo a 1 (n:Int)=(((bI n 0 lo:Nat):Int),((bI n n a:Nat):Int)):=by
 have b:¬((1:Int)<0):=by omega
 unfold Oe;simp only[b,if_false];refine Prod.ext ?_ ?_;.cases lo with
  |none=>rfl|some v=>exact qS v n 0
 .cases a with
  |none=>rfl|some v=>exact qS v n n
theorem pJ(i j:Nat):MO (i:Int) (j:Int) 1=j-i:=by
 unfold MO;have a:(1:Int)>0:=by omega
 simp only[a,if_true,Int.ediv_one];split<;>omega
theorem jv{v:KJ}{o:Option Int}{Q:Option Int->KR->Prop}(p:O8 v o)(h:Q o s):wpAny (K4 prog w) A (Builtin.Slice.slicePartIndex v) Q E s:=by cases p with
 |none=>exact Pl h|int i t=>exact slicePart_int h
theorem dJ{f:KS}{e d:KJ}{lo b:Option Int}{n:Nat}{Q:Int×Int×Nat->KR->Prop}(g:s.heap.IsSliceOf f e d .none)(pl:O8 e lo)(pu:O8 d b)(h:Q (((bI n 0 lo:Nat):Int),1,bI n n b-bI n 0 lo) s):wpAny (K4 prog w) A (Nk (.ref f) (pure (n:Int))) Q E s:=by
 obtain⟨os,a,i,c⟩:=id g;unfold Nk Pw;refine KH (KH (LK a c (x:=e) rfl (KH (LK a c (x:=d) rfl (KH (LK a c (x:=.none) rfl (KP ?_)))))));refine KH (Pl ?_);show wpAny _ _ (if((1:Int)==0)=KN then _ else _) _ _ s;rw[if_neg (by decide)];refine KH (jv pl (KH (jv pu (KH (KP ?_)))));show wpAny _ _ (match Oe lo b 1 (n:Int)with|(lo,b)=>pure (lo,(1:Int),MO lo b 1)) _ _ s;rw[pI lo b n];show wpAny _ _ (pure (((bI n 0 lo:Nat):Int),(1:Int),MO ((bI n 0 lo:Nat):Int) ((bI n n b:Nat):Int) 1)) _ _ s;rw[pJ];exact KP h
theorem uu(xs:Array KJ)(i k:Nat):((LY k).filterMap λ(m:Nat)=>xs[((i:Int)+(m:Int)*1).toNat]?).toArray=((xs.toList.drop i).take k).toArray:=by
 have e:(λ(m:Nat)=>xs[((i:Int)+(m:Int)*1).toNat]?)=λm=>xs[i+m]?:=by
  funext m;have:((i:Int)+(m:Int)*1).toNat=i+m:=by omega
  rw[this]
 rw[e];have:=pick_run xs i k;rw[List.filterMap_map]at this;have a:((λx=>xs[x]?)∘λx=>i+x)=λm=>xs[i+m]?:=rfl;rw[a]at this;rw[this]
theorem gq{t d:KS}{items:Array KJ}{k j:KJ}{lo b:Option Int}{Q:KJ->KR->Prop}(c:Qz s.heap t items)(l:s.heap.IsSliceOf d k j .none)(pl:O8 k lo)(pu:O8 j b)(hw:¬(bI items.size 0 lo=0/\bI items.size items.size b=items.size))(h:Q (.ref s.heap.objs.size) {s with heap:=s.heap.push {cls:=.type "tuple",data:=.seq ((items.toList.drop (bI items.size 0 lo)).take (bI items.size items.size b-bI items.size 0 lo)).toArray}})(hsz:items.size<=KU):wpAny (K4 prog w) A (OK (.ref t) (.ref d)) Q E s:=by
 have a:sizeOk (.seq ((items.toList.drop (bI items.size 0 lo)).take (bI items.size items.size b-bI items.size 0 lo)).toArray):=by
  show((items.toList.drop (bI items.size 0 lo)).take (bI items.size items.size b-bI items.size 0 lo)).toArray.size<=KU;rw[K3,OU,P6,Mf];omega
 have r:bI items.size items.size b<=items.size:=AL _ _ (K8 _) b;obtain⟨os,e,g,n⟩:=id l;have i:s.TypeIs (.ref d) "slice":=⟨os,e,g⟩;unfold OK;try with_reducible refine LF ?_
 first|refine KH (KP ?_)|skip
 refine KH (PD c.typeIs (by decide) ?_);refine KH (LH (name:=KI "__getitem__") c.typeIs L4 (LN L4 c.typeIs entry_tuple_getitem ?_ (Pm _ _)));show wpAny _ _ (Nl (.ref t)>>=_) _ _ s;refine KH (Rx c ?_);refine KH (N_ i ?_);rw[if_pos (by decide)];refine KH (dJ l pl pu ?_);have f:¬((((bI items.size 0 lo:Nat):Int)==0&&(1:Int)==1&&(bI items.size items.size b-bI items.size 0 lo)==items.size)=KN):=by
  intro q;rw[KW,KW]at q;have p:((bI items.size 0 lo:Nat):Int)=0:=eq_of_beq q.1.1;have o:bI items.size items.size b-bI items.size 0 lo=items.size:=eq_of_beq q.2;exact hw ⟨by omega,by omega⟩
 show wpAny _ _ (if(((bI items.size 0 lo:Nat):Int)==0&&(1:Int)==1&&(bI items.size items.size b-bI items.size 0 lo)==items.size)=KN then _ else _) _ _ s;rw[if_neg f,uu];first
  |exact KH (m:=L3 _) (LC (KP ⟨_,rfl,KP h⟩) a)|exact KH (m:=L3 _) (LC (KH (KP (KP ⟨_,rfl,KP h⟩))) a)|exact KH (KH (m:=L3 _) (LC (KP (KP ⟨_,rfl,KP h⟩)) a))|exact KH (KH (m:=L3 _) (LC (KP ⟨_,rfl,KP h⟩) a))
end
end HT
namespace L2
open PySem PySem.Spec PyProof.Rows
abbrev TO:=St->Hp->(Option Int->Hp->Prop)->Prop
noncomputable def PO(X:Cx)(e:Option K7)(t:TO):Prop:=∀(a:List (KS×L_))(s:KR)(b:St)(H:Hp)(Q:Option Int->Hp->Prop),Inv X a b H s->t b H Q->wpAny (K4 X.prog X.w) X.A (evalPart e X.env) (λu d=>∃o c,Inv X a b c d/\O8 u o/\Q o c) X.xe s
noncomputable def xC:TO:=λ_ H Q=>Q KL H
noncomputable def Eg(t:TE):TO:=λa H Q=>t a H λx b=>∃i,x=.int i/\Q (KE i) b
theorem intsAre_of{ns:List Int}:∀{us:List KJ},aq (ns.map V.int) us->Nv us ns:=by induction ns with
 |nil=>intro us r;rw[Nd]at r;cases r;exact .nil|cons n ns c=>
  intro us r;rw[Li]at r;cases r with|cons b a=>
   obtain⟨t,e⟩:=b;subst e;exact .cons n t (c a)
section
variable{X:Cx}{e:K7}{te:TE}{lo hi:Option K7}{tl th:TO}{pos p2:My}
theorem qU:PO X KL xC:=by
 intro a s b H Q I h;rw[Ry];exact KP ⟨KL,H,I,.none,h⟩
theorem qV(h:PE X e te):PO X (KE e) (Eg te):=by
 intro a s c H Q I hw;rw[evalPart_some];refine aU (h a s c H _ I hw) λu s1 b=>?_;obtain⟨x,j,g,d,f⟩:=b;obtain⟨i,rfl,q⟩:=f;obtain⟨t,rfl⟩:=d;exact⟨KE i,j,g,.int i t,q⟩
noncomputable def HI(X:Cx)(r:V->Option Int->Option Int->Hp->VK->Prop):Prop:=∀(a:List (KS×L_))(s:KR)(b:St)(H:Hp)(x:V)(v d c:KJ)(lo hi:Option Int)(f:KS)(Q:VK),Inv X a b H s->RelV x v->s.heap.IsSliceOf f d c .none->O8 d lo->O8 c hi->r x lo hi H Q->∃T id,Sx (.type T) "__getitem__"=pure (KE (.builtin id))/\s.TypeIs v T/\wpAny (K4 X.prog X.w) X.A (OK v (.ref f)) (EP X a b Q) X.xe s
noncomputable def J_(r:V->Option Int->Option Int->Hp->VK->Prop)(te:TE)(tl th:TO):TE:=λa H Q=>te a H λx d=>tl a d λl c=>th a c λu b=>r x l u b Q
theorem nu{r:V->Option Int->Option Int->Hp->VK->Prop}(B:HI X r)(E:PE X e te)(C:PO X lo tl)(hu:PO X hi th):PE X (.Subscript e (.Slice lo hi KL p2) pos) (J_ r te tl th):=by
 intro a s i H Q I h;refine Sy (aU (E a s i H _ I h) λv s1 g=>?_);obtain⟨x,N,L,o,y⟩:=g;refine wpAny_Slice (aU (C a s1 i N _ L y) λm s2⟨l,M,K,pl,t⟩=>aU (hu a s2 i M _ K t) λk c g=>?_);obtain⟨u,n,J,pu,p⟩:=g;rw[Ry];refine KP ?_;have G:Inv X a i n {c with heap:=c.heap.push {cls:=.type "slice",data:=.fields #[m,k,.none]}}:=J.kept (t':=c.toks) λb ob q=>KQ _ q;obtain⟨T,id,F,z,D⟩:=B a {c with heap:=c.heap.push {cls:=.type "slice",data:=.fields #[m,k,.none]}} i n x v m k l u c.heap.objs.size Q G o (RJ ..) pl pu p;show wpAny (K4 X.prog X.w) X.A (Rz e (.Slice lo hi KL p2) v (.ref c.heap.objs.size)) (EP X a i Q) X.xe {c with heap:=c.heap.push {cls:=.type "slice",data:=.fields #[m,k,.none]}};exact tail_any (ops:=[.ref c.heap.objs.size,v]) z F D (by with_unfolding_all rfl)
noncomputable def mi(xs:List V)(lo hi:Option Int):List V:=(xs.drop (HT.bI xs.length 0 lo)).take (HT.bI xs.length xs.length hi-HT.bI xs.length 0 lo)
theorem iI(xs:List V)(lo hi:Option Int):(mi xs lo hi).length<=xs.length:=by
 unfold mi;rw[OU,P6];omega
noncomputable def HJ(K:KZ):R2:=λx y H Q=>∃a b ns c,x=.ref a/\y=.ref b/\gj K H a (ns.map V.int)/\gj K H b (c.map V.int)/\Q (.bl (HT.lexLt ns c)) H
theorem AM(hu:X.A.units<L6):iZ X (Lx .Lt) (HJ X.K):=by
 intro f s p H x y v u Q I j i h;obtain⟨a,b,ns,g,rfl,rfl,ha,hb,q⟩:=h;cases j;cases i;obtain⟨d,l,m,_⟩:=I.tuple ha;obtain⟨c,k,p2,_⟩:=I.tuple hb;have o:Nv d.toArray.toList ns:=intsAre_of l;have n:Nv c.toArray.toList g:=intsAre_of k;exact HT.ju m p2 o n hu ⟨.bl (HT.lexLt ns g),H,I,rfl,q⟩
theorem aq.qW{xs:List V}{us:List KJ}(r:aq xs us):us=[]↔xs=[]:=by cases r with
 |nil=>simp|cons _ _=>simp
end
end L2
namespace L2
open PySem PySem.Spec PyProof.Rows
noncomputable def zJ(n:Nat)(i:Int):Option Nat:=if 0<=i then(if i<n then KE i.toNat else KL)else if-(n:Int)<=i then KE (i+n).toNat else KL
noncomputable def fw{a:Type}(xs:List a)(i:Int):Option a:=(zJ xs.length i).bind λj=>xs[j]?
theorem qX{n:Nat}{i:Int}{j:Nat}(h:zJ n i=KE j):Rp i n=KE j/\j<n/\-(n:Int)<=i/\i<n:=by
 unfold zJ at h;by_cases b:0<=i
 .rw[if_pos b]at h;by_cases a:i<n
  .rw[if_pos a]at h;have e:i.toNat=j:=KY h;exact⟨by rw[Sg b a,e],by omega,by omega,a⟩
  .rw[if_neg a]at h;cases h
 .rw[if_neg b]at h;by_cases a:-(n:Int)<=i
  .rw[if_pos a]at h;have e:(i+n).toNat=j:=KY h;exact⟨by rw[RZ (by omega) a,e],by omega,a,by omega⟩
  .rw[if_neg a]at h;cases h
theorem mj{a:Type}{xs:List a}{i:Int}{v:a}(h:fw xs i=KE v):∃j,Rp i xs.length=KE j/\xs[j]?=KE v/\j<xs.length/\-(xs.length:Int)<=i/\i<xs.length:=by
 unfold fw at h;cases e:zJ xs.length i with
 |none=>rw[e]at h;cases h|some j=>
  rw[e]at h;obtain⟨f,d,c,b⟩:=qX e;exact⟨j,f,h,d,c,b⟩
theorem dk{a:Type}{xs:List a}{j:Nat}{v:a}(h:xs[j]?=KE v):fw xs (j:Int)=KE v:=by
 have b:j<xs.length:=(List.getElem?_eq_some_iff.mp h).1;have e:zJ xs.length (j:Int)=KE j:=by
  unfold zJ;rw[if_pos (by omega),if_pos (by omega)];simp
 unfold fw;rw[e];exact h
noncomputable def je(b:K7):Prop:=∀o i,Sh b KO o i=operate [o,i] (OK o i)
noncomputable def uv(X:Cx)(r:R2):Prop:=∀(c a:K7)(b:List (KS×L_))(s:KR)(d:St)(H:Hp)(x y:V)(v u:KJ)(Q:VK),Inv X b d H s->RelV x v->RelV y u->r x y H Q->Sh a KO v u=operate [v,u] (OK v u)->wpAny (K4 X.prog X.w) X.A (Rz c a v u) (EP X b d Q) X.xe s
noncomputable def Ka(X:Cx)(id:String)(r:V->List V->Hp->VK->Prop):Prop:=∀(a:List (KS×L_))(s:KR)(b:St)(H:Hp)(x:V)(c:List V)(v:KJ)(d:List KJ)(Q:VK),Inv X a b H s->RelV x v->aq c d->r x c H Q->wpAny (K4 X.prog X.w) X.A (call (.builtin id) (v::d)) (EP X a b Q) X.xe s
section
variable{X:Cx}{a b:K7}{ta tb:TE}{pos:My}
theorem uv.or{r j:R2}(h:uv X r)(h':uv X j):uv X (λx y H Q=>r x y H Q\/j x y H Q):=by
 intro c d e s f H x y v u Q I i g q k;rcases q with q|q;.exact h c d e s f H x y v u Q I i g q k
 .exact h' c d e s f H x y v u Q I i g q k
theorem eO{r:R2}(i:uv X r)(ha:PE X a ta)(hb:PE X b tb)(g:je b):PE X (.Subscript a b pos) (D_ r ta tb):=by
 intro c s d H Q I h;exact Sy (AE ha hb I h λv u s2 x y k j f e q=>i a b c s2 d k x y v u Q j f e q (g _ _))
noncomputable def Eh(K:KZ):R2:=λx y H Q=>∃p c i v,x=.ref p/\y=.int i/\dF K H p c/\fw c i=KE v/\Q v H
noncomputable def Ei(K:KZ):R2:=λx y H Q=>∃p c i v,x=.ref p/\y=.int i/\gj K H p c/\fw c i=KE v/\Q v H
noncomputable def Ej:R2:=λx y H Q=>∃z i c,x=.str z/\y=.int i/\z.length<=KU/\fw z.cps.toList i=KE c/\Q (.str ⟨#[c]⟩) H
theorem cq:uv X (Eh X.K):=by
 intro f g c s n H x y v u Q I E D h o;obtain⟨p,O,i,z,rfl,rfl,F,J,q⟩:=h;cases E;obtain⟨t,rfl⟩:=D;obtain⟨l,r,pl,P⟩:=I.list F;obtain⟨j,e,N,S,M,L⟩:=mj J;obtain⟨w,B,k⟩:=r.get N;have G:=r.length;have R:=fQ;have d:EP X c n Q w s:=⟨z,H,I,k,q⟩;by_cases A:0<=i
 .have m:i.toNat=j:=by
   rw[Sg A L]at e;exact KY e
  exact item_listR pl.isList A (by omega) (by rw[m];simpa using B) d o
 .have m:(i+(l.toArray.size:Int)).toNat=j:=by
   rw[RZ (by omega) M]at e;rw[K3,<-G];exact KY e
  exact Qp (x:=w) pl.isList.typeIs slot_list_getitem.lookup (wpAny_getItem_list_neg (Q:=λr C=>r=w/\EP X c n Q r C) pl.isList (by omega) (by rw[K3]<;>omega) (by omega) (by rw[m];simpa using B) ⟨rfl,d⟩) o
theorem AN:uv X (Ei X.K):=by
 intro d e c s k H x y v u Q I n m h A;obtain⟨p,J,i,z,rfl,rfl,B,D,q⟩:=h;cases n;obtain⟨t,rfl⟩:=m;obtain⟨o,r,pl,L⟩:=I.tuple B;obtain⟨j,F,E,P,O,N⟩:=mj D;obtain⟨w,G,f⟩:=r.get E;have C:=r.length;have M:=fQ;have g:EP X c k Q w s:=⟨z,H,I,f,q⟩;exact Qp (x:=w) pl.typeIs slot_tuple_getitem.lookup (getItem_tuple (j:=j) (Q:=λr l=>r=w/\EP X c k Q r l) pl (by omega) (by omega) (by rw[K3,<-C];exact F) (by simpa using G) ⟨rfl,g⟩) A
theorem AO:uv X Ej:=by
 intro d e f s C H x y v u Q I l k h m;obtain⟨z,i,c,rfl,rfl,E,o,q⟩:=h;obtain⟨t,rfl⟩:=l;obtain⟨D,rfl⟩:=k;obtain⟨j,g,w,G,r,p⟩:=mj o;have n:z.cps.toList.length=z.length:=by simp[Sz]
 rw[n]at g r p;have F:=fQ;exact tail_any (SA s z t) slot_str_getitem.lookup (getItem_str (c:=c) (by
  have B:decide (i< -(2^63:Int))=KO:=decide_eq_false (by omega);have A:decide (i>=2^63)=KO:=decide_eq_false (by omega);rw[B,A,NZ]) (by rw[g];simpa using w) ⟨.str ⟨#[c]⟩,H,I.tok _,⟨_,rfl⟩,q⟩) m
noncomputable def Kb(K:KZ):R2:=λx y H Q=>Eh K x y H Q\/Ei K x y H Q\/Ej x y H Q
theorem AQ:uv X (Kb X.K):=cq.or (AN.or AO)
theorem pK(c:List KJ)(n j:Nat)(u:KJ):M2 (·.setIfInBounds j u) {cls:=.type "list",data:=.seq c.toArray n}={cls:=.type "list",data:=.seq (c.set j u).toArray n}:=by simp[M2]
theorem Inv.lst{d:List (KS×L_)}{f:St}{H:Hp}{s:KR}{p:KS}{xs:List V}(I:Inv X d f H s)(h:H p=KE (.lst xs)):∃(c:List KJ)(n:Nat),aq xs c/\s.heap.get? p=KE {cls:=.type "list",data:=.seq c.toArray n}/\xs.length<=KU:=by
 obtain⟨z,c,n,r,e⟩:=I.aM p _ h;exact⟨c,n,r,e,z⟩
theorem Inv.AR{c:List (KS×L_)}{i:St}{H:Hp}{s:KR}{p:KS}{xs ys:List V}{d its':List KJ}{n g:Nat}{f:L_->L_}(I:Inv X c i H s)(h:H p=KE (.lst xs))(l:s.heap.get? p=KE {cls:=.type "list",data:=.seq d.toArray n})(j:f {cls:=.type "list",data:=.seq d.toArray n}={cls:=.type "list",data:=.seq its'.toArray g})(r:aq ys its')(k:ys.length<=KU)(t:Nat):Inv X c i (upd H p (.lst ys)) {s with heap:=s.heap.update p f,toks:=t}:=by
 have e:(s.heap.update p f).get? p=KE {cls:=.type "list",data:=.seq its'.toArray g}:=by rw[OR f l (by rw[j]<;>rfl),j]
 refine I.write (x:=p) (e:=p) (by rw[h];trivial) (.inl rfl) (λb u hb q=>(Qq _ _ (LP hb)).trans q) ⟨_,e⟩ ?_;exact⟨k,its',g,r,e⟩
noncomputable def Ek:V->V->V->Hp->(Hp->Prop)->Prop:=λo i v H Q=>∃p c k j,o=.ref p/\i=.int k/\H p=KE (.lst c)/\zJ c.length k=KE j/\Q (upd H p (.lst (c.set j v)))
theorem set_list:D3 X Ek:=by
 intro c s B H o i v J iv u Q I ro E D h;obtain⟨p,C,k,j,rfl,rfl,m,G,q⟩:=h;cases ro;obtain⟨t,rfl⟩:=E;obtain⟨d,n,r,f,F⟩:=I.lst m;obtain⟨e,L,y,x⟩:=qX G;have g:=r.length;have K:=fQ;have A:Inv X c B (upd H p (.lst (C.set j v))) {s with heap:=s.heap.update p (M2 (·.setIfInBounds j u))}:=I.AR m f (pK d n j u) (r.set D j) (by rw[List.length_set];exact F) s.toks;by_cases z:0<=k
 .have l:k.toNat=j:=by
   rw[Sg z x]at e;exact KY e
  exact PySem.W.ki_setAt f z (by omega) (by rw[K3,<-g];exact x) (by rw[l];exact⟨_,A,q⟩)
 .have l:(k+(d.toArray.size:Int)).toNat=j:=by
   rw[RZ (by omega) y]at e;rw[K3,<-g];exact KY e
  exact PySem.W.ki_setBack f (by omega) (by rw[K3,<-g];exact y) (by omega) (by rw[l];exact⟨_,A,q⟩)
theorem ml(lo c:Option Int)(n:Nat):(OC lo c KL n).1=((HT.bI n 0 lo:Nat):Int)/\(OC lo c KL n).2.1=((HT.bI n n c:Nat):Int)/\(OC lo c KL n).2.2=1:=by
 refine⟨?_,?_,rfl⟩;.cases lo with
  |none=>simp[OC,HT.bI]|some i=>
   simp only[OC,HT.bI,P7,show(1:Int)>0 by decide,if_true];by_cases h:i<0;.simp only[h,if_true]<;>omega
   .simp only[h,if_false]<;>omega
 .cases c with
  |none=>simp[OC,HT.bI]|some i=>
   simp only[OC,HT.bI,P7,show(1:Int)>0 by decide,if_true];by_cases h:i<0;.simp only[h,if_true]<;>omega
   .simp only[h,if_false]<;>omega
theorem kO(c:List KJ)(lo d:Option Int):slicePick c.toArray lo d KL=((c.drop (HT.bI c.length 0 lo)).take (HT.bI c.length c.length d-HT.bI c.length 0 lo)).toArray:=by
 obtain⟨g,f,e⟩:=ml lo d c.toArray.size;unfold slicePick;rw[g,f,e];simp only[sliceRange_one,pick_run,K3]<;>rfl
noncomputable def HK(K:KZ):V->Option Int->Option Int->Hp->VK->Prop:=λx lo d H Q=>∃a c,x=.ref a/\dF K H a c/\∀p,H p=KL->Q (.ref p) (upd H p (.lst (mi c lo d)))
theorem qY:HI X (HK X.K):=by
 intro f s n H x v t p lo e u Q I i m pl pu h;obtain⟨a,c,rfl,l,q⟩:=h;cases i;obtain⟨j,r,g,k⟩:=I.list l;have d:=r.length;refine⟨"list",_,slot_list_getitem.lookup,g.isList.typeIs,?_⟩;refine wpAny_getItem_list_slice g.isList m pl pu .none (by simp) ?_ (by rw[K3]<;>omega);rw[kO,<-d];refine⟨.ref s.heap.objs.size,_,I.laid (t':=s.toks) (o:=.lst (mi c lo e)) (λb ob q=>KQ _ q) (K8 _) ?_,rfl,q _ (I.aM.fresh (K8 _))⟩;exact⟨L7 (iI c lo e) k,_,0,(r.drop (HT.bI c.length 0 lo)).take (HT.bI c.length c.length e-HT.bI c.length 0 lo),K9 _ rfl⟩
theorem d5:dH X (.builtin "len") (λxs H Q=>∃p ys,xs=[.ref p]/\(dF X.K H p ys\/gj X.K H p ys)/\Q (.int ys.length) H):=by
 intro g s k H xs l Q I r h;obtain⟨p,ys,rfl,d,q⟩:=h;obtain⟨u,rfl,i⟩:=vals1 r;cases i;have m:=fQ;rcases d with d|d
 .obtain⟨f,e,pl,j⟩:=I.list d;have c:=e.length;exact Rt pl.isList (by simp only[K3]<;>omega) ⟨.int ys.length,H,I.tok _,⟨s.toks+1,by rw[K3,c]⟩,q⟩
 .obtain⟨f,e,pl,j⟩:=I.tuple d;have c:=e.length;exact len_tuple pl (by simp only[K3]<;>omega) ⟨.int ys.length,H,I.tok _,⟨s.toks+1,by rw[K3,c]⟩,q⟩
theorem gr:dH X (.type "list") (λxs H Q=>∃p ys,xs=[.ref p]/\(dF X.K H p ys\/gj X.K H p ys)/\∀l,H l=KL->Q (.ref l) (upd H l (.lst ys))):=by
 intro i s z H xs B Q I r h;obtain⟨p,ys,rfl,k,q⟩:=h;obtain⟨u,rfl,A⟩:=vals1 r;cases A;have t:∀(c:List KJ),aq ys c->ys.length<=KU->∀(d:Lu)(g:Nat),(∀b y,s.heap.get? b=KE y->d.get? b=KE y)->d.get? s.heap.objs.size=KE {cls:=.type "list",dict:=KL,data:=.seq c.toArray g,slots:=#[]}->EP X i z Q (.ref s.heap.objs.size) {s with heap:=d}:=λc f j d g kp e=>⟨.ref s.heap.objs.size,_,I.laid (t':=s.toks) kp (K8 _) (show bj X.prog X.w _ d _ (.lst ys)from⟨j,c,g,f,e⟩),rfl,q _ (I.aM.fresh (K8 _))⟩;rcases k with k|k
 .obtain⟨c,f,pl,j⟩:=I.list k;have m:=f.length;obtain⟨o,v,x,n,hd⟩:=pl.isList;exact call_list_seq p (.inl rfl) v x hd (λd g kp e=>t c f j d g kp e) (by simp only[K3]<;>omega)
 .obtain⟨c,f,pl,j⟩:=I.tuple k;have m:=f.length;obtain⟨o,v,x,n,hd⟩:=pl;exact call_list_seq p (.inr rfl) v x hd (λd g kp e=>t c f j d g kp e) (by simp only[K3]<;>omega)
theorem kP:dH X (.type "tuple") (λxs H Q=>∃p ys,xs=[.ref p]/\((dF X.K H p ys/\∀l,H l=KL->Q (.ref l) (upd H l (.tup ys)))\/(gj X.K H p ys/\Q (.ref p) H))):=by
 intro c s k H xs A Q I r h;obtain⟨p,ys,rfl,h⟩:=h;obtain⟨u,rfl,x⟩:=vals1 r;cases x;rcases h with⟨j,q⟩|⟨j,q⟩
 .obtain⟨d,i,pl,m⟩:=I.list j;have n:=i.length;refine call_tuple_list pl.isList (λg kp=>?_) (by simp only[K3]<;>omega);have v:Inv X c k H {s with heap:=g}:=I.kept (t':=s.toks) kp;have z:Inv X c k (upd H g.objs.size (.tup ys)) {s with heap:=g.push {cls:=.type "tuple",data:=.seq d.toArray}}:=v.laid (t':=s.toks) (λb o e=>KQ _ e) (K8 _) (show bj X.prog X.w _ _ _ (.tup ys)from⟨m,d,i,Rn _ _⟩);exact⟨.ref g.objs.size,_,z,rfl,q _ (v.aM.fresh (K8 _))⟩
 .obtain⟨d,i,pl,m⟩:=I.tuple j;exact call_tuple_same pl ⟨.ref p,H,I,rfl,q⟩
noncomputable def JI(K:KZ)(T:String)(x:V)(H:Hp):Prop:=match x with
 |.str _=>T="str"|.int _=>T="int"|.ref p=>(T="list"/\∃d,dF K H p d)\/(T="tuple"/\∃o,K.lookup p=KE o/\o.cls=.type "tuple"/\o.dict=KL)\/(T="dict"/\((∃c,H p=KE (.dK c))\/∃c,H p=KE (.dT c)))\/(T="set"/\∃S n,H p=KE (.set S n))|_=>False
theorem AS{f:List (KS×L_)}{j:St}{H:Hp}{s:KR}{T:String}{x:V}{v:KJ}(I:Inv X f j H s)(r:RelV x v)(ty:JI X.K T x H):s.TypeIs v T/\∀a,v=.ref a->∃ob,s.heap.get? a=KE ob/\ob.dict=KL:=by cases x with
 |str z=>
  obtain⟨t,rfl⟩:=r;cases(show T="str"from ty);exact⟨SA s z t,λ_ e=>nomatch e⟩|int i=>
  obtain⟨t,rfl⟩:=r;cases(show T="int"from ty);exact⟨typeIs_int s i t,λ_ e=>nomatch e⟩|ref p=>
  cases r;rcases ty with⟨rfl,q,l⟩|⟨rfl,o,d,m,hd⟩|⟨rfl,d⟩|⟨rfl,S,n,d⟩
  .obtain⟨k,_,pl,_⟩:=I.list l;refine⟨pl.isList.typeIs,λa e=>?_⟩;cases e;obtain⟨o,n,e,c,hd,_⟩:=pl;exact⟨o,e,hd⟩
  .refine⟨⟨o,I.kH p o d,m⟩,λa e=>?_⟩;cases e;exact⟨o,I.kH _ o d,hd⟩
  .have z:∃o,s.heap.get? p=KE o/\o.ExactDict:=by
    rcases d with⟨g,d⟩|⟨g,d⟩
    .obtain⟨_,_,_,_,o,_,_,e,ex,_⟩:=I.aM p _ d;exact⟨o,e,ex⟩
    .obtain⟨_,_,_,_,o,_,_,e,ex,_⟩:=I.aM p _ d;exact⟨o,e,ex⟩
   obtain⟨o,e,ex⟩:=z;refine⟨⟨o,e,ex.1⟩,λa h=>?_⟩;cases h;exact⟨o,e,ex.2.1⟩
  .obtain⟨o,_,_,_,e,ex,_⟩:=I.aM p _ d;refine⟨⟨o,e,ex.1⟩,λa h=>?_⟩;cases h;exact⟨o,e,ex.2.1⟩|_=>exact MJ ty
noncomputable def HL(K:KZ)(T:String)(r:V->List V->Hp->VK->Prop)(to:TE)(t:TA):TE:=λc H Q=>to c H λx d=>JI K T x d/\t c d λe f=>r x e f Q
variable{o e:K7}{es:List K7}{to:TE}{t:TA}{name:Lf}{apos cpos:My}{T id:String}{r:V->List V->Hp->VK->Prop}
theorem qZ(pa:PlainAttrs T)(slot:Slot T name id)(l:SN (.builtin id)=pure (.type "method_descriptor"))(C:Ka X id r)(B:PE X o to)(ha:PA X (e::es) t)(g:Om o name X.env (MT o X.env)=MT o X.env:=by rfl)(i:((NN cpos (Ld (e::es) X.env)).all (λx=>!x.1)&&(backToKw cpos (keywordEach [] X.env)).all (λx=>x.1.isSome)&&decide ((e::es).length+([]:List Keyword).length+(if([]:List Keyword).isEmpty then 0 else 1)<30))=KN:=by rfl)(f:(apos.endLine==cpos.line)=KN:=by rfl)(A:Ld (e::es) X.env=(KO,MT e X.env)::Ld es X.env:=by rfl)(d:(NN cpos (Ld es X.env)).any (·.1)=KO:=by rfl):PE X (.Call (.Attribute o name apos) (e::es) [] cpos) (HL X.K T r to t):=by
 intro c s j H Q I h;refine wpAny_Call_method_late g i f rfl (aU (B c s j H _ I h) λv s1 k=>?_);obtain⟨x,J,p,m,ty,z⟩:=k;obtain⟨E,D⟩:=AS p m ty;refine⟨T,id,pa,slot,l,E,D,?_⟩;have n:=ha cpos c s1 j J _ p z;rw[A]at n⊢;refine Calls.callWith_builtin (by show(KO||(NN cpos (Ld es X.env)).any (·.1))=KO;rw[d]<;>rfl) (Calls.evalArgs_plain ?_);exact aU n λu s2⟨q,G,F,w,y⟩=>C c s2 j G x q v u Q F m w y
end
end L2
namespace L2
open PySem PySem.Spec PyProof.Rows
noncomputable def HM(X:Cx)(id:String)(r:V->List V->Hp->VK->Prop):Prop:=∀(a:List (KS×L_))(s:KR)(b:St)(H:Hp)(x:V)(c:List V)(v:KJ)(d:List KJ)(Q:VK),Inv X a b H s->RelV x v->aq c d->r x c H Q->wpAny (K4 X.prog X.w) X.A (call (.builtin id) (v::d)) (EP X a b Q) X.xe s
theorem aq.one:∀{x:V}{us:List KJ},aq [x] us->∃u,us=[u]/\RelV x u|_,_,.cons r .nil=>⟨_,rfl,r⟩
theorem aq.eraseIdx:∀{xs:List V}{us:List KJ}(i:Nat),aq xs us->aq (xs.eraseIdx i) (us.eraseIdx i)
 |_,_,_,.nil=>.nil|_,_,0,.cons _ t=>t|_,_,i+1,.cons r t=>.cons r (aq.eraseIdx i t)
theorem lh{a:Type}:∀(l:List a)(i:Nat),(l.eraseIdx i).length<=l.length
 |[],_=>K8 _|_::_,0=>PF _|_::r,i+1=>Nat.succ_le_succ (lh r i)
section
variable{X:Cx}{pins:List (KS×L_)}{σ:St}{H:Hp}{s:KR}{l b:KS}{xs ys zs:List V}
theorem Inv.AU{a its':List KJ}{n:Nat}{f:Array KJ->Array KJ}{t':Nat}(I:Inv X pins σ H s)(h:H l=KE (.lst xs))(e:s.heap.get? l=KE {cls:=.type "list",data:=.seq a.toArray n})(g:f a.toArray=its'.toArray)(d:aq ys its')(c:ys.length<=KU):Inv X pins σ (upd H l (.lst ys)) {s with heap:=s.heap.update l (M2 f),toks:=t'}:=by
 have q:=PySem.IsL.update e f;rw[g]at q;refine I.write (x:=l) (e:=l) (by rw[h];exact trivial) (.inl rfl) (λi u hb hu=>(Qq s.heap (M2 f) (LP hb)).trans hu) ⟨_,q⟩ ?_;exact⟨c,its',_,d,q⟩
theorem Inv.HN{a:List KJ}{t':Nat}(I:Inv X pins σ H s)(d:aq ys a)(c:ys.length<=KU):Inv X pins σ (upd H s.heap.objs.size (.lst ys)) {s with heap:=s.heap.push {cls:=.type "list",data:=.seq a.toArray},toks:=t'}:=I.laid (λ_ _ q=>KQ _ q) (K8 _) ⟨c,a,0,d,K9 _ rfl⟩
theorem Inv.fresh(I:Inv X pins σ H s):H s.heap.objs.size=KL:=I.aM.fresh (K8 _)
theorem Inv.AV(I:Inv X pins σ H s)(c:H l=KE (.lst xs)):xs.length<=KU/\∃(a:List KJ)(n:Nat),aq xs a/\xs.length=a.length/\s.heap.get? l=KE {cls:=.type "list",data:=.seq a.toArray n}:=by
 obtain⟨z,a,n,r,e⟩:=I.aM l _ c;exact⟨z,a,n,r,r.length,e⟩
theorem uw{n:Nat}(h:n<=KU):Oo n=KO:=by
 unfold Oo;exact decide_eq_false (by omega)
end
section
variable{X:Cx}
noncomputable def xD:V->List V->Hp->VK->Prop:=λx b H Q=>∃l a y,x=.ref l/\b=[y]/\H l=KE (.lst a)/\a.length<KU/\Q .bw (upd H l (.lst (a++[y])))
theorem lj:HM X "list.append" xD:=by
 intro b s i H x k v m Q I d f h;obtain⟨l,j,y,rfl,rfl,c,o,q⟩:=h;cases d;obtain⟨u,rfl,g⟩:=f.one;obtain⟨z,a,n,r,p,e⟩:=I.AV c;refine RK F.slot_list_append ⟨_,e,rfl⟩ F.entry_list_append (F.args_list_append_2 _ _) (PySem.list_append l a.toArray n u (by rw[K3];omega)) ⟨e,?_⟩;refine⟨.bw,_,I.AU (its':=a++[u]) c e (by simp) (r.append (.cons g .nil)) ?_,rfl,q⟩;rw[LZ,List.length_singleton];omega
noncomputable def ux:V->List V->Hp->VK->Prop:=λx b H Q=>∃l a i k y,x=.ref l/\b=[.int i]/\H l=KE (.lst a)/\-(2^63)<=i/\i<2^63/\Rp i a.length=KE k/\a[k]?=KE y/\Q y (upd H l (.lst (a.eraseIdx k)))
theorem uy:HM X "list.pop" ux:=by
 intro c s D H x E v G Q I g j h;obtain⟨l,f,i,k,y,rfl,rfl,d,C,B,A,o,q⟩:=h;cases g;obtain⟨u,rfl,m⟩:=j.one;obtain⟨t,rfl⟩:=m;obtain⟨z,a,n,r,p,e⟩:=I.AV d;obtain⟨w,hw,b⟩:=r.get o;refine RK F.slot_list_pop ⟨_,e,rfl⟩ F.entry_list_pop (F.args_list_pop_2 _ _) (MeetsSeq.list_pop_at l a.toArray n i t k w (fitsIndex_both C B) (by rw[K3,<-p];exact A) (by rw[<-Mg];exact hw) (by rw[K3];omega)) ⟨e,?_⟩;refine⟨y,_,I.AU (its':=a.eraseIdx k) d e ?_ (r.eraseIdx k) ?_,b,q⟩
 .show a.toArray.eraseIdxIfInBounds k=(a.eraseIdx k).toArray;rw[List.eraseIdxIfInBounds_toArray]
 .have:=lh f k;omega
end
end L2
namespace L2
open PySem PySem.Spec PyProof.Rows
section
variable{κ:Type}[DecidableEq κ]
noncomputable def i7(a:List (κ×V))(k:κ):Option V:=(a.find? λb=>decide (b.1=k)).map (·.2)
noncomputable def putK(a:List (κ×V))(k:κ)(v:V):List (κ×V):=if(a.any λb=>decide (b.1=k))=KN then a.map (λb=>if b.1=k then(b.1,v)else b)else a++[(k,v)]
theorem nv{p:κ×V}{r:List (κ×V)}{k:κ}(e:p.1=k):i7 (p::r) k=KE p.2:=by simp[i7,NU,e]
theorem ny{p:κ×V}{r:List (κ×V)}{k:κ}(e:¬p.1=k):i7 (p::r) k=i7 r k:=by simp[i7,NU,e]
theorem jw(k:κ):∀a:List (κ×V),(a.any λb=>decide (b.1=k))=(i7 a k).isSome
 |[]=>rfl|p::r=>by
  rw[NA];by_cases e:p.1=k;.simp only[nv e,decide_eq_true e,Bool.true_or,RL]
  .rw[ny e,decide_eq_false e,Bool.false_or];exact jw k r
theorem l7.ll{o:Option V}{u:Option KJ}(r:l7 o u):o.isSome=u.isSome:=by cases o with
 |none=>cases u with
  |none=>rfl|some _=>exact(show False from r).elim
 |some _=>cases u with
  |none=>exact(show False from r).elim|some _=>rfl
theorem KV.val{a:List (κ×V)}{f:List (κ×KJ)}(r:KV a f)(k:κ):l7 (i7 a k) (Rq f k):=by
 unfold KV at r;induction r with
 |nil=>exact Pj|@cons p q ps c h t i=>
  obtain⟨g,j⟩:=h;by_cases e:p.1=k
  .have d:q.1=k:=g.symm.trans e;have b:Rq (q::c) k=KE q.2:=by simp[Rq,NU,d]
   rw[nv e,b];exact j
  .have d:¬q.1=k:=λz=>e (g.trans z);have b:Rq (q::c) k=Rq c k:=by simp[Rq,NU,d]
   rw[ny e,b];exact i
theorem KV.any{a:List (κ×V)}{c:List (κ×KJ)}(r:KV a c)(k:κ):(a.any λb=>decide (b.1=k))=c.any λb=>decide (b.1=k):=by
 unfold KV at r;induction r with
 |nil=>rfl|cons h t d=>rw[NA,NA,d,h.1]
theorem KV.xE{b:List (κ×V)}{d:List (κ×KJ)}(r:KV b d)(k:κ){y:V}{u:KJ}(f:RelV y u):KV (b.map λa=>if a.1=k then(a.1,y)else a) (d.map λa=>if a.1=k then(a.1,u)else a):=by
 unfold KV at r⊢;induction r with
 |nil=>exact .nil|@cons p q ps j h t g=>
  rw[Li,Li];refine .cons ?_ g;obtain⟨c,i⟩:=h;by_cases e:p.1=k;.rw[if_pos e,if_pos (c.symm.trans e)];exact⟨c,f⟩
  .rw[if_neg e,if_neg (λz=>e (c.trans z))];exact⟨c,i⟩
theorem KV.put{a:List (κ×V)}{b:List (κ×KJ)}(r:KV a b)(k:κ){y:V}{u:KJ}(c:RelV y u):KV (putK a k y) (stored b k u):=by
 unfold putK stored;rw[r.any k];by_cases e:(b.any λd=>decide (d.1=k))=KN;.rw[if_pos e,if_pos e];exact r.xE k c
 .rw[if_neg e,if_neg e];exact Paired.snoc r ⟨rfl,c⟩
end
theorem jx{P:Lb}{w:Lv}{k:Key}{u:KJ}(r:RelV (kV k) u):(ar P w).is k u=KN:=by cases k with
 |inl i=>obtain⟨t,e⟩:=(show∃t,u=Rl i t from r);subst e;exact iG P w i t|inr x=>obtain⟨t,e⟩:=(show∃t,u=Sa x t from r);subst e;exact nj P w x t
theorem lq{P:Lb}{w:Lv}:∀{ks:List Key}{us:List KJ},aq (ks.map kV) us->ItemsAre (ar P w) ks us
 |[],_,r=>by rw[Nd]at r;cases r;exact .nil|k::ks,_,r=>by
  rw[Li]at r;cases r with|cons h t=>exact .cons (jx h) (lq t)
section
variable{X:Cx}{pins:List (KS×L_)}{σ:St}{H:Hp}{s:KR}{a:KS}{y v:V}{u r:KJ}{o:Option V}{A:Lz}{E:KJ->KR->Prop}
theorem Inv.GG(I:Inv X pins σ H s):Mu<s.heap.objs.size:=by
 have h:LQ<s.heap.objs.size:=(I.mod.glob.keeps I.bk).lt;exact R0 (by decide) h
end
end L2
namespace Att
open PySem PySem.W PySem.Calls PyProof.Rows
theorem i8{P:PX}{h:Lu}:∀(ns:List Int)(c:List KJ),WellAll P h c (ns.map WData.int)->Nv c ns:=by
 intro ns;induction ns with
 |nil=>
  intro c w;rw[Nd]at w;cases w;exact .nil|cons n ns d=>
  intro c w;rw[Li]at w;cases w with|cons a b=>
   cases a;exact .cons _ _ (d _ b)
theorem sL{l:OpenLaw}{n:Nat}(v:l.most=KE n){P:PX}{h:Lu}{b:List WData}{vals:List KJ}(c:l.row.toRowW.claim.pre b=KN)(j:WellAll P h vals b):∃a m ns,vals=[Lj a]/\b=[WData.list (ns.map WData.int)]/\h.get? a=KE {cls:=.type "list",data:=.seq m.toArray}/\Nv m ns/\ns.length<=n:=by
 have k:WShape.hasAll [] b [.list .int]=KN:=(pre_splitW c).1;have o:l.pre.holds [] {args:=b}=KN:=(pre_splitW c).2;obtain⟨d,r,rfl,y,x⟩:=hasAllW_cons k;obtain rfl:=hasAllW_nil x;obtain⟨z,rfl,w⟩:=hasW_list y;obtain⟨ns,rfl⟩:=items_int w;have e:ns.length<=n:=by
  unfold OpenLaw.pre at o;have i:(WTm.not (.lt (.lit (.int (n:Int))) (.len (.arg 0)))).holds [] {args:=[.list (ns.map .int)]}=KN:=by
   have i:=(holds_andW o).1;rw[v]at i;exact i
  have g:=condW_of i (w_not (w_lt w_lit (w_len_list (w_arg rfl))));rw[Lq]at g;refine Nat.le_of_not_lt λq=>?_;have t:(n:Int)<((ns.length:Nat):Int):=by omega
  first
   |(rw[decide_eq_true t]at g;exact absurd g (by decide))|(simp at g;omega)
 cases j with|cons s p=>
  cases p;cases s with|list u f=>exact⟨_,_,ns,rfl,rfl,u,i8 ns _ f,e⟩
theorem sM(l:OpenLaw)(a:List WData):l.row.toRowW.claim.post a (.bool KN) a=KN:=postW_of (r:=l.row.toRowW) (X:=(KN==KN)) (show WShape.has [] (.bool KN) .bool=KN by first|rfl|decide|simp[WShape.has,WShape.arms,WShape.armsAll]) (show(WTm.eq .res (.lit (.bool KN))).value [] {args:=a,res:=KE (.bool KN),after:=a}=KE (.bool (KN==KN))from w_eq_bool (w_res rfl) w_lit) rfl
theorem nz{l:OpenLaw}{n:Nat}{q:Lb}{c:List Lf}{E:(Lf->Option KJ)->Lu->Prop}{D:Lv->Lu->Prop}{d:DefRec}(J:l.most=KE n)(x:d.params.defaults=[])(call:∀(w:Lv)(b7 b:KR)(mg t:Lf->Option KJ)(m:KS)(o:L_)(s cd g:KJ)(a:KS)(h:List KJ)(ns:List Int),Ground q c [] E w b7 mg t b.heap->D w b.heap->b.heap.get? m=KE o->o.data=.func (docDef d.name d.params d.body d.scope s cd g)->b.heap.CodeRec cd d.name->mg d.name=KE (.ref m)->b.heap.get? a=KE {cls:=.type "list",data:=.seq h.toArray}->Nv h ns->ns.length<=n->b.gens=#[]->codeAny (K4 l.prog w) Rr (.call (.ref m) ⟨[.ref a],[]⟩) (λr p=>r=.ok (.ret (.bool KN))/\OldK b.heap p.heap/\p.os=b.os/\Pz p.gens) b):WalkO q c E D l.row.toRowW d [] (λf h=>Qr f h):=by
 intro w b7 b mg t G Y m o s cd g Q kV I hd y B v M C z R i A F u L;obtain rfl:Q=.none:=Dflts.none B x;obtain rfl:kV=.none:=Dflts.noKw B;obtain⟨a,h,ns,rfl,rfl,j,e,k⟩:=sL J i u;refine enter_call (Qm (call w b7 b mg t m o s cd g a h ns G Y I (fd_plain hd) y v j e k M) λr p H=>?_);obtain⟨rfl,P,O,N⟩:=H;exact⟨.inl ⟨.bool KN,.bool KN,[],rfl,λ_=>rfl,.bool KN,sM l _,λ_=>⟨List.Pairwise.nil,λ_ K=>(nomatch K)⟩⟩,P,O,N⟩
end Att
namespace L2
open PySem PySem.Spec PyProof.Rows
theorem lr:∀{a:List KJ}{ns:List Int},Nv a ns->aq (ns.map V.int) a
 |_,_,.nil=>.nil|_,_,.cons n t h=>.cons ⟨t,rfl⟩ (lr h)
noncomputable def AW(H:Hp):Prop:=∀b,H b=KL\/∃o a,H b=KE (.b6 o (.lst a))
theorem uz{P:Lb}{w:Lv}{K:KZ}{mg I:Lf->Option KJ}{CX:tT}{k:Nat}{O a:KS}{fd:Ml}{x:Lf}{sp:Sp}{c:KR}{j:List KJ}{ns:List Int}(Y:K.In c.heap)(A:c.heap.Ns LQ mg)(hb:c.heap.Ns Qi I)(M:∀x:Lf,x≠"__name__"->I x=Mz x)(B:c.heap.NoLimit)(hg:c.gens=#[])(ha:c.heap.get? a=KE {cls:=.type "list",data:=.seq j.toArray})(T:Nv j ns)(S:ns.length<=KU)(hr:cM k Rr)(F:∀base:Lu,K.In base->base.Ns LQ mg->dI P w K mg base CX k O fd [x] sp)(l:∀(s:KR)(u:KJ),SK s fd ⟨[u],[]⟩ [(x,u)])(J:∀H:Hp,AW H->dF K H a (ns.map V.int)->sp [.ref a] H (λv _=>v=.bl KN) λ_ _ _=>False)(N:∀H e f,CX [] H c (λ_ _ _=>False) e f->False):codeAny (K4 P w) Rr (.call (.ref O) ⟨[.ref a],[]⟩) (λr f=>r=.ok (.ret (.bool KN))/\OldK c.heap f.heap/\f.os=c.os/\Pz f.gens) c:=by
 have R:=lr T;have t:=T.length;have i:∀H:Hp,AW H->dF K H a (ns.map V.int)->iH P w H c.heap->(∀b,H b≠KL->b=a)->(H a≠KL->K.lookup a=KL)->codeAny (K4 P w) Rr (.call (.ref O) ⟨[.ref a],[]⟩) (λr f=>r=.ok (.ret (.bool KN))/\OldK c.heap f.heap/\f.os=c.os/\Pz f.gens) c:=by
  intro H U hS aM W hK;have fx:∀{b:KS}{o:L_},c.heap.get? b=KE o->H b=KL->(l9 c.heap H).get? b=KE o:=λe n=>t6 e n;have G:∀{b:KS}{o:L_}{D:Array OD}{E:Nat},c.heap.get? b=KE o->o.data=.dict D E->H b=KL:=λ{b o D E}e d=>by cases q:H b with
   |none=>rfl|some u=>
    have Q:b=a:=W b (by rw[q];simp);subst Q;rw[ha]at e;cases e;have d':Data.seq j.toArray _=Data.dict D E:=d;cases d'
  have g:∀{b:KS}{m:Lf->Option KJ},c.heap.Ns b m->(l9 c.heap H).Ns b m:=λ{b m}⟨o,D,E,e,d,r⟩=>⟨o,D,E,fx e (G e d),d,r⟩;have C:K.In (l9 c.heap H):=λb o e=>fx (Y b o e) (by cases q:H b with
   |none=>rfl|some u=>
    have Q:b=a:=W b (by rw[q];simp);subst Q;rw[hK (by rw[q];simp)]at e;cases e);have hM:Mod K mg (l9 c.heap H):=⟨C,g A,⟨I,g hb,M⟩,let⟨mc,h1,h2⟩:=B;⟨mc,g h1,h2⟩⟩;have e0:xy P w K mg (l9 c.heap H) Rr [] c H:=⟨rfl,hM,λb o e=>xm e,Oa (sx _ _),trivial,λb hb=>absurd (show b∈([]:List KS)from hb) (by simp),aM,.of_eq hg⟩;refine Qm ((F _ C (g A)).run Rr [] c H ⟨[.ref a],[]⟩ [.ref a] [.ref a] _ _ hr e0 (l c (.ref a)) (.cons rfl .nil) (J H U hS)) λr f h=>?_;cases r with
  |error e=>exact(N H e f h).elim|ok fl=>cases fl with
   |next=>exact MJ h|brk=>exact MJ h|cont=>exact MJ h|ret u=>
    obtain⟨v,H',os,bare,un,y,r',q⟩:=h;have q':v=.bl KN:=q;subst q';obtain rfl:u=N4 KN:=r';refine⟨rfl,OldK.of_keep λb o e=>?_,os,bare⟩;cases q:H b with
    |none=>exact un.keep b o e q (by intro z;exact absurd (show b∈([]:List KS)from z) (by simp)) (by simp)|some u=>
     rcases U b with z|⟨ob,xs,z⟩;.rw[q]at z;cases z
     .have Z:=un.gV b ob _ z;obtain⟨X,_⟩:=aM b _ z;obtain⟨e2,_⟩:=y b _ Z;rw[e]at X;cases X;exact e2
 cases L:K.lookup a with
 |some o=>
  have e:=Y a o L;rw[ha]at e;cases e;refine i (λ_=>KL) (λ_=>.inl rfl) (.inr ⟨_,j.toArray,_,L,rfl,rfl,rfl,by rw[K3,t];exact S,by simpa using R⟩) (λb u z=>by have p:(KL:Option HO)=KE u:=z;cases p) (λb z=>absurd rfl z) λz=>absurd rfl z|none=>
  refine i (λb=>if b=a then KE (.b6 {cls:=.type "list",data:=.seq j.toArray} (.lst (ns.map V.int)))else KL) (λb=>?_) (.inl (.inr ⟨{cls:=.type "list",data:=.seq j.toArray},if_pos rfl⟩)) (λb u z=>?_) (λb z=>?_) λ_=>L
  .by_cases hb:b=a;.exact .inr ⟨_,_,if_pos hb⟩
   .exact .inl (if_neg hb)
  .by_cases hb:b=a
   .have p:=(if_pos hb).symm.trans z;cases p;subst hb;exact⟨ha,by rw[Lq];exact S,j,_,R,ha⟩
   .have p:=(if_neg hb).symm.trans z;cases p
  .by_cases hb:b=a;.exact hb
   .exact absurd (if_neg hb) z
end L2
namespace L2
open PySem PySem.Spec PyProof.Rows
theorem xF{l:PySem.W.OpenLaw}{n k:Nat}{q:Lb}{i:List Lf}{U:(Lf->Option KJ)->Lu->Prop}{E:Lv->Lu->Prop}{d:DefRec}{K:PX->KZ}{CX:Lv->tT}{sp:Lv->Sp}{x:Lf}(L:l.most=KE n)(z:n<=KU)(B:d.params.defaults=[])(J:cM k Rr)(O:∀(w:Lv)(h:Lu),E w h->(K w.params).In h)(F:∀(w:Lv)(mg:Lf->Option KJ)(r:KS)(h:Lu),(K w.params).In h->h.Ns LQ mg->mg d.name=KE (.ref r)->∃fd:Ml,(∀(s:KR)(u:KJ),SK s fd ⟨[u],[]⟩ [(x,u)])/\∀base:Lu,(K w.params).In base->base.Ns LQ mg->dI l.prog w (K w.params) mg base (CX w) k r fd [x] (sp w))(y:∀(w:Lv)(H:Hp)(a:KS)(ns:List Int),ns.length<=n->AW H->dF (K w.params) H a (ns.map V.int)->sp w [.ref a] H (λv _=>v=.bl KN) λ_ _ _=>False)(C:∀(w:Lv)(H:Hp)(s:KR)(e:KJ)(t:KR),CX w [] H s (λ_ _ _=>False) e t->False):PySem.W.WalkO q i U E l.row.toRowW d [] (λf D=>Qr f D):=by
 refine Att.nz L B λw b7 m mg Z r o X cd S a D ns G Y ho hd N A p j c M=>?_;have I:=O w _ Y;obtain⟨fd,hb,R⟩:=F w mg r _ I G.T.g A;exact uz I G.T.g G.T.b G.T.builtins G.T.nolimit M p j (L7 c z) J R hb (λH Q P=>y w H a ns c Q P) λH e t=>C w H m e t
end L2
namespace L2
open PySem PySem.Spec PyProof.Rows
noncomputable def cP(s:MR):P4:=match s with
 |.FunctionDef _ a _ _ _ _ _ _ _ _=>a|_=>{posonlyargs:=[],args:=[],vararg:=KL,kwonlyargs:=[],kw_defaults:=[],kwarg:=KL,defaults:=[]}
noncomputable def bR(s:MR):List MR:=match s with
 |.FunctionDef _ _ b _ _ _ _ _ _ _=>b|_=>[]
noncomputable def ak(s:MR):MQ:=match s with
 |.FunctionDef _ _ _ _ _ _ sc _ _ _=>sc|_=>{kind:=.function,names:=[],isGenerator:=KO,isCoroutine:=KO}
noncomputable abbrev pj:tT:=λ_ _ _ _ _ _=>False
noncomputable abbrev E0:XK:=λ_ _ _=>False
theorem zK{X:Cx}:pH pj X E0:=λ_ _ _ _ _ _ _ h=>h.elim
structure uA(K:KZ)(x qual:Lf)(st:MR)(f:KS)(fd:Ml):Prop where
 ex:∃(oc:KJ)(od:Option KS)(kV doc pm:KJ)(an:Option KS)(cdv ct:KJ)(osl:Array (Option KJ)),fd=Qo x qual (cP st) (bR st) (ak st) .none kV doc pm an cdv ct/\K.lookup f=KE ⟨oc,od,.func fd,osl⟩/\OI K cdv qual=KN
 kp:N6 K (.ref f)=KN
section
variable{P:Lb}{w:Lv}{K:KZ}{mg:Lf->Option KJ}{base:Lu}
theorem uA.ok{x a:Lf}{st:MR}{f:KS}{fd:Ml}{N ps:List Lf}{k:Nat}{sp:Sp}(F:uA K x a st f fd)(S:cg N ps (ak st))(len:∀c H Q E,sp c H Q E->c.length=ps.length)(d:∀(b:KJ)(A:Lz)(outer:List Q4)(s:KR)(H:Hp)(c:List V)(Q:VK)(E:XK),cM k (A.deeper (Qn a (ak st) s.heap.objs.size f b))->sp c H Q E->∃t,nc (kM pj P w K mg base N a (ak st) f b A outer s H E).Dw (bR st) t/\t {nx:=λ_ H'=>Q .bw H',rt:=Q} (start N c) H):dI P w K mg base pj (k+1) f fd ps sp:=by
 obtain⟨o,n,kV,l,m,p,b,ct,i,rfl,lk,g⟩:=F.ex;refine zI lk g S len λA outer s H c Q E j e=>?_;obtain⟨t,h,q⟩:=d b A outer s H c Q E j e;exact⟨t,h.Dw,q⟩
end
theorem El{A:Lz}{k:Nat}(a:cM k A):A.units+1<L6:=Ow (Nat.add_le_add_left (by decide:1<=64) _) a.units
section
variable{X:Cx}
theorem pv(i:Nat){x:Lf}{pos:My}(hN:X.N[i]?=KE x:=by rfl)(b:m_ X.env.scope x:=by first|exact OL rfl|exact Pn (OL rfl)|exact Pn (Pn rfl))(hd:(x==("__debug__":Lf))=KO:=by decide)(a:(x==("__classdict__":Lf))=KO:=by decide):PE X (.Name x pos) (DR i):=bP hN b hd a
end
theorem HP{A B:Prop}(h:B):if KO=KN then A else B:=by
 rw[if_neg La];exact h
theorem xG{c A B:Prop}[Decidable c](b:c->A)(a:¬c->B):if c then A else B:=by
 by_cases h:c
 .rw[if_pos h];exact b h
 .rw[if_neg h];exact a h
noncomputable def nA(H H':Hp):Prop:=∀b o,H b=KE o->H' b=KE o
end L2
namespace L2
open PySem PySem.Spec PyProof.Rows
abbrev NK:=Key⊕List Key
section
variable{prog:Lb}{w:Lv}
inductive aI(prog:Lb)(w:Lv)(h:Lu):List NK->List KJ->Prop|nil:aI prog w h [] []|sc{k:Key}{v:KJ}{ks:List NK}{vs:List KJ}:(ar prog w).is k v=KN->aI prog w h ks vs->aI prog w h (.inl k::ks) (v::vs)|tp{k:List Key}{b:KS}{ks:List NK}{vs:List KJ}:IsTupleKey (ar prog w) h k b->aI prog w h ks vs->aI prog w h (.inr k::ks) (.ref b::vs)
noncomputable def bB(prog:Lb)(w:Lv)(h:Lu)(ks:List NK)(a:KS):Prop:=∃o items n,h.get? a=KE o/\o.cls=.type "tuple"/\o.data=.seq items n/\aI prog w h ks items.toList
theorem aI.inj{h:Lu}{x y:List NK}{f:List KJ}(g:aI prog w h x f)(e:aI prog w h y f):x=y:=by induction g generalizing y with
 |nil=>cases e;rfl|sc c _ d=>cases e with
  |sc a b=>rw[(ar prog w).inj _ _ _ c a,d b]|tp a b=>have:=(ar prog w).byValue _ _ c;cases this
 |tp c _ d=>cases e with
  |sc a b=>have:=(ar prog w).byValue _ _ a;cases this|tp a b=>rw[c.inj a,d b]
theorem bB.typeIs{s:KR}{ks:List NK}{a:KS}(x:bB prog w s.heap ks a):s.TypeIs (.ref a) "tuple":=let⟨o,_,_,b,c,_⟩:=x;⟨o,b,c⟩
theorem bB.inj{h:Lu}{a:KS}{x y:List NK}(i:bB prog w h x a)(g:bB prog w h y a):x=y:=by
 obtain⟨o,items,n,j,_,hd,k⟩:=i;obtain⟨f,c,m,d,_,b,e⟩:=g;obtain rfl:o=f:=KY (j.symm.trans d);rw[hd]at b;injection b with l _;subst l;exact k.inj e
theorem aI.keeps{h h':Lu}{d:KS}{o:L_}{es ep}{x:List NK}{c:List KJ}(e:aI prog w h x c)(g:h.get? d=KE o)(hd:o.data=.dict es ep)(f:Mr d h h'):aI prog w h' x c:=by induction e with
 |nil=>exact .nil|sc b _ a=>exact .sc b a|tp b _ a=>exact .tp (b.keeps g hd f) a
theorem bB.keeps{h h':Lu}{ks:List NK}{a d:KS}{o:L_}{es ep}(x:bB prog w h ks a)(i:h.get? d=KE o)(hd:o.data=.dict es ep)(g:Mr d h h'):bB prog w h' ks a:=by
 obtain⟨f,items,n,c,k,b,j⟩:=x;have e:a≠d:=by
  rintro rfl;obtain rfl:f=o:=KY (c.symm.trans i);rw[hd]at b;exact nomatch b
 exact⟨f,items,n,(g.2 a e).trans c,k,b,j.keeps i hd g⟩
noncomputable def fK(prog:Lb)(w:Lv):NK->Int
 |.inl k=>(ar prog w).hash k|.inr ks=>tupleKeyHash (ar prog w) ks
noncomputable def jy(prog:Lb)(w:Lv)(ks:List NK):Int:=reduceHash (Ms (ks.map (fK prog w)))
noncomputable def Em:NK->Nat
 |.inl _=>1|.inr ks=>ks.length+1
noncomputable def eC:List NK->Nat
 |[]=>0|k::ks=>Em k+eC ks
theorem jz(a:List NK)(k:NK):eC (a++[k])=eC a+Em k:=by induction a with
 |nil=>simp[eC]|cons x r b=>simp[eC,b,OY]
variable{A:Lz}{E:KJ->KR->Prop}{s:KR}
theorem in1_units{A:Lz}(h:A.units+1<L6):A.in1.units<L6:=h
theorem sN{ks:List NK}{a:KS}{Q:Int->KR->Prop}(hu:A.units+1<L6)(t:bB prog w s.heap ks a)(h:Q (jy prog w ks) {s with toks:=s.toks+(eC ks+1)}):wpAny (K4 prog w) A (pyHash (.ref a)) Q E s:=by
 have m:=t.typeIs;obtain⟨o,items,n,u,_,hd,v⟩:=t;unfold pyHash;first|unfold pyHashByItsType|skip
 first|refine KH (wpAny_cRoomFor_or (.inr (by omega)) ?_)|skip
 refine KH (NV m PySem.F.slot_tuple_hash.lookup ?_);show wpAny _ _ (if(KE (Value.builtin "tuple.__hash__")==KE ME)=KN then _ else _) Q E s;rw[if_neg (by rw[beq_builtin_none];exact La)];refine KH (NV m PySem.F.slot_tuple_hash.lookup ?_);show wpAny _ _ (callSpecialIfBoundUnlessNone? (.ref a) "__hash__" _>>=_) Q E s;refine KH (wpAny_callSpecialIfBoundUnlessNone?_slot m P8 (LN P8 m PySem.F.entry_tuple_hash ?_ (PySem.F.args_tuple_hash_1 _)));show wpAny _ _ (Nl (.ref a)>>=_) _ _ s;refine KH (Po u hd ?_);refine KH ?_;rw[<-NO];refine N9 _ (λrest(b:Array Int)p=>∃done left,ks=done++left/\aI prog w s.heap left rest/\b.toList=done.map (fK prog w)/\p={s with toks:=s.toks+eC done}) _ ?_ ?_ _ _ ⟨[],ks,rfl,v,rfl,rfl⟩
 .rintro x rest b p⟨done,left,rfl,q,hb,rfl⟩;cases q with
  |@sc k _ g _ r j=>
   refine KH ((ar prog w).pyHash r ?_);have i:∃d e,done++.inl k::g=d++e/\aI prog w s.heap e rest/\(b.push ((ar prog w).hash k)).toList=d.map (fK prog w)/\({s with toks:=s.toks+eC done+1}:KR)={s with toks:=s.toks+eC d}:=⟨done++[.inl k],g,by simp,j,by simp[hb,fK],by rw[jz];rfl⟩;first
    |exact KP i|exact KH (KP (KP i))
  |@tp k c g _ r j=>
   refine KH (wpAny_pyHash_tuple (in1_units hu) r ?_);have i:∃d e,done++.inr k::g=d++e/\aI prog w s.heap e rest/\(b.push (tupleKeyHash (ar prog w) k)).toList=d.map (fK prog w)/\({s with toks:=s.toks+eC done+(k.length+1)}:KR)={s with toks:=s.toks+eC d}:=⟨done++[.inr k],g,by simp,j,by simp[hb,fK],by rw[jz,OY];rfl⟩;first
    |exact KP i|exact KH (KP (KP i))
 .rintro b p⟨done,left,rfl,q,hb,rfl⟩;cases q;rw[LB]at h;show wpAny _ _ (retInt (Ms b.toList)) _ _ _;rw[hb];refine wpAny_ret_mkInt ?_;show wpAny _ _ (if(decide (-(2:Int)^63<=Ms (done.map (fK prog w)))&&decide (Ms (done.map (fK prog w))<2^63))=KN then _ else _) Q E _;unfold jy reduceHash at h;by_cases l:(decide (-(2:Int)^63<=Ms (done.map (fK prog w)))&&decide (Ms (done.map (fK prog w))<2^63))=KN
  .rw[if_pos l];rw[if_pos l]at h;exact KP (by simpa[OY]using h)
  .rw[if_neg l];rw[if_neg l]at h;exact KH (Ng (KP (by simpa[OY]using h)))
theorem q9{k:Key}{v:KJ}(h:(ar prog w).is k v=KN):(∃i t,v=.int i t/\k=.inl i)\/∃x t,v=.str x t/\k=.inr x:=by
 rcases aH (k:=k) (v:=v) h with⟨i,t,b,a⟩|⟨i,t,b,a⟩;.exact .inl ⟨i,t,a,b⟩
 .exact .inr ⟨i,t,a,b⟩
theorem IsTupleKey.tup{h:Lu}{k:List Key}{b:KS}(x:IsTupleKey (ar prog w) h k b):∃items,h.IsTuple b items:=let⟨o,items,n,a,c,hd,_⟩:=x;⟨items,o,a,c,n,hd⟩
theorem aI.two{x y:List NK}{xs ys:List KJ}{u v:KJ}{rest:List (KJ×KJ)}(hu:A.units<L6)(I:aI prog w s.heap x xs)(F:aI prog w s.heap y ys)(c:(u,v)::rest=List.zip xs ys):∃n m D C g f,x=n::D/\y=m::C/\xs=u::g/\ys=v::f/\rest=List.zip g f/\aI prog w s.heap D g/\aI prog w s.heap C f/\∀(Q:Bool->KR->Prop),Q (decide (n=m)) s->wpAny (K4 prog w) A (eqBool u v) Q E s:=by cases I with
 |nil=>simp at c|@sc k J G z p l=>cases F with
  |nil=>simp at c|@sc d H r e j h=>
   simp only[MF,O9,OZ]at c;obtain⟨⟨rfl,rfl⟩,rfl⟩:=c;refine⟨_,_,_,_,_,_,rfl,rfl,rfl,rfl,rfl,l,h,λQ q=>(ar prog w).eqBool (a:=k) (b:=d) p j ?_⟩;rw[show decide (k=d)=decide ((OX k:NK)=OX d)by simp];exact q|@tp d b r e j h=>
   simp only[MF,O9,OZ]at c;obtain⟨⟨rfl,rfl⟩,rfl⟩:=c;refine⟨_,_,_,_,_,_,rfl,rfl,rfl,rfl,rfl,l,h,λQ q=>?_⟩;rw[decide_eq_false (by simp)]at q;obtain⟨B,o⟩:=IsTupleKey.tup j;rcases q9 p with⟨i,t,rfl,_⟩|⟨i,t,rfl,_⟩;.exact Q_ i t o hu prog w E Q q
   .exact Ra i t o hu prog w E Q q
 |@tp k b1 G z p l=>cases F with
  |nil=>simp at c|@sc d H r e j h=>
   simp only[MF,O9,OZ]at c;obtain⟨⟨rfl,rfl⟩,rfl⟩:=c;refine⟨_,_,_,_,_,_,rfl,rfl,rfl,rfl,rfl,l,h,λQ q=>?_⟩;rw[decide_eq_false (by simp)]at q;obtain⟨B,o⟩:=IsTupleKey.tup p;rcases q9 j with⟨i,t,rfl,_⟩|⟨i,t,rfl,_⟩;.exact Rb i t o hu prog w E Q q
   .exact Rc i t o hu prog w E Q q|@tp d b r e j h=>
   simp only[MF,O9,OZ]at c;obtain⟨⟨rfl,rfl⟩,rfl⟩:=c;refine⟨_,_,_,_,_,_,rfl,rfl,rfl,rfl,rfl,l,h,λQ q=>RM hu p j ?_⟩;rw[show decide (k=d)=decide ((Px k:NK)=Px d)by simp];exact q
theorem aI.length{h:Lu}{x:List NK}{xs:List KJ}(b:aI prog w h x xs):x.length=xs.length:=by induction b with
 |nil=>rfl|sc _ _ a=>simp[a]|tp _ _ a=>simp[a]
theorem xH{x y:List NK}{a b:KS}{P:PySem.Fin->KR->Prop}(hu:A.units<L6)(U:bB prog w s.heap x a)(T:bB prog w s.heap y b)(h:P (.done (.ret (.bool (decide (x=y))))) s):wpAny (K4 prog w) A (Builtin.«tuple.__eq__» ⟨[.ref a,.ref b],[]⟩) P E s:=by
 have S:=T.typeIs;obtain⟨Y,G,na,L,_,R,O⟩:=U;obtain⟨ob,F,Z,K,_,Q,N⟩:=T;show wpAny _ _ (RN (.ref b) (.type "tuple")>>=_) _ _ s;refine KH (NI S OS ?_);simp only[LS,K_,if_false];refine KH (Po L R ?_);refine KH (Po K Q ?_);refine KH ?_;refine N9 _ (λrest r H=>r.1=KL/\H=s/\∃q j e d,rest=List.zip e d/\aI prog w s.heap q e/\aI prog w s.heap j d/\decide (q=j)=decide (x=y)/\(e.length==d.length)=(G.size==F.size)) _ ?_ ?_ _ _ ⟨rfl,rfl,x,y,G.toList,F.toList,rfl,O,N,rfl,by simp⟩
 .rintro⟨u,v⟩rest r H⟨J,rfl,q,j,e,d,I,i,g,c,f⟩;obtain⟨n,m,p,l,o,k,rfl,rfl,rfl,rfl,rfl,C,z,ask⟩:=i.two (E:=E) hu g I;refine KH (ask _ ?_);by_cases M:n=m
  .subst M;rw[decide_eq_true rfl];simp only[LS,K_,if_false];refine KP ⟨rfl,rfl,p,l,o,k,rfl,C,z,?_,by simpa using f⟩;rw[<-c];by_cases B:p=l;.simp[B]
   .simp[B]
  .rw[decide_eq_false M];simp only[Pp,if_true];have V:decide (x=y)=KO:=by rw[<-c];simp[M]
   rw[V]at h;exact KH (KP (KP (KP h)))
 .rintro⟨X,W⟩H⟨J,rfl,q,j,e,d,I,i,g,c,f⟩;simp only at J;subst J;refine KP ?_;have D:(G.size==F.size)=decide (x=y):=by
   rw[<-c,<-f,<-i.length,<-g.length];have t:=congrArg OA I;simp only[Ma,List.length_zip,<-i.length,<-g.length]at t;cases q with
   |nil=>cases j<;>simp|cons _ _=>cases j with
    |nil=>simp|cons _ _=>simp at t
  show P (.done (.ret (.bool (G.size==F.size)))) H;rw[D];exact h
theorem xI{x y:List NK}{a b:KS}{Q:Bool->KR->Prop}(hu:A.units+1<L6)(d:bB prog w s.heap x a)(f:bB prog w s.heap y b)(h:Q (decide (x=y)) s):wpAny (K4 prog w) A (eqBool (.ref a) (.ref b)) Q E s:=by
 unfold eqBool;try with_reducible refine LF ?_
 show wpAny _ _ (if(Lj a==Lj b)=KN then _ else _) Q E s;by_cases c:(Lj a==Lj b)=KN
 .rw[if_pos c];have e:a=b:=by have:=eq_of_beq c;injection this
  subst e;obtain rfl:=d.inj f;exact KH (Ng (KP (by simpa using h)))
 .rw[if_neg c];exact KH (wpAny_richCompare_same_room (op:=.Eq) d.typeIs f.typeIs QV (LN QV d.typeIs PySem.F.entry_tuple_eq (xH (in1_units hu) d f ⟨_,rfl,(λe=>nomatch e),Mi h⟩) (PySem.F.args_tuple_eq_2 _ _)) (by omega))
theorem sO(n:Nat){ks:List Key}{a:KS}{Q:Bool->KR->Prop}(f:IsTupleKey (ar prog w) s.heap ks a)(h:Q KN s):wpAny (K4 prog w) A (Se (n+1) (.ref a)) Q E s:=by
 have g:=f.typeIs;obtain⟨o,items,m,i,_,hd,j⟩:=f;unfold Se;refine KH (NV g PySem.F.slot_tuple_eq.lookup ?_);show wpAny _ _ (RN (.ref a) (.type "tuple")>>=_) _ _ s;refine KH (NI g OS ?_);simp only[LS,K_,if_false];refine KH (Mb i hd ?_);refine KH ?_;show wpAny _ _ (forIn items _ _) _ _ s;rw[<-NO];refine N9 _ (λrest r c=>r.1=KL/\c=s/\∀v∈rest,carriedByValue v=KN) _ ?_ ?_ _ _ ⟨rfl,rfl,j.byValue⟩
 .rintro v rest r c⟨e,rfl,b⟩;rw[R1 _ (b v K2)];refine KH (KP ?_);simp only[LS,K_,if_false];exact KP ⟨rfl,rfl,λu d=>b u (K1 _ d)⟩
 .rintro⟨l,k⟩c⟨e,rfl,_⟩;simp only at e;subst e;exact KP h
theorem pL{ks:List NK}{a:KS}{Q:Bool->KR->Prop}(e:bB prog w s.heap ks a)(h:Q KN s):wpAny (K4 prog w) A (Se 8 (.ref a)) Q E s:=by
 have f:=e.typeIs;obtain⟨o,items,m,g,_,hd,j⟩:=e;unfold Se;refine KH (NV f PySem.F.slot_tuple_eq.lookup ?_);show wpAny _ _ (RN (.ref a) (.type "tuple")>>=_) _ _ s;refine KH (NI f OS ?_);simp only[LS,K_,if_false];refine KH (Mb g hd ?_);refine KH ?_;show wpAny _ _ (forIn items _ _) _ _ s;rw[<-NO];refine N9 _ (λrest r b=>r.1=KL/\b=s/\∃ks,aI prog w s.heap ks rest) _ ?_ ?_ _ _ ⟨rfl,rfl,ks,j⟩
 .rintro v rest r b⟨c,rfl,ks,i⟩;cases i with
  |sc d t=>
   rw[R1 _ ((ar prog w).byValue _ _ d)];refine KH (KP ?_);simp only[LS,K_,if_false];exact KP ⟨rfl,rfl,_,t⟩|tp d t=>
   refine KH (sO 6 d ?_);simp only[LS,K_,if_false];exact KP ⟨rfl,rfl,_,t⟩
 .rintro⟨l,k⟩b⟨c,rfl,_⟩;simp only at c;subst c;exact KP h
end
noncomputable def cu(prog:Lb)(w:Lv):HeapKind prog w (List NK)where
 is:=bB prog w;hash:=jy prog w;draws:=λks=>eC ks+1;room:=λA=>A.units+1<L6;inj:=λb a=>b.inj a;keeps:=λx e hd d=>x.keeps e hd d;pyHash:=λhu c h=>sN hu c h;eqBool:=λhu b a h=>xI hu b a h;quiet:=λc h=>pL c h
theorem fy{prog:Lb}{w:Lv}{A:Lz}(hu:A.units+2<L6):(cu prog w).room A.in1:=hu
structure GH(X:Cx)(scope:MQ)(cl:List (Lf×KS)):Prop where
 HQ:SD scope X.env=pure cl
 sub:∀x c,cl.lookup x=KE c->X.env.cells.lookup x=KE c
 has:∀x,scope.names.lookup x=KE .free->(∃c,cl.lookup x=KE c)/\(X.env.kindOf x=KE .cell\/X.env.kindOf x=KE .free)kind:scope.kind=.function
 cells:∀y∈scope.names,y.2=.cell->scope.names.lookup y.1=KE .cell
 names:∀y∈scope.names,y.2=.local->scope.names.lookup y.1=KE .local
noncomputable def eP(X:Cx)(b:List (KS×L_))(a:MQ)(N:List Lf)(c:List (Lf×KS))(C:KS)(fp:List KS)(s:KR)(H:Hp):Cx:={X with N:=N,b7:=s,gh:=H,env:=compEnvC a c C X.env,outer:=X.stack,stack:=X.stack,ex:=fp,fn:=λx=>a.names.lookup x==KE .cell,pn:=X.pn++b,xe:=λ_ _=>False}
theorem cZ{env:Q4}:∀{names:List (Lf×Nj)}{x:Lf}{k:Nj},(names.map λ(n,k)=>if(k==Mp&&env.scope.kind==.function&&env.kindOf n==KE .cell)then(n,Md)else(n,k)).lookup x=KE k->(k=.cell\/k=.free)->names.lookup x=KE .free\/names.lookup x=KE .cell
 |[],_,_,h,_=>by simp at h|(n,b)::r,x,k,h,d=>by
  have e:=@cZ env r x k;have h:Si x ((if(b==Mp&&env.scope.kind==.function&&env.kindOf n==KE .cell)=KN then(n,Md)else(n,b))::_)=KE k:=h;cases c:x==n with
  |true=>
   by_cases a:(b==Mp&&env.scope.kind==.function&&env.kindOf n==KE .cell)=KN
   .rw[if_pos a]at h;simp only[KW,beq_iff_eq]at a;simp only[LD,c];exact .inl (by rw[a.1.1])
   .rw[if_neg a]at h;simp only[LD,c]at h⊢;cases h;rcases d with z|z;.exact .inr (by rw[z])
    .exact .inl (by rw[z])|false=>
   by_cases a:(b==Mp&&env.scope.kind==.function&&env.kindOf n==KE .cell)=KN
   .rw[if_pos a]at h;simp only[LD,c]at h⊢;exact e h d
   .rw[if_neg a]at h;simp only[LD,c]at h⊢;exact e h d
theorem jA:∀(names:List (Lf×Nj))(n:Nat)(a:List (Lf×KS)),(∀x c,a.lookup x=KE c->c<n)->(∀x y c,a.lookup x=KE c->a.lookup y=KE c->x=y)->(∀x y c,(Nf n names a).lookup x=KE c->(Nf n names a).lookup y=KE c->x=y)/\∀x c,(Nf n names a).lookup x=KE c->(a.lookup x=KE c/\(x,Md)∉names)\/(n<=c/\(x,Md)∈names/\∀h:Lu,h.objs.size=n->(Ob h names).IsCell c KL)
 |[],n,a,_,l=>⟨l,λx c e=>.inl ⟨e,by simp⟩⟩|(b,kind)::r,n,a,hb,l=>by
  by_cases t:kind=.cell
  .subst t;have u:Nf n ((b,Md)::r) a=Nf (n+1) r ((b,n)::a):=rfl;have lk:∀x c,((b,n)::a).lookup x=KE c->(x=b/\c=n)\/(x≠b/\a.lookup x=KE c):=λx c e=>by
    rw[LD]at e;cases k:x==b with
    |true=>rw[k]at e;cases e;exact .inl ⟨beq_iff_eq.mp k,rfl⟩|false=>rw[k]at e;exact .inr ⟨by simpa using k,e⟩
   obtain⟨s,p⟩:=jA r (n+1) ((b,n)::a) (λx c e=>by
    rcases lk x c e with⟨_,z⟩|⟨_,z⟩;.rw[z];exact P9 n
    .exact PH (hb x c z)) (λx y c A w=>by
    rcases lk x c A with⟨f,d⟩|⟨_,d⟩<;>rcases lk y c w with⟨o,g⟩|⟨_,g⟩;.rw[f,o]
    .exact absurd (hb y c g) (by rw[d];exact LU n)
    .exact absurd (hb x c d) (by rw[g];exact LU n)
    .exact l x y c d g);rw[u];refine⟨s,λx c e=>?_⟩;rcases p x c e with⟨f,d⟩|⟨f,d,m⟩
   .rcases lk x c f with⟨rfl,rfl⟩|⟨o,g⟩
    .refine .inr ⟨K8 _,K2,λh i=>?_⟩;show(Ob (h.push {cls:=.type "cell",data:=.cell KL}) r).IsCell c KL;exact⟨_,QJ r _ _ _ (i▸K9 _ rfl),rfl⟩
    .refine .inl ⟨g,λq=>?_⟩;rcases List.mem_cons.mp q with q|q;.exact o (Prod.mk.inj q).1
     .exact d q
   .refine .inr ⟨Nat.le_of_succ_le f,K1 _ d,λh i=>?_⟩;show(Ob (h.push {cls:=.type "cell",data:=.cell KL}) r).IsCell c KL;exact m _ (by rw[Mn,i])
  .have j:(kind==Md)=KO:=beq_eq_false_iff_ne.mpr t;have u:Nf n ((b,kind)::r) a=Nf n r a:=by
    show(if kind==Md then _ else _)=_;rw[j];rfl
   have v:∀h:Lu,Ob h ((b,kind)::r)=Ob h r:=λh=>by
    show(if kind==Md then _ else _)=_;rw[j];rfl
   obtain⟨s,p⟩:=jA r n a hb l;rw[u];refine⟨s,λx c e=>?_⟩;rcases p x c e with⟨f,d⟩|⟨f,d,m⟩
   .refine .inl ⟨f,λq=>?_⟩;rcases List.mem_cons.mp q with q|q;.exact t (Prod.mk.inj q).2.symm
    .exact d q
   .exact .inr ⟨f,K1 _ d,λh i=>by rw[v];exact m h i⟩
structure AX(X:Cx)(scope:MQ)(s:KR)(C:KS)(h':Lu)(cs:List (Lf×KS)):Prop where
 inj:∀x y c,cs.lookup x=KE c->cs.lookup y=KE c->x=y
 sub:∀x c,cs.lookup x=KE c->(X.env.cells.lookup x=KE c/\scope.names.lookup x≠KE .cell)\/(s.heap.objs.size<=C/\C<c/\h'.IsCell c KL)free:∀x c,cs.lookup x=KE c->scope.names.lookup x=KE .free->X.env.cells.lookup x=KE c
 has:∀x,scope.names.lookup x=KE .cell\/scope.names.lookup x=KE .free->∃c,cs.lookup x=KE c
theorem mm{M:Sf}{A:Lz}{E:KJ->KR->Prop}{s:KR}{a:MQ}{globals:KS}{f:List (Lf×KS)}{c:Lf}{b:Q4}{Q:Q4->KR->Prop}(h:Q (newEnv a s.heap.objs.size globals (Nf (s.heap.objs.size+1) a.names f) c KL .none (KE b) Qi) {s with heap:=Ob (s.heap.push {cls:=.type "dict",data:=.dict #[]}) a.names}):wpAny M A (newFunctionEnv a globals f [] c KL .none (KE b)) Q E s:=by
 simp only[newFunctionEnv,RL,if_true];refine KH (wpAny_alloc ?_);refine KH (wpAny_layCells _ (λe kind cells=>by cases d:kind==Md<;>simp[d]) _ _ _ _ ?_);rw[NJ];refine KH (KP (KP ?_));rw[show({s with heap:=s.heap.push {cls:=.type "dict",data:=.dict #[]}}:KR).heap.objs.size=s.heap.objs.size+1 from Mn ..];exact h
section
variable{X:Cx}{pins:List (KS×L_)}{σ:St}{H H':Hp}{s s':KR}{cs:List (Lf×KS)}{fp:List KS}{scope:MQ}{cl:List (Lf×KS)}{own fr:List Lf}{js:List Nat}{C:KS}{h':Lu}
noncomputable def aO(σ:St)(n:Nat)(js:List Nat):St:=Mm n KL++js.map λj=>(σ[j]?).join
theorem q_(I:Inv X pins σ H s)(a:∀b∈fp,dG X pins H b):∀b∈fp,b∉sA X.stack:=λb hb z=>by
 obtain⟨_,d,c,_⟩:=a b hb;rcases List.mem_cons.mp (I.jn b z)with e|e;.exact d e
 .exact c e
theorem AY(I:Inv X pins σ H s)(d:∀b∈fp,dG X pins H b)(g:∀b∈fp,b<s.heap.objs.size)(c:GH X scope cl)(k:AX X scope s C h' cs)(j:s.heap.objs.size<=C){N:List Lf}:(eP X pins scope N cs C fp s H).Ok where
 mod:=I.mod;kind:=c.kind;glob:=I.ok.glob;blt:=I.ok.blt;above:=j;inj:=k.inj;has:=λx f=>by
  have l:scope.names.lookup x=KE .free\/scope.names.lookup x=KE .cell:=by
   rcases f with f|f;.exact cZ f (.inl rfl)
   .exact cZ f (.inr rfl)
  exact k.has x l.symm
 Dv:=λx a z e=>by
  have z:(scope.names.lookup x==KE .cell)=KN:=z;rcases k.sub x a e with⟨_,q⟩|⟨i,h,_⟩;.exact absurd (beq_iff_eq.mp z) q
  .exact Pc (Ow i h)
 hd:=I.ok.hd;frames:=I.ok.frames;DP:=.inl rfl;Hh:=λb hb=>⟨Lp (Le (g b hb) j),λx a e=>by
  rcases k.sub x a e with⟨q,_⟩|⟨i,h,_⟩;.exact(d b hb).2.2.2.2.1 x a q
  .exact Nc (R0 (Le (g b hb) i) h)⟩;bs:=I.bs;xo:=L7 I.ok.xo I.sz;sC:=λb o e hb=>by
  rcases(d b hb).2.2.2.1 with z|z;.exact I.ok.sC b o e z
  .exact absurd (Le (Le (K5 e) I.ok.xo) z) (LU _)
 t7:=q_ I d;iY:=I.stack;Ak:=I.qM
theorem sP(I:Inv X pins σ H s)(L:∀b∈fp,dG X pins H b)(M:∀b∈fp,b<s.heap.objs.size)(c:GH X scope cl)(A:AX X scope s C h' cs)(S:js.map (λj=>X.N[j]?)=fr.map KE)(K:∀x∈fr,scope.names.lookup x=KE .free){t':Nat}(O:s.heap.objs.size<=C)(k:∀b o,s.heap.get? b=KE o->h'.get? b=KE o){m:Lf->Option KJ}(hn:h'.Ns C m):Inv (eP X pins scope (own++fr) cs C fp s H) [] (aO σ own.length js) H {s with heap:=h',toks:=t'}:=by
 have jl:js.length=fr.length:=by simpa using congrArg OA S
 refine⟨AY I L M c A O,rfl,I.bare,Un.kept k,⟨m,hn,λi x v w f _=>?_⟩,λx a e=>?_,I.aM.fresh O,λx a e=>?_,λp F=>?_,I.aM.kept k,?_⟩
 .unfold aO at f;have w:(own++fr)[i]?=KE x:=w;by_cases J:i<own.length
  .rw[LX (by simpa using J),NH,if_pos J]at f;cases f
  .rw[LJ (by simpa using J)]at f;rw[LJ (by omega)]at w;rw[MS]at f;generalize i-own.length=t at w f;have E:=congrArg (λl=>l[t]?) S;rw[Lr,Lr,w]at E;rw[Lr]at f;cases U:js[t]? with
   |none=>rw[U]at f;cases f|some j=>
    rw[U]at f E;have h:X.N[j]?=KE x:=KY E;have hv:σ[j]?=KE (KE v):=by
     have f:(σ[j]?).join=KE v:=KY f;cases T:σ[j]? with
     |none=>rw[T]at f;cases f|some o=>
      rw[T]at f;have f:o=KE v:=f;rw[f]
    have g:=K x (LR w);obtain⟨_,P⟩:=c.has x g;obtain⟨a,V⟩:=A.has x (.inr g);obtain⟨m0,_,hl⟩:=I.loc;obtain⟨u,r,lk⟩:=hl j x v h hv (.inr P);refine⟨u,r,.inr ⟨?_,a,V,?_⟩⟩
    .show(SO scope X.env).names.lookup x=KE .cell\/(SO scope X.env).names.lookup x=KE .free;have gen:∀names:List (Lf×Nj),names.lookup x=KE .free->(names.map λ(n,k)=>if(k==Mp&&X.env.scope.kind==.function&&X.env.kindOf n==KE .cell)then(n,Md)else(n,k)).lookup x=KE .cell\/(names.map λ(n,k)=>if(k==Mp&&X.env.scope.kind==.function&&X.env.kindOf n==KE .cell)then(n,Md)else(n,k)).lookup x=KE .free:=by
      intro names;induction names with
      |nil=>intro z;simp at z|cons y r R=>
       obtain⟨n,B⟩:=y;intro z;show Si x ((if(B==Mp&&X.env.scope.kind==.function&&X.env.kindOf n==KE .cell)=KN then(n,Md)else(n,B))::_)=_\/Si x ((if(B==Mp&&X.env.scope.kind==.function&&X.env.kindOf n==KE .cell)=KN then(n,Md)else(n,B))::_)=_;cases h:x==n with
       |true=>
        simp only[LD,h]at z;cases z;by_cases D:(Mp==Mp&&X.env.scope.kind==.function&&X.env.kindOf n==KE .cell)=KN;.rw[if_pos D];exact .inl (by simp[LD,h])
        .rw[if_neg D];exact .inr (by simp[LD,h])|false=>
        simp only[LD,h]at z;by_cases D:(B==Mp&&X.env.scope.kind==.function&&X.env.kindOf n==KE .cell)=KN;.rw[if_pos D];simp only[LD,h];exact R z
        .rw[if_neg D];simp only[LD,h];exact R z
     exact gen scope.names g
    .rcases lk with⟨Q,_⟩|⟨_,b,eb,z⟩
     .rcases P with q|q;.rw[Q]at q;cases q
      .rw[Q]at q;cases q
     .have e:=A.free x a V g;rw[eb]at e;cases e;obtain⟨o,G,hd⟩:=z;exact⟨o,k _ _ G,hd⟩
 .rcases A.sub x a e with⟨q,_⟩|⟨_,_,q⟩
  .obtain⟨v,o,G,hd⟩:=I.cell x a q;exact⟨v,o,k _ _ G,hd⟩
  .exact⟨KL,q⟩
 .rcases A.sub x a e with⟨q,_⟩|⟨Y,W,_⟩;.exact I.cY x a q
  .exact I.aM.fresh (Pc (Ow Y W))
 .have F:p∈X.pn++pins:=by simpa[eP]using F
  obtain⟨e,n,ne,Z,d⟩:=I.pin p F;refine⟨k _ _ e,n,Lp (Le (K5 e) O),λz=>?_,d⟩;rcases List.mem_cons.mp (I.jn _ z)with q|q;.exact ne q
  .exact Z q
 .show(aO σ own.length js).length=(own++fr).length;unfold aO;simp[jl]
theorem xJ{a:St}{pl:List (KS×L_)}{N:List Lf}(I:Inv X pins σ H s)(c:∀b∈fp,dG X pins H b)(J:Inv (eP X pins scope N cl C fp s H) pl a H' s'):Inv X pins σ H' s':=by
 refine I.DQ (ch:=fp) J.os J.base J.aM J.bare λb hb=>?_;obtain⟨_,g,_,f,e,d⟩:=c b hb;exact⟨f,g,e,d⟩
theorem Inv.zL{a:KS}{o:HO}(I:Inv X pins σ H s)(ha:X.b7.heap.objs.size<=a)(f:H a=KL)(l:a≠X.env.locals)(k:∀x c,X.env.cells.lookup x=KE c->c≠a)(j:∀p∈X.pn++pins,p.1≠a)(new:bj X.prog X.w (upd H a o) s.heap a o):Inv X pins σ (upd H a o) s:=by
 refine⟨I.ok,I.os,I.bare,⟨I.base.keep,I.base.slot,λb ob e n i=>?_,I.base.there,λb g e=>?_,λb ob u e=>?_,λb ps e=>?_⟩,I.loc,I.cell,?_,λx c e=>?_,λp h=>?_,λb u e=>?_,I.len⟩
 .rw[af (Lp (Le (K5 e) ha))];exact I.base.free b ob e n i
 .have q:=I.base.iW b g e;rw[af (ay q f)];exact q
 .have q:=I.base.gV b ob u e;rw[af (ay q f)];exact q
 .obtain⟨d,q⟩:=I.base.iX b ps e;exact⟨d,by rw[af (ay q f)];exact q⟩
 .rw[af (LP l)];exact I.free
 .rw[af (k x c e)];exact I.cY x c e
 .obtain⟨e,n,r⟩:=I.pin p h;exact⟨e,by rw[af (j p h)];exact n,r⟩
 .by_cases hb:b=a
  .subst hb;rw[ai]at e;cases e;exact new
  .rw[af hb]at e;exact(I.aM b u e).dW (λ_ _ _ q=>q) (λc q=>by rw[af (ay q f)];exact q) λc g q=>by rw[af (ay q f)];exact q
end
noncomputable def uB(Y:Cx)(ifs:List K7)(t:TT):Prop:=∀(a:List (KS×L_))(s:KR)(b:St)(H:Hp)(Q:Bool->Hp->Prop),Inv Y a b H s->t b H Q->wpAny (K4 Y.prog Y.w) Y.A (forIn ifs KN λc r=>if r=KN then do let ok<-RF c Y.env (MT c Y.env);pure (MA ok)else pure (MA r)) (TP Y a b Q) Y.xe s
noncomputable def AZ:TT:=λ_ H Q=>Q KN H
theorem nB{Y:Cx}:uB Y [] AZ:=λa s b H Q I h=>wpAny_tests_nil ⟨H,I,h⟩
theorem uC{Y:Cx}{c:K7}{t:TT}(h:PT Y c t):uB Y [c] t:=λa s b H Q I q=>wpAny_tests_one (h a s b H Q I q)
noncomputable abbrev RB(a:Type):=St->Hp->a->(a->St->Hp->Prop)->Prop
noncomputable def Body(Y:Cx){e:Type}(ok:e->L_->Prop)(D:KS)(body:Pu Unit)(rd:RB e):Prop:=∀(b:List (KS×L_))(s:KR)(f:St)(H:Hp)(a:e)(ob:L_)(Q:e->St->Hp->Prop),Inv Y ((D,ob)::b) f H s->(∀p∈Y.pn++b,p.1≠D)->ok a ob->rd f H a Q->wpAny (K4 Y.prog Y.w) Y.A body (λ_ i=>∃g d c h,Inv Y ((D,d)::b) c h i/\ok g d/\Q g c h) Y.xe s
noncomputable def uD{j:Type}(J:It)(g:TG)(e:TT)(rd:RB j):RB j:=λd H a Q=>∃W:Nat->Nat->j->St->Hp->Prop,(∃m,W 0 m a d H)/\∀i m a d H,W i m a d H->(J.stop i H/\Q a d H)\/(J.go i H/\∀x l,J.GD i H x l->g x d l λc p=>e c p λb k=>if b=KN then rd c k a λn h o=>∃f,f<m/\W (i+1) f n h o else∃f,f<m/\W (i+1) f a c k)
theorem nE{Y:Cx}{α:Type}{ok:α->L_->Prop}{D it:KS}{e tg:K7}{d:Nat}{ifs:List K7}{body:Pu Unit}{pos0:My}{J:It}{fp:List KS}{tn:Nat->Lu->Prop}{g:TG}{G:TT}{rd:RB α}(hc:Y.calm=KN)(hx:∀x C,¬Y.xe x C)(a9:(K4 Y.prog Y.w).den (.compLoop e d (.ref it) (.ref D) Y.env)=(SE e d (.ref it) (.ref D) Y.env).onRaise (λx=>do noteFrame x Y.env;theTreesLotGoes x))(a5:Y.A.under (.compLoop e d (.ref it) (.ref D) Y.env)=Y.A)(b3:SE e d (.ref it) (.ref D) Y.env=(do
   Rm pos0;match<-N1 (.ref it)with
   |none=>pure (.done .next)|some v=>
    Ov tg (.ref it) v;PR tg Y.env v;let mut ok:=KN;for c in ifs do if ok then ok<-RF c Y.env (MT c Y.env)
    if ok then body
    SR (.compLoop e d (.ref it) (.ref D) Y.env)))(T:Turn Y.prog Y.w Y.K tg J fp it tn)(hg:PG Y tg g)(hi:uB Y ifs G)(hb:Body Y ok D body rd){f:List (KS×L_)}{ob:L_}{a:α}{F:St}{H:Hp}{s:KR}{Q:α->St->Hp->Prop}(I:Inv Y ((D,ob)::f) F H s)(a7:∀p∈Y.pn++f,p.1≠D)(aM:ok a ob)(S:∀b∈fp,dG Y ((D,ob)::f) H b)(b2:tn 0 s.heap)(h:uD J g G rd F H a Q):codeAny (K4 Y.prog Y.w) Y.A (.compLoop e d (.ref it) (.ref D) Y.env) (λr C=>∃a' E a0 H',r=.ok .next/\Inv Y ((D,E)::f) a0 H' C/\ok a' E/\Q a' a0 H'/\∀b∈fp,H' b=KL) s:=by
 obtain⟨W,⟨m0,w0⟩,a2⟩:=h;have B:∀{H':Hp}{E:L_},(∀b∈fp,H' b=KL)->∀b∈fp,dG Y ((D,E)::f) H' b:=λ{H' E}hn b hb=>by
  obtain⟨_,h1,h2,h3,h4,h5⟩:=S b hb;refine⟨hn b hb,h1,h2,h3,h4,λp hp=>?_⟩;rcases List.mem_append.mp hp with z|z;.exact h5 p (MX _ z)
  .rcases List.mem_cons.mp z with q|q;.rw[q];exact h5 (D,ob) (Lg _ K2)
   .exact h5 p (Lg _ (K1 _ q))
 have a6:∀h:Lu,∀p∈Y.pn++(f++dY fp h),p.1≠D:=λh p hp=>by
  rcases List.mem_append.mp hp with z|z;.exact a7 p (MX _ z)
  .rcases List.mem_append.mp z with q|q;.exact a7 p (Lg _ q)
   .exact LP ((S p.1 (kX q).1).2.2.2.2.2 (D,ob) (Lg _ K2))
 have y:∀{R:KJ->KR->Prop}(x:KJ)(C:KR),Y.xe x C->R x C:=λx C z=>(hx x C z).elim;refine codeAny_loop rfl (λn C=>∃i a ob F H,Inv Y ((D,ob)::f) F H C/\ok a ob/\tn i C.heap/\(∀b∈fp,H b=KL)/\W i n a F H) ?_ m0 ⟨0,a,ob,F,H,I,aM,b2,λb hb=>(S b hb).1,w0⟩;rintro n s3⟨i,a3,P,l,H3,I3,O,a4,U,w3⟩;rw[a9,a5];refine wpAny_noted ?_;rw[b3];refine KH (Oi (KH ?_));rcases a2 i n a3 l H3 w3 with⟨stop,qn⟩|⟨go,step⟩
 .refine MI (T.done Y rfl rfl rfl hc i _ s3 l H3 Y.xe I3 (B U) a4 stop) (λr s4⟨hr,I4⟩=>?_) y;subst hr;exact KP ⟨a3,P,l,H3,rfl,I4,O,qn,U⟩
 .refine MI (T.item Y rfl rfl rfl hc i _ s3 l H3 Y.xe I3 (B U) a4 go) (λr s4⟨u,hr,h4⟩=>?_) y;subst hr;refine KH (MI h4 (λ_ V⟨x,H5,I5,r5,y5,M,b4⟩=>?_) y);have c2:Inv Y ((D,P)::(f++dY fp V.heap)) l H5 V:=I5.pinned (B b4) (T.obj _ _ M);refine KH (MI (hg _ V l H5 x u _ c2 r5 (step x H5 y5)) (λ_ s6⟨Z,H6,I6,q6⟩=>?_) y);refine KH (MI (hi _ s6 Z H6 _ I6 q6) (λb s7⟨H7,I7,q7⟩=>?_) y);have j:∀{a8:α}{t:L_}{k:St}{X:Hp}{s8:KR},Inv Y ((D,t)::(f++dY fp V.heap)) k X s8->ok a8 t->(∃m',m'<n/\W (i+1) m' a8 k X)->∃m,m<n/\∃i a ob F H,Inv Y ((D,ob)::f) F H s8/\ok a ob/\tn i s8.heap/\(∀b∈fp,H b=KL)/\W i m a F H:=λ{a8 t k X s8}I8 N b0=>by
   obtain⟨m',hm,w8⟩:=b0;have L:=λ(b:KS)(o:L_)(z:(b,o)∈dY fp V.heap)=>I8.pin (b,o) (Lg _ (K1 _ (Lg _ z)));have c1:Inv Y (((D,t)::f)++dY fp V.heap) k X s8:=I8;refine⟨m',hm,i+1,a8,t,k,X,c1.gp,N,T.keep _ _ _ M λb hb o e=>(L b o (dZ hb e)).1,λb hb=>?_,w8⟩;obtain⟨o,e,_⟩:=T.obj _ _ M b hb;exact(L b o (dZ hb e)).2.1
  cases b with
  |false=>
   rw[if_neg La]at q7;exact KP ⟨rfl,j I7 O q7⟩|true=>
   rw[if_pos rfl]at q7;refine KH (MI (hb _ s7 Z H7 a3 P _ I7 (a6 _) O q7) (λ_ s8⟨a8,t,k,X,I8,N,q8⟩=>?_) y);exact KP ⟨rfl,j I8 N q8⟩
noncomputable def GI(b:List V)(ob:L_):Prop:=b.length<=KU/\∃(a:List KJ)(n:Nat),aq b a/\ob={cls:=.type "list",data:=.seq a.toArray n}
noncomputable def gX(te:TE):RB (List V):=λb H a Q=>te b H λy c=>a.length<KU/\Q (a++[y]) b c
theorem aq.snoc{xs:List V}{us:List KJ}{x:V}{u:KJ}(r:aq xs us)(q:RelV x u):aq (xs++[x]) (us++[u]):=r.append (.cons q .nil)
theorem Inv.Eo{Y:Cx}{a:List (KS×L_)}{h:St}{H:Hp}{s:KR}{D:KS}{ob d:L_}{h':Lu}(I:Inv Y ((D,ob)::a) h H s)(r:Y.b7.heap.objs.size<=D)(j:∀x c,Y.env.cells.lookup x=KE c->c≠D)(q:∀p∈Y.pn++a,p.1≠D)(k:∀b o,b≠D->s.heap.get? b=KE o->h'.get? b=KE o)(e:h'.get? D=KE d)(hd:∀v,d.data≠.cell v){t':Nat}:Inv Y ((D,d)::a) h H {s with heap:=h',toks:=t'}:=by
 obtain⟨_,n,ne,m,_⟩:=I.pin (D,ob) (Lg _ K2);have t:Inv Y a h H s:=I.dX λp i=>I.pin p (Lg _ (K1 _ i));have l:Inv Y a h H {s with heap:=h',toks:=t'}:=t.turned (it:=D) k n ne (.inr r) j q;refine l.dX λp i=>?_;rcases List.mem_cons.mp i with z|z;.rw[z];exact⟨e,n,ne,m,hd⟩
 .exact l.pin p (Lg _ z)
structure HR(Y:Cx)(D:KS):Prop where
 young:Y.b7.heap.objs.size<=D
 cells:∀x c,Y.env.cells.lookup x=KE c->c≠D
theorem lu{Y:Cx}{D:KS}{c:K7}{te:TE}(o:HR Y D)(h:PE Y c te):Body Y GI D (do let _<-call (.builtin "list.append") [.ref D,<-MT c Y.env]) (gX te):=by
 intro k s i H g ob Q I f aM q;refine KH (aU (h _ s i H _ I q) λu s1 d=>?_);obtain⟨y,C,m,p,E,r⟩:=d;obtain⟨x,a,n,j,rfl⟩:=aM;have A:=(m.pin _ (Lg _ K2)).1;refine KH (wpAny_list_append_plain (l:=D) (items:=a.toArray) ⟨n,A⟩ (λF⟨t,B⟩w=>KP ?_) (by rw[K3,<-j.length];exact x));refine⟨g++[y],_,i,C,m.Eo o.young o.cells f (λb ob hb e=>(w.2 b hb).trans e) B (λv z=>nomatch z),⟨by simp;omega,a++[u],t,j.snoc p,by simp⟩,r⟩
inductive D where|bw|bl(b:Bool)|int(i:Int)|str(x:Lf)|tup(xs:List D)|lst(xs:List D)|aQ(ks vs:List D)
inductive W where|d(x:D)|feed|own(d:D)|fI(ks ds:List D)
abbrev ah:=List (Option W)
structure Xc where
 x:D
 en:ah
structure M(α:Type)where
 run:Nat->(α->Nat->Prop)->(Xc->Nat->Prop)->Prop
 mono:∀{k Q Q' E E'},run k Q E->(∀a k,Q a k->Q' a k)->(∀x k,E x k->E' x k)->run k Q' E'
namespace M
variable{α β:Type}
protected def pure(a:α):M α:=⟨λk Q _=>Q a k,λh q _=>q _ _ h⟩
protected def bind(m:M α)(f:α->M β):M β:=⟨λk Q E=>m.run k (λa k'=>(f a).run k' Q E) E,λh q e=>m.mono h (λa k' h=>(f a).mono h q e) e⟩
instance:Monad M where
 pure:=M.pure;bind:=M.bind
noncomputable def fail:M α:=⟨λ_ _ _=>False,λh _ _=>h⟩
noncomputable def need(P:Prop):M Unit:=⟨λk Q _=>P/\Q () k,λh q _=>⟨h.1,q _ _ h.2⟩⟩
noncomputable def any(P:α->Prop):M α:=⟨λk Q _=>∀a,P a->Q a k,λh q _ a p=>q _ _ (h a p)⟩
noncomputable def tick(n:Nat):M Unit:=⟨λk Q _=>k+n<=1000000/\∀c,k<=c->c<=k+n->Q () c,λh q _=>⟨h.1,λc a b=>q _ _ (h.2 c a b)⟩⟩
noncomputable def get(o:Option α):M α:=match o with
 |some a=>pure a|none=>fail
theorem run_get{o:Option α}{k Q E}:(get o).run k Q E↔∃a,o=KE a/\Q a k:=by cases o with
 |none=>exact⟨λh=>h.elim,λ⟨a,h,_⟩=>nomatch h⟩|some a=>exact⟨λh=>⟨a,rfl,h⟩,λ⟨b,h,q⟩=>by cases h;exact q⟩
end M
structure bS(H:Hp)(p q:KS)(ns:List Int)(i r:Int):Prop where
 ob:H p=KE (.lst [.ref q,.int i,.int r])cs:∃o,H q=KE (.b6 o (.lst (ns.map V.int)))ne:q≠p
 i0:0<=i
 r0:0<=r
 ln:ns.length<=63
noncomputable def jB(H:Hp)(p q:KS)(k:Nat):Prop:=∃ns i r,bS H p q ns i r/\i<=(k:Int)
noncomputable def Dx(H:Hp)(p:KS)(k:Nat):Prop:=∃q,jB H p q k
theorem jB.same{H H':Hp}{p q:KS}{k:Nat}(F:jB H p q k)(h:nA H H'):jB H' p q k:=by
 obtain⟨ns,i,r,⟨g,⟨o,f⟩,e,d,c,b⟩,a⟩:=F;exact⟨ns,i,r,⟨h _ _ g,⟨o,h _ _ f⟩,e,d,c,b⟩,a⟩
structure Fb where
 K:KZ
 p:KS
 P:Lb
 w:Lv
structure Fx extends Fb where
 H0:Hp
 k0:Nat
 E:Xc->Nat->Prop
 Hs:Hp
 ks:Nat
noncomputable def A0(H:Hp)(a:KS)(xs:List V):Prop:=∃o,H a=KE (.b6 o (.lst xs))
theorem A0.sq{K:KZ}{H:Hp}{a:KS}{xs:List V}(h:A0 H a xs):dF K H a xs:=.inl (.inr h)
noncomputable def TupAt(F:Fb)(H:Hp)(a:KS)(xs:List V):Prop:=a≠F.p/\gj F.K H a xs
noncomputable def LstAt(F:Fb)(H:Hp)(a:KS)(xs:List V):Prop:=a≠F.p/\A0 H a xs
theorem A7{X:Cx}{b:List (KS×L_)}{d:St}{H:Hp}{s:KR}{a:KS}{ks:List Key}(I:Inv X b d H s)(h:gj X.K H a (ks.map kV)):IsTupleKey (ar X.prog X.w) s.heap ks a:=by
 obtain⟨c,r,⟨o,g,f,n,e⟩,_⟩:=I.tuple h;exact⟨o,c.toArray,n,g,f,e,by simpa using lq r⟩
noncomputable def kD:Key->D
 |.inl i=>.int i|.inr x=>.str x
noncomputable def nD:NK->D
 |.inl k=>kD k|.inr ks=>.tup (ks.map kD)
noncomputable def Dy(F:Fb)(H:Hp):V->NK->Prop
 |v,.inl k=>v=kV k|v,.inr ks=>∃b,v=.ref b/\TupAt F H b (ks.map kV)
noncomputable def d6(F:Fb)(H:Hp)(a:KS)(ks:List NK):Prop:=∃b,TupAt F H a b/\Paired (Dy F H) b ks
noncomputable def gY(P:Lb)(w:Lv)(o:L_)(us:List (Key×KJ)):Prop:=∃a b,o.ExactDict/\o.data=.dict a b/\KeysOf (ar P w) a/\Pairs (ar P w) a.toList us/\(us.map (·.1)).Nodup
noncomputable def gZ(P:Lb)(w:Lv)(o:L_)(xs:List (List NK×KS×KJ)):Prop:=∃a b,o.ExactDict/\o.data=.dict a b/\a.toList=xs.map (Sr (cu P w))/\(xs.map (·.1)).Nodup
noncomputable def KA:List (List NK×KS×V)->List (List NK×KS×KJ)->Prop:=Paired λp q=>p.1=q.1/\p.2.1=q.2.1/\RelV p.2.2 q.2.2
noncomputable def bo(F:Fb)(H:Hp)(o:L_)(ks:List D)(c:List V):Prop:=ks.length<=KU/\((∃(a:List (Key×V))(d:List (Key×KJ)),KV a d/\gY F.P F.w o d/\ks=a.map (λx=>kD x.1)/\c=a.map (·.2))\/(∃(a:List (List NK×KS×V))(b:List (List NK×KS×KJ)),KA a b/\gZ F.P F.w o b/\(∀x∈a,d6 F H x.2.1 x.1)/\ks=a.map (λx=>D.tup (x.1.map nD))/\c=a.map (·.2.2)))
noncomputable def sQ(F:Fb)(H:Hp)(a:KS)(o:L_):Prop:=a≠F.p/\(a==Mu)=KO/\((∃u,H a=KE (.b6 o u))\/F.K.lookup a=KE o)
noncomputable def ra(F:Fb)(H:Hp)(a:KS)(ks:List D)(b:List V):Prop:=∃o,sQ F H a o/\bo F H o ks b
noncomputable def kI(a:KS)(o:L_):HO:=.ext λh=>h.get? a=KE o
mutual
noncomputable def Is(F:Fb)(H:Hp):V->D->Prop
 |v,.bw=>v=.bw|v,.bl b=>v=.bl b|v,.int i=>v=.int i|v,.str x=>v=.str x|v,.tup d=>∃a c,v=.ref a/\TupAt F H a c/\ab F H c d|v,.lst d=>∃a c,v=.ref a/\LstAt F H a c/\ab F H c d|v,.aQ ks d=>∃a c,v=.ref a/\ra F H a ks c/\ab F H c d
noncomputable def ab(F:Fb)(H:Hp):List V->List D->Prop
 |xs,[]=>xs=[]|xs,d::b=>∃x a,xs=x::a/\Is F H x d/\ab F H a b
end
noncomputable def HO.iJ:HO->Bool
 |.tup _=>KN|.b6 _ _=>KN|_=>KO
structure Kp(F:Fb)(H:Hp)(k:Nat)(H':Hp)(k':Nat):Prop where
 keep:∀a o,a≠F.p->o.iJ=KN->H a=KE o->H' a=KE o
 live:H F.p≠KL->H' F.p≠KL
 le:k<=k'
 bJ:∀q,jB H F.p q k->jB H' F.p q k'
structure Ext(F:Fb)(H:Hp)(k:Nat)(H':Hp)(k':Nat):Prop where
 keep:∀a o,a≠F.p->H a=KE o->H' a=KE o
 live:H F.p≠KL->H' F.p≠KL
 le:k<=k'
 bJ:∀q,jB H F.p q k->jB H' F.p q k'
section
variable{F:Fb}{H H1 H2 H':Hp}{k k1 k2 k':Nat}
theorem Ext.kp(e:Ext F H k H' k'):Kp F H k H' k':=⟨λa o h _ q=>e.keep a o h q,e.live,e.le,e.bJ⟩
theorem Ext.feed(e:Ext F H k H' k'):Dx H F.p k->Dx H' F.p k':=λ⟨q,h⟩=>⟨q,e.bJ q h⟩
theorem Kp.feed(e:Kp F H k H' k'):Dx H F.p k->Dx H' F.p k':=λ⟨q,h⟩=>⟨q,e.bJ q h⟩
theorem Ext.refl:Ext F H k H k:=⟨λ_ _ _ h=>h,λh=>h,K8 _,λ_ h=>h⟩
theorem Kp.refl:Kp F H k H k:=Ext.refl.kp
theorem Ext.trans(a:Ext F H k H1 k1)(b:Ext F H1 k1 H2 k2):Ext F H k H2 k2:=⟨λc o d h=>b.keep c o d (a.keep c o d h),λh=>b.live (a.live h),L7 a.le b.le,λq h=>b.bJ q (a.bJ q h)⟩
theorem Kp.trans(a:Kp F H k H1 k1)(b:Kp F H1 k1 H2 k2):Kp F H k H2 k2:=⟨λc o d s h=>b.keep c o d s (a.keep c o d s h),λh=>b.live (a.live h),L7 a.le b.le,λq h=>b.bJ q (a.bJ q h)⟩
theorem sR(h:nA H H'):H F.p≠KL->H' F.p≠KL:=λn z=>n (by cases e:H F.p with
 |none=>rfl|some o=>rw[h _ _ e]at z;cases z)
theorem Ext.of(h:nA H H'):Ext F H k H' k:=⟨λa o _ e=>h a o e,sR h,K8 _,λ_ f=>f.same h⟩
theorem uE{a:KS}{o:HO}(h:H a=KL):nA H (upd H a o):=λb u e=>by rw[af (ay e h)];exact e
theorem Ext.new{a:KS}{o:HO}(h:H a=KL):Ext F H k (upd H a o) k:=.of (uE h)
theorem g0{a:KS}(l:H F.p≠KL)(h:H a=KL):a≠F.p:=λz=>l (z▸h)
theorem TupAt.mono{a:KS}{xs:List V}(h:TupAt F H a xs)(e:Kp F H k H' k'):TupAt F H' a xs:=by
 refine⟨h.1,?_⟩;rcases h.2 with b|b
 .refine .inl ?_;rcases b with b|⟨o,b⟩;.exact .inl (e.keep _ _ h.1 rfl b)
  .exact .inr ⟨o,e.keep _ _ h.1 rfl b⟩
 .exact .inr b
theorem d6.mono{a:KS}{ks:List NK}(h:d6 F H a ks)(e:Kp F H k H' k'):d6 F H' a ks:=by
 obtain⟨f,i,g⟩:=h;refine⟨f,i.mono e,Paired.Aj g λv n z=>?_⟩;cases n with
 |inl k=>exact z|inr ks=>obtain⟨b,d,c⟩:=z;exact⟨b,d,c.mono e⟩
theorem LstAt.mono{a:KS}{xs:List V}(h:LstAt F H a xs)(e:Kp F H k H' k'):LstAt F H' a xs:=by
 refine⟨h.1,?_⟩;obtain⟨o,b⟩:=h.2;exact⟨o,e.keep _ _ h.1 rfl b⟩
theorem sQ.mono{a:KS}{o:L_}(h:sQ F H a o)(e:Kp F H k H' k'):sQ F H' a o:=by
 obtain⟨c,d,b⟩:=h;refine⟨c,d,?_⟩;rcases b with⟨u,b⟩|b;.exact .inl ⟨u,e.keep _ _ c rfl b⟩
 .exact .inr b
theorem bo.mono{o:L_}{ks:List D}{xs:List V}(h:bo F H o ks xs)(e:Kp F H k H' k'):bo F H' o ks xs:=by
 obtain⟨b,h⟩:=h;refine⟨b,?_⟩;rcases h with h|⟨a,xs,i,g,f,d⟩;.exact .inl h
 .exact .inr ⟨a,xs,i,g,λx c=>(f x c).mono e,d⟩
theorem ra.mono{a:KS}{ks:List D}{xs:List V}(h:ra F H a ks xs)(e:Kp F H k H' k'):ra F H' a ks xs:=let⟨o,c,b⟩:=h;⟨o,c.mono e,b.mono e⟩
mutual
theorem Is.mono(e:Kp F H k H' k'):∀{v:V}{d:D},Is F H v d->Is F H' v d
 |_,.bw,h=>by simp only[Is]at h⊢;exact h|_,.bl _,h=>by simp only[Is]at h⊢;exact h|_,.int _,h=>by simp only[Is]at h⊢;exact h|_,.str _,h=>by simp only[Is]at h⊢;exact h|_,.tup _,h=>by
  simp only[Is]at h⊢;obtain⟨a,b,g,f,c⟩:=h;exact⟨a,b,g,f.mono e,ab.mono e c⟩|_,.lst _,h=>by
  simp only[Is]at h⊢;obtain⟨a,b,g,f,c⟩:=h;exact⟨a,b,g,f.mono e,ab.mono e c⟩|_,.aQ _ _,h=>by
  simp only[Is]at h⊢;obtain⟨a,b,g,f,c⟩:=h;exact⟨a,b,g,f.mono e,ab.mono e c⟩
theorem ab.mono(e:Kp F H k H' k'):∀{xs:List V}{ds:List D},ab F H xs ds->ab F H' xs ds
 |_,[],h=>by simp only[ab]at h⊢;exact h|_,d::ds,h=>by
  simp only[ab]at h⊢;obtain⟨x,a,f,c,b⟩:=h;exact⟨x,a,f,Is.mono e c,ab.mono e b⟩
end
theorem ab.nil:ab F H [] []:=by simp only[ab]
theorem ab.cons{x:V}{xs:List V}{d:D}{ds:List D}(h:Is F H x d)(t:ab F H xs ds):ab F H (x::xs) (d::ds):=by simp only[ab];exact⟨x,xs,rfl,h,t⟩
theorem ab.length:∀{xs:List V}{ds:List D},ab F H xs ds->xs.length=ds.length
 |_,[],h=>by simp only[ab]at h;rw[h];rfl|_,d::ds,h=>by
  simp only[ab]at h;obtain⟨x,b,rfl,_,a⟩:=h;simp[ab.length a]
theorem ab.append:∀{xs ys:List V}{ds a:List D},ab F H xs ds->ab F H ys a->ab F H (xs++ys) (ds++a)
 |_,_,[],_,h,t=>by simp only[ab]at h;rw[h];exact t|_,_,d::ds,_,h,t=>by
  simp only[ab]at h;obtain⟨x,ys,rfl,c,b⟩:=h;exact .cons c (ab.append b t)
theorem ab.get:∀{xs:List V}{ds:List D}{i:Nat}{d:D},ab F H xs ds->ds[i]?=KE d->∃x,xs[i]?=KE x/\Is F H x d
 |_,[],_,_,_,e=>by simp at e|_,c::ds,i,d,h,e=>by
  simp only[ab]at h;obtain⟨x,f,rfl,b,a⟩:=h;cases i with
  |zero=>simp at e;subst e;exact⟨x,rfl,b⟩|succ i=>simpa using ab.get (i:=i) a (by simpa using e)
theorem ab.drop:∀{xs:List V}{ds:List D}(n:Nat),ab F H xs ds->ab F H (xs.drop n) (ds.drop n)
 |_,_,0,h=>by simpa using h|_,[],n+1,h=>by simp only[ab]at h;rw[h];exact .nil|_,d::ds,n+1,h=>by
  simp only[ab]at h;obtain⟨x,b,rfl,_,a⟩:=h;simpa using ab.drop n a
theorem ab.take:∀{xs:List V}{ds:List D}(n:Nat),ab F H xs ds->ab F H (xs.take n) (ds.take n)
 |_,_,0,h=>by simpa using ab.nil|_,[],n+1,h=>by simp only[ab]at h;rw[h];exact .nil|_,d::ds,n+1,h=>by
  simp only[ab]at h;obtain⟨x,c,rfl,b,a⟩:=h;simpa using ab.cons b (ab.take n a)
theorem ab.pr:∀{xs:List V}{ds:List D},ab F H xs ds->Paired (Is F H) xs ds
 |_,[],h=>by simp only[ab]at h;rw[h];exact .nil|_,d::ds,h=>by
  simp only[ab]at h;obtain⟨x,c,rfl,b,a⟩:=h;exact .cons b a.pr
theorem jC:∀{xs:List V}{ds:List D},Paired (Is F H) xs ds->ab F H xs ds
 |_,_,.nil=>.nil|_,_,.cons h t=>.cons h (jC t)
end
noncomputable def fL(F:Fb)(H:Hp)(a:KS):D->Prop
 |.lst c=>∃b,H a=KE (.lst b)/\ab F H b c|.aQ ks c=>∃o b,H a=KE (kI a o)/\(a==Mu)=KO/\bo F H o ks b/\ab F H b c|_=>False
noncomputable def fM(F:Fx)(H:Hp)(a:KS)(d:D):Prop:=a≠F.p/\F.H0 a=KL/\fL F.toFb H a d
noncomputable def uF(B:Fb)(H:Hp)(b:KS)(d:D):Prop:=∃a c,d=.lst a/\H b=KE (.lst c)/\ab B H c a
inductive nF(F:Fx)(H:Hp)(a:KS)(ks ds:List D):Prop where|mk(o:L_)(bs:List KS)(ap:a≠F.p)(a0:F.H0 a=KL)(ob:H a=KE (kI a o))(sy:(a==Mu)=KO)(dc:bo F.toFb H o ks (bs.map V.ref))(nd:bs.Nodup)(na:a∉bs)(bp:∀b∈bs,b≠F.p/\F.H0 b=KL)(lv:Paired (uF F.toFb H) bs ds)
noncomputable def Dz(F:Fx)(H:Hp)(k:Nat):V->W->Prop
 |v,.d x=>Is F.toFb H v x|v,.feed=>v=.ref F.p/\Dx H F.p k|v,.own d=>∃a,v=.ref a/\fM F H a d|v,.fI ks b=>∃a,v=.ref a/\nF F H a ks b
inductive A where|d(x:D)|feed|own(d:D)
noncomputable def A.w:A->W
 |.d x=>.d x|.feed=>.feed|.own y=>.own y
noncomputable def DB(F:Fb)(H:Hp)(k:Nat):V->A->Prop
 |v,.d x=>Is F H v x|v,.feed=>v=.ref F.p/\Dx H F.p k|_,.own _=>False
noncomputable abbrev uG(F:Fb)(H:Hp)(k:Nat):List V->List A->Prop:=Paired (DB F H k)
section
variable{F:Fx}{H H1 H2 H':Hp}{k k1 k2 k':Nat}
theorem fL.keep{B:Fb}{a:KS}{d:D}(h:fL B H a d)(e:Kp B H k H' k')(ha:∀o,H a=KE o->H' a=KE o):fL B H' a d:=by cases d with
 |lst j=>obtain⟨b,f,c⟩:=h;exact⟨b,ha _ f,c.mono e⟩|aQ ks j=>obtain⟨o,b,f,c,i,g⟩:=h;exact⟨o,b,ha _ f,c,i.mono e,g.mono e⟩|_=>exact h.elim
theorem fM.mono{a:KS}{d:D}(h:fM F H a d)(e:Ext F.toFb H k H' k'):fM F H' a d:=⟨h.1,h.2.1,h.2.2.keep e.kp λo q=>e.keep a o h.1 q⟩
theorem uF.keep{B:Fb}{b:KS}{d:D}(h:uF B H b d)(e:Kp B H k H' k')(hb:∀o,H b=KE o->H' b=KE o):uF B H' b d:=by
 obtain⟨a,c,i,g,f⟩:=h;exact⟨a,c,i,hb _ g,f.mono e⟩
theorem d7{d c:Type}{R S:d->c->Prop}:∀{l:List d}{r:List c},Paired R l r->(∀a∈l,∀b,R a b->S a b)->Paired S l r
 |_,_,.nil,_=>.nil|_,_,.cons h t,q=>.cons (q _ K2 _ h) (d7 t λa ha b=>q a (K1 _ ha) b)
theorem nF.mono{a:KS}{ks ds:List D}(h:nF F H a ks ds)(e:Ext F.toFb H k H' k'):nF F H' a ks ds:=by
 obtain⟨o,bs,f,p,n,m,l,j,i,c,g⟩:=h;exact⟨o,bs,f,p,e.keep _ _ f n,m,l.mono e.kp,j,i,c,d7 g λb hb d q=>q.keep e.kp λo z=>e.keep b o (c b hb).1 z⟩
theorem Dz.mono{v:V}{x:W}(h:Dz F H k v x)(e:Ext F.toFb H k H' k'):Dz F H' k' v x:=by cases x with
 |d x=>exact Is.mono e.kp h|feed=>exact⟨h.1,e.feed h.2⟩|own d=>
  obtain⟨a,c,b⟩:=h;exact⟨a,c,b.mono e⟩|fI ks f=>
  obtain⟨a,c,b⟩:=h;exact⟨a,c,b.mono e⟩
theorem DB.w{v:V}{x:A}(h:DB F.toFb H k v x):Dz F H k v x.w:=by cases x with
 |own d=>exact h.elim|_=>exact h
end
noncomputable def W.eQ:W->Bool
 |.own _=>KN|.fI _ _=>KN|_=>KO
structure cv(F:Fx)(ρ:ah)(k:Nat)(σ:St)(H:Hp):Prop where
 len:ρ.length=σ.length
 at_:∀(i:Nat)(d:W),ρ[i]?=KE (KE d)->∃v,σ[i]?=KE (KE v)/\Dz F H k v d
 apart:∀(i j:Nat)(d e:W)(v:V),i≠j->ρ[i]?=KE (KE d)->ρ[j]?=KE (KE e)->d.eQ=KN->e.eQ=KN->σ[i]?=KE (KE v)->σ[j]?≠KE (KE v)alone:∀(i j:Nat)(ks ds:List D)(w:W),ρ[i]?=KE (KE (.fI ks ds))->ρ[j]?=KE (KE w)->w.eQ=KN->j=i
 live:H F.p≠KL
 ext:Ext F.toFb F.H0 F.k0 H k
 xK:Kp F.toFb F.Hs F.ks H k
theorem cv.mono{F:Fx}{ρ:ah}{k b:Nat}{a:St}{H H':Hp}(h:cv F ρ k a H)(e:Ext F.toFb H k H' b):cv F ρ b a H' where
 len:=h.len;at_:=λi d q=>let⟨v,f,c⟩:=h.at_ i d q;⟨v,f,c.mono e⟩;apart:=h.apart;alone:=h.alone;live:=e.live h.live;ext:=h.ext.trans e;xK:=h.xK.trans e.kp
noncomputable def qE(F:Fb)(H:Hp)(k:Nat)(Q:V->Hp->Prop):D->Nat->Prop:=λd b=>∀v a,Ext F H k a b->Is F a v d->Q v a
noncomputable def qT(F:Fb)(H:Hp)(k:Nat)(Q:Bool->Hp->Prop):Bool->Nat->Prop:=λb c=>∀a,Ext F H k a c->Q b a
noncomputable def qA(F:Fb)(H:Hp)(k:Nat)(Q:List V->Hp->Prop):List A->Nat->Prop:=λd c=>∀b a,Ext F H k a c->uG F a c b d->Q b a
noncomputable def cF(F:Fx)(t:ah->M D):TE:=λb H Q=>∃a k,cv F a k b H/\(t a).run k (qE F.toFb H k Q) F.E
noncomputable def pM(F:Fx)(t:ah->M Bool):TT:=λb H Q=>∃a k,cv F a k b H/\(t a).run k (qT F.toFb H k Q) F.E
noncomputable def pq(F:Fx)(t:ah->M (List A)):TA:=λb H Q=>∃a k,cv F a k b H/\(t a).run k (qA F.toFb H k Q) F.E
structure DE(X:Cx)(F:Fx)(e:K7)(t:ah->M D):Prop where
 hK:X.K=F.K
 pe:PE X e (cF F t)
structure DT(X:Cx)(F:Fx)(e:K7)(t:ah->M Bool):Prop where
 hK:X.K=F.K
 pt:PT X e (pM F t)
structure DA(X:Cx)(F:Fx)(es:List K7)(t:ah->M (List A)):Prop where
 hK:X.K=F.K
 pa:PA X es (pq F t)
inductive Fl where|nx(ρ:ah)|rt(d:D)|bk(ρ:ah)|ct(ρ:ah)|ro(d:D)
noncomputable def rb(F:Fx)(Z:Ends)(H:Hp)(k:Nat)(g:Fl)(e:Nat):Prop:=match g with
 |.nx f=>∀c b,Kp F.toFb H k b e->cv F f e c b->Z.nx c b|.rt d=>∀v b,Ext F.toFb F.H0 F.k0 b e->Is F.toFb b v d->Z.rt v b|.bk f=>∀c b,Kp F.toFb H k b e->cv F f e c b->Z.bk c b|.ct f=>∀c b,Kp F.toFb H k b e->cv F f e c b->Z.ct c b|.ro d=>∀a b,Ext F.toFb F.H0 F.k0 b e->fM F b a d->Z.rt (.ref a) b
noncomputable def HS(F:Fx)(t:ah->M Fl):TS:=λZ b H=>∃a k,cv F a k b H/\(t a).run k (rb F Z H k) F.E
structure DS(X:Cx)(F:Fx)(st:MR)(t:ah->M Fl):Prop where
 hK:X.K=F.K
 ps:PS X st (HS F t)
structure tU(X:Cx)(F:Fx)(st:List MR)(t:ah->M Fl):Prop where
 hK:X.K=F.K
 ps:nc X st (HS F t)
theorem rb.mono{F:Fx}{Z:Ends}{H H':Hp}{k g j:Nat}{c:Fl}(e:Kp F.toFb H k H' g)(h:rb F Z H k c j):rb F Z H' g c j:=by cases c with
 |nx f=>exactλa b q S=>h a b (e.trans q) S|rt d=>exact h|ro d=>exact h|bk f=>exactλa b q S=>h a b (e.trans q) S|ct f=>exactλa b q S=>h a b (e.trans q) S
section
variable{X:Cx}
theorem PE.imp{e:K7}{t t':TE}(h:PE X e t)(q:∀a H Q,t' a H Q->t a H Q):PE X e t':=λb s a H Q I z=>h b s a H Q I (q a H Q z)
theorem PT.imp{e:K7}{t t':TT}(h:PT X e t)(q:∀a H Q,t' a H Q->t a H Q):PT X e t':=λb s a H Q I z=>h b s a H Q I (q a H Q z)
theorem PW.imp{e:K7}{t t':TT}(h:PW X e t)(q:∀a H Q,t' a H Q->t a H Q):PW X e t':=λw b s a H Q I z=>h w b s a H Q I (q a H Q z)
theorem PA.imp{e:List K7}{t t':TA}(h:PA X e t)(q:∀a H Q,t' a H Q->t a H Q):PA X e t':=λc b s a H Q I z=>h c b s a H Q I (q a H Q z)
theorem PS.imp{e:MR}{t t':TS}(h:PS X e t)(q:∀D a H,t' D a H->t D a H):PS X e t':=λb s a H D I z=>h b s a H D I (q D a H z)
theorem nc.imp{e:List MR}{t t':TS}(h:nc X e t)(q:∀D a H,t' D a H->t D a H):nc X e t':=λb s a H D I z=>h b s a H D I (q D a H z)
end
theorem cF.next{F:Fx}{t:ah->M D}{b:St}{H:Hp}{ρ:ah}{k:Nat}{R:D->Nat->Prop}{Q:V->Hp->Prop}(S:cv F ρ k b H)(h:(t ρ).run k R F.E)(q:∀d a v H',Ext F.toFb H k H' a->cv F ρ a b H'->Is F.toFb H' v d->R d a->Q v H'):cF F t b H Q:=⟨ρ,k,S,(t ρ).mono h (λd a r v H' e i=>q d a v H' e (S.mono e) i r) λ_ _ z=>z⟩
theorem pM.next{F:Fx}{t:ah->M Bool}{c:St}{H:Hp}{ρ:ah}{k:Nat}{R:Bool->Nat->Prop}{Q:Bool->Hp->Prop}(S:cv F ρ k c H)(h:(t ρ).run k R F.E)(q:∀b a H',Ext F.toFb H k H' a->cv F ρ a c H'->R b a->Q b H'):pM F t c H Q:=⟨ρ,k,S,(t ρ).mono h (λb a r H' e=>q b a H' e (S.mono e) r) λ_ _ z=>z⟩
theorem pq.next{F:Fx}{t:ah->M (List A)}{c:St}{H:Hp}{ρ:ah}{k:Nat}{R:List A->Nat->Prop}{Q:List V->Hp->Prop}(S:cv F ρ k c H)(h:(t ρ).run k R F.E)(q:∀ds a b H',Ext F.toFb H k H' a->cv F ρ a c H'->uG F.toFb H' a b ds->R ds a->Q b H'):pq F t c H Q:=⟨ρ,k,S,(t ρ).mono h (λds a r b H' e i=>q ds a b H' e (S.mono e) i r) λ_ _ z=>z⟩
noncomputable def cH(ρ:ah)(i:Nat):Option D:=match ρ[i]? with
 |some (KE (.d x))=>KE x|_=>KL
theorem xM{ρ:ah}{i:Nat}{x:D}(h:cH ρ i=KE x):ρ[i]?=KE (KE (.d x)):=by
 unfold cH at h;split at h;.rename_i y e;cases h;exact e
 .cases h
noncomputable def dy:D->M Bool
 |.bl b=>pure b|_=>M.fail
noncomputable def dm:D->M Int
 |.int i=>pure i|_=>M.fail
theorem c6{d:D}{k Q E}:(dy d).run k Q E↔∃b,d=.bl b/\Q b k:=by cases d with
 |bl b=>exact⟨λh=>⟨b,rfl,h⟩,λ⟨c,e,h⟩=>by cases e;exact h⟩|_=>exact⟨λh=>h.elim,λ⟨c,e,h⟩=>nomatch e⟩
theorem a_{d:D}{k Q E}:(dm d).run k Q E↔∃b,d=.int b/\Q b k:=by cases d with
 |int b=>exact⟨λh=>⟨b,rfl,h⟩,λ⟨c,e,h⟩=>by cases e;exact h⟩|_=>exact⟨λh=>h.elim,λ⟨c,e,h⟩=>nomatch e⟩
section
variable{X:Cx}{F:Fx}{a b c e:K7}{es rest:List K7}{pos:My}{ta tb tc:ah->M D}
theorem A8(i:Nat){x:Lf}{pos:My}(hN:X.N[i]?=KE x:=by rfl)(g:m_ X.env.scope x:=by first|exact OL rfl|exact Pn (OL rfl)|exact Pn (Pn rfl))(hd:(x==("__debug__":Lf))=KO:=by decide)(f:(x==("__classdict__":Lf))=KO:=by decide)(hK:X.K=F.K:=by rfl):DE X F (.Name x pos) (λρ=>M.get (cH ρ i)):=by
 refine⟨hK,(bP hN g hd f).imp λo H Q⟨ρ,k,S,h⟩=>?_⟩;obtain⟨d,n,m⟩:=M.run_get.mp h;obtain⟨v,l,j⟩:=S.at_ i _ (xM n);exact⟨v,l,m v H .refl j⟩
theorem A9{i j pos}(hK:X.K=F.K:=by rfl):DE X F (.Constant (.int i) j pos) (λ_=>pure (.int i)):=⟨hK,aA.imp λd H Q⟨f,k,S,h⟩=>h _ H .refl (by simp only[Is])⟩
theorem Ep{i j pos}(hK:X.K=F.K:=by rfl):DE X F (.Constant (.bool i) j pos) (λ_=>pure (.bl i)):=⟨hK,DV.imp λd H Q⟨f,k,S,h⟩=>h _ H .refl (by simp only[Is])⟩
theorem A_{j pos}(hK:X.K=F.K:=by rfl):DE X F (.Constant .none j pos) (λ_=>pure .bw):=⟨hK,An.imp λd H Q⟨f,k,S,h⟩=>h _ H .refl (by simp only[Is])⟩
theorem Ba{i j pos}(hK:X.K=F.K:=by rfl):DE X F (.Constant (.str i) j pos) (λ_=>pure (.str i)):=⟨hK,Ao.imp λd H Q⟨f,k,S,h⟩=>h _ H .refl (by simp only[Is])⟩
structure eE(X:Cx)(F:Fx)(f:KJ->KJ->Pu KJ)(m:D->D->M D):Prop where
 op:∀(pins:List (KS×L_))(s:KR)(σ:St)(H:Hp)(k:Nat)(x y:V)(v u:KJ)(d e:D)(Q:VK),Inv X pins σ H s->RelV x v->RelV y u->H F.p≠KL->X.K=F.K->Is F.toFb H x d->Is F.toFb H y e->(m d e).run k (qE F.toFb H k Q) F.E->wpAny (K4 X.prog X.w) X.A (f v u) (EP X pins σ Q) X.xe s
noncomputable def Er(F:Fx)(m:D->D->M D):R2:=λx y H Q=>∃k d e,H F.p≠KL/\Is F.toFb H x d/\Is F.toFb H y e/\(m d e).run k (qE F.toFb H k Q) F.E
theorem eE.Bb{f:KJ->KJ->Pu KJ}{m:D->D->M D}(h:eE X F f m)(hK:X.K=F.K):iZ X f (Er F m):=λg s i H x y v u Q I n j⟨k,d,e,l,p,o,q⟩=>h.op g s i H k x y v u d e Q I n j l hK p o q
theorem eE.of{f:KJ->KJ->Pu KJ}{m:D->D->M D}{r:R2}(h:iZ X f r)(q:X.K=F.K->∀H k x y d e Q,H F.p≠KL->Is F.toFb H x d->Is F.toFb H y e->(m d e).run k (qE F.toFb H k Q) F.E->r x y H Q):eE X F f m:=⟨λg s i H k x y v u d e Q I n j l hK t o z=>h g s i H x y v u Q I n j (q hK H k x y d e Q l t o z)⟩
theorem qE.ext{B:Fb}{H g:Hp}{k f:Nat}{Q:V->Hp->Prop}{d:D}{j:Nat}(e:Ext B H k g f)(h:qE B H k Q d j):qE B g f Q d j:=λv m l i=>h v m (e.trans l) i
theorem qT.ext{B:Fb}{H g:Hp}{k f:Nat}{Q:Bool->Hp->Prop}{d:Bool}{j:Nat}(e:Ext B H k g f)(h:qT B H k Q d j):qT B g f Q d j:=λl i=>h l (e.trans i)
theorem M.wk{d:Type}{m:M d}{k Q Q' E}(h:m.run k Q E)(q:∀a k,Q a k->Q' a k):m.run k Q' E:=m.mono h q λ_ _ z=>z
theorem rf{m:D->D->M D}{f:St}{H:Hp}{Q:VK}(h:cF F (λρ=>do let d<-ta ρ;let e<-tb ρ;m d e) f H Q):D_ (Er F m) (cF F ta) (cF F tb) f H Q:=by
 obtain⟨ρ,k,S,h⟩:=h;refine cF.next S h λd u v x p s l o=>?_;refine cF.next s o λq i t w g r j n=>?_;exact⟨i,d,q,r.live,l.mono g.kp,j,M.wk n λ_ _ z=>z.ext (p.trans g)⟩
theorem Es{op:Q8}{m:D->D->M D}(f:eE X F (Nh op) m)(ha:DE X F a ta)(hb:DE X F b tb):DE X F (.BinOp a op b pos) (λρ=>do let d<-ta ρ;let e<-tb ρ;m d e):=⟨ha.hK,(bf (f.Bb ha.hK) ha.pe hb.pe).imp λg H Q h=>rf h⟩
theorem Bc{op:Oj}{m:D->D->M D}(f:eE X F (Lx op) m)(ha:DE X F a ta)(hb:DE X F b tb)(g:NY op b=KO:=by first|exact gW _|with_unfolding_all rfl):DE X F (.Compare a [op] [b] pos) (λρ=>do let d<-ta ρ;let e<-tb ρ;m d e):=⟨ha.hK,(xw (f.Bb ha.hK) ha.pe hb.pe g).imp λi H Q h=>rf h⟩
theorem rh{t:ah->M D}{g:St}{H:Hp}{Q:Bool->Hp->Prop}(h:pM F (λρ=>do dy (<-t ρ)) g H Q):ug (cF F t) g H Q:=by
 obtain⟨ρ,k,S,h⟩:=h;refine cF.next S h λd m v l j n i f=>?_;obtain⟨c,rfl,f⟩:=c6.mp f;simp only[Is]at i;exact⟨c,i,f l j⟩
theorem Bd{op:Oj}{m:D->D->M D}(f:eE X F (Lx op) m)(ha:DE X F a ta)(hb:DE X F b tb)(g:NY op b=KO:=by first|exact gW _|with_unfolding_all rfl):DT X F (.Compare a [op] [b] pos) (λρ=>do dy (<-(do let d<-ta ρ;let e<-tb ρ;m d e))):=⟨ha.hK,(fu (f.Bb ha.hK) ha.pe hb.pe g).imp λi H Q h=>by
  obtain⟨ρ,k,S,h⟩:=rh (t:=λρ=>do let d<-ta ρ;let e<-tb ρ;m d e) h;exact rf ⟨ρ,k,S,h⟩⟩
noncomputable def jD(m g:D->D->M D)(ta tb tc:ah->M D)(ρ:ah):M D:=do
 let d<-ta ρ;let e<-tb ρ;let r<-m d e;let y<-dy r;if y then do let f<-tc ρ;g e f else pure (.bl KO)
theorem nG{m l:D->D->M D}{j:St}{H:Hp}{Q:VK}(h:cF F (jD m l ta tb tc) j H Q):pF (Er F m) (Er F l) (cF F ta) (cF F tb) (cF F tc) j H Q:=by
 obtain⟨K,k,S,h⟩:=h;refine cF.next S h λd R v V q I y C=>?_;refine cF.next I C λs w O U i t o B=>?_;refine⟨w,d,s,t.live,y.mono i.kp,o,M.wk B λr P f N J g n=>?_⟩;obtain⟨c,rfl,f⟩:=c6.mp f;simp only[Is]at n;refine⟨c,n,?_⟩;cases c with
 |false=>exact f _ J ((q.trans i).trans g) (by simp only[Is])|true=>
  refine cF.next (t.mono g) f λE u L T p G x A=>?_;exact⟨u,s,E,G.live,o.mono (g.trans p).kp,x,M.wk A λ_ _ z=>z.ext (((q.trans i).trans g).trans p)⟩
theorem uH{op d:Oj}{m g:D->D->M D}(i:eE X F (Lx op) m)(f:eE X F (Lx d) g)(ha:DE X F a ta)(hb:DE X F b tb)(k:DE X F c tc)(j:Ro [op,d] [b,c]=KO:=by with_unfolding_all rfl):DE X F (.Compare a [op,d] [b,c] pos) (jD m g ta tb tc):=⟨ha.hK,(uh (i.Bb ha.hK) (f.Bb ha.hK) ha.pe hb.pe k.pe j).imp λl H Q h=>nG h⟩
theorem uI{op d:Oj}{m f:D->D->M D}(i:eE X F (Lx op) m)(g:eE X F (Lx d) f)(ha:DE X F a ta)(hb:DE X F b tb)(l:DE X F c tc)(j:Ro [op,d] [b,c]=KO:=by with_unfolding_all rfl):DT X F (.Compare a [op,d] [b,c] pos) (λρ=>do dy (<-jD m f ta tb tc ρ)):=⟨ha.hK,(ui (i.Bb ha.hK) (g.Bb ha.hK) ha.pe hb.pe l.pe j).imp λn H Q h=>by
  obtain⟨ρ,k,S,h⟩:=rh (t:=jD m f ta tb tc) h;exact nG ⟨ρ,k,S,h⟩⟩
noncomputable def mI(C:Int->Int->Prop)(g:Int->Int->D):D->D->M D:=λd e=>do
 let i<-dm d;let j<-dm e;M.need (C i j)pure (g i j)
noncomputable def GJ(g:Int->Int->D):D->D->M D:=λd e=>do
 let i<-dm d;let j<-dm e;pure (g i j)
theorem uJ{f:KJ->KJ->Pu KJ}{C:Int->Int->Prop}{g:Int->Int->Int}(h:iZ X f (rI C λi j=>.int (g i j))):eE X F f (mI C λi j=>.int (g i j)):=.of h λhK H k x y d e Q l n m q=>by
  obtain⟨i,rfl,q⟩:=a_.mp q;obtain⟨j,rfl,q⟩:=a_.mp q;simp only[Is]at n m;exact⟨i,j,n,m,q.1,q.2 _ H .refl (by simp only[Is])⟩
theorem pN{f:KJ->KJ->Pu KJ}{g:Int->Int->Bool}(h:iZ X f (zE λi j=>.bl (g i j))):eE X F f (GJ λi j=>.bl (g i j)):=.of h λhK H k x y d e Q l n m q=>by
  obtain⟨i,rfl,q⟩:=a_.mp q;obtain⟨j,rfl,q⟩:=a_.mp q;simp only[Is]at n m;exact⟨i,j,n,m,q _ H .refl (by simp only[Is])⟩
theorem Be:eE X F (Nh .Mult) (mI xv λi j=>.int (i*j)):=uJ fP
theorem Bg:eE X F (Nh .Mod) (mI (λ_ j=>0<j) λi j=>.int (i%j)):=uJ dw
theorem Bh:eE X F (Nh .Pow) (mI Eb λi j=>.int (i^j.toNat)):=uJ ud
theorem Et:eE X F (Lx .Lt) (GJ λi j=>.bl (decide (i<j))):=pN zF
theorem Eu:eE X F (Lx .LtE) (GJ λi j=>.bl (decide (i<=j))):=pN Ec
theorem Ew:eE X F (Lx .Gt) (GJ λi j=>.bl (decide (j<i))):=pN uf
noncomputable def HU(ta tb:ah->M D)(ρ:ah):M D:=do
 let b<-dy (<-ta ρ)if b then tb ρ else pure (.bl KO)
noncomputable def Kc(ta tb:ah->M D)(ρ:ah):M D:=do
 let b<-dy (<-ta ρ)if b then pure (.bl KN)else tb ρ
theorem Bi{op}(h:DE X F a ta):DE X F (.BoolOp op [a] pos) ta:=⟨h.hK,As h.pe⟩
theorem Bj(ha:DE X F a ta)(hb:DE X F (.BoolOp .And (b::rest) pos) tb):DE X F (.BoolOp .And (a::b::rest) pos) (HU ta tb):=⟨ha.hK,(Au ha.pe hb.pe).imp λp H Q g=>by
  obtain⟨l,k,S,h⟩:=g;refine cF.next S h λd m v o j n i f=>?_;obtain⟨c,rfl,f⟩:=c6.mp f;simp only[Is]at i;refine⟨c,i,?_⟩;cases c with
  |true=>exact⟨l,m,n,M.wk f λ_ _ z=>z.ext j⟩|false=>exact f _ o j (by simp only[Is])⟩
theorem Ey(ha:DE X F a ta)(hb:DE X F (.BoolOp .Or (b::rest) pos) tb):DE X F (.BoolOp .Or (a::b::rest) pos) (Kc ta tb):=⟨ha.hK,(DZ ha.pe hb.pe).imp λp H Q g=>by
  obtain⟨l,k,S,h⟩:=g;refine cF.next S h λd m v o j n i f=>?_;obtain⟨c,rfl,f⟩:=c6.mp f;simp only[Is]at i;refine⟨c,i,?_⟩;cases c with
  |false=>exact⟨l,m,n,M.wk f λ_ _ z=>z.ext j⟩|true=>exact f _ o j (by simp only[Is])⟩
theorem Bk(ha:DE X F a ta):DE X F (.UnaryOp .Not a pos) (λρ=>do let b<-dy (<-ta ρ);pure (.bl (!b))):=⟨ha.hK,(Av ha.pe).imp λm H Q f=>by
  obtain⟨ρ,k,S,h⟩:=f;refine cF.next S h λd n v l j o i g=>?_;obtain⟨c,rfl,g⟩:=c6.mp g;simp only[Is]at i;exact⟨c,i,g _ l j (by simp only[Is])⟩⟩
structure tV(X:Cx)(F:Fx)(e:K7)(t:ah->M Bool):Prop where
 hK:X.K=F.K
 pw:PW X e (pM F t)
theorem tV.dt{t:ah->M Bool}(h:tV X F e t):DT X F e t:=⟨h.hK,h.pw.pt⟩
variable{tA tB:ah->M Bool}
noncomputable def HV(ta tb:ah->M Bool)(ρ:ah):M Bool:=do
 let b<-ta ρ;if b then tb ρ else pure KO
noncomputable def Kd(ta tb:ah->M Bool)(ρ:ah):M Bool:=do
 let b<-ta ρ;if b then pure KN else tb ρ
theorem xN(ha:DT X F a tA):tV X F (.BoolOp .And [a] pos) tA:=⟨ha.hK,qO ha.pt⟩
theorem Bl(ha:DT X F a tA):tV X F (.BoolOp .Or [a] pos) tA:=⟨ha.hK,Aq ha.pt⟩
theorem Bm(ha:DT X F a tA)(hb:tV X F (.BoolOp .And (b::rest) pos) tB):tV X F (.BoolOp .And (a::b::rest) pos) (HV tA tB):=⟨ha.hK,(t8 ha.pt hb.pw).imp λn H Q d=>by
  obtain⟨i,k,S,h⟩:=d;refine pM.next S h λc j m g l f=>?_;cases c with
  |true=>exact⟨i,j,l,M.wk f λ_ _ z=>z.ext g⟩|false=>exact f m g⟩
theorem Ez(ha:DT X F a tA)(hb:tV X F (.BoolOp .Or (b::rest) pos) tB):tV X F (.BoolOp .Or (a::b::rest) pos) (Kd tA tB):=⟨ha.hK,(DW ha.pt hb.pw).imp λn H Q d=>by
  obtain⟨i,k,S,h⟩:=d;refine pM.next S h λc j m g l f=>?_;cases c with
  |false=>exact⟨i,j,l,M.wk f λ_ _ z=>z.ext g⟩|true=>exact f m g⟩
theorem Bo(ha:DT X F a tA):DT X F (.UnaryOp .Not a pos) (λρ=>do let b<-tA ρ;pure (!b)):=⟨ha.hK,(Ar ha.pt).imp λj H Q d=>by
  obtain⟨ρ,k,S,h⟩:=d;refine pM.next S h λc l i g m f=>?_;exact f i g⟩
noncomputable def Ke(t:ah->M Bool)(ta tb:ah->M D)(ρ:ah):M D:=do
 let b<-t ρ;if b then ta ρ else tb ρ
theorem EA(n:DT X F c tA)(ha:DE X F a ta)(hb:DE X F b tb):DE X F (.IfExp c a b pos) (Ke tA ta tb):=⟨ha.hK,(t9 n.pt ha.pe hb.pe).imp λo H Q f=>by
  obtain⟨g,k,S,h⟩:=f;refine pM.next S h λd i p l m j=>?_;cases d with
  |true=>exact⟨g,i,m,M.wk j λ_ _ z=>z.ext l⟩|false=>exact⟨g,i,m,M.wk j λ_ _ z=>z.ext l⟩⟩
variable{tas:ah->M (List A)}
theorem Bp(hK:X.K=F.K:=by rfl):DA X F [] (λ_=>pure []):=⟨hK,bQ.imp λd H Q⟨f,k,S,h⟩=>h [] H .refl .nil⟩
theorem xO(ha:DE X F e ta)(o:DA X F es tas)(n:Ld (e::es) X.env=(KO,MT e X.env)::Ld es X.env:=by rfl):DA X F (e::es) (λρ=>do let d<-ta ρ;let r<-tas ρ;pure (.d d::r)):=⟨ha.hK,(aP ha.pe o.pa n).imp λu H Q f=>by
  obtain⟨ρ,k,S,h⟩:=f;refine cF.next S h λd x v B s t m q=>?_;refine pq.next t q λy j w i g z l p=>?_;exact p _ i (s.trans g) (.cons (show DB F.toFb i j v (.d d)from m.mono g.kp) l)⟩
theorem xP(i:Nat){x:Lf}{pos:My}(g:DA X F es tas)(hN:X.N[i]?=KE x:=by rfl)(p:m_ X.env.scope x:=by first|exact OL rfl|exact Pn (OL rfl)|exact Pn (Pn rfl))(hd:(x==("__debug__":Lf))=KO:=by decide)(f:(x==("__classdict__":Lf))=KO:=by decide)(q:Ld (.Name x pos::es) X.env=(KO,MT (.Name x pos) X.env)::Ld es X.env:=by rfl):DA X F (.Name x pos::es) (λρ=>do M.need (ρ[i]?=KE (KE .feed));let r<-tas ρ;pure (.feed::r)):=⟨g.hK,(aP (bP hN p hd f) g.pa q).imp λu H Q d=>by
  obtain⟨ρ,k,S,h⟩:=d;obtain⟨v,s,j⟩:=S.at_ i _ h.1;refine⟨v,s,?_⟩;refine pq.next S h.2 λy n w m l z o t=>?_;exact t _ m l (.cons (show DB F.toFb m n v .feed from⟨j.1,l.feed j.2⟩) o)⟩
noncomputable def gu:List A->M (List D)
 |[]=>pure []|.d x::r=>do let f<-gu r;pure (x::f)|.feed::_=>M.fail|.own _::_=>M.fail
theorem bT:∀{as:List A}{k Q E},(gu as).run k Q E->∃ds,as=ds.map A.d/\Q ds k
 |[],_,_,_,h=>⟨[],rfl,h⟩|.d x::r,k,Q,E,h=>by
  obtain⟨ds,e,q⟩:=bT (as:=r) h;exact⟨x::ds,by rw[e];rfl,q⟩|.feed::_,_,_,_,h=>h.elim|.own _::_,_,_,_,h=>h.elim
theorem bU{B:Fb}{H:Hp}{k:Nat}:∀{f:List V}{ds:List D},uG B H k f (ds.map A.d)->ab B H f ds
 |_,[],h=>by cases h;exact .nil|_,d::ds,h=>by cases h with|cons r t=>exact .cons r (bU t)
theorem Bq{x1}(h:DA X F es tas):DE X F (.Tuple es x1 pos) (λρ=>do let ds<-gu (<-tas ρ);M.need (ds.length<=KU);pure (.tup ds)):=⟨h.hK,(AI h.pa).imp λp H Q f=>by
  obtain⟨ρ,k,S,h⟩:=f;refine pq.next S h λq l j r n o d m=>?_;obtain⟨ds,rfl,i⟩:=bT m;have d:=bU d;refine⟨by rw[d.length];exact i.1,λt g=>i.2 _ _ (n.trans (.new g)) ?_⟩;simp only[Is];exact⟨t,j,rfl,⟨g0 o.live g,.of ai⟩,d.mono (Ext.new (k:=l) g).kp⟩⟩
end
end L2
end
section
namespace SortM
open PySem PySem.W PyProof.Rows
end SortM
end
section
namespace SortM
open PySem PySem.W PyProof.Rows
end SortM
end
section
namespace SortM
open PySem PySem.W PyProof.Rows L2
noncomputable abbrev eR(h h':Lu):Prop:=∀b o,h.get? b=KE o->h'.get? b=KE o
section
variable{prog:Lb}{w:Lv}{A:Lz}{E:KJ->KR->Prop}{s:KR}
theorem rj{Q:Bool->KR->Prop}{a:Bool}:∀(xs ys:List KJ)(ns c:List Int)(i:Nat),Nv xs ns->Nv ys c->(ns.length<c.length↔a=KN)->Q (HT.lexLt ns c) s->KatLex prog w A KN a Q (xs.zip ys) i s
 |[],[],[],[],i,_,_,b,q=>by
  have:a=KO:=by cases a with|false=>rfl|true=>exact absurd (b.mpr rfl) (by simp)
  subst this;exact q|[],y::ys,[],m::c,i,_,_,b,q=>by
  have:a=KN:=b.mp (by simp);subst this;exact q|x::xs,[],n::ns,[],i,_,_,b,q=>by
  have:a=KO:=by cases a with|false=>rfl|true=>exact absurd (b.mpr rfl) (by simp)
  subst this;exact q|x::xs,y::ys,n::ns,m::c,i,j,g,b,q=>by cases j with|cons _ l f=>cases g with|cons _ k d=>
    rw[HT.d3]at q;refine kat_cons (wpAny_eqBool_int ?_);by_cases e:n=m
    .rw[if_pos e]at q;rw[show(n==m)=KN by simp[e]];exact kat_yes (rj xs ys ns c (i+1) f d (by simpa using b) q)
    .rw[if_neg e]at q;rw[show(n==m)=KO by simp[e]];refine kat_no ?_;cases i with
     |zero=>exact oneLt_int q|succ i=>exact kat_one _ _ (lt_int q)
 |[],_,n::_,_,_,h,_,_,_=>by cases h|_::_,_,[],_,_,h,_,_,_=>by cases h|_,[],_,m::_,_,_,h,_,_=>by cases h|_,_::_,_,[],_,_,h,_,_=>by cases h
theorem lz{M:Sf}{h:Lu}(n:Int)(t:SH):Looks M h (SN (.int n t)) (.type "int"):=λA Q E s _ q=>KP q
end
end SortM
end
section
namespace L2
open PySem PySem.W PyProof.Rows SortM
section
variable{X:Cx}
theorem Inv.newList{a:List (KS×L_)}{b:St}{H:Hp}{s:KR}{h':Lu}{D c:Nat}{ys:List V}{us:List KJ}(I:Inv X a b H s)(g:eR s.heap h')(f:s.heap.objs.size<=D)(r:aq ys us)(d:ys.length<=KU)(e:h'.get? D=KE (Of "list" us.toArray c)){t:Nat}:Inv X a b (upd H D (.lst ys)) {s with heap:=h',toks:=t}:=I.laid g f ⟨d,us,c,r,e⟩
end
end L2
end
section
namespace DictIt
open PySem PySem.W PyProof.Rows
section
variable{prog:Lb}{w:Lv}{A:Lz}{E:KJ->KR->Prop}{s:KR}
theorem rk{d:KS}{o:L_}{e:Array OD}{f:Nat}{Q:KJ->KR->Prop}(a:(d==Mu)=KO)(b:s.heap.get? d=KE o)(g:o.cls=.type "dict")(hd:o.data=.dict e f)(h:Q (.ref s.heap.objs.size) {s with heap:=s.heap.push {cls:=.type "dict_keyiterator",data:=.fields #[.ref d,.int 0 0,.int e.size 0,.int f 0]}}):wpAny (K4 prog w) A (Sb (.ref d)) Q E s:=by
 have c:s.TypeIs (.ref d) "dict":=⟨o,b,g⟩;refine wpAny_pyIter_slot c F.slot_dict_iter (LN F.slot_dict_iter c F.entry_dict_iter ?_ (F.args_dict_iter_1 _));unfold Builtin.«dict.__iter__»;refine KH ?_;unfold Builtin.Dict.dictSlotNone;refine KH (QX c ?_);show wpAny _ _ (pure (Lj d)) _ _ s;refine KP ?_;show wpAny _ _ (QY d>>=_) _ _ s;unfold QY;rw[if_neg (by rw[a];exact La)];refine KH (KP ?_);refine KH (PJ b hd ?_);refine KH (QL b hd ?_);refine KH (LC (KP ⟨_,rfl,"dict_keyiterator",_,⟨_,K9 _ rfl,rfl⟩,F.slot_dict_keyiterator_next.lookup,?_⟩));simpa[OG]using h
theorem rl{it d:KS}{i h:Nat}{l:L_}{c:Array OD}{Q:Option KJ->KR->Prop}(a:s.heap.IsKeyIter it d i c.size h)(f:s.heap.get? d=KE l)(g:l.data=.dict c h)(k:i<c.size)(n:∀h',h'.IsKeyIter it d (i+1) c.size h->Mr it s.heap h'->Q (KE c[i].key) {s with heap:=h'}):wpAny (K4 prog w) A (N1 (.ref it)) Q E s:=by
 obtain⟨o,j,m,hd⟩:=id a;unfold N1;refine KH (N0 (LH (name:=KI "__next__") a.typeIs M3 (LN M3 a.typeIs O2 ?_ (OV _))));refine KH (KP ?_);refine KH ?_;refine KH ?_;first|refine KH (MZ a.typeIs (KP ?_))|refine KH (NB a.typeIs (KP ?_))
 refine KH (wpAny_fieldsOf j hd ?_);have e:O_ "dict_keyiterator"=KO:=by decide
 simp only[e,K_,if_false];show wpAny _ _ (if(Lj d==ME)=KN then _ else _) _ _ s;rw[if_neg (show¬((Lj d==ME)=KN)from La)];refine KH (KP ?_);refine KH (PJ f g ?_);rw[if_neg (by simp)];refine KH (KP ?_);refine KH (QL f g ?_);rw[if_neg (by simp)];refine KP ?_;simp only[show¬((i:Int)<0)from by omega,if_false,Nw,Mt k];refine KH ?_;first|refine KH (MZ a.typeIs (KP ?_))|refine KH (NB a.typeIs (KP ?_))
 refine KH (QZ a.typeIs ?_);show wpAny _ _ (setField (.ref it) 1 (OG ((i:Int)+1))>>=_) _ _ s;refine KH (Pq j hd (by simp) ?_);have b:(s.heap.update it (Obj.mapFields (·.setIfInBounds 1 (OG ((i:Int)+1))))).IsKeyIter it d (i+1) c.size h:=⟨_,OR _ j (Q1 (Ox hd _)),(R3 ..).trans m,by rw[Ox hd];simp[OG]⟩;refine KH (LF ?_);refine KH (QZ (s:={s with heap:=s.heap.update it (Obj.mapFields (·.setIfInBounds 1 (OG ((i:Int)+1))))}) b.typeIs ?_);show wpAny _ _ (pure c[i].key) _ _ _;exact KP (KP ⟨_,rfl,KP (n _ b (M8 ..))⟩)
theorem uK{it d:KS}{i n:Nat}{k:L_}{j:Array OD}{Q:Option KJ->KR->Prop}(p:A.handled=KL)(c:s.heap.IsKeyIter it d i j.size n)(f:s.heap.get? d=KE k)(g:k.data=.dict j n)(h:j.size<=i)(q:∀h',O3 it s.heap h'->Q KL {s with heap:=h'}):wpAny (K4 prog w) A (N1 (.ref it)) Q E s:=by
 obtain⟨o,l,r,hd⟩:=id c;unfold N1;refine KH (N0 (LH (name:=KI "__next__") c.typeIs M3 (LN M3 c.typeIs O2 ?_ (OV _))));refine KH (KP ?_);refine KH ?_;refine KH ?_;first|refine KH (MZ c.typeIs (KP ?_))|refine KH (NB c.typeIs (KP ?_))
 refine KH (wpAny_fieldsOf l hd ?_);have e:O_ "dict_keyiterator"=KO:=by decide
 simp only[e,K_,if_false];show wpAny _ _ (if(Lj d==ME)=KN then _ else _) _ _ s;rw[if_neg (show¬((Lj d==ME)=KN)from La)];refine KH (KP ?_);refine KH (PJ f g ?_);rw[if_neg (by simp)];refine KH (KP ?_);refine KH (QL f g ?_);rw[if_neg (by simp)];refine KP ?_;simp only[show¬((i:Int)<0)from by omega,if_false,Nw,NP h];refine KH ?_;first|refine KH (MZ c.typeIs (KP ?_))|refine KH (NB c.typeIs (KP ?_))
 show wpAny _ _ (setField (.ref it) 0 .none>>=_) _ _ s;refine KH (Pq l hd (by simp) ?_);show wpAny _ _ (newExc (.type "StopIteration") []>>=_) _ _ _;refine KH ?_;simp only[newExc,newTuple];refine KH (LC ?_ (by size_fits));refine KH (m:=Pr _ _) (wpAny_of_eq (a:=ME) (by first|rfl|(simp only[Pr];rfl)) ?_);refine LC ?_ (by size_fits);simp only[raiseNew];refine KH (wpAny_handled ?_);rw[show A.in1.handled=KL from p];refine KH (KP (wpAny_throw ?_));refine KH (NI (T:="StopIteration") (b:=KN) ⟨_,K9 _ rfl,rfl⟩ Rf ?_);exact KP (q _ (((M8 ..).extBut.push _).push _))
theorem uL(q:A.handled=KL)(I d:KS)(j:d≠I)(o:L_)(g:Array OD)(p:Nat)(hd:o.data=.dict g p):Walks prog w A I [I,d] [I] g.size (λi v=>∃e,g[i]?=KE e/\v=e.key) (λi h=>h.IsKeyIter I d i g.size p/\h.get? d=KE o)where
 sub:=λb hb=>by simp at hb;simp[hb]
 frame:=λ_ _ _ st m=>⟨st.1.at λo e=>m I (by simp) o e,m d (by simp) o st.2⟩;item:=λi s Q E n st f=>rl st.1 st.2 hd n λl c a=>f _ l s.toks ⟨g[i],by simp[n],rfl⟩ ⟨c,(a.2 d j).trans st.2⟩ λb o hb e=>a.extBut b o (λh=>hb (by simp[h])) e;done:=λs Q E st f=>uK q st.1 st.2 hd (K8 _) λl k=>f l s.toks λb o hb e=>k b o (λh=>hb (by simp[h])) e;self:=λ_ _ _ _ st f=>Rg st.1 f
theorem Br{d:KS}{o:L_}{c:Array OD}{j:Nat}(b:(d==Mu)=KO)(g:o.cls=.type "dict")(hd:o.data=.dict c j):KdlSrc prog w "dict" d d c.size (λi v=>∃e,c[i]?=KE e/\v=e.key) (λh=>h.get? d=KE o)where
 type:=λ_ a=>⟨o,a,g⟩;there:=λ_ a=>⟨K5 a,K5 a⟩;keep:=λ_ _ a k=>k d (.inl rfl) o a;notList:=by decide
 notTuple:=by decide
 hint:=λ_ _ s _ a f=>kdl_hint_dict ⟨o,a,g⟩ f;iter:=λ_ _ l a=>⟨_,_,(λ_ _ f=>rk b a g hd f),uL l _ d (Lp (K5 a)) o c j hd,⟨⟨_,K9 _ rfl,rfl,rfl⟩,KQ _ a⟩⟩
theorem pO{d:KS}{o:L_}{k:Array OD}{v:Nat}{R:List KJ->KR->Prop}(q:A.handled=KL)(j:(d==Mu)=KO)(n:s.heap.get? d=KE o)(r:o.cls=.type "dict")(hd:o.data=.dict k v)(p:k.size<=KU)(h:∀(h':Lu)(l:Nat),(∀b o,s.heap.get? b=KE o->h'.get? b=KE o)->R (k.toList.map (·.key)) {s with heap:=h',toks:=l}):wpAny (K4 prog w) A (SQ (.ref d)) R E s:=by
 refine kdu_collect (Br (prog:=prog) (w:=w) j r hd) q n p λh' l f g a=>?_;have e:f.toList=k.toList.map (·.key):=by
  apply R4;intro i;rw[Lr];by_cases m:i<k.size
  .have c:i<f.size:=by rw[a.1];exact m
   obtain⟨e,u,t⟩:=a.2 i f[i] (by simp[c]);simp only[Mg,u,Mt c,t,Mq]
  .have c:f.size<=i:=by rw[a.1];omega
   simp only[Mg,NP c,NP (Nat.not_lt.mp m),Option.map_none]
 rw[e];exact h h' l g
end
end DictIt
end
section
namespace L2
open PySem PySem.Spec PySem.W PyProof.Rows SortM
section
variable{X:Cx}{pins:List (KS×L_)}{σ:St}{H:Hp}{s:KR}
theorem jE:∀{a:List (Key×V)}{f:List (Key×KJ)}{g:List OD}{prog:Lb}{w:Lv},KV a f->Pairs (ar prog w) g f->aq (a.map λj=>kV j.1) (g.map (·.key))
 |_,_,_,_,_,.nil,.nil=>.nil|_,_,_,_,_,.cons ⟨e,_⟩ t,.cons h _ r=>by
  refine .cons ?_ (jE t r);dsimp only;rw[e];obtain⟨i,b,d,c⟩|⟨x,b,d,c⟩:=aH h;.rw[d,c];exact⟨b,rfl⟩
  .rw[d,c];exact⟨b,rfl⟩
theorem Inv.freeze{a:KS}{o:L_}{u:HO}(I:Inv X pins σ H s)(hu:H a=KE u)(l:s.heap.get? a=KE o)(nt:∀xs,u≠.tup xs)(h:∀b v,u≠.b6 b v)(i:∀ps,u≠.tS ps)(g:∀x,u≠.own x):Inv X pins σ (upd H a (.b6 o u)) s:=by
 have ne:∀{b:KS},H b=KL->b≠a:=λ{b}n z=>by rw[z,hu]at n;cases n
 have tp:∀b xs,H b=KE (.tup xs)->(upd H a (.b6 o u)) b=KE (.tup xs):=λb xs e=>by rw[af (λz=>by rw[z,hu]at e;cases e;exact nt _ rfl)];exact e
 have f:∀b x,H b=KE (.own x)->(upd H a (.b6 o u)) b=KE (.own x):=λb x e=>by rw[af (λz=>by rw[z,hu]at e;cases e;exact g _ rfl)];exact e
 refine⟨I.ok,I.os,I.bare,⟨I.base.keep,I.base.slot,λb ob e n j=>?_,I.base.there,λb xs e=>tp b xs (I.base.iW b xs e),λb ob v e=>?_,λb ps e=>?_⟩,I.loc,I.cell,?_,λx c e=>?_,λp k=>?_,λb v e=>?_,I.len⟩
 .have:=I.base.free b ob e n j;rw[af (ne this)];exact this
 .have q:=I.base.gV b ob v e;rw[af (λz=>by rw[z,hu]at q;cases q;exact h _ _ rfl)];exact q
 .obtain⟨d,q⟩:=I.base.iX b ps e;exact⟨d,by rw[af (λz=>by rw[z,hu]at q;cases q;exact i _ rfl)];exact q⟩
 .rw[af (ne I.free)];exact I.free
 .rw[af (ne (I.cY x c e))];exact I.cY x c e
 .obtain⟨e,n,r⟩:=I.pin p k;exact⟨e,by rw[af (ne n)];exact n,r⟩
 .by_cases hb:b=a
  .subst hb;rw[ai]at e;cases e;exact⟨l,(I.aM b u hu).dW (λ_ _ _ q=>q) (λc q=>f c _ q) tp⟩
  .rw[af hb]at e;exact(I.aM b v e).dW (λ_ _ _ q=>q) (λc q=>f c _ q) tp
end
section
variable{X:Cx}{F:Fx}{a b c e:K7}{es rest:List K7}{pos:My}{ta tb tc:ah->M D}{tas:ah->M (List A)}
theorem pP{t:TE}(h:PE X e t):PE X e (λf H Q=>t f H λv i=>∃a xs,v=.ref a/\i a=KE (.lst xs)/\∀o,Q v (upd i a (.b6 o (.lst xs)))):=by
 intro d s f H Q I q;refine aU (h d s f H _ I q) λu s1 g=>?_;obtain⟨v,i,j,r,a,xs,e,ha,k⟩:=g;obtain⟨_,l,n,p,m⟩:=j.aM a _ ha;exact⟨v,_,j.freeze ha m (λ_ z=>nomatch z) (λ_ _ z=>nomatch z) (λ_ z=>nomatch z) (λ_ z=>nomatch z),r,k _⟩
theorem dH.b6{f:KJ}{r:List V->Hp->VK->Prop}(h:dH X f r):dH X f (λm H Q=>r m H λv i=>∃a xs,v=.ref a/\i a=KE (.lst xs)/\∀o,Q v (upd i a (.b6 o (.lst xs)))):=by
 intro d s l H xs p Q I j q;refine aU (h d s l H xs p _ I j q) λu s1 g=>?_;obtain⟨v,i,k,r,a,xs,e,ha,t⟩:=g;obtain⟨_,w,n,j,x⟩:=k.aM a _ ha;exact⟨v,_,k.freeze ha x (λ_ z=>nomatch z) (λ_ _ z=>nomatch z) (λ_ z=>nomatch z) (λ_ z=>nomatch z),r,t _⟩
theorem bF{B:Fb}{H:Hp}{k:Nat}{l:KS}{d:List V}{ds:List D}{o:L_}(g:H B.p≠KL)(f:H l=KL)(i:ab B H d ds):Is B (upd H l (.b6 o (.lst d))) (.ref l) (.lst ds):=by
 simp only[Is];exact⟨l,d,rfl,⟨g0 g f,⟨o,ai⟩⟩,i.mono (Ext.new (k:=k) f).kp⟩
theorem d8{B:Fb}{H:Hp}{k:Nat}{l:KS}{d:List V}{ds:List D}(g:H B.p≠KL)(f:H l=KL)(i:ab B H d ds):Is B (upd H l (.tup d)) (.ref l) (.tup ds):=by
 simp only[Is];exact⟨l,d,rfl,⟨g0 g f,.of ai⟩,i.mono (Ext.new (k:=k) f).kp⟩
theorem Bt(h:DA X F es tas):DE X F (.List es pos) (λρ=>do let ds<-gu (<-tas ρ);M.need (ds.length<=KU);pure (.lst ds)):=⟨h.hK,(pP (mh h.pa)).imp λq H Q f=>by
  obtain⟨ρ,k,S,h⟩:=f;refine pq.next S h λr l j s n p d m=>?_;obtain⟨ds,rfl,i⟩:=bT m;have d:=bU d;refine⟨by rw[d.length];exact i.1,λt g=>⟨t,j,rfl,ai,λo=>?_⟩⟩;rw[cf];exact i.2 _ _ (n.trans (.new g)) (bF (k:=l) p.live g d)⟩
noncomputable def items:D->Option (List D)
 |.tup d=>KE d|.lst d=>KE d|_=>KL
theorem Bu{B:Fb}{H:Hp}{v:V}{d:D}{ds:List D}(h:Is B H v d)(e:items d=KE ds):∃a f,v=.ref a/\(dF B.K H a f\/gj B.K H a f)/\ab B H f ds:=by
 cases d<;>first|cases e|skip
 .simp only[Is]at h;obtain⟨a,f,j,i,g⟩:=h;exact⟨a,f,j,.inr i.2,g⟩
 .simp only[Is]at h;obtain⟨a,f,j,i,g⟩:=h;exact⟨a,f,j,.inl i.2.sq,g⟩
theorem uM{B:Fb}{H:Hp}{f:List V}{ds:List D}{i:Int}{d:D}(h:ab B H f ds)(e:fw ds i=KE d):∃v,fw f i=KE v/\Is B H v d:=by
 unfold fw at e⊢;rw[h.length];cases q:zJ ds.length i with
 |none=>rw[q]at e;cases e|some j=>
  rw[q]at e;exact h.get e
noncomputable def xQ(x:Lf)(i:Int):Option D:=(fw x.cps.toList i).map λc=>.str ⟨#[c]⟩
noncomputable def JJ:D->D->M D:=λd e=>do
 let i<-dm e;match d with
 |.tup f=>M.get (fw f i)|.lst f=>M.get (fw f i)|.str x=>do M.need (x.length<=KU);M.get (xQ x i)|_=>M.fail
structure GK(X:Cx)(F:Fx)(m:D->D->M D):Prop where ix:X.K=F.K->uv X (Er F m)
theorem xR:GK X F JJ:=⟨λhK g j n s J H x y v u Q I N L h P=>by
 refine AQ g j n s J H x y v u Q I N L ?_ P;obtain⟨k,d,e,l,m,p,q⟩:=h;obtain⟨i,rfl,q⟩:=a_.mp q;simp only[Is]at p;cases d with
 |tup K=>
  obtain⟨z,f,o⟩:=M.run_get.mp q;simp only[Is]at m;obtain⟨a,r,G,E,C⟩:=m;obtain⟨w,B,t⟩:=uM C f;exact .inr (.inl ⟨a,r,i,w,G,p,by rw[hK];exact E.2,B,o w H .refl t⟩)|lst K=>
  obtain⟨z,f,o⟩:=M.run_get.mp q;simp only[Is]at m;obtain⟨a,r,G,E,C⟩:=m;obtain⟨w,B,t⟩:=uM C f;exact .inl ⟨a,r,i,w,G,p,by rw[hK];exact E.2.sq,B,o w H .refl t⟩|str x=>
  obtain⟨O,q⟩:=q;obtain⟨z,f,o⟩:=M.run_get.mp q;simp only[Is]at m;unfold xQ at f;cases q:fw x.cps.toList i with
  |none=>rw[q]at f;cases f|some c=>
   rw[q]at f;cases f;exact .inr (.inr ⟨x,i,c,m,p,O,q,o _ H .refl (by simp only[Is])⟩)
 |_=>exact q.elim⟩
theorem EB{m:D->D->M D}(g:GK X F m)(ha:DE X F a ta)(hb:DE X F b tb)(f:je b:=by intro _ _;rfl):DE X F (.Subscript a b pos) (λρ=>do let d<-ta ρ;let e<-tb ρ;m d e):=⟨ha.hK,(eO (g.ix ha.hK) ha.pe hb.pe f).imp λi H Q h=>rf h⟩
structure bC(X:Cx)(F:Fx)(f:KJ)(m:List D->M D):Prop where
 call:∀(pins:List (KS×L_))(s:KR)(σ:St)(H:Hp)(k:Nat)(xs:List V)(us:List KJ)(ds:List D)(Q:VK),Inv X pins σ H s->aq xs us->H F.p≠KL->X.K=F.K->ab F.toFb H xs ds->(m ds).run k (qE F.toFb H k Q) F.E->wpAny (K4 X.prog X.w) X.A (Qr f us) (EP X pins σ Q) X.xe s
noncomputable def zM(F:Fx)(m:List D->M D):List V->Hp->VK->Prop:=λf H Q=>∃k d,H F.p≠KL/\ab F.toFb H f d/\(m d).run k (qE F.toFb H k Q) F.E
theorem bC.zN{f:KJ}{m:List D->M D}(h:bC X F f m)(hK:X.K=F.K):dH X f (zM F m):=λd s g H j n Q I r⟨k,o,l,i,q⟩=>h.call d s g H k j n o Q I r l hK i q
theorem bC.of{f:KJ}{m:List D->M D}{r:List V->Hp->VK->Prop}(h:dH X f r)(q:X.K=F.K->∀H k xs ds Q,H F.p≠KL->ab F.toFb H xs ds->(m ds).run k (qE F.toFb H k Q) F.E->r xs H Q):bC X F f m:=⟨λd s g H k xs j ds Q I n l hK i z=>h d s g H xs j Q I n (q hK H k xs ds Q l i z)⟩
theorem rm{m:List D->M D}{d:St}{H:Hp}{Q:VK}(h:cF F (λρ=>do m (<-gu (<-tas ρ))) d H Q):HH (zM F m) (pq F tas) d H Q:=by
 obtain⟨ρ,k,S,h⟩:=h;refine pq.next S h λq f p r l o g j=>?_;obtain⟨n,rfl,i⟩:=bT j;exact⟨f,n,o.live,bU g,M.wk i λ_ _ z=>z.ext l⟩
theorem uN{id:String}{x:Lf}{m:List D->M D}{p:My}(n:bC X F (.builtin id) m)(j:X.mg x=KL)(g:Mz x=KE (.builtin id))(ha:DA X F (e::es) tas)(k:Gl X x:=by rfl)(i:x≠"__name__":=by decide)(f:(x==("__debug__":Lf))=KO:=by decide)(l:Ld (e::es) X.env=(KO,MT e X.env)::Ld es X.env:=by rfl)(d:(NN pos (Ld es X.env)).any (·.1)=KO:=by rfl):DE X F (.Call (.Name x p) (e::es) [] pos) (λρ=>do m (<-gu (<-tas ρ))):=⟨ha.hK,(eN (n.zN ha.hK) k j g ha.pa i f l d).imp λo H Q h=>rm h⟩
theorem sS{T:String}{x:Lf}{m:List D->M D}{p:My}(n:bC X F (.type T) m)(j:X.mg x=KL)(g:Mz x=KE (.type T))(ha:DA X F (e::es) tas)(k:Gl X x:=by rfl)(i:x≠"__name__":=by decide)(f:(x==("__debug__":Lf))=KO:=by decide)(l:Ld (e::es) X.env=(KO,MT e X.env)::Ld es X.env:=by rfl)(d:(NN pos (Ld es X.env)).any (·.1)=KO:=by rfl):DE X F (.Call (.Name x p) (e::es) [] pos) (λρ=>do m (<-gu (<-tas ρ))):=⟨ha.hK,(lg (n.zN ha.hK) k j g ha.pa i f l d).imp λo H Q h=>rm h⟩
noncomputable def one(f:D->M D):List D->M D
 |[d]=>f d|_=>M.fail
theorem fA{f:D->M D}{ds:List D}{k Q E}(h:(one f ds).run k Q E):∃d,ds=[d]/\(f d).run k Q E:=by match ds,h with|[d],h=>exact⟨d,rfl,h⟩
theorem ab.one{B:Fb}{H:Hp}{f:List V}{d:D}(h:ab B H f [d]):∃v,f=[v]/\Is B H v d:=by
 simp only[ab]at h;obtain⟨x,i,rfl,g,rfl⟩:=h;exact⟨x,rfl,g⟩
theorem ab.two{B:Fb}{H:Hp}{f:List V}{d e:D}(h:ab B H f [d,e]):∃v u,f=[v,u]/\Is B H v d/\Is B H u e:=by
 simp only[ab]at h;obtain⟨x,k,rfl,i,y,j,rfl,g,rfl⟩:=h;exact⟨x,y,rfl,i,g⟩
noncomputable def HW(d:D):M D:=match d with
 |.tup f=>pure (.int f.length)|.lst f=>pure (.int f.length)|.str x=>do M.need (x.length<=KU);pure (.int x.length)|_=>M.fail
theorem pQ:bC X F (.builtin "len") (one HW):=.of uk λhK H k j o Q l n m=>by
 obtain⟨d,rfl,q⟩:=fA m;obtain⟨v,rfl,i⟩:=n.one;cases d with
 |tup j=>
  simp only[Is]at i;obtain⟨a,f,rfl,h,g⟩:=i;exact⟨_,f.length,rfl,.inr ⟨f,by rw[hK];exact h.2,rfl⟩,q _ H .refl (by simp only[Is];rw[g.length])⟩|lst j=>
  simp only[Is]at i;obtain⟨a,f,rfl,h,g⟩:=i;exact⟨_,f.length,rfl,.inl ⟨f,by rw[hK];exact h.2.sq,rfl⟩,q _ H .refl (by simp only[Is];rw[g.length])⟩|str x=>
  simp only[Is]at i;subst i;exact⟨_,x.length,rfl,⟨q.1,rfl⟩,q.2 _ H .refl (by simp only[Is])⟩|_=>exact q.elim
theorem uO:bC X F (.type "tuple") (one λd=>do pure (.tup (<-M.get (items d)))):=.of kP λhK H k p o Q l n m=>by
 obtain⟨d,rfl,q⟩:=fA m;obtain⟨v,rfl,i⟩:=n.one;obtain⟨o,e,q⟩:=M.run_get.mp q;cases d<;>first|cases e|skip
 .simp only[Is]at i;obtain⟨a,f,rfl,g,h⟩:=i;exact⟨a,f,rfl,.inr ⟨by rw[hK];exact g.2,q _ H .refl (by simp only[Is];exact⟨a,f,rfl,g,h⟩)⟩⟩
 .simp only[Is]at i;obtain⟨a,f,rfl,g,h⟩:=i;exact⟨a,f,rfl,.inl ⟨by rw[hK];exact g.2.sq,λt j=>q _ _ (.new j) (d8 (k:=k) l j h)⟩⟩
theorem xS:bC X F (.type "list") (one λd=>do pure (.lst (<-M.get (items d)))):=.of gr.b6 λhK H k r p Q l j h=>by
 obtain⟨d,rfl,q⟩:=fA h;obtain⟨v,rfl,i⟩:=j.one;obtain⟨p,e,q⟩:=M.run_get.mp q;obtain⟨a,f,rfl,n,m⟩:=Bu i e;refine⟨a,f,rfl,by rw[hK];exact n,λt g=>⟨t,f,rfl,ai,λo=>?_⟩⟩;rw[cf];exact q _ _ (.new g) (bF (k:=k) l g m)
theorem jF:∀{bs:List Bool}{us:List KJ},aq (bs.map V.bl) us->LSm.BoolsAre us bs
 |[],_,.nil=>.nil|b::bs,_,.cons r t=>by
  cases r;exact .cons _ (jF t)
theorem uP(t:X.calm=KN):dH X (.builtin "all") (λxs H Q=>∃(a:KS)(bs:List Bool),xs=[.ref a]/\dF X.K H a (bs.map V.bl)/\Q (.bl (bs.all id)) H):=by
 intro j s w H xs x Q I r h;obtain⟨a,bs,rfl,n,q⟩:=h;obtain⟨u,rfl,l⟩:=vals1 r;cases l;obtain⟨d,m,pl,B⟩:=I.list n;have hb:=jF m;have g:=pl.isList;have f:a<s.heap.objs.size:=by obtain⟨_,e,_⟩:=g;exact K5 e
 have p:=I.ok.hd t;refine call_all_walk (OM g ?_);refine⟨s.heap.objs.size,[s.heap.objs.size,a],[s.heap.objs.size],d.toArray.size,_,_,λi=>(bs[i]?).getD KN,rfl,Walks.list (A:=X.A.in1) p _ a (Lp f) d.toArray,⟨⟨_,K9 _ rfl,rfl,rfl⟩,g.push _⟩,λi v z E G hP k=>?_,λC y o=>?_⟩
 .obtain⟨b,e,rfl⟩:=hb.get i v (by simpa using hP);simp only[e,P_]at k;exact Mi k
 .have e:((LY d.toArray.size).all λi=>(bs[i]?).getD KN)=bs.all id:=by rw[K3,hb.length];exact LSm.range_all bs
  rw[e];exact⟨.bl _,H,I.kept (LSm.kept_iter o),rfl,q⟩
noncomputable def bools:List D->Option (List Bool)
 |[]=>KE []|.bl b::r=>(bools r).map (b::·)|_=>KL
theorem nH{B:Fb}{H:Hp}:∀{ds:List D}{f:List V}{bs:List Bool},ab B H f ds->bools ds=KE bs->f=bs.map V.bl
 |[],_,bs,h,e=>by simp only[ab]at h;cases e;exact h|d::ds,f,bs,h,e=>by
  simp only[ab]at h;obtain⟨x,k,rfl,g,i⟩:=h;cases d with
  |bl b=>
   simp only[bools,ON]at e;obtain⟨cs,j,rfl⟩:=e;simp only[Is]at g;rw[g,nH i j];rfl|_=>cases e
noncomputable def HX(d:D):M D:=match d with
 |.lst f=>do let bs<-M.get (bools f);pure (.bl (bs.all id))|_=>M.fail
theorem Bv(m:X.calm=KN):bC X F (.builtin "all") (one HX):=.of (uP m) λhK H k f r Q l h g=>by
 obtain⟨d,rfl,q⟩:=fA g;obtain⟨v,rfl,i⟩:=h.one;cases d with
 |lst f=>
  obtain⟨bs,e,q⟩:=M.run_get.mp q;simp only[Is]at i;obtain⟨a,p,rfl,o,n⟩:=i;have j:=nH n e;subst j;exact⟨a,bs,rfl,by rw[hK];exact o.2.sq,q _ H .refl (by simp only[Is])⟩|_=>exact q.elim
noncomputable def HY:D->Option String
 |.bw=>KE "NoneType"|.bl _=>KE "bool"|.int _=>KE "int"|.str _=>KE "str"|.tup _=>KE "tuple"|.lst _=>KE "list"|.aQ _ _=>KL
noncomputable def uQ(T:String)(d:D):M D:=do
 let t<-M.get (HY d)let b<-M.get (Ni [] (.type t) (.type T))pure (.bl b)
theorem xT(K:KZ)(t T:String):Ni K (.type t) (.type T)=Ni [] (.type t) (.type T):=rfl
theorem uR{g:List (KS×L_)}{q:St}{H:Hp}{s:KR}{Q:KJ->KR->Prop}{E:KJ->KR->Prop}{A:Lz}{d:D}{t:String}{c:KJ}{b:Bool}{v:V}{u:KJ}(I:Inv X g q H s)(r:RelV v u)(hK:X.K=F.K)(i:Is F.toFb H v d)(f:HY d=KE t)(e:Ni X.K (.type t) c=KE b)(h:∀B,Q (.bool b) {s with toks:=B}):wpAny (K4 X.prog X.w) A (Qr (.builtin "isinstance") [u,c]) Q E s:=by cases d with
 |bw=>cases f;simp only[Is]at i;subst i;exact fv I r .bw e h|bl y=>cases f;simp only[Is]at i;subst i;exact fv I r (.bl _) e h|int y=>cases f;simp only[Is]at i;subst i;exact fv I r (.int _) e h|str y=>cases f;simp only[Is]at i;subst i;exact fv I r (.str _) e h|tup x=>
  cases f;simp only[Is]at i;obtain⟨a,p,rfl,l,G⟩:=i;cases(show u=Lj a from r);obtain⟨j,C,⟨o,m,k,_⟩,_⟩:=I.tuple (by rw[hK];exact l.2);exact L5 RG I.kH ⟨o,m,k⟩ e (λz=>nomatch z) h|lst x=>
  cases f;simp only[Is]at i;obtain⟨a,p,rfl,l,G⟩:=i;cases(show u=Lj a from r);obtain⟨j,C,pl,_⟩:=I.list (by rw[hK];exact l.2.sq);obtain⟨o,n,m,k,_⟩:=pl;exact L5 PB I.kH ⟨o,m,k⟩ e (λz=>nomatch z) h|aQ ks p=>cases f
theorem xU{T:String}{x p1 g:My}{f:Lf}(ha:DE X F a ta)(V:X.mg "isinstance"=KL)(o:X.mg f=KL)(l:Mz f=KE (.type T))(W:Gl X "isinstance":=by rfl)(p:Gl X f:=by rfl)(U:f≠"__name__":=by decide)(w:(f==("__debug__":Lf))=KO:=by decide)(B:Ld [a,.Name f g] X.env=(KO,MT a X.env)::Ld [.Name f g] X.env:=by rfl)(m:Ld [.Name f g] X.env=[(KO,MT (.Name f g) X.env)]:=by rfl)(n:(NN pos (Ld [.Name f g] X.env)).any (·.1)=KO:=by rfl):DE X F (.Call (.Name "isinstance" p1) [a,.Name f g] [] pos) (λρ=>do uQ T (<-ta ρ)):=by
 refine⟨ha.hK,?_⟩;have Y:dH X (.builtin "isinstance") (λG H Q=>∃k v d,G=[v,.ty T]/\Is F.toFb H v d/\(uQ T d).run k (qE F.toFb H k Q) F.E):=by
  intro y s C H xs us Q I r h;obtain⟨k,v,d,rfl,i,q⟩:=h;obtain⟨u,c,rfl,N,L⟩:=vals2 r;cases L;obtain⟨t,R,q⟩:=M.run_get.mp q;obtain⟨b,hb,q⟩:=M.run_get.mp q;exact uR I N ha.hK i R ((xT X.K t T).trans hb) λJ=>⟨.bl b,H,I.tok J,rfl,q _ H .refl (by simp only[Is])⟩
 refine(eN Y W V (by decide+kernel) (aP ha.pe (aP (xq (v:=.ty T) p o l rfl U w) bQ m) B) (by decide) (by decide) B n).imp λC H Q j=>?_;obtain⟨ρ,k,S,h⟩:=j;refine cF.next S h λd O v H1 e1 S1 P Z=>?_;exact⟨O,v,d,rfl,P,M.wk Z λ_ _ z=>z.ext e1⟩
end
noncomputable def d9(N:List Lf)(as:List A):ah:=as.map (λa=>KE a.w)++Mm (N.length-as.length) KL
inductive Rs where|d(x:D)|own(x:D)
noncomputable def HZ:Rs->M D
 |.d x=>pure x|.own _=>M.fail
noncomputable def Kf:Rs->M D
 |.d _=>M.fail|.own x=>pure x
noncomputable def EC(Q:Rs->Nat->Prop)(a:Fl)(k:Nat):Prop:=match a with
 |.rt d=>Q (.d d) k|.ro d=>Q (.own d) k|.nx _=>Q (.d .bw) k|_=>False
noncomputable def GL{a:Type}(m:M a):M a:=⟨λk Q _=>m.run k Q (λ_ _=>False),λh q _=>m.mono h q λ_ _ z=>z⟩
noncomputable def era(H:Hp)(a:KS):Hp:=λb=>if b=a then KL else H b
theorem eS{H:Hp}{a b:KS}(h:b≠a):era H a b=H b:=if_neg h
theorem jG{H:Hp}{a:KS}:era H a a=KL:=if_pos rfl
noncomputable def qR(F:Fb)(H:Hp)(k:Nat)(Q:V->Hp->Prop)(r:Rs)(c:Nat):Prop:=match r with
 |.d d=>∀v b,Ext F H k b c->Is F b v d->Q v b|.own d=>∀a b,Ext F H k b c->H a=KL->a≠F.p->fL F b a d->Q (.ref a) b
noncomputable def eT(F:Fb)(H H0:Hp):List V->List A->Prop:=λb c=>(b=[]/\c=[]/\H0=H)\/∃a d,b=[.ref a]/\c=[.own d]/\H0=era H a/\a≠F.p/\fL F H a d
noncomputable def JK(P:Lb)(w:Lv)(K:KZ)(n:Nat)(m:List A->M Rs):Sp:=λb H Q _=>∃p k a H0 c bs,b=b.take a.length++c/\H0 p≠KL/\uG ⟨K,p,P,w⟩ H0 k (b.take a.length) a/\eT ⟨K,p,P,w⟩ H H0 c bs/\(a++bs).length=n/\(m (a++bs)).run k (qR ⟨K,p,P,w⟩ H0 k Q) (λ_ _=>False)
noncomputable def Def(P:Lb)(w:Lv)(K:KZ)(mg:Lf->Option KJ)(base:Lu)(x:Lf)(ps:List Lf)(k:Nat)(sp:Sp):Prop:=∃f fd,dI P w K mg base pj k f fd ps sp/\mg x=KE (.ref f)/\N6 K (.ref f)=KN/\Binds K fd ps []
theorem pR{X:Cx}{x:Lf}{ps:List Lf}{k:Nat}{sp:Sp}{p pos:My}{e:K7}{a:List K7}{t:TA}(D:Def X.prog X.w X.K X.mg X.base x ps k sp)(d:cM k X.A)(i:Gl X x)(ha:PA X (e::a) t)(c:(x==("__debug__":Lf))=KO:=by decide)(j:Ld (e::a) X.env=(KO,MT e X.env)::Ld a X.env:=by rfl)(b:(NN pos (Ld a X.env)).any (·.1)=KO:=by rfl):PE X (.Call (.Name x p) (e::a) [] pos) (zH sp [] E0 t):=by
 obtain⟨f,fd,F,g,h,hb⟩:=D;exact qQ F d i g h hb .nil zK ha c j b
noncomputable def mo(P:Lb)(w:Lv)(K:KZ)(mg:Lf->Option KJ)(base:Lu)(x:Lf)(n:Nat)(k:Nat)(m:List A->M Rs):Prop:=∃ps:List Lf,ps.length=n/\Def P w K mg base x ps k (JK P w K n m)
theorem mo.mono{P:Lb}{w:Lv}{K:KZ}{mg:Lf->Option KJ}{base:Lu}{x:Lf}{n j k:Nat}{m:List A->M Rs}(h:mo P w K mg base x n j m)(b:j<=k):mo P w K mg base x n k m:=by
 obtain⟨ps,a,f,fd,F,r⟩:=h;exact⟨ps,a,f,fd,F.mono b,r⟩
section
variable{X:Cx}{F:Fx}{e:K7}{es:List K7}{pos:My}{tas:ah->M (List A)}
theorem Bw{x:Lf}{n k:Nat}{m:List A->M Rs}{p:My}(Df:mo X.prog X.w X.K X.mg X.base x n k m)(o:cM k X.A)(ha:DA X F (e::es) tas)(s:Gl X x:=by rfl)(hP:X.prog=F.P:=by rfl)(hw:X.w=F.w:=by rfl)(c:(x==("__debug__":Lf))=KO:=by decide)(t:Ld (e::es) X.env=(KO,MT e X.env)::Ld es X.env:=by rfl)(b:(NN pos (Ld es X.env)).any (·.1)=KO:=by rfl):DE X F (.Call (.Name x p) (e::es) [] pos) (λρ=>do let as<-tas ρ;M.need (as.length=n);let r<-GL (m as);HZ r):=by
 obtain⟨ps,C,Df⟩:=Df;refine⟨ha.hK,(pR Df o s ha.pa c t b).imp λz H Q⟨ρ,k,S,h⟩=>?_⟩;refine pq.next S h λas l B y u v f g=>?_;have i:(⟨X.K,F.p,X.prog,X.w⟩:Fb)=F.toFb:=by
  have:F.toFb=⟨F.K,F.p,F.P,F.w⟩:=rfl;rw[this,ha.hK,hP,hw]
 have a:=Paired.length f;refine⟨F.p,l,as,y,[],[],?_,v.live,?_,.inl ⟨rfl,rfl,rfl⟩,?_,?_⟩;.rw[LB,LB,L9 (Oa a)]
 .rw[LB,L9 (Oa a),i];exact f
 .rw[LB];exact g.1
 .rw[LB];refine M.wk g.2 λr j q=>?_;cases r with
  |own d=>exact q.elim|d d=>
   have q:qE F.toFb H k Q d j:=q;rw[i];exact q.ext u
end
section
variable{P:Lb}{w:Lv}{K:KZ}{mg:Lf->Option KJ}{base:Lu}
theorem Paired.Bx{b a:Type}{R:b->a->Prop}:∀{l:List b}{r:List a},Paired R l r->∀{i:Nat}{y:a},r[i]?=KE y->∃x,l[i]?=KE x/\R x y
 |_,_,.nil,i,y,e=>by simp at e|_,_,.cons h t,0,y,e=>by simp at e;subst e;exact⟨_,rfl,h⟩|_,_,.cons h t,i+1,y,e=>by simpa using Paired.Bx t (i:=i) (by simpa using e)
theorem Ext.H9{B:Fb}{H:Hp}{k:Nat}{a:KS}(h:H a=KL){H':Hp}{c:Nat}(e:Ext B H k H' c)(d:a≠B.p):Ext B H k (era H' a) c where
 keep:=λb o hb q=>by
  have:b≠a:=λz=>by rw[z,h]at q;cases q
  rw[eS this];exact e.keep b o hb q
 live:=λl=>by rw[eS (LP d)];exact e.live l
 le:=e.le;bJ:=λq f=>by
  have m:q≠a:=λz=>by
   obtain⟨_,_,_,g,_⟩:=f;obtain⟨o,j⟩:=g.cs;rw[z,h]at j;cases j
  obtain⟨ns,i,r,⟨y,⟨o,x⟩,v,u,t,s⟩,n⟩:=e.bJ q f;exact⟨ns,i,r,⟨by rw[eS (LP d)];exact y,⟨o,by rw[eS m];exact x⟩,v,u,t,s⟩,n⟩
theorem Ext.back{B:Fb}{H:Hp}{k:Nat}{a:KS}(d:a≠B.p):Ext B (era H a) k H k where
 keep:=λb o hb q=>by
  have:b≠a:=λz=>by rw[z,jG]at q;cases q
  rw[eS this]at q;exact q
 live:=λl=>by rw[eS (LP d)]at l;exact l
 le:=K8 _;bJ:=λq f=>by
  obtain⟨ns,i,r,⟨e,⟨o,c⟩,s,n,m,j⟩,h⟩:=f;have g:q≠a:=λz=>by rw[z,jG]at c;cases c
  exact⟨ns,i,r,⟨by rw[eS (LP d)]at e;exact e,⟨o,by rw[eS g]at c;exact c⟩,s,n,m,j⟩,h⟩
theorem eT.ext{B:Fb}{H H0:Hp}{us:List V}{bs:List A}{k:Nat}(h:eT B H H0 us bs):Ext B H0 k H k:=by
 rcases h with⟨_,_,rfl⟩|⟨a,d,_,_,rfl,b,_⟩;.exact .refl
 .exact .back b
theorem eT.len{B:Fb}{H H0:Hp}{us:List V}{bs:List A}(h:eT B H H0 us bs):us.length=bs.length:=by rcases h with⟨rfl,rfl,_⟩|⟨a,d,rfl,rfl,_⟩<;>rfl
theorem eT.at_{B:Fb}{H H0:Hp}{us:List V}{bs:List A}(h:eT B H H0 us bs){j:Nat}{a:A}(e:bs[j]?=KE a):j=0/\∃b d,a=.own d/\us[0]?=KE (.ref b)/\b≠B.p/\H0 b=KL/\fL B H b d:=by
 rcases h with⟨rfl,rfl,_⟩|⟨b,d,rfl,rfl,rfl,f,c⟩;.simp at e
 .cases j with
  |zero=>cases e;exact⟨rfl,b,d,rfl,rfl,f,jG,c⟩|succ j=>simp at e
theorem sT{B:Fb}{H H0:Hp}{k:Nat}{E:Xc->Nat->Prop}{N:List Lf}{ws us:List V}{as bs:List A}(t:H0 B.p≠KL)(i:uG B H0 k ws as)(m:eT B H H0 us bs):cv ⟨B,H0,k,E,H0,k⟩ (d9 N (as++bs)) k (start N (ws++us)) H:=by
 have u:=Paired.length i;have q:=m.len;have ex:Ext B H0 k H k:=m.ext;have look:∀(j:Nat)(w:W),(d9 N (as++bs))[j]?=KE (KE w)->∃a,(as++bs)[j]?=KE a/\w=a.w:=λj w e=>by
  unfold d9 at e;by_cases h:j<(as++bs).length
  .rw[LX (by simpa using h),Lr]at e;cases f:(as++bs)[j]? with
   |none=>rw[f]at e;cases e|some a=>rw[f]at e;cases e;exact⟨a,rfl,rfl⟩
  .rw[LJ (by simpa using h),NH]at e;split at e<;>cases e
 have val:∀(j:Nat)(v:V),(ws++us)[j]?=KE v->(start N (ws++us))[j]?=KE (KE v):=λj v e=>by
  unfold start;rw[LX (by have:=(List.getElem?_eq_some_iff.mp e).1;simpa using this),Lr,e];rfl
 have c:∀(j:Nat)(w:W),(d9 N (as++bs))[j]?=KE (KE w)->w.eQ=KN->j=as.length/\∃d,w=.own d:=λj w e o=>by
  obtain⟨a,f,rfl⟩:=look j w e;by_cases h:j<as.length
  .rw[LX h]at f;obtain⟨v,_,g⟩:=Paired.Bx i f;cases a with
   |own d=>exact g.elim|_=>cases o
  .rw[LJ (by omega)]at f;obtain⟨C,b,d,rfl,_⟩:=m.at_ f;exact⟨by omega,d,rfl⟩
 refine⟨by simp[d9,start,u,q],λj w e=>?_,λi j d e v n l g s r=>?_,λi j ks I w D G o=>?_,ex.live t,ex,ex.kp⟩
 .obtain⟨a,f,rfl⟩:=look j w e;by_cases h:j<as.length
  .rw[LX h]at f;obtain⟨v,l,g⟩:=Paired.Bx i f;exact⟨v,val j v (by rw[LX (by omega)];exact l),(DB.w (F:=⟨B,H0,k,E,H0,k⟩) g).mono ex⟩
  .rw[LJ (by omega)]at f;obtain⟨C,b,d,rfl,l,g,y,x⟩:=m.at_ f;exact⟨.ref b,val j _ (by rw[LJ (by omega),show j-ws.length=0 by omega];exact l),b,rfl,g,y,x⟩
 .exact absurd ((c i d l s).1.trans (c j e g r).1.symm) n
 .obtain⟨_,d,z⟩:=c i _ D rfl;cases z
theorem uA.Kg{x b:Lf}{st:MR}{f:KS}{fd:Ml}{N ps:List Lf}{n k:Nat}{m:List A->M Rs}(O:uA K x b st f fd)(S:cg N ps (ak st))(U:ps.length=n)(g:∀(c:KJ)(o:Lz)(outer:List Q4)(s:KR)(H H0:Hp)(p:KS)(k0:Nat),cM k (o.deeper (Qn b (ak st) s.heap.objs.size f c))->∃t,tU (kM pj P w K mg base N b (ak st) f c o outer s H E0).Dw ⟨⟨K,p,P,w⟩,H0,k0,λ_ _=>False,H0,k0⟩ (bR st) t/\∀(as:List A)(Q:Rs->Nat->Prop),as.length=n->(m as).run k0 Q (λ_ _=>False)->(t (d9 N as)).run k0 (EC Q) (λ_ _=>False)):dI P w K mg base pj (k+1) f fd ps (JK P w K n m):=by
 refine O.ok S (λC H Q E h=>?_) λc o outer s H C Q E I h=>?_
 .obtain⟨p,j,as,H0,D,bs,ev,_,i,r,y,_⟩:=h;have:=Paired.length i;have:=r.len;rw[ev,LZ];rw[LZ]at y;omega
 .obtain⟨p,j,as,H0,D,bs,ev,F,i,r,y,q⟩:=h;obtain⟨t,G,J⟩:=g c o outer s H H0 p j I;rw[ev];refine⟨_,G.ps,d9 N (as++bs),j,sT F i r,M.wk (J _ _ y q) λL T z=>?_⟩;cases L with
  |nx B=>exactλR l kp S=>z .bw l S.ext (by simp only[Is])|rt d=>exactλv l e i=>z v l e i|ro d=>exactλa l e u=>z a l e u.2.1 u.1 u.2.2|bk B=>exact z.elim|ct B=>exact z.elim
end
section
variable{F:Fx}{ρ:ah}{σ:St}{H H':Hp}{k k':Nat}
theorem cv.set{v:V}{d:D}(S:cv F ρ k σ H)(i:Nat)(h:Is F.toFb H v d):cv F (ρ.set i (KE (.d d))) k (σ.set i (KE v)) H where
 len:=by simp[S.len]
 at_:=λj x e=>by
  rw[Mk]at e⊢;by_cases n:i=j
  .subst n;rw[if_pos rfl]at e⊢;split at e
   .rename_i p;cases e;rw[if_pos (by rw[<-S.len];exact p)];exact⟨v,rfl,h⟩
   .cases e
  .rw[if_neg n]at e⊢;exact S.at_ j x e
 apart:=λf c x y u g b a m l s1=>by
  rw[Mk]at b a s1⊢;have n1:i≠f:=by
   rintro rfl;rw[if_pos rfl]at b;split at b;.cases b;cases m
   .cases b
  have n2:i≠c:=by
   rintro rfl;rw[if_pos rfl]at a;split at a;.cases a;cases l
   .cases a
  rw[if_neg n1]at b s1;rw[if_neg n2]at a⊢;exact S.apart f c x y u g b a m l s1
 alone:=λf c ks q w b a o=>by
  rw[Mk]at b a;have n1:i≠f:=by
   rintro rfl;rw[if_pos rfl]at b;split at b;.cases b
   .cases b
  have n2:i≠c:=by
   rintro rfl;rw[if_pos rfl]at a;split at a;.cases a;cases o
   .cases a
  rw[if_neg n1]at b;rw[if_neg n2]at a;exact S.alone f c ks q w b a o
 live:=S.live;ext:=S.ext;xK:=S.xK
end
noncomputable def H_(F:Fx)(t:D->ah->M ah):TG:=λv g H Q=>∃e k d,cv F e k g H/\Is F.toFb H v d/\(t d e).run k (λb f=>∀a c,Ext F.toFb H k c f->cv F b f a c->Q a c) F.E
noncomputable def Ia(F:Fx)(t:List D->ah->M ah):xr:=λh g H Q=>∃d k f,cv F d k g H/\ab F.toFb H h f/\(t f d).run k (λb e=>∀a c,Ext F.toFb H k c e->cv F b e a c->Q a c) F.E
structure DG(X:Cx)(F:Fx)(tg:K7)(t:D->ah->M ah):Prop where
 hK:X.K=F.K
 pg:PG X tg (H_ F t)
structure xV(X:Cx)(F:Fx)(tgs:List K7)(t:List D->ah->M ah):Prop where
 hK:X.K=F.K
 pg:zD X tgs (Ia F t)
section
variable{X:Cx}{F:Fx}{a b c e tg:K7}{es tgs:List K7}{pos:My}{ta tb tc:ah->M D}{tas:ah->M (List A)}{g:D->ah->M ah}{gs:List D->ah->M ah}
theorem PG.imp{t t':TG}(h:PG X tg t)(q:∀v d H Q,t' v d H Q->t v d H Q):PG X tg t':=λf s d H v u Q I r z=>h f s d H v u Q I r (q v d H Q z)
theorem zD.imp{t t':xr}(h:zD X tgs t)(q:∀v d H Q,t' v d H Q->t v d H Q):zD X tgs t':=λf s d H v u Q I r z=>h f s d H v u Q I r (q v d H Q z)
noncomputable def gN(i:Nat)(d:D)(ρ:ah):M ah:=pure (ρ.set i (KE (.d d)))
theorem xW(i:Nat){x:Lf}{pos:My}(hN:X.N.Nodup)(l:X.N[i]?=KE x:=by rfl)(j:Loc X.env.scope x:=by first|exact OL rfl|exact Pn rfl)(m:X.fn x=KN\/X.env.scope.names.lookup x=KE .local:=by first|exact OL rfl|exact Pn rfl)(hK:X.K=F.K:=by rfl):DG X F (.Name x pos) (gN i):=⟨hK,(ma (i:=i) hN l j m).imp λv n H Q⟨o,k,d,S,f,h⟩=>h _ H .refl (S.set i f)⟩
noncomputable def ED:List D->ah->M ah
 |[],d=>pure d|_::_,_=>M.fail
noncomputable def By(g:D->ah->M ah)(gs:List D->ah->M ah):List D->ah->M ah
 |[],_=>M.fail|d::h,f=>do gs h (<-g d f)
theorem xX(hK:X.K=F.K:=by rfl):xV X F [] ED:=⟨hK,xt.imp λv l H Q f=>by
 obtain⟨m,k,j,S,i,h⟩:=f;cases j with
 |nil=>simp only[ab]at i;exact⟨i,h l H .refl S⟩|cons d j=>exact h.elim⟩
theorem uS(m:DG X F e g)(B:xV X F es gs)(y:(L8 (e::es) X.env).map (·.2)=PR e X.env::(L8 es X.env).map (·.2):=by rfl):xV X F (e::es) (By g gs):=by
 refine⟨m.hK,(ua m.pg B.pg y).imp λv J H Q⟨r,k,l,S,i,h⟩=>?_⟩;cases l with
 |nil=>exact h.elim|cons d l=>
  simp only[ab]at i;obtain⟨x,s,rfl,w,u⟩:=i;refine⟨x,s,rfl,r,k,d,S,w,M.wk h λj t q o L n G=>?_⟩;exact⟨j,t,l,G,u.mono n.kp,M.wk q λp K z f I C E=>z f I (n.trans C) E⟩
noncomputable def gT(n:Nat)(gs:List D->ah->M ah):D->ah->M ah
 |.tup d,f=>do M.need (d.length=n);gs d f|_,_=>M.fail
theorem Bz{n:Nat}{j:Nat}(s:X.calm=KN)(h:xV X F es gs)(r:(L8 es X.env).length=n:=by rfl)(l:(L8 es X.env).findIdx? (·.1)=KL:=by rfl):DG X F (.Tuple es j pos) (gT n gs):=⟨h.hK,(Ax s h.pg r l).imp λv w H Q f=>by
  obtain⟨p,k,d,S,i,m⟩:=f;cases d with
  |tup u=>
   simp only[Is]at i;obtain⟨a,q,rfl,t,o⟩:=i;exact⟨a,q,rfl,by rw[h.hK];exact t.2,by rw[o.length];exact m.1,p,k,u,S,o,m.2⟩|_=>exact m.elim⟩
theorem BA(m:DE X F e ta)(s:DG X F tg g)(r:PV [tg] e pos.line X.env=pure KO:=by rfl)(hw:MW [tg] e X.env=pure KL:=by rfl)(l:(L8 [tg] X.env).map (·.2)=[PR tg X.env]:=by rfl):DS X F (.Assign [tg] e pos) (λρ=>do let d<-ta ρ;let i<-g d ρ;pure (.nx i)):=⟨m.hK,(md m.pe s.pg r hw l).imp λZ z H j=>by
  obtain⟨ρ,k,S,h⟩:=j;refine cF.next S h λd o v C u x p l=>?_;exact⟨ρ,o,d,x,p,M.wk l λn B q f y t w=>q f y (u.trans t).kp w⟩⟩
theorem BB(i:Nat){x:Lf}{f:My}(hN:X.N.Nodup)(l:DE X F e ta)(p:X.N[i]?=KE x:=by rfl)(n:Loc X.env.scope x:=by first|exact OL rfl|exact Pn rfl)(o:NX e (KE (.Name x f)) pos.line X.env=pure KO:=by rfl)(q:X.fn x=KN\/X.env.scope.names.lookup x=KE .local:=by first|exact .inl rfl|exact .inr rfl):DS X F (.Assign [.Name x f] e pos) (λρ=>do let d<-ta ρ;pure (.nx (ρ.set i (KE (.d d))))):=⟨l.hK,(cD (i:=i) hN p n l.pe o q).imp λZ w H j=>by
  obtain⟨ρ,k,S,h⟩:=j;refine cF.next S h λd y v u s t m r=>?_;exact r _ u s.kp (t.set i m)⟩
theorem BC(i j:Nat){x y:Lf}{p o pt:My}{kt k2 pt2}(J:X.calm=KN)(hN:X.N.Nodup)(ha:DA X F [a,b] tas)(s:i≠j)(n:∀{ta:TA},PA X [a,b] ta->PS X (.Assign [.Tuple [.Name x p,.Name y o] kt pt] (.Tuple [a,b] k2 pt2) pos) (D8 i j ta)):DS X F (.Assign [.Tuple [.Name x p,.Name y o] kt pt] (.Tuple [a,b] k2 pt2) pos) (λρ=>do match<-gu (<-tas ρ)with
   |[d,e]=>pure (.nx ((ρ.set i (KE (.d d))).set j (KE (.d e))))|_=>M.fail):=⟨ha.hK,(n ha.pa).imp λZ E H l=>by
  obtain⟨ρ,k,S,h⟩:=l;refine pq.next S h λK I G C w B m t=>?_;obtain⟨z,rfl,f⟩:=bT t;match z,f,m with
  |[d,e],f,m=>
   obtain⟨v,u,rfl,r,q⟩:=(bU m).two;exact⟨v,u,rfl,f _ C w.kp ((B.set i r).set j q)⟩|[],f,_=>exact f.elim|[_],f,_=>exact f.elim|_::_::_::_,f,_=>exact f.elim⟩
theorem BD(i:DE X F e ta):DS X F (.Return (KE e) pos) (λρ=>do let d<-ta ρ;pure (.rt d)):=⟨i.hK,(fO i.pe).imp λZ o H f=>by
  obtain⟨ρ,k,S,h⟩:=f;refine cF.next S h λd p v n q m j l=>?_;exact l v n m.ext j⟩
variable{st:MR}{sts sts':List MR}{t u:ah->M Fl}{tA:ah->M Bool}
noncomputable def Ib(t u:ah->M Fl)(ρ:ah):M Fl:=do match<-t ρ with
 |.nx d=>u d|f=>pure f
theorem xY(hK:X.K=F.K:=by rfl):tU X F [] (λρ=>pure (.nx ρ)):=⟨hK,jd.imp λZ d H⟨ρ,k,S,h⟩=>h d H .refl S⟩
theorem uT(j:DS X F st t)(o:tU X F sts u):tU X F (st::sts) (Ib t u):=⟨j.hK,(aZ j.ps o.ps).imp λZ w H i=>by
  obtain⟨m,k,S,h⟩:=i;refine⟨m,k,S,M.wk h λr n q=>?_⟩;cases r with
  |nx f=>exactλl y s v=>⟨f,n,v,M.wk q λp x z=>z.mono s⟩|rt d=>exact q|ro d=>exact q|bk f=>exact q|ct f=>exact q⟩
theorem EE{m:K7}(i:DT X F m tA)(ha:tU X F sts t)(hb:tU X F sts' u):DS X F (.If m sts sts' pos) (λρ=>do let b<-tA ρ;if b then t ρ else u ρ):=⟨i.hK,(qP i.pt ha.ps hb.ps).imp λZ q H d=>by
  obtain⟨ρ,k,S,h⟩:=d;refine pM.next S h λb f r l n j=>?_;cases b with
  |true=>exact⟨ρ,f,n,M.wk j λp o z=>z.mono l.kp⟩|false=>exact⟨ρ,f,n,M.wk j λp o z=>z.mono l.kp⟩⟩
structure sU(F:Fb)(J:It)(ds:List D)(H0:Hp)(k0:Nat):Prop where
 step:∀(i:Nat)(d:D)(H:Hp)(k:Nat),ds[i]?=KE d->Kp F H0 k0 H k->H F.p≠KL->J.go i H/\∀x H',J.GD i H x H'->Ext F H k H' k/\Is F H' x d
 stop:∀(H:Hp)(k:Nat),Kp F H0 k0 H k->H F.p≠KL->J.stop ds.length H
 len:ds.length<=KU
noncomputable def Ic(F:Fx)(t:ah->M (List D)):TI:=λi H R=>∃f k,cv F f k i H/\(t f).run k (λj h=>∀J d,Ext F.toFb H k d h->sU F.toFb J j d h->R J d) F.E
structure DI(X:Cx)(F:Fx)(tg iter:K7)(t:ah->M (List D)):Prop where
 hK:X.K=F.K
 pi:PI X tg iter (Ic F t)
noncomputable def sV(g:D->ah->M ah)(body:ah->M Fl):List D->ah->M Fl
 |[],i=>pure (.nx i)|d::j,i=>do
  let h<-g d i;match<-body h with
  |.nx f=>sV g body j f|.ct f=>sV g body j f|.bk f=>pure (.nx f)|.rt r=>pure (.rt r)|.ro _=>M.fail
theorem mq{d:Type}{l:List d}{i:Nat}(h:i<l.length):∃x,l[i]?=KE x/\l.drop i=x::l.drop (i+1):=⟨l[i],Lk h,Nq h⟩
theorem BE{iter:K7}{tI:ah->M (List D)}(hp:P1 (K4 X.prog X.w) X.A X.env X.xe)(hc:X.calm=KN)(hi:DI X F tg iter tI)(hg:DG X F tg g)(hb:tU X F sts t)(hs:∀x,Nu iter X.env x=pure x:=by intro _;rfl):DS X F (.For tg iter sts [] pos) (λρ=>do sV g t (<-tI ρ) ρ):=⟨hi.hK,(AD hp hc hi.pi hg.pg hb.ps hs).imp λZ σ H R=>by
  obtain⟨ρ,k,S,h⟩:=R;refine⟨ρ,k,S,M.wk h λl N q J H1 V it=>?_⟩;refine⟨λi m o v=>m=l.length-i/\i<=l.length/\∃j p,cv F j p o v/\Kp F.toFb H1 N v p/\(sV g t (l.drop i) j).run p (rb F Z H k) F.E,⟨l.length,rfl,Mo _,ρ,N,S.mono V,.refl,q⟩,?_⟩;rintro i m o v⟨rfl,a2,j,p,P,O,L⟩;by_cases G:i<l.length
  .obtain⟨d,hd,U⟩:=mq G;rw[U]at L;obtain⟨go,yl⟩:=it.step i d v p hd O P.live;refine .inr ⟨go,λz Y=>∃B T,cv F B T z Y/\Kp F.toFb H1 N Y T/\(sV g t (l.drop (i+1)) B).run T (rb F Z H k) F.E,λz Y h3=>⟨l.length-(i+1),by omega,rfl,G,h3⟩,λx H' y=>?_⟩;obtain⟨e3,i3⟩:=yl x H' y;refine⟨j,p,d,P.mono e3,i3,M.wk L λQ k4 q4 a0 H4 e4 S4=>?_⟩;have s:Kp F.toFb H1 N H4 k4:=O.trans (e3.trans e4).kp;refine⟨Q,k4,S4,M.wk q4 λfl k5 C=>?_⟩;cases fl with
   |nx f=>exactλn W I K=>⟨f,k5,K,s.trans I,C⟩|ct f=>exactλn W I K=>⟨f,k5,K,s.trans I,C⟩|bk f=>exactλn W I K=>C n W ((V.kp.trans s).trans I) K|rt r=>exact C|ro d=>exact C.elim
  .have e:i=l.length:=by omega
   subst e;rw[Qa]at L;exact .inl ⟨it.stop v p O P.live,L o v (V.kp.trans O) P⟩⟩
noncomputable def d_(c:ah->M Bool)(body:ah->M Fl):Nat->ah->M Fl
 |0,_=>M.fail|n+1,f=>do
  let b<-c f;if b then do match<-body f with
   |.nx d=>d_ c body n d|.ct d=>d_ c body n d|.bk d=>pure (.nx d)|.rt r=>pure (.rt r)|.ro _=>M.fail;else pure (.nx f)
noncomputable def BF(c:ah->M Bool)(body:ah->M Fl)(ρ:ah):M Fl:=⟨λk Q E=>∃n,(d_ c body n ρ).run k Q E,λ⟨n,h⟩q e=>⟨n,(d_ c body n ρ).mono h q e⟩⟩
theorem uU{R:K7}(W:P1 (K4 X.prog X.w) X.A X.env X.xe)(O:DT X F R tA)(hb:tU X F sts t):DS X F (.While R sts [] pos) (BF tA t):=⟨O.hK,(ub W O.pt hb.ps).imp λZ σ H z=>by
  obtain⟨V,k,S,n,h⟩:=z;refine⟨λm l I=>∃i y,cv F i y l I/\Kp F.toFb H k I y/\(d_ tA t m i).run y (rb F Z H k) F.E,⟨n,V,k,S,.refl,h⟩,?_⟩;rintro m l I⟨i,y,S2,Q,K⟩;cases m with
  |zero=>exact K.elim|succ m=>
   refine pM.next S2 K λb N U P T J=>?_;cases b with
   |false=>exact J l U (Q.trans P.kp) T|true=>
    refine⟨λp G=>∃q B,cv F q B p G/\Kp F.toFb H k G B/\(d_ tA t m q).run B (rb F Z H k) F.E,λp G Y=>⟨m,P9 _,Y⟩,i,N,T,M.wk J λfl L s=>?_⟩;have o:Kp F.toFb H k U N:=Q.trans P.kp;cases fl with
    |nx f=>exactλj C v x=>⟨f,L,x,o.trans v,s⟩|ct f=>exactλj C v x=>⟨f,L,x,o.trans v,s⟩|bk f=>exactλj C v x=>s j C (o.trans v) x|rt r=>exact s|ro d=>exact s.elim⟩
theorem PI.imp{iter:K7}{t t':TI}(h:PI X tg iter t)(q:∀d H R,t' d H R->t d H R):PI X tg iter t':=λf s d H R I z=>h f s d H R I (q d H R z)
noncomputable def BG{h:Type}(f:D->M h):List D->M h
 |[d]=>f d|_=>M.fail
theorem nI{i:Type}{f:D->M i}{ds:List D}{k Q E}(h:(BG f ds).run k Q E):∃d,ds=[d]/\(f d).run k Q E:=by match ds,h with|[d],h=>exact⟨d,rfl,h⟩
noncomputable def aB(n:Nat):List D:=(LY n).map λ(i:Nat)=>D.int (i:Int)
noncomputable def BH(d:D):M (List D):=do
 let j<-dm d;M.need (-(2^62)<=j/\j<=1000000)pure (aB j.toNat)
theorem sW{p:My}(B:X.mg "range"=KL)(ha:DA X F [a] tas)(C:Gl X "range":=by rfl)(z:Ld [a] X.env=[(KO,MT a X.env)]:=by rfl):DI X F tg (.Call (.Name "range" p) [a] [] pos) (λρ=>do BG BH (<-gu (<-tas ρ))):=⟨ha.hK,(sG C B ha.pa z).imp λO H R m=>by
  obtain⟨ρ,k,S,h⟩:=m;refine pq.next S h λV T P N K W w I=>?_;obtain⟨U,rfl,G⟩:=bT I;obtain⟨d,rfl,E⟩:=nI G;obtain⟨j,rfl,l⟩:=a_.mp E;obtain⟨v,rfl,q⟩:=(bU w).one;simp only[Is]at q;subst q;refine⟨j,rfl,l.1.1,Int.lt_of_le_of_lt l.1.2 (by decide),l.2 _ N K ⟨λi d L s hd J Q=>?_,λL s J _=>?_,?_⟩⟩
  .unfold aB at hd;rw[Lr]at hd;cases o:(LY j.toNat)[i]? with
   |none=>rw[o]at hd;cases hd|some n=>
    rw[o]at hd;cases hd;obtain⟨f,r⟩:=List.getElem?_eq_some_iff.mp o;rw[List.getElem_range]at r;subst r;rw[PK]at f;refine⟨f,λx Y y=>?_⟩;obtain⟨rfl,rfl⟩:=y;exact⟨.refl,by simp only[Is];simp⟩
  .show j.toNat<=_;simp[aB]
  .have:=l.1.2;simp only[aB,Lq,PK,N5];omega⟩
theorem uV{B:Fb}{H:Hp}{k:Nat}{a:KS}{f:List V}{ds:List D}(h:LstAt B H a f)(i:ab B H f ds)(q:f.length<=KU):sU B (JG B.K a) ds H k where
 step:=λj d o p hd e l=>by
  obtain⟨x,n,r⟩:=(i.mono e).get hd;have m:dF B.K o a f:=(h.mono e).2.sq;refine⟨⟨f,x,m,n⟩,λy s z=>?_⟩;obtain⟨rfl,z⟩:=z;have:=z f m;rw[n]at this;cases this;exact⟨.refl,r⟩
 stop:=λo p e l=>⟨f,(h.mono e).2.sq,Oa i.length⟩;len:=by rw[<-i.length];exact q
theorem uW{B:Fb}{H:Hp}{k:Nat}{a:KS}{f:List V}{ds:List D}(h:TupAt B H a f)(i:ab B H f ds)(p:f.length<=KU):sU B (JH B.K a) ds H k where
 step:=λj d r o hd e l=>by
  obtain⟨x,n,q⟩:=(i.mono e).get hd;have m:=(h.mono e).2;refine⟨⟨f,x,m,n⟩,λy s z=>?_⟩;obtain⟨rfl,z⟩:=z;have:=z f m;rw[n]at this;cases this;exact⟨.refl,q⟩
 stop:=λr o e l=>⟨f,(h.mono e).2,Oa i.length⟩;len:=by rw[<-i.length];exact p
end
noncomputable def lA(outer a:MQ):Bool:=(a.kind==.function)&&a.names.all λy=>((y.2 !=.cell)||(a.names.lookup y.1==KE .cell))&&((y.2 !=.local)||(a.names.lookup y.1==KE .local))&&((y.2 !=.free)||(outer.names.lookup y.1==KE .cell)||(outer.names.lookup y.1==KE .free))
noncomputable def pS(env:Q4)(y:Lf×Nj)(cs:List (Lf×KS)):Pu (ForInStep (List (Lf×KS))):=do if y.2==.free then pure (MA ((y.1,<-cellOf env y.1)::cs))else pure (MA cs)
theorem pT{a:MQ}{env:Q4}{b:List (Lf×KS)}(h:forIn a.names [] (pS env)=(pure b:Pu _)):SD a env=pure b:=by
 have e:SD a env=(forIn a.names [] (pS env)>>=λs=>pure s):=rfl;rw[e,h];rfl
theorem pU{env:Q4}:∀(names:List (Lf×Nj)),(∀y∈names,y.2=.free->∃c,env.cells.lookup y.1=KE c)->∀a:List (Lf×KS),(∀x c,a.lookup x=KE c->env.cells.lookup x=KE c)->∃f,forIn names a (pS env)=(pure f:Pu _)/\(∀x c,f.lookup x=KE c->env.cells.lookup x=KE c)/\(∀x c,a.lookup x=KE c->∃b,f.lookup x=KE b)/\∀y∈names,y.2=.free->∃c,f.lookup y.1=KE c
 |[],_,a,ha=>⟨a,rfl,ha,λx c e=>⟨c,e⟩,λy d=>nomatch d⟩|(n,h)::r,l,a,ha=>by
  by_cases m:h=.free
  .subst m;obtain⟨c,t⟩:=l (n,.free) K2 rfl;have o:∀x b,((n,c)::a).lookup x=KE b->env.cells.lookup x=KE b:=λx b e=>by
    rw[LD]at e;cases i:x==n with
    |true=>
     rw[i]at e;cases e;rw[beq_iff_eq.mp i];exact t|false=>
     rw[i]at e;exact ha x b e
   obtain⟨f,s,q,k,p⟩:=pU r (λy d=>l y (K1 _ d)) ((n,c)::a) o;have keep:∀x b,a.lookup x=KE b->∃g,((n,c)::a).lookup x=KE g:=λx b e=>by
    rw[LD];cases i:x==n with
    |true=>exact⟨c,rfl⟩|false=>exact⟨b,e⟩
   refine⟨f,?_,q,λx b e=>?_,λy d j=>?_⟩
   .rw[NW];have e:pS env (n,.free) a=(pure (MA ((n,c)::a)):Pu _):=by
     unfold pS cellOf;rw[t];rfl
    rw[e];exact s
   .obtain⟨g,u⟩:=keep x b e;exact k x g u
   .rcases List.mem_cons.mp d with z|z
    .subst z;exact k n c (by rw[LD,beq_self_eq_true])
    .exact p y z j
  .obtain⟨f,s,q,k,p⟩:=pU r (λy d=>l y (K1 _ d)) a ha;refine⟨f,?_,q,k,λy d j=>?_⟩
   .rw[NW];have e:pS env (n,h) a=(pure (MA a):Pu _):=by
     unfold pS;have:(h==Mp)=KO:=by cases h<;>first|rfl|exact absurd rfl m
     rw[this];rfl
    rw[e];exact s
   .rcases List.mem_cons.mp d with z|z
    .subst z;exact absurd j m
    .exact p y z j
theorem uX{X:Cx}(ok:X.Ok){a:MQ}(h:lA X.env.scope a=KN):∃g,GH X a g:=by
 unfold lA at h;rw[KW,Me]at h;obtain⟨i,ha⟩:=h;have b:∀y∈a.names,y.2=.free->X.env.kindOf y.1=KE .cell\/X.env.kindOf y.1=KE .free:=λy d f=>by
  have:=ha y d;simp only[KW,Mc,bne_iff_ne,beq_iff_eq,ne_eq]at this;rcases this.2 with(z|z)|z;.exact absurd f z
  .exact .inl z
  .exact .inr z
 obtain⟨g,l,k,m,j⟩:=pU (env:=X.env) a.names (λy d f=>ok.has y.1 (b y d f)) [] (λx c e=>nomatch e);refine⟨g,pT l,k,λx e=>⟨j (x,.free) (Mv e) rfl,b (x,.free) (Mv e) rfl⟩,beq_iff_eq.mp i,λy d z=>?_,λy d z=>?_⟩
 .have:=ha y d;rw[z]at this;simpa using this
 .have:=ha y d;rw[z]at this;simpa using this
noncomputable def cQ(ρ:ah)(n:Nat)(a:List Nat):ah:=Mm n KL++a.map λj=>(ρ[j]?).join
theorem gw{ρ:ah}{n:Nat}{a:List Nat}{i:Nat}{w:W}(h:(cQ ρ n a)[i]?=KE (KE w)):n<=i/\∃j,a[i-n]?=KE j/\ρ[j]?=KE (KE w):=by
 unfold cQ at h;by_cases b:i<n
 .rw[LX (by simpa using b),NH,if_pos b]at h;cases h
 .rw[LJ (by simpa using b),MS,Lr]at h;refine⟨by omega,?_⟩;cases d:a[i-n]? with
  |none=>rw[d]at h;cases h|some j=>
   rw[d]at h;refine⟨j,rfl,?_⟩;have h:(ρ[j]?).join=KE w:=KY h;cases c:ρ[j]? with
   |none=>rw[c]at h;cases h|some o=>
    rw[c]at h;have h:o=KE w:=h;rw[h]
theorem dq{a:St}{n:Nat}{b:List Nat}{i j:Nat}{v:V}(d:n<=i)(c:b[i-n]?=KE j)(h:a[j]?=KE (KE v)):(aO a n b)[i]?=KE (KE v):=by
 unfold aO;rw[LJ (by simpa using d),MS,Lr,c];show KE ((a[j]?).join)=_;rw[h];rfl
theorem cv.eP{F:Fx}{ρ:ah}{k:Nat}{x:St}{H:Hp}(S:cv F ρ k x H)(n:Nat){p:List Nat}(A:p.Nodup):cv F (cQ ρ n p) k (aO x n p) H where
 len:=by simp[cQ,aO]
 at_:=λi w e=>by
  obtain⟨l,j,c,d⟩:=gw e;obtain⟨v,m,B⟩:=S.at_ j w d;exact⟨v,dq l c m,B⟩
 apart:=λi q w y v r e t o D s1 s2=>by
  obtain⟨l,j,c,d⟩:=gw e;obtain⟨g,f,a,b⟩:=gw t;obtain⟨u,m,B⟩:=S.at_ j w d;obtain⟨I,h,E⟩:=S.at_ f y b;have a1:=dq l c m;have C:=dq g a h;rw[s1]at a1;rw[s2]at C;cases a1;cases C;have s:j≠f:=λz=>by
   subst z;have:i-n=q-n:=(R5 (List.getElem?_eq_some_iff.mp c).1 A).mp (c.trans a.symm);exact r (by omega)
  exact S.apart j f w y v s d b o D m h
 alone:=λi q ks G w e t o=>by
  obtain⟨l,j,c,d⟩:=gw e;obtain⟨g,f,a,b⟩:=gw t;have z:=S.alone j f ks G w d b o;rw[z]at a;have:i-n=q-n:=(R5 (List.getElem?_eq_some_iff.mp c).1 A).mp (c.trans a.symm);omega
 live:=S.live;ext:=S.ext;xK:=S.xK
structure pV(X:Cx)(F:Fx)(ifs:List K7)(t:ah->M Bool):Prop where
 hK:X.K=F.K
 pi:uB X ifs (pM F t)
section
variable{X:Cx}{F:Fx}{elt tg iter c:K7}{ifs:List K7}{pos:My}{scope:MQ}{own fr:List Lf}{js:List Nat}{g:D->ah->M ah}{tc:ah->M Bool}{te:ah->M D}{tI:ah->M (List D)}
theorem uY(hK:X.K=F.K:=by rfl):pV X F [] (λ_=>pure KN):=⟨hK,λa s b H Q I⟨d,k,S,h⟩=>nB a s b H Q I (h H .refl)⟩
theorem uZ(h:DT X F c tc):pV X F [c] tc:=⟨h.hK,uC h.pt⟩
noncomputable def lB(g:D->ah->M ah)(tc:ah->M Bool)(te:ah->M D):List D->ah->M (List D)
 |[],_=>pure []|d::e,f=>do
  let a<-g d f;let b<-tc a;if b then do
   let x<-te a;let r<-lB g tc te e a;pure (x::r)else lB g tc te e a
theorem xZ{L:St}{ρ:ah}{A:Hp}{t:Nat}{J:It}{ds:List D}{Q:List D->Nat->Prop}{U:List V->St->Hp->Prop}(it:sU F.toFb J ds A t)(S:cv F ρ t L A)(h:(lB g tc te ds ρ).run t Q F.E)(q:∀G xs C H' B,Ext F.toFb A t H' B->ab F.toFb H' G xs->Q xs B->G.length<=KU->U G C H'):uD J (H_ F g) (pM F tc) (gX (cF F te)) L A [] U:=by
 refine⟨λi m k n l=>m=ds.length-i/\i<=ds.length/\k.length<=i/\∃f a s,cv F f a n l/\Ext F.toFb A t l a/\ab F.toFb l k s/\(lB g tc te (ds.drop i) f).run a (λr B=>Q (s++r) B) F.E,⟨ds.length,rfl,Mo _,K8 _,ρ,t,[],S,.refl,.nil,h⟩,?_⟩;rintro i m k n l⟨rfl,a0,a2,f,a,s,K,w,H,o⟩;by_cases p:i<ds.length
 .obtain⟨d,hd,I⟩:=mq p;rw[I]at o;obtain⟨go,Y⟩:=it.step i d l a hd w.kp K.live;refine .inr ⟨go,λx H3 y=>?_⟩;obtain⟨R,i3⟩:=Y x H3 y;refine⟨f,a,d,K.mono R,i3,M.wk o λu k4 q4 W H4 e4 S4=>?_⟩;refine pM.next S4 q4 λb O H5 e5 T N=>?_;have j:Ext F.toFb l a H5 O:=(R.trans e4).trans e5;cases b with
  |false=>exact⟨ds.length-(i+1),by omega,rfl,p,by omega,u,O,s,T,w.trans j,H.mono j.kp,N⟩|true=>
   rw[if_pos rfl];refine cF.next T N λZ k6 v H6 P S6 i6 q6=>?_;have hz:=it.len;refine⟨by omega,ds.length-(i+1),by omega,rfl,p,by simp;omega,u,k6,s++[Z],S6,w.trans (j.trans P),(H.mono (j.trans P).kp).append (.cons i6 .nil),M.wk q6 λr k7 z=>?_⟩;rw[Ly];exact z
 .have e:i=ds.length:=by omega
  subst e;rw[Qa]at o;have o:Q (s++[]) a:=o;rw[LB]at o;exact .inl ⟨it.stop l a w.kp K.live,q k s n l a w H o (by have:=it.len;omega)⟩
end
noncomputable def u7(e:K7)(d:Nat):Prop:=∀{prog:Lb}{w:Lv}{A:Lz}{R:Result->KR->Prop}{s:KR}{f a:KJ}{env:Q4},codeAny (K4 prog w) A (.compLoop e d f a env) R s->wpAny (K4 prog w) A (Sb f) (λc b=>codeAny (K4 prog w) A (.compLoop e d c a env) R b) (notedBy (K4 prog w) A env λx b=>R (.error x) b) s->codeAny (K4 prog w) A (.compStart e d f a env) R s
noncomputable def u9{c:Type}(n:Nat)(h:List Nat)(f:TI)(g:TG)(b:TT)(rd:RB c)(a0:c)(o:c->HO):TE:=λd H Q=>f d H λJ i=>uD J g b rd (aO d n h) i a0 λa _ e=>∀p,e p=KL->(p==Mu)=KO->Q (.ref p) (upd e p (o a))
inductive Ie(X:Cx)(pins:List (KS×L_))(σ:St)(Q:VK)(D C:KS)(s':KR):Prop where|mk(H':Hp)(I:Inv X pins σ H' s')(q:Q (.ref D) H')(n:H' C=KL)(l:C≠X.env.locals)(f:C∉X.fs)(c:∀y c,X.env.cells.lookup y=KE c->c≠C)(p:∀p∈X.pn++pins,p.1≠C)(z:X.b7.heap.objs.size<=C)(m':Lf->Option KJ)(hn:s'.heap.Ns C m')
noncomputable def nJ(X:Cx)(cmp:Option (KJ->Pu Unit)->Pu KJ)(t:TE):Prop:=∀(b:Option (KJ->Pu Unit))(e:KJ->KR->Prop)(a:List (KS×L_))(s:KR)(c:St)(H:Hp)(Q:VK),Inv X a c H s->t c H Q->(∀D C d,Ie X a c Q D C d->compPost (K4 X.prog X.w) X.A X.xe b e (.ref D) C (.ok .next) d)->wpAny (K4 X.prog X.w) X.A (cmp b) e X.xe s
theorem nJ.pe{X:Cx}{cmp:Option (KJ->Pu Unit)->Pu KJ}{t:TE}{e:K7}(w:nJ X cmp t)(d:MT e X.env=cmp KL):PE X e t:=by
 intro a s g H Q I h;rw[d];refine w _ _ a s g H Q I h λD C i z=>?_;obtain⟨o,I,q,n,l,f,c,p,z,j,m⟩:=z;exact⟨j,m,λr k=>⟨.ref D,o,I.turned (t':=i.toks) (it:=C) (λb ob hb e=>(k.2 b hb).trans e) n l (.inr z) c p,rfl,q⟩⟩
theorem lC{X:Cx}{Z:Type}{e tg iter:K7}{ifs:List K7}{rest:List RA}{f:MQ}{pos:My}{cl:List (Lf×KS)}{own fr:List Lf}{js:List Nat}{wi:TI}{g:TG}{M:TT}{rd:RB Z}{ok:Z->L_->Prop}{a0:Z}{ob0:L_}{o:Z->HO}{newAcc:Pu KJ}{body:KS->Q4->Pu Unit}(S:X.calm=KN)(c:GH X f cl)(hj:js.map (λj=>X.N[j]?)=fr.map KE)(e5:∀x∈fr,f.names.lookup x=KE .free)(hw:PI X tg iter wi)(b3:clausesOf e=⟨tg,iter,ifs,0⟩::rest)(d4:u7 e 0)(a8:∀{Q:KJ->KR->Prop}{s:KR},Q (.ref s.heap.objs.size) {s with heap:=s.heap.push ob0}->wpAny (K4 X.prog X.w) X.A newAcc Q X.xe s)(e3:∀a ob v,ok a ob->ob.data≠.cell v)(a4:ok a0 ob0)(e0:ob0.data≠.freed)(b2:∀it D env,(K4 X.prog X.w).den (.compLoop e 0 (.ref it) (.ref D) env)=(SE e 0 (.ref it) (.ref D) env).onRaise (λx=>do noteFrame x env;theTreesLotGoes x))(a6:∀it D env,X.A.under (.compLoop e 0 (.ref it) (.ref D) env)=X.A)(e6:∀it D env,SE e 0 (.ref it) (.ref D) env=(do
   Rm iter.pos;match<-N1 (.ref it)with
   |none=>pure (.done .next)|some v=>
    Ov tg (.ref it) v;PR tg env v;let mut ok:=KN;for c in ifs do if ok then ok<-RF c env (MT c env)
    if ok then body D env
    SR (.compLoop e 0 (.ref it) (.ref D) env)))(hg:∀i cs C fp s H,PG (eP X i f (own++fr) cs C fp s H) tg g)(hi:∀i cs C fp s H,uB (eP X i f (own++fr) cs C fp s H) ifs M)(hb:∀i cs C fp s H D,HR (eP X i f (own++fr) cs C fp s H) D->Body (eP X i f (own++fr) cs C fp s H) ok D (body D (eP X i f (own++fr) cs C fp s H).env) rd)(b0:∀(a:Z)(ob:L_)(H:Hp)(h:Lu)(D:KS),ok a ob->h.get? D=KE ob->iH X.prog X.w H h->bj X.prog X.w (upd H D (o a)) h D (o a))(hs:∀x,Nu iter X.env x=pure x:=by intro _;rfl):nJ X (λu=>comprehension e f X.env pos newAcc KO (MT iter X.env) u) (u9 own.length js wi g M rd a0 o):=by
 intro c9 Qc i s σ H Q I h kk;refine wpAny_comprehension_free b3 hs c.HQ c.kind c.names (aU (hw i s σ H _ I h) λv s1 h1=>aU h1 λf4 s2 h2=>?_);obtain⟨it,fp,tn,J,G,e1,t,T,aW,f2,d0⟩:=h2;subst e1;refine a8 (mm ?_);dsimp only;generalize U:s2.heap.push ob0=l;have hC:l.objs.size=s2.heap.objs.size+1:=by rw[<-U,Mn]
 have c1:s2.heap.objs.size≠l.objs.size:=by rw[hC];exact Lp (P9 _)
 have k:s2.heap.objs.size<=l.objs.size:=by rw[hC];exact PF _
 have below:∀b,b<s2.heap.objs.size->b≠l.objs.size:=λb hb=>by rw[hC];exact Lp (PH hb)
 have K:∀x a,X.env.cells.lookup x=KE a->a<s2.heap.objs.size:=λx a e=>by
  obtain⟨v,q⟩:=t.cell x a e;exact q.lt
 obtain⟨cj,ck⟩:=jA f.names (l.objs.size+1) cl (λx a e=>PH (Le (K x a (c.sub x a e)) k)) (λx y a e1 e2=>t.ok.inj x y a (c.sub x a e1) (c.sub y a e2));have kc:AX X f s2 l.objs.size (Ob (l.push {cls:=.type "dict",data:=.dict #[]}) f.names) (Nf (l.objs.size+1) f.names cl):=by
  refine⟨cj,λx a e=>?_,λx a e hf=>?_,λx hx=>?_⟩
  .rcases ck x a e with⟨R,W⟩|⟨R,_,z3⟩;.exact .inl ⟨c.sub x a R,λq=>W (Mv q)⟩
   .exact .inr ⟨k,R,z3 _ (Mn ..)⟩
  .rcases ck x a e with⟨R,W⟩|⟨_,W,_⟩;.exact c.sub x a R
   .have:=c.cells _ W rfl;rw[hf]at this;cases this
  .have:((Nf (l.objs.size+1) f.names cl).lookup x).isSome=KN:=OH _ _ _ (by
    rcases hx with z|z;.exact .inl z
    .obtain⟨a,e⟩:=(c.has x z).1;exact .inr (by rw[e];rfl));exact Option.isSome_iff_exists.mp this
 have B:(Ob (l.push {cls:=.type "dict",data:=.dict #[]}) f.names).Ns l.objs.size (λ_=>KL):=(Heap.Ns.new l (.type "dict")).keeps (QJ _ _);have F:∀b o,l.get? b=KE o->(Ob (l.push {cls:=.type "dict",data:=.dict #[]}) f.names).get? b=KE o:=λb o e=>QJ _ _ _ _ (KQ _ e);generalize Ob (l.push {cls:=.type "dict",data:=.dict #[]}) f.names=m at kc B F⊢;generalize Nf (l.objs.size+1) f.names cl=cs at kc⊢;have a3:∀b o,s2.heap.get? b=KE o->m.get? b=KE o:=λb o e=>F b o (U▸KQ _ e);have b4:m.get? s2.heap.objs.size=KE ob0:=F _ _ (U▸K9 _ (by cases ob0;rename_i c d n sl;cases n<;>first|rfl|exact absurd rfl e0));have L:∀b∈fp,b<s2.heap.objs.size:=λb hb=>by
  obtain⟨o,e,_⟩:=T.obj _ _ aW b hb;exact K5 e
 have J0:=sP (own:=own) (fr:=fr) (t':=s2.toks) t f2 L c kc hj e5 k a3 B;have oD:HR (eP X i f (own++fr) cs l.objs.size fp s2 G) s2.heap.objs.size:=⟨K8 _,λx a e z=>by
  rcases kc.sub x a e with⟨q,_⟩|⟨q1,q2,_⟩;.exact absurd (K x a q) (by rw[z];exact LU _)
  .exact absurd (Ow q1 q2) (by rw[z];exact LU _)⟩;have f0:G s2.heap.objs.size=KL:=t.aM.fresh (K8 _);have d2:s2.heap.objs.size∉sA X.stack:=λz=>by
  rcases List.mem_cons.mp (t.jn _ z)with q|q;.exact absurd t.lt (by rw[<-q];exact LU _)
  .exact t.Al (K8 _) q
 have O:∀p∈(X.pn++i)++([]:List (KS×L_)),p.1≠s2.heap.objs.size:=λp E z=>by
  rw[LB]at E;exact absurd (K5 (t.pin p E).1) (by rw[z];exact LU _)
 have J1:Inv (eP X i f (own++fr) cs l.objs.size fp s2 G) [(s2.heap.objs.size,ob0)] (aO σ own.length js) G {s2 with heap:=m,toks:=s2.toks}:=J0.dX λp E=>by
   have E:=List.mem_singleton.mp E;rw[E];exact⟨b4,f0,c1,d2,λv=>e3 a0 ob0 v a4⟩
 have a9:∀b∈fp,dG (eP X i f (own++fr) cs l.objs.size fp s2 G) [(s2.heap.objs.size,ob0)] G b:=λb hb=>by
  obtain⟨q0,q1,q2,q3,q4,q5⟩:=f2 b hb;refine⟨q0,below b (L b hb),q_ t f2 b hb,.inl hb,λx a e=>?_,λp E=>?_⟩
  .rcases kc.sub x a e with⟨q,_⟩|⟨R,W,_⟩;.exact q4 x a q
   .exact Nc (R0 (Le (L b hb) R) W)
  rcases List.mem_append.mp E with z|z;.exact q5 p z
  .have z:=List.mem_singleton.mp z;rw[z];exact LP (Lp (L b hb))
 have ee:tn 0 m:=T.keep _ _ _ aW λb hb o e=>a3 b o e;have a5:=nE (Y:=eP X i f (own++fr) cs l.objs.size fp s2 G) (ok:=ok) (D:=s2.heap.objs.size) (it:=it) (e:=e) (d:=0) (tg:=tg) (ifs:=ifs) (pos0:=iter.pos) (body:=body s2.heap.objs.size (eP X i f (own++fr) cs l.objs.size fp s2 G).env) S (λ_ _ z=>z) (b2 _ _ _) (a6 _ _ _) (e6 _ _ _) T (hg i _ _ fp s2 G) (hi i _ _ fp s2 G) (hb i _ _ fp s2 G _ oD) J1 O (a:=a0) a4 a9 ee d0;have c2:codeAny (K4 X.prog X.w) X.A (.compLoop e 0 (.ref it) (.ref s2.heap.objs.size) (compEnvC f cs l.objs.size X.env)) (compPost (K4 X.prog X.w) X.A X.xe c9 Qc (.ref s2.heap.objs.size) l.objs.size) {s2 with heap:=m,toks:=s2.toks}:=by
  refine Qm a5 λr s' c5=>?_;obtain⟨a,d1,f1,H',hr,I',a7,q',_⟩:=c5;subst hr;obtain⟨m',e4,_⟩:=I'.loc;obtain⟨eD,nD,f3,_,_⟩:=I'.pin _ (Lg _ K2);have c4:Inv X i σ H' s':=xJ t f2 I';refine kk _ _ s' ⟨upd H' s2.heap.objs.size (o a),c4.zL t.sz nD (Nc t.lt) (λy c e z=>?_) (λp E=>O p (by rw[LB];exact E)) (b0 a d1 H' s'.heap _ a7 eD c4.aM),q' _ nD (beq_eq_false_iff_ne.mpr (LP (Lp t.GG))),by rw[af (LP c1)];exact I'.free,Nc (Le t.lt k),t.Al k,λy c e z=>?_,λp E z=>absurd (Le (K5 (t.pin p E).1) k) (by rw[z];exact LU _),L7 t.sz k,m',e4⟩;.exact absurd (K y c e) (by rw[z];exact LU _)
  .exact absurd (Le (K y c e) k) (by rw[z];exact LU _)
 exact d4 c2 (T.self _ 0 _ _ _ ee c2)
theorem lD{e:K7}{d:Nat}{g:RA}(j:(clausesOf e)[d]?=KE g)(ha:(g.is_async !=0)=KO)(c:∀prog w it a env,(K4 prog w).den (.compStart e d it a env)=(compStart e d it a env).onRaise (λx=>do noteFrame x env;Rm theWindowsPlace):=by intros;rfl)(b:∀(A:Lz)it a env,A.under (.compStart e d it a env)=A:=by intros;rfl):u7 e d:=by
 intro prog w A R s it a env f h;refine codeAny_of_tree ?_;rw[c,b];refine wpAny_notedAt ?_;unfold compStart;rw[j];simp only[Option.elim,ha,K_,if_false];refine KH (wpAny_askSetting (wpAny_ite ?_));split;.first
   |exact KH (KP (KP (And.intro rfl f)))|exact KP (And.intro rfl f)
 .refine KH (Ng (KH (Oi (KH (MI h (λi l k=>KP (And.intro rfl k)) λ_ _ x=>x)))))
section
variable{X:Cx}{elt tg iter tg2 iter2:K7}{ifs ifs2:List K7}{scope:MQ}{pos:My}{cl:List (Lf×KS)}{own fr:List Lf}{js:List Nat}{wi wi2:TI}{g g2:TG}{tifs tifs2:TT}{te:TE}
theorem nK{P:Lb}{w:Lv}(a:List V)(ob:L_)(H:Hp)(h:Lu)(D:KS)(ok:GI a ob)(e:h.get? D=KE ob)(_:iH P w H h):bj P w (upd H D (.lst a)) h D (.lst a):=by
 obtain⟨d,b,n,c,rfl⟩:=ok;exact⟨d,b,n,c,e⟩
end
mutual
noncomputable def aX(h:Lu):KJ->D->Prop
 |u,.bw=>u=.none|u,.bl b=>u=.bool b|u,.int i=>∃t,u=.int i t|u,.str x=>∃t,u=.str x t|u,.tup d=>∃a c,u=.ref a/\h.IsTuple a c/\bM h c.toList d|u,.lst d=>∃a c,u=.ref a/\h.IsList a c/\bM h c.toList d|u,.aQ _ _=>∃a,u=.ref a
noncomputable def bM(h:Lu):List KJ->List D->Prop
 |us,[]=>us=[]|us,d::a=>∃u r,us=u::r/\aX h u d/\bM h r a
end
theorem bM.length{h:Lu}:∀{us:List KJ}{ds:List D},bM h us ds->us.length=ds.length
 |_,[],q=>by simp only[bM]at q;rw[q];rfl|_,d::ds,q=>by
  simp only[bM]at q;obtain⟨u,r,rfl,_,q⟩:=q;simp[bM.length q]
theorem bM.get{h:Lu}:∀{us:List KJ}{ds:List D}{i:Nat}{u:KJ},bM h us ds->us[i]?=KE u->∃d,ds[i]?=KE d/\aX h u d
 |_,[],_,_,q,e=>by simp only[bM]at q;rw[q]at e;simp at e|_,c::ds,i,u,q,e=>by
  simp only[bM]at q;obtain⟨x,r,rfl,a,q⟩:=q;cases i with
  |zero=>simp at e;subst e;exact⟨c,rfl,a⟩|succ i=>simpa using bM.get (i:=i) q (by simpa using e)
section
variable{X:Cx}{pins:List (KS×L_)}{σ:St}{H:Hp}{s:KR}{B:Fb}
mutual
theorem dz(I:Inv X pins σ H s)(hK:X.K=B.K):∀{v:V}{u:KJ}{d:D},RelV v u->Is B H v d->aX s.heap u d
 |_,_,.bw,r,i=>by simp only[Is]at i;subst i;simp only[aX];exact r|_,_,.bl _,r,i=>by simp only[Is]at i;subst i;simp only[aX];exact r|_,_,.int _,r,i=>by simp only[Is]at i;subst i;simp only[aX];exact r|_,_,.str _,r,i=>by simp only[Is]at i;subst i;simp only[aX];exact r|_,_,.tup j,r,i=>by
  simp only[Is]at i;obtain⟨a,h,rfl,g,f⟩:=i;obtain⟨b,c,e,_⟩:=I.tuple (by rw[hK];exact g.2);simp only[aX];exact⟨a,b.toArray,r,e,mv I hK c f⟩|_,_,.lst j,r,i=>by
  simp only[Is]at i;obtain⟨a,h,rfl,g,f⟩:=i;obtain⟨b,c,e,_⟩:=I.list (by rw[hK];exact g.2.sq);simp only[aX];exact⟨a,b.toArray,r,e.isList,mv I hK c f⟩|_,_,.aQ _ _,r,i=>by
  simp only[Is]at i;obtain⟨a,h,rfl,_⟩:=i;simp only[aX];exact⟨a,r⟩
theorem mv(I:Inv X pins σ H s)(hK:X.K=B.K):∀{a:List V}{us:List KJ}{ds:List D},aq a us->ab B H a ds->bM s.heap us ds
 |_,_,[],r,i=>by
  simp only[ab]at i;subst i;cases r;simp only[bM]|_,_,d::ds,r,i=>by
  simp only[ab]at i;obtain⟨x,g,rfl,f,e⟩:=i;cases r with|cons c b=>
   simp only[bM];exact⟨_,_,rfl,dz I hK c f,mv I hK b e⟩
end
end
noncomputable def ba(f:D->D->Option Bool):List D->List D->Option Bool
 |x::d,y::c=>match f x y,ba f d c with
  |some a,KE b=>KE (a&&b)|_,_=>KL
 |_,_=>KE KN
noncomputable def cw:Nat->D->D->Option Bool
 |0=>λ_ _=>KL|n+1=>λd e=>match d,e with
  |.tup f,.tup c=>(ba (cw n) f c).map λb=>b&&f.length==c.length|.lst f,.lst c=>(ba (cw n) f c).map λb=>b&&f.length==c.length|.bw,.bw=>KE KN|.bl a,.bl b=>KE (a==b)|.bl a,.int b=>KE ((if a then 1 else 0)==b)|.int a,.bl b=>KE (a==(if b then 1 else 0))|.int a,.int b=>KE (a==b)|.str a,.str b=>KE (a==b)|.aQ _ _,_=>KL|_,.aQ _ _=>KL|_,_=>KE KO
theorem cy{f:D->D->Option Bool}:∀{xs ys:List D}{b:Bool},ba f xs ys=KE b->(∀(j:Nat)(x y:D),xs[j]?=KE x->ys[j]?=KE y->∃c,f x y=KE c)/\∀g:Nat->Bool,(∀(j:Nat)(x y:D),xs[j]?=KE x->ys[j]?=KE y->f x y=KE (g j))->(LY (min xs.length ys.length)).all g=b
 |[],ys,b,h=>by cases ys<;>(simp[ba]at h;subst h;exact⟨λj x y e=>absurd e (by simp),λg _=>(by simp)⟩)|x::xs,[],b,h=>by
  simp[ba]at h;subst h;exact⟨λj x y e d=>by simp at d,λg _=>by simp⟩|x::xs,y::ys,b,h=>by
  simp only[ba]at h;cases i:f x y with
  |none=>rw[i]at h;simp at h|some a=>cases m:ba f xs ys with
   |none=>rw[i,m]at h;simp at h|some c=>
    rw[i,m]at h;simp only[N3]at h;obtain⟨p,o⟩:=cy m;refine⟨λj l k e d=>?_,λg n=>?_⟩;.cases j with
     |zero=>simp at e d;subst e d;exact⟨a,i⟩|succ j=>exact p j l k (by simpa using e) (by simpa using d)
    .have r:g 0=a:=by
      have:=n 0 x y rfl rfl;rw[i]at this;exact(KY this).symm
     have q:=o (λj=>g (j+1)) λj l k e d=>n (j+1) l k (by simpa using e) (by simpa using d);rw[<-h,<-q,<-r];have:min (x::xs).length (y::ys).length=min xs.length ys.length+1:=by simp only[LM];omega
     rw[this,List.range_succ_eq_map,NC,List.all_map];rfl
theorem iK{h:Lu}{a:KS}{b its':Array KJ}(p:h.IsTuple a b)(q:h.IsTuple a its'):b=its':=by
 obtain⟨o,e,c,n,d⟩:=p;obtain⟨i,f,k,j,g⟩:=q;rw[e]at f;cases f;rw[d]at g;cases g;rfl
theorem jH{h:Lu}{a:KS}{b its':Array KJ}(p:h.IsList a b)(q:h.IsList a its'):b=its':=by
 obtain⟨o,e,c,n,d⟩:=p;obtain⟨i,f,k,j,g⟩:=q;rw[e]at f;cases f;rw[d]at g;cases g;rfl
theorem rp{h:Lu}{a:KS}{b its':Array KJ}(p:h.IsList a b)(q:h.IsTuple a its'):False:=by
 obtain⟨o,e,c,n,d⟩:=p;obtain⟨i,f,g,j,k⟩:=q;rw[e]at f;cases f;rw[c]at g;exact absurd (Value.type.inj g) (by decide)
theorem jI{h:Lu}:∀(n:Nat){u:KJ}{d e:D}{b:Bool},aX h u d->aX h u e->cw n d e=KE b->b=KN
  |0,_,_,_,_,_,_,q=>by cases q|n+1,u,d,e,b,p,i,q=>by
    have step:∀{f:List KJ}{xs ys:List D}{c:Bool},bM h f xs->bM h f ys->ba (cw n) xs ys=KE c->(c&&xs.length==ys.length)=KN:=λ{f xs ys c}o s l=>by
      obtain⟨G,F⟩:=cy l;have:=F (λ_=>KN) λj x y ex B=>by
        obtain⟨z,v⟩:=G j x y ex B;have A:j<f.length:=by rw[o.length];exact(List.getElem?_eq_some_iff.mp ex).1
        obtain⟨L,E,I⟩:=o.get (Lk A);obtain⟨K,C,H⟩:=s.get (Lk A);rw[ex]at E;rw[B]at C;cases E;cases C;rw[v,jI n I H v]
      rw[<-this,<-o.length,<-s.length];simp
    cases d<;>first
      |exact nomatch(show(KL:Option Bool)=KE b from q)|(cases e<;>first
          |exact nomatch(show(KL:Option Bool)=KE b from q)
          | (simp only[aX]at p i;first
               | (exfalso;(first|(obtain⟨_,rfl⟩:=p)|(obtain⟨_,_,rfl,_⟩:=p)|subst p)<;>(first|(obtain⟨_,z⟩:=i;cases z;done)|(obtain⟨_,_,z,_⟩:=i;cases z;done)|(cases i;done)))|(subst p;cases i;have q:=KY (show KE _=KE b from q);rw[<-q];try simp;done)|(obtain⟨t,rfl⟩:=p;obtain⟨J,z⟩:=i;cases z;have q:=KY (show KE _=KE b from q);rw[<-q];try simp;done)|skip))
    all_goals
      obtain⟨a,f,rfl,m,w⟩:=p;obtain⟨M,r,z,g,k⟩:=i;cases z
    · obtain rfl:=iK m g;obtain⟨c,l,rfl⟩:=Option.map_eq_some_iff.mp (show(ba (cw n) _ _).map _=KE b from q);exact step w k l
    ·exact(rp g m).elim
    ·exact(rp m g).elim
    · obtain rfl:=jH m g;obtain⟨c,l,rfl⟩:=Option.map_eq_some_iff.mp (show(ba (cw n) _ _).map _=KE b from q);exact step w k l
theorem lE{h:Lu}{n:Nat}{a its':Array KJ}{xs ys:List D}{b:Bool}{A:Lz}{s:KR}(l:bM s.heap a.toList xs)(f:bM s.heap its'.toList ys)(q:(ba (cw n) xs ys).map (λb=>b&&xs.length==ys.length)=KE b)(C:∀{u v:KJ}{d e:D}{c:Bool},aX s.heap u d->aX s.heap v e->cw n d e=KE c->Nz A s u v c):∃e:Nat->Bool,(∀j(o:j<a.size)(m:j<its'.size),Nz A s a[j] its'[j] (e j))/\((LY (min a.size its'.size)).all e&&a.size==its'.size)=b:=by
 simp only[ON]at q;obtain⟨c,H,rfl⟩:=q;obtain⟨t,r⟩:=cy H;have B:a.size=xs.length:=by have:=l.length;simpa using this
 have w:its'.size=ys.length:=by have:=f.length;simpa using this
 have all:∀j:Nat,∃g:Bool,∀(x y:D),xs[j]?=KE x->ys[j]?=KE y->cw n x y=KE g:=λj=>by cases F:xs[j]? with
  |none=>exact⟨KN,λx y z=>nomatch z⟩|some x=>cases E:ys[j]? with
   |none=>exact⟨KN,λx y _ z=>nomatch z⟩|some y=>
    obtain⟨g,k⟩:=t j x y F E;exact⟨g,λL K z p=>by cases z;cases p;exact k⟩
 obtain⟨g,k⟩:∃g:Nat->Bool,∀(j:Nat)(x y:D),xs[j]?=KE x->ys[j]?=KE y->cw n x y=KE (g j):=⟨λj=>(all j).choose,λj=>(all j).choose_spec⟩;refine⟨g,λj o m=>?_,?_⟩
 .obtain⟨d,hd,J⟩:=l.get (i:=j) (u:=a[j]) (by simp[o]);obtain⟨e,G,I⟩:=f.get (i:=j) (u:=its'[j]) (by simp[m]);exact C J I (k j d e hd G)
 .rw[B,w,r g k]
theorem BJ{n:Nat}{A:Lz}{s:KR}{a1 k:KS}{f a:Array KJ}{xs ys:List D}{b:Bool}(o:bM s.heap f.toList xs)(m:bM s.heap a.toList ys)(j:s.heap.IsTuple a1 f)(i:s.heap.IsTuple k a)(l:A.units<L6)(q:cw (n+1) (.tup xs) (.tup ys)=KE b)(x:∀{u v:KJ}{d e:D}{c:Bool},aX s.heap u d->aX s.heap v e->cw n d e=KE c->Nz A.in1 s u v c):Qs A s (.ref a1) (.ref k) b/\Pd A s (.ref a1) (.ref k) (!b)/\Nz A s (.ref a1) (.ref k) b:=by
 obtain⟨g,t,hb⟩:=lE (h:=s.heap) o m q x;have p:Qs A s (.ref a1) (.ref k) b:=hb▸SeqAt.RcAt.tuples j i l t;have w:Pd A s (.ref a1) (.ref k) (!b):=hb▸SeqAt.RcNeAt.tuples j i l t;refine⟨p,w,?_⟩;by_cases r:a1=k
 .subst r;have:b=KN:=jI (h:=s.heap) (n+1) (u:=.ref a1) (by simp only[aX];exact⟨a1,f,rfl,j,o⟩) (by simp only[aX];exact⟨a1,a,rfl,i,m⟩) q;subst this;exact .same _
 .exact .of_refs r p
theorem BK{n:Nat}{A:Lz}{s:KR}{a1 m:KS}{a f:Array KJ}{xs ys:List D}{b:Bool}(r:bM s.heap a.toList xs)(p:bM s.heap f.toList ys)(j:s.heap.IsList a1 a)(i:s.heap.IsList m f)(k:A.units<L6)(q:cw (n+1) (.lst xs) (.lst ys)=KE b)(B:∀{u v:KJ}{d e:D}{c:Bool},aX s.heap u d->aX s.heap v e->cw n d e=KE c->Nz A.in1 s u v c):Qs A s (.ref a1) (.ref m) b/\Pd A s (.ref a1) (.ref m) (!b)/\Nz A s (.ref a1) (.ref m) b:=by
 obtain⟨g,y,hb⟩:=lE (h:=s.heap) r p q B;have t:Qs A s (.ref a1) (.ref m) b/\Pd A s (.ref a1) (.ref m) (!b):=by
  by_cases o:a.size=f.size
  .have l:(LY a.size).all g=b:=by rw[<-o]at hb;simpa using hb
   exact⟨l▸SeqAt.RcAt.lists j i o k y,l▸SeqAt.RcNeAt.lists j i o k y⟩
  .have l:b=KO:=by rw[<-hb];simp[o]
   subst l;exact⟨SeqAt.RcAt.lists_lengths j i (by simpa using o) k,SeqAt.RcNeAt.lists_lengths j i (by simpa using o) k⟩
 obtain⟨w,z⟩:=t;refine⟨w,z,?_⟩;by_cases x:a1=m
 .subst x;have:b=KN:=jI (h:=s.heap) (n+1) (u:=.ref a1) (by simp only[aX];exact⟨a1,a,rfl,j,r⟩) (by simp only[aX];exact⟨a1,f,rfl,i,p⟩) q;subst this;exact .same _
 .exact .of_refs x w
theorem mw:∀(n:Nat){A:Lz}{s:KR}{u v:KJ}{d e:D}{b:Bool},aX s.heap u d->aX s.heap v e->A.units+n<L6->cw n d e=KE b->Qs A s u v b/\Pd A s u v (!b)/\Nz A s u v b
 |0,_,_,_,_,_,_,_,_,_,_,q=>by cases q|n+1,A,s,u,v,d,e,b,p,h,hu,q=>by
  have a:A.units<L6:=by omega
  have C:∀{u v:KJ}{d e:D}{c:Bool},aX s.heap u d->aX s.heap v e->cw n d e=KE c->Nz A.in1 s u v c:=λH G F=>(mw n H G (by rw[Around.in1_units];omega) F).2.2;have B:=q;cases d with
  |bw=>cases e with
   |bw=>
    simp only[aX]at p h;subst p;subst h;have q:=KY (show KE _=KE b from q);subst q;exact⟨SeqAt.RcAt.none_none,SeqAt.RcNeAt.none_none,SeqAt.EqAt.same _⟩|bl y=>
    simp only[aX]at p h;subst p;subst h;have q:=KY (show KE _=KE b from q);subst q;exact⟨SeqAt.RcAt.none_bool _,SeqAt.RcNeAt.none_bool _,SeqAt.EqAt.none_bool _⟩|int y=>
    simp only[aX]at p h;subst p;obtain⟨r,rfl⟩:=h;have q:=KY (show KE _=KE b from q);subst q;exact⟨SeqAt.RcAt.none_int _ _,SeqAt.RcNeAt.none_int _ _,SeqAt.EqAt.none_int _ _⟩|str y=>
    simp only[aX]at p h;subst p;obtain⟨r,rfl⟩:=h;have q:=KY (show KE _=KE b from q);subst q;exact⟨SeqAt.RcAt.none_str _ _,SeqAt.RcNeAt.none_str _ _,SeqAt.EqAt.none_str _ _⟩|tup m=>
    simp only[aX]at p h;subst p;obtain⟨z,i,rfl,f,k⟩:=h;have q:=KY (show KE _=KE b from q);subst q;exact⟨SeqAt.RcAt.none_tuple f a,SeqAt.RcNeAt.none_tuple f a,SeqAt.EqAt.none_tuple f a⟩|lst m=>
    simp only[aX]at p h;subst p;obtain⟨z,i,rfl,f,k⟩:=h;have q:=KY (show KE _=KE b from q);subst q;exact⟨SeqAt.RcAt.none_list f a,SeqAt.RcNeAt.none_list f a,SeqAt.EqAt.none_list f a⟩|aQ w o=>exact nomatch(show(KL:Option Bool)=KE b from q)
  |bl x=>cases e with
   |bw=>
    simp only[aX]at p h;subst p;subst h;have q:=KY (show KE _=KE b from q);subst q;exact⟨SeqAt.RcAt.bool_none _,SeqAt.RcNeAt.bool_none _,SeqAt.EqAt.bool_none _⟩|bl y=>
    simp only[aX]at p h;subst p;subst h;have q:=KY (show KE _=KE b from q);subst q;exact⟨SeqAt.RcAt.bool_bool _ _,SeqAt.RcNeAt.bool_bool _ _,SeqAt.EqAt.bool_bool _ _⟩|int y=>
    simp only[aX]at p h;subst p;obtain⟨r,rfl⟩:=h;have q:=KY (show KE _=KE b from q);subst q;exact⟨SeqAt.RcAt.bool_int _ _ _,SeqAt.RcNeAt.bool_int _ _ _,SeqAt.EqAt.bool_int _ _ _⟩|str y=>
    simp only[aX]at p h;subst p;obtain⟨r,rfl⟩:=h;have q:=KY (show KE _=KE b from q);subst q;exact⟨SeqAt.RcAt.bool_str _ _ _,SeqAt.RcNeAt.bool_str _ _ _,SeqAt.EqAt.bool_str _ _ _⟩|tup m=>
    simp only[aX]at p h;subst p;obtain⟨z,i,rfl,f,k⟩:=h;have q:=KY (show KE _=KE b from q);subst q;exact⟨SeqAt.RcAt.bool_tuple _ f a,SeqAt.RcNeAt.bool_tuple _ f a,SeqAt.EqAt.bool_tuple _ f a⟩|lst m=>
    simp only[aX]at p h;subst p;obtain⟨z,i,rfl,f,k⟩:=h;have q:=KY (show KE _=KE b from q);subst q;exact⟨SeqAt.RcAt.bool_list _ f a,SeqAt.RcNeAt.bool_list _ f a,SeqAt.EqAt.bool_list _ f a⟩|aQ w o=>exact nomatch(show(KL:Option Bool)=KE b from q)
  |int x=>cases e with
   |bw=>
    simp only[aX]at p h;obtain⟨t,rfl⟩:=p;subst h;have q:=KY (show KE _=KE b from q);subst q;exact⟨SeqAt.RcAt.int_none _ _,SeqAt.RcNeAt.int_none _ _,SeqAt.EqAt.int_none _ _⟩|bl y=>
    simp only[aX]at p h;obtain⟨t,rfl⟩:=p;subst h;have q:=KY (show KE _=KE b from q);subst q;exact⟨SeqAt.RcAt.int_bool _ _ _,SeqAt.RcNeAt.int_bool _ _ _,SeqAt.EqAt.int_bool _ _ _⟩|int y=>
    simp only[aX]at p h;obtain⟨t,rfl⟩:=p;obtain⟨r,rfl⟩:=h;have q:=KY (show KE _=KE b from q);subst q;exact⟨SeqAt.RcAt.int_int _ _ _ _,SeqAt.RcNeAt.int_int _ _ _ _,RH _ _ _ _⟩|str y=>
    simp only[aX]at p h;obtain⟨t,rfl⟩:=p;obtain⟨r,rfl⟩:=h;have q:=KY (show KE _=KE b from q);subst q;exact⟨SeqAt.RcAt.int_str _ _ _ _,SeqAt.RcNeAt.int_str _ _ _ _,RD _ _ _ _⟩|tup m=>
    simp only[aX]at p h;obtain⟨t,rfl⟩:=p;obtain⟨z,i,rfl,f,k⟩:=h;have q:=KY (show KE _=KE b from q);subst q;exact⟨SeqAt.RcAt.int_tuple _ _ f a,SeqAt.RcNeAt.int_tuple _ _ f a,Q_ _ _ f a⟩|lst m=>
    simp only[aX]at p h;obtain⟨t,rfl⟩:=p;obtain⟨z,i,rfl,f,k⟩:=h;have q:=KY (show KE _=KE b from q);subst q;exact⟨SeqAt.RcAt.int_list _ _ f a,SeqAt.RcNeAt.int_list _ _ f a,SeqAt.EqAt.int_list _ _ f a⟩|aQ w o=>exact nomatch(show(KL:Option Bool)=KE b from q)
  |str x=>cases e with
   |bw=>
    simp only[aX]at p h;obtain⟨t,rfl⟩:=p;subst h;have q:=KY (show KE _=KE b from q);subst q;exact⟨SeqAt.RcAt.str_none _ _,SeqAt.RcNeAt.str_none _ _,SeqAt.EqAt.str_none _ _⟩|bl y=>
    simp only[aX]at p h;obtain⟨t,rfl⟩:=p;subst h;have q:=KY (show KE _=KE b from q);subst q;exact⟨SeqAt.RcAt.str_bool _ _ _,SeqAt.RcNeAt.str_bool _ _ _,SeqAt.EqAt.str_bool _ _ _⟩|int y=>
    simp only[aX]at p h;obtain⟨t,rfl⟩:=p;obtain⟨r,rfl⟩:=h;have q:=KY (show KE _=KE b from q);subst q;exact⟨SeqAt.RcAt.str_int _ _ _ _,SeqAt.RcNeAt.str_int _ _ _ _,RE _ _ _ _⟩|str y=>
    simp only[aX]at p h;obtain⟨t,rfl⟩:=p;obtain⟨r,rfl⟩:=h;have q:=KY (show KE _=KE b from q);subst q;exact⟨SeqAt.RcAt.str_str _ _ _ _,SeqAt.RcNeAt.str_str _ _ _ _,SeqAt.EqAt.str_str _ _ _ _⟩|tup m=>
    simp only[aX]at p h;obtain⟨t,rfl⟩:=p;obtain⟨z,i,rfl,f,k⟩:=h;have q:=KY (show KE _=KE b from q);subst q;exact⟨SeqAt.RcAt.str_tuple _ _ f a,SeqAt.RcNeAt.str_tuple _ _ f a,Ra _ _ f a⟩|lst m=>
    simp only[aX]at p h;obtain⟨t,rfl⟩:=p;obtain⟨z,i,rfl,f,k⟩:=h;have q:=KY (show KE _=KE b from q);subst q;exact⟨SeqAt.RcAt.str_list _ _ f a,SeqAt.RcNeAt.str_list _ _ f a,SeqAt.EqAt.str_list _ _ f a⟩|aQ w o=>exact nomatch(show(KL:Option Bool)=KE b from q)
  |tup E=>cases e with
   |bw=>
    simp only[aX]at p h;obtain⟨a1,j,rfl,g,l⟩:=p;subst h;have q:=KY (show KE _=KE b from q);subst q;exact⟨SeqAt.RcAt.tuple_none g a,SeqAt.RcNeAt.tuple_none g a,SeqAt.EqAt.tuple_none g a⟩|bl y=>
    simp only[aX]at p h;obtain⟨a1,j,rfl,g,l⟩:=p;subst h;have q:=KY (show KE _=KE b from q);subst q;exact⟨SeqAt.RcAt.tuple_bool _ g a,SeqAt.RcNeAt.tuple_bool _ g a,SeqAt.EqAt.tuple_bool _ g a⟩|int y=>
    simp only[aX]at p h;obtain⟨a1,j,rfl,g,l⟩:=p;obtain⟨r,rfl⟩:=h;have q:=KY (show KE _=KE b from q);subst q;exact⟨SeqAt.RcAt.tuple_int _ _ g a,SeqAt.RcNeAt.tuple_int _ _ g a,Rb _ _ g a⟩|str y=>
    simp only[aX]at p h;obtain⟨a1,j,rfl,g,l⟩:=p;obtain⟨r,rfl⟩:=h;have q:=KY (show KE _=KE b from q);subst q;exact⟨SeqAt.RcAt.tuple_str _ _ g a,SeqAt.RcNeAt.tuple_str _ _ g a,Rc _ _ g a⟩|tup m=>
    simp only[aX]at p h;obtain⟨a1,j,rfl,g,l⟩:=p;obtain⟨z,i,rfl,f,k⟩:=h;exact BJ l k g f a B C|lst m=>
    simp only[aX]at p h;obtain⟨a1,j,rfl,g,l⟩:=p;obtain⟨z,i,rfl,f,k⟩:=h;have q:=KY (show KE _=KE b from q);subst q;exact⟨SeqAt.RcAt.tuple_list g f a,SeqAt.RcNeAt.tuple_list g f a,SeqAt.EqAt.tuple_list g f a⟩|aQ w o=>exact nomatch(show(KL:Option Bool)=KE b from q)
  |lst E=>cases e with
   |bw=>
    simp only[aX]at p h;obtain⟨a1,j,rfl,g,l⟩:=p;subst h;have q:=KY (show KE _=KE b from q);subst q;exact⟨SeqAt.RcAt.list_none g a,SeqAt.RcNeAt.list_none g a,SeqAt.EqAt.list_none g a⟩|bl y=>
    simp only[aX]at p h;obtain⟨a1,j,rfl,g,l⟩:=p;subst h;have q:=KY (show KE _=KE b from q);subst q;exact⟨SeqAt.RcAt.list_bool _ g a,SeqAt.RcNeAt.list_bool _ g a,SeqAt.EqAt.list_bool _ g a⟩|int y=>
    simp only[aX]at p h;obtain⟨a1,j,rfl,g,l⟩:=p;obtain⟨r,rfl⟩:=h;have q:=KY (show KE _=KE b from q);subst q;exact⟨SeqAt.RcAt.list_int _ _ g a,SeqAt.RcNeAt.list_int _ _ g a,SeqAt.EqAt.list_int _ _ g a⟩|str y=>
    simp only[aX]at p h;obtain⟨a1,j,rfl,g,l⟩:=p;obtain⟨r,rfl⟩:=h;have q:=KY (show KE _=KE b from q);subst q;exact⟨SeqAt.RcAt.list_str _ _ g a,SeqAt.RcNeAt.list_str _ _ g a,SeqAt.EqAt.list_str _ _ g a⟩|tup m=>
    simp only[aX]at p h;obtain⟨a1,j,rfl,g,l⟩:=p;obtain⟨z,i,rfl,f,k⟩:=h;have q:=KY (show KE _=KE b from q);subst q;exact⟨SeqAt.RcAt.list_tuple g f a,SeqAt.RcNeAt.list_tuple g f a,SeqAt.EqAt.list_tuple g f a⟩|lst m=>
    simp only[aX]at p h;obtain⟨a1,j,rfl,g,l⟩:=p;obtain⟨z,i,rfl,f,k⟩:=h;exact BK l k g f a B C|aQ w o=>exact nomatch(show(KL:Option Bool)=KE b from q)
  |aQ ks I=>exact nomatch(show(KL:Option Bool)=KE b from q)
theorem jJ{h:Lu}{n:Nat}{f:List KJ}{xs ys e:List D}{a b:Bool}(p:bM h f xs)(v:bM h f ys)(q:ba (cw n) xs e=KE a)(H:ba (cw n) ys e=KE b)(L:∀{u:KJ}{d d' x:D}{a b:Bool},aX h u d->aX h u d'->cw n d x=KE a->cw n d' x=KE b->a=b):(a&&xs.length==e.length)=(b&&ys.length==e.length):=by
 obtain⟨t,I⟩:=cy q;obtain⟨o,m⟩:=cy H;have A:xs.length=ys.length:=p.length.symm.trans v.length;have same:∀j x y z,xs[j]?=KE x->ys[j]?=KE y->e[j]?=KE z->cw n x z=cw n y z:=λj x y z s k i=>by
  obtain⟨T,C⟩:=t j x z s i;obtain⟨S,B⟩:=o j y z k i;have c:j<f.length:=by rw[p.length];exact(List.getElem?_eq_some_iff.mp s).1
  obtain⟨R,F,K⟩:=p.get (Lk c);obtain⟨Q,E,J⟩:=v.get (Lk c);rw[s]at F;rw[k]at E;cases F;cases E;rw[C,B,L K J C B]
 have all:∀j:Nat,∃g:Bool,∀(x z:D),xs[j]?=KE x->e[j]?=KE z->cw n x z=KE g:=λj=>by cases N:xs[j]? with
  |none=>exact⟨KN,λx y z=>nomatch z⟩|some x=>cases M:e[j]? with
   |none=>exact⟨KN,λx y _ z=>nomatch z⟩|some z=>
    obtain⟨g,l⟩:=t j x z N M;exact⟨g,λP O w G=>by cases w;cases G;exact l⟩
 obtain⟨g,l⟩:∃g:Nat->Bool,∀(j:Nat)(x z:D),xs[j]?=KE x->e[j]?=KE z->cw n x z=KE (g j):=⟨λj=>(all j).choose,λj=>(all j).choose_spec⟩;have r:∀(j:Nat)(y z:D),ys[j]?=KE y->e[j]?=KE z->cw n y z=KE (g j):=λj y z k i=>by
  have c:j<xs.length:=by rw[A];exact(List.getElem?_eq_some_iff.mp k).1
  rw[<-same j xs[j] y z (Lk c) k i];exact l j _ z (Lk c) i
 rw[<-I g l,<-m g r,A]
theorem jK{h:Lu}:∀(n:Nat){u:KJ}{d d' x:D}{a b:Bool},aX h u d->aX h u d'->cw n d x=KE a->cw n d' x=KE b->a=b
  |0,_,_,_,_,_,_,_,_,q,_=>by cases q|n+1,u,d,d',x,a,b,p,g,q,e=>by
    cases d<;>first
      |exact nomatch(show(KL:Option Bool)=KE a from q)|(cases d'<;>first
          |exact nomatch(show(KL:Option Bool)=KE b from e)
          | (simp only[aX]at p g;first
               | (exfalso;(first|(obtain⟨_,rfl⟩:=p)|(obtain⟨_,_,rfl,_⟩:=p)|subst p)<;>(first|(obtain⟨_,z⟩:=g;cases z;done)|(obtain⟨_,_,z,_⟩:=g;cases z;done)|(cases g;done)))|(subst p;cases g;rw[q]at e;exact KY e)|(obtain⟨t,rfl⟩:=p;obtain⟨t',z⟩:=g;cases z;rw[q]at e;exact KY e)|skip))
    all_goals
      obtain⟨a1,A,rfl,k,w⟩:=p;obtain⟨C,v,z,f,j⟩:=g;cases z
    · obtain rfl:=iK k f;cases x with
      |tup y=>
        obtain⟨c,o,rfl⟩:=Option.map_eq_some_iff.mp (show(ba (cw n) _ _).map _=KE a from q);obtain⟨B,i,rfl⟩:=Option.map_eq_some_iff.mp (show(ba (cw n) _ _).map _=KE b from e);exact jJ w j o i λm l s r=>jK n m l s r|aQ _ _=>exact nomatch(show(KL:Option Bool)=KE a from q)|_=>exact(KY (show KE KO=KE a from q)).symm.trans (KY (show KE KO=KE b from e))
    ·exact(rp f k).elim
    ·exact(rp k f).elim
    · obtain rfl:=jH k f;cases x with
      |lst y=>
        obtain⟨c,o,rfl⟩:=Option.map_eq_some_iff.mp (show(ba (cw n) _ _).map _=KE a from q);obtain⟨B,i,rfl⟩:=Option.map_eq_some_iff.mp (show(ba (cw n) _ _).map _=KE b from e);exact jJ w j o i λm l s r=>jK n m l s r|aQ _ _=>exact nomatch(show(KL:Option Bool)=KE a from q)|_=>exact(KY (show KE KO=KE a from q)).symm.trans (KY (show KE KO=KE b from e))
noncomputable def b8:Nat:=60
noncomputable def Kh:D->D->M D:=λd e=>do
 let b<-M.get (cw b8 d e)pure (.bl b)
noncomputable def Ki:D->D->M D:=λd e=>do
 let b<-M.get (cw b8 d e)pure (.bl (!b))
noncomputable def pz(x:D):List D->Option Bool
 |[]=>KE KO|y::c=>match cw 50 y x,pz x c with
  |some a,KE b=>KE (a||b)|_,_=>KL
noncomputable def Ig(neg:Bool):D->D->M D:=λd e=>do
 let a<-M.get (items e)let b<-M.get (pz d a)pure (.bl (if neg then !b else b))
section
variable{X:Cx}{F:Fx}
theorem EF(hu:X.A.units+64<L6):eE X F (Lx .Eq) Kh:=⟨λa s i H k x y v u d e Q I f c l hK h g q=>by
 obtain⟨b,hb,q⟩:=M.run_get.mp q;exact EqBoolInt.of_rc (mw b8 (dz I hK f h) (dz I hK c g) (by unfold b8;omega) hb).1 ⟨.bl b,H,I,rfl,q _ H .refl (by simp only[Is])⟩⟩
theorem EG(hu:X.A.units+64<L6):eE X F (Lx .NotEq) Ki:=⟨λa s i H k x y v u d e Q I f c l hK h g q=>by
 obtain⟨b,hb,q⟩:=M.run_get.mp q;exact EqBoolInt.of_rcne (mw b8 (dz I hK f h) (dz I hK c g) (by unfold b8;omega) hb).2.1 ⟨.bl (!b),H,I,rfl,q _ H .refl (by simp only[Is])⟩⟩
theorem nL{x:D}:∀{ys:List D}{b:Bool},pz x ys=KE b->(∀y∈ys,∃c,cw 50 y x=KE c)/\(b=KN↔∃y∈ys,cw 50 y x=KE KN)
 |[],b,h=>by
  simp only[pz,N3]at h;subst h;exact⟨λy j=>(nomatch j),⟨λz=>(nomatch z),λ⟨y,j,_⟩=>(nomatch j)⟩⟩|y::ys,b,h=>by
  simp only[pz]at h;cases f:cw 50 y x with
  |none=>rw[f]at h;simp at h|some a=>cases k:pz x ys with
   |none=>rw[f,k]at h;simp at h|some c=>
    rw[f,k]at h;simp only[N3]at h;obtain⟨m,l⟩:=nL k;refine⟨λz i=>?_,?_⟩
    .rcases List.mem_cons.mp i with rfl|i;.exact⟨a,f⟩
     .exact m z i
    .rw[<-h,Mc,l];constructor
     .rintro(z|⟨g,d,e⟩);.exact⟨y,K2,by rw[f,z]⟩
      .exact⟨g,K1 _ d,e⟩
     .rintro⟨g,d,e⟩;rcases List.mem_cons.mp d with rfl|d;.rw[f]at e;exact .inl (KY e)
      .exact .inr ⟨g,d,e⟩
theorem gx{s:KR}{A:Lz}{a:Array KJ}{ys:List D}{x:D}{v:KJ}{b:Bool}(o:bM s.heap a.toList ys)(z:aX s.heap v x)(hu:A.units+51<L6)(q:pz x ys=KE b):∃e:KJ->Bool,(∀y,y∈a->Nz A.in1 s y v (e y))/\a.any e=b:=by classical
 obtain⟨w,t⟩:=nL q;refine⟨λu=>decide (∃y∈ys,aX s.heap u y/\cw 50 y x=KE KN),λu n=>?_,?_⟩
 .obtain⟨i,j,rfl⟩:=Array.mem_iff_getElem.mp n;obtain⟨y,d,l⟩:=o.get (i:=i) (u:=a[i]) (by simp[j]);obtain⟨c,p⟩:=w y (LR d);have:decide (∃y∈ys,aX s.heap a[i] y/\cw 50 y x=KE KN)=c:=by cases c with
   |true=>exact decide_eq_true ⟨y,LR d,l,p⟩|false=>
    refine decide_eq_false λm=>?_;obtain⟨r,_,k,e⟩:=m;have:=jK 50 l k p e;cases this
  show Nz A.in1 s a[i] v (decide (∃y∈ys,aX s.heap a[i] y/\cw 50 y x=KE KN));rw[this];exact(mw 50 l z (by rw[Around.in1_units];omega) p).2.2
 .have key:a.any (λu=>decide (∃y∈ys,aX s.heap u y/\cw 50 y x=KE KN))=KN↔b=KN:=by
   rw[t,Array.any_eq_true];constructor
   .rintro⟨i,j,h⟩;obtain⟨y,d,_,e⟩:=of_decide_eq_true h;exact⟨y,d,e⟩
   .rintro⟨y,d,e⟩;obtain⟨i,j⟩:=List.mem_iff_getElem?.mp d;have g:i<a.size:=by have:=o.length;have:=(List.getElem?_eq_some_iff.mp j).1;simp at*;omega
    refine⟨i,g,decide_eq_true ⟨y,d,?_,e⟩⟩;obtain⟨r,f,l⟩:=o.get (i:=i) (u:=a[i]) (by simp[g]);rw[j]at f;cases f;exact l
  cases b with
  |true=>exact key.mpr rfl|false=>cases hb:a.any (λu=>decide (∃y∈ys,aX s.heap u y/\cw 50 y x=KE KN))with
   |false=>rfl|true=>exact absurd (key.mp hb) (by decide)
theorem EH(hu:X.A.units+64<L6):eE X F (Lx .In) (Ig KO):=⟨λn s C H k x y v u d e Q I r p l hK z w q=>by
 obtain⟨D,B,t⟩:=M.run_get.mp q;obtain⟨b,hb,m⟩:=M.run_get.mp t;have o:=dz I hK r z;have c:=dz I hK p w;cases e<;>first|cases B|skip
 .simp only[aX]at c;obtain⟨a,f,rfl,g,h⟩:=c;obtain⟨e,j,i⟩:=gx (A:=X.A) h o (by omega) hb;exact SeqAt.in_tupleAt e g j (by rw[i];exact⟨.bl b,H,I,rfl,m _ H .refl (by simp only[Is];rfl)⟩)
 .simp only[aX]at c;obtain⟨a,f,rfl,g,h⟩:=c;obtain⟨e,j,i⟩:=gx (A:=X.A) h o (by omega) hb;exact SeqAt.in_listAt e g j (by rw[i];exact⟨.bl b,H,I,rfl,m _ H .refl (by simp only[Is];rfl)⟩)⟩
theorem u_(hu:X.A.units+64<L6):eE X F (Lx .NotIn) (Ig KN):=⟨λn s C H k x y v u d e Q I r p l hK z w q=>by
 obtain⟨D,B,t⟩:=M.run_get.mp q;obtain⟨b,hb,m⟩:=M.run_get.mp t;have o:=dz I hK r z;have c:=dz I hK p w;cases e<;>first|cases B|skip
 .simp only[aX]at c;obtain⟨a,f,rfl,g,h⟩:=c;obtain⟨e,j,i⟩:=gx (A:=X.A) h o (by omega) hb;exact SeqAt.notIn_tupleAt e g j (by rw[i];exact⟨.bl (!b),H,I,rfl,m _ H .refl (by simp only[Is];rfl)⟩)
 .simp only[aX]at c;obtain⟨a,f,rfl,g,h⟩:=c;obtain⟨e,j,i⟩:=gx (A:=X.A) h o (by omega) hb;exact SeqAt.notIn_listAt e g j (by rw[i];exact⟨.bl (!b),H,I,rfl,m _ H .refl (by simp only[Is];rfl)⟩)⟩
end
end L2
end
section
namespace HT
open PySem PyProof.Rows
section
variable{prog:Lb}{w:Lv}{A:Lz}{E:KJ->KR->Prop}{s:KR}
theorem gy{t b:KS}{items:Array KJ}{i g:KJ}{lo d:Option Int}{Q:KJ->KR->Prop}(a:Qz s.heap t items)(j:s.heap.IsSliceOf b i g .none)(pl:O8 i lo)(pu:O8 g d)(hw:bI items.size 0 lo=0/\bI items.size items.size d=items.size)(h:Q (.ref t) s):wpAny (K4 prog w) A (OK (.ref t) (.ref b)) Q E s:=by
 obtain⟨os,c,e,k⟩:=id j;have f:s.TypeIs (.ref b) "slice":=⟨os,c,e⟩;unfold OK;try with_reducible refine LF ?_
 first|refine KH (KP ?_)|skip
 refine KH (PD a.typeIs (by decide) ?_);refine KH (LH (name:=KI "__getitem__") a.typeIs L4 (LN L4 a.typeIs entry_tuple_getitem ?_ (Pm _ _)));show wpAny _ _ (Nl (.ref t)>>=_) _ _ s;refine KH (Rx a ?_);refine KH (N_ f ?_);rw[if_pos (by decide)];refine KH (dJ j pl pu ?_);show wpAny _ _ (if(((bI items.size 0 lo:Nat):Int)==0&&(1:Int)==1&&(bI items.size items.size d-bI items.size 0 lo)==items.size)=KN then _ else _) _ _ s;rw[if_pos (by rw[hw.1,hw.2];simp)];unfold Builtin.Tuple.tupleIsExact;refine KH (KH (N_ a.typeIs (KP ?_)));rw[if_pos (by decide)];first
  |exact KH (Ng (KH (KP (KP ⟨_,rfl,KP h⟩))))|exact KH (Ng (KH (KP ⟨_,rfl,KP h⟩)))|exact KH (Ng (KP ⟨_,rfl,KP h⟩))
theorem va{t b:KS}{ws:List KJ}{Q:KJ->KR->Prop}(l:Qz s.heap t ([]:List KJ).toArray)(hb:Qz s.heap b ws.toArray)(m:Q (.ref b) s):wpAny (K4 prog w) A (Nh .Add (.ref t) (.ref b)) Q E s:=by
 obtain⟨⟨p,o,i,k⟩,g,h,n,hd⟩:=id l;obtain⟨⟨j,f,data2,e⟩,a,d,n2,c⟩:=id hb;simp only at h hd d c;subst h hd d c;exact RY ⟨_,g,rfl⟩ ⟨_,a,rfl⟩ P5 Rw OJ OB (Ol _ _) (tuple_addW0 t b ([]:List KJ).toArray ws.toArray n n2 o f k e (by rfl)) ⟨g,a,m⟩
end
end HT
namespace L2
open PySem PySem.Spec PyProof.Rows
noncomputable def cutD(xs:List D)(lo a:Option Int):List D:=(xs.drop (HT.bI xs.length 0 lo)).take (HT.bI xs.length xs.length a-HT.bI xs.length 0 lo)
noncomputable def EI(F:Fx)(t:ah->M (Option Int)):TO:=λc H Q=>∃a k,cv F a k c H/\(t a).run k (λo d=>∀b,Ext F.toFb H k b d->Q o b) F.E
structure DO(X:Cx)(F:Fx)(e:Option K7)(t:ah->M (Option Int)):Prop where
 hK:X.K=F.K
 po:PO X e (EI F t)
section
variable{X:Cx}{F:Fx}{e:K7}{te:ah->M D}{lo hi:Option K7}{tl th:ah->M (Option Int)}{pos p2:My}
theorem PO.imp{o:Option K7}{t t':TO}(h:PO X o t)(q:∀a H Q,t' a H Q->t a H Q):PO X o t':=λb s a H Q I z=>h b s a H Q I (q a H Q z)
theorem x8(hK:X.K=F.K:=by rfl):DO X F KL (λ_=>pure KL):=⟨hK,qU.imp λa H Q⟨b,k,S,h⟩=>h H .refl⟩
theorem x9(h:DE X F e te):DO X F (KE e) (λρ=>do let i<-dm (<-te ρ);pure (KE i)):=⟨h.hK,(qV h.pe).imp λj H Q a=>by
  obtain⟨ρ,k,S,h⟩:=a;refine cF.next S h λd l v g f m c b=>?_;obtain⟨i,rfl,b⟩:=a_.mp b;simp only[Is]at c;exact⟨i,c,b g f⟩⟩
theorem EI.next{t:ah->M (Option Int)}{c:St}{H:Hp}{ρ:ah}{k:Nat}{R:Option Int->Nat->Prop}{Q:Option Int->Hp->Prop}(S:cv F ρ k c H)(h:(t ρ).run k R F.E)(q:∀b a H',Ext F.toFb H k H' a->cv F ρ a c H'->R b a->Q b H'):EI F t c H Q:=⟨ρ,k,S,(t ρ).mono h (λb a r H' e=>q b a H' e (S.mono e) r) λ_ _ z=>z⟩
theorem ab.cut{B:Fb}{H:Hp}{a:List V}{ds:List D}(h:ab B H a ds)(lo hi:Option Int):ab B H (mi a lo hi) (cutD ds lo hi):=by
 unfold mi cutD;rw[h.length];exact(h.drop _).take _
noncomputable def EJ(lo hi:Option Int):D->M D
 |.tup a=>pure (.tup (cutD a lo hi))|.lst a=>pure (.lst (cutD a lo hi))|.str x=>do M.need (x.length<=KU);pure (.str (MG x lo hi))|_=>M.fail
theorem x_{prog:Lb}{w:Lv}{A:Lz}{E:KJ->KR->Prop}{s:KR}{x:Lf}{t:SH}{c:KS}{b a:KJ}{lo hi:Option Int}{Q:KJ->KR->Prop}(g:s.heap.IsSliceOf c b a .none)(pl:O8 b lo)(pu:O8 a hi)(f:x.length<=KU)(h:∀t' k,Q (.str (MG x lo hi) t') {s with toks:=k}):wpAny (K4 prog w) A (OK (.str x t) (.ref c)) Q E s:=by
 have d:∀{v:KJ}{o:Option Int},O8 v o->∃l:Option (Int×SH),v=partValue l/\o=l.map (·.1):=λq=>by cases q with
  |none=>exact⟨KL,rfl,rfl⟩|int i t=>exact⟨KE (i,t),rfl,rfl⟩
 obtain⟨l,rfl,rfl⟩:=d pl;obtain⟨u,rfl,rfl⟩:=d pu;exact wpAny_getItem_str_slice (l:=l) (u:=u) (st:=KL) g rfl (post_val_or_str ⟨L7 (Pe x _ _) f,h⟩)
noncomputable def Kj(F:Fx):V->Option Int->Option Int->Hp->VK->Prop:=λx lo hi H Q=>∃k d,H F.p≠KL/\Is F.toFb H x d/\(EJ lo hi d).run k (qE F.toFb H k Q) F.E
theorem Ih(hK:X.K=F.K):HI X (Kj F):=by
 intro j s P H x v S R lo hi U Q I B w pl pu h;obtain⟨k,d,l,i,q⟩:=h;cases d with
 |tup E=>
  simp only[Is]at i;obtain⟨a,c,rfl,A,g⟩:=i;cases B;obtain⟨m,r,C,J⟩:=I.tuple (by rw[hK];exact A.2);have f:m.toArray.size=c.length:=by rw[K3];exact r.length.symm
  refine⟨"tuple",_,PyProof.Rows.slot_tuple_getitem.lookup,C.typeIs,?_⟩;by_cases hw:HT.bI c.length 0 lo=0/\HT.bI c.length c.length hi=c.length
  .refine HT.gy C w pl pu (by rw[f];exact hw) ⟨.ref a,H,I,rfl,q _ H .refl ?_⟩;simp only[Is];refine⟨a,c,rfl,A,?_⟩;have e:cutD E lo hi=E:=by
    unfold cutD;rw[<-g.length,hw.1,hw.2,g.length];simp
   rw[e];exact g
  .refine HT.gq C w pl pu (by rw[f];exact hw) ?_ (by rw[f];exact J);rw[f];have N:=I.aM.fresh (K8 _);refine⟨.ref s.heap.objs.size,_,I.laid (t':=s.toks) (o:=.tup (mi c lo hi)) (λb ob q=>KQ _ q) (K8 _) ?_,rfl,q _ _ (.new N) (d8 (k:=k) l N (g.cut lo hi))⟩;exact⟨L7 (iI c lo hi) J,_,(r.drop (HT.bI c.length 0 lo)).take (HT.bI c.length c.length hi-HT.bI c.length 0 lo),Rn _ _⟩|lst E=>
  simp only[Is]at i;obtain⟨a,c,rfl,A,g⟩:=i;obtain⟨T,id,Z,ty,Y⟩:=qY j s P H (.ref a) v S R lo hi U (λv G=>∃a c,v=.ref a/\G a=KE (.lst c)/\∀o,Q v (upd G a (.b6 o (.lst c)))) I B w pl pu ⟨a,c,rfl,by rw[hK];exact A.2.sq,λp L=>⟨p,_,rfl,ai,λo=>by
   rw[cf];exact q _ _ (.new L) (bF (k:=k) l L (g.cut lo hi))⟩⟩;refine⟨T,id,Z,ty,aU Y λu s1⟨v,G,O,r,a,c,e,ha,V⟩=>?_⟩;obtain⟨_,m,n,rv,W⟩:=O.aM a _ ha;exact⟨v,_,O.freeze ha W (λ_ z=>nomatch z) (λ_ _ z=>nomatch z) (λ_ z=>nomatch z) (λ_ z=>nomatch z),r,V _⟩|str y=>
  simp only[Is]at i;subst i;obtain⟨t,rfl⟩:=B;exact⟨"str",_,PySem.F.slot_str_getitem.lookup,SA _ _ _,x_ w pl pu q.1 λt' k'=>⟨.str _,H,I.tok _,⟨_,rfl⟩,q.2 _ H .refl (by simp only[Is])⟩⟩|_=>exact q.elim
theorem vb(b:DE X F e te)(j:DO X F lo tl)(hu:DO X F hi th):DE X F (.Subscript e (.Slice lo hi KL p2) pos) (λρ=>do let d<-te ρ;let l<-tl ρ;let u<-th ρ;EJ l u d):=⟨b.hK,(nu (Ih b.hK) b.pe j.po hu.po).imp λt H Q a=>by
  obtain⟨ρ,k,S,h⟩:=a;refine cF.next S h λd x v B p s i o=>?_;refine EI.next s o λl w A f r n=>?_;refine EI.next r n λu g y c q m=>?_;exact⟨g,d,q.live,i.mono (f.trans c).kp,M.wk m λ_ _ z=>z.ext ((p.trans f).trans c)⟩⟩
noncomputable def EK:D->D->M D
 |.int i,.int j=>pure (.int (i+j))|.tup b,.tup a=>do M.need (b.length+a.length<=KU);pure (.tup (b++a))|.lst b,.lst a=>do M.need (b.length+a.length<=KU);pure (.lst (b++a))|_,_=>M.fail
theorem ya:eE X F (Nh .Add) EK:=⟨λG s σ H k x y v u d e Q I O N l hK E C q=>by cases d with
 |int i=>cases e with
  |int j=>
   simp only[Is]at E C;subst E C;obtain⟨t,rfl⟩:=O;obtain⟨t',rfl⟩:=N;exact add_int ⟨.int (i+j),H,I.tok _,⟨_,rfl⟩,q _ H .refl (by simp only[Is])⟩|_=>exact q.elim
 |tup w=>cases e with
  |tup W=>
   simp only[Is]at E C;obtain⟨a,A,rfl,K,p⟩:=E;obtain⟨L,f,rfl,m,c⟩:=C;cases O;cases N;obtain⟨h,R,Y,_⟩:=I.tuple (by rw[hK];exact K.2);obtain⟨g,B,p2,_⟩:=I.tuple (by rw[hK];exact m.2);by_cases Z:h=[]
   .subst Z;have T:A=[]:=R.qW.mp rfl;subst T;have hd:w=[]:=List.length_eq_zero_iff.mp (by rw[<-p.length];rfl);subst hd;exact HT.va Y p2 ⟨.ref L,H,I,rfl,q.2 _ H .refl (by simp only[Is];exact⟨L,f,rfl,m,c⟩)⟩
   .have S:A.length+f.length<=KU:=by rw[p.length,c.length];exact q.1
    refine HT.xA Y p2 Z (λz=>?_) (λz=>?_) (by rw[<-R.length,<-B.length];exact S)
    .have T:f=[]:=B.qW.mp z;subst T;have hd:W=[]:=List.length_eq_zero_iff.mp (by rw[<-c.length];rfl);subst hd;exact⟨.ref a,H,I,rfl,q.2 _ H .refl (by simp only[Is];exact⟨a,A,rfl,K,by rw[LB];exact p⟩)⟩
    .have hf:=I.aM.fresh (K8 _);refine⟨.ref s.heap.objs.size,_,I.laid (t':=s.toks) (o:=.tup (A++f)) (λb ob q=>KQ _ q) (K8 _) ?_,rfl,q.2 _ _ (.new hf) (d8 (k:=k) l hf (p.append c))⟩;exact⟨by rw[LZ];exact S,_,R.append B,Rn _ _⟩|_=>exact q.elim
 |lst w=>cases e with
  |lst W=>
   simp only[Is]at E C;obtain⟨a,A,rfl,K,p⟩:=E;obtain⟨L,f,rfl,m,c⟩:=C;cases O;cases N;obtain⟨o,U⟩:=K.2;obtain⟨o',J⟩:=m.2;obtain⟨_,z,h,n,r,e⟩:=I.aM a _ U;obtain⟨_,z2,g,n2,B,e2⟩:=I.aM L _ J;have l1:=r.length;have l2:=B.length;have S:A.length+f.length<=KU:=by rw[p.length,c.length];exact q.1
   refine aU (PySem.P.add_list e e2 (Q:=EP X G σ λv V=>∃a w,v=.ref a/\V a=KE (.lst w)/\∀o,Q v (upd V a (.b6 o (.lst w)))) ?_ (by rw[K3,K3];omega)) λu s1⟨v,V,I1,r,a,w,e,ha,q1⟩=>?_
   .have ea:h.toArray++g.toArray=(h++g).toArray:=by simp
    rw[ea];refine⟨.ref _,_,I.HN (t':=s.toks) (r.append B) (by rw[LZ];omega),rfl,_,_,rfl,ai,λo=>?_⟩;rw[cf];exact q.2 _ _ (.new I.fresh) (bF (k:=k) l I.fresh (p.append c))
   .obtain⟨_,h,n,rv,ho⟩:=I1.aM a _ ha;exact⟨v,_,I1.freeze ha ho (λ_ z=>nomatch z) (λ_ _ z=>nomatch z) (λ_ z=>nomatch z) (λ_ z=>nomatch z),r,q1 _⟩|_=>exact q.elim
 |_=>exact q.elim⟩
noncomputable def EL:D->D->M D
 |.int i,.int j=>pure (.int (i-j))|_,_=>M.fail
theorem yb:eE X F (Nh .Sub) EL:=⟨λa s h H k x y v u d e Q I g f l hK c b q=>by cases d with
 |int i=>cases e with
  |int j=>
   simp only[Is]at c b;subst c b;obtain⟨t,rfl⟩:=g;obtain⟨m,rfl⟩:=f;exact sub_int ⟨.int (i-j),H,I.tok _,⟨_,rfl⟩,q _ H .refl (by simp only[Is])⟩|_=>exact q.elim
 |_=>exact q.elim⟩
theorem BL(f:DE X F e te):DE X F (.UnaryOp .USub e pos) (λρ=>do let i<-dm (<-te ρ);pure (.int (-i))):=⟨f.hK,(Ea AF f.pe).imp λl H Q a=>by
  obtain⟨ρ,k,S,h⟩:=a;refine cF.next S h λd m v j g n c b=>?_;obtain⟨i,rfl,b⟩:=a_.mp b;simp only[Is]at c;exact⟨i,c,b _ j g (by simp only[Is])⟩⟩
end
end L2
end
section
namespace ZP
open PySem PyProof.Rows
inductive jL(h:Lu)(i a:KS)(k:Nat)(xs:Array KJ):Prop where|list(p:h.IsListIter i a k)(q:h.IsList a xs)|tup(p:h.IsTupleIter i a k)(q:h.IsTuple a xs)
theorem jL.keep{h h':Lu}{i a:KS}{k:Nat}{xs:Array KJ}(x:jL h i a k xs)(f:∀o,h.get? i=KE o->h'.get? i=KE o)(ha:∀o,h.get? a=KE o->h'.get? a=KE o):jL h' i a k xs:=by cases x with
 |list p q=>
  obtain⟨o,e,r⟩:=p;obtain⟨b,d,c⟩:=q;exact .list ⟨o,f o e,r⟩ ⟨b,ha b d,c⟩|tup p q=>
  obtain⟨o,e,r⟩:=p;obtain⟨b,d,c⟩:=q;exact .tup ⟨o,f o e,r⟩ ⟨b,ha b d,c⟩
theorem jL.ext{h h':Lu}{i a b:KS}{k:Nat}{xs:Array KJ}(x:jL h i a k xs)(e:O3 b h h')(n1:i≠b)(n2:a≠b):jL h' i a k xs:=x.keep (λo q=>e i o n1 q) (λo q=>e a o n2 q)
theorem jL.lt{h:Lu}{i a:KS}{k:Nat}{xs:Array KJ}(x:jL h i a k xs):i<h.objs.size/\a<h.objs.size:=by cases x with
 |list p q=>
  obtain⟨o,e,r⟩:=p;obtain⟨d,b,c⟩:=q;exact⟨K5 e,K5 b⟩|tup p q=>
  obtain⟨o,e,r⟩:=p;obtain⟨d,b,c⟩:=q;exact⟨K5 e,K5 b⟩
section
variable{prog:Lb}{w:Lv}{A:Lz}{E:KJ->KR->Prop}{s:KR}
theorem vc{it t:KS}{i:Nat}{xs:Array KJ}{x:KJ}{Q:KJ->KR->Prop}(c:s.heap.IsTupleIter it t i)(h:s.heap.IsTuple t xs)(g:xs[i]?=KE x)(j:∀h',h'.IsTupleIter it t (i+1)->Mr it s.heap h'->Q x {s with heap:=h'}):wpAny (K4 prog w) A (Ll (.ref it)) Q E s:=by
 obtain⟨o,a,e,hd⟩:=id c;obtain⟨k,b,_,nl,d⟩:=h;have f:s.TypeIs (.ref it) "tuple_iterator":=⟨o,a,e⟩;unfold Ll;refine KH (LH (name:=KI "__next__") f MK (LN MK f OF ?_ (Oy _)));show wpAny _ _ (QM (.ref it) 0>>=_) _ _ s;refine KH (LK a hd (x:=.ref t) rfl ?_);show wpAny _ _ (if(Lj t==ME)=KN then _ else _) _ _ s;rw[if_neg (show¬((Lj t==ME)=KN)from La)];show wpAny _ _ (QM (.ref it) 1>>=_) _ _ s;refine KH (LK a hd (x:=.int i 0) rfl ?_);show wpAny _ _ (seqItems? (.ref t)>>=_) _ _ s;refine KH (Mb b d ?_);simp only[Nw,g];refine KH (Pq a hd (by simp) (KP ⟨x,rfl,KP (j _ ?_ (M8 ..))⟩));exact⟨_,OR _ a (Q1 (Ox hd _)),(R3 ..).trans e,by rw[Ox hd];simp[OG]⟩
theorem yc{it t:KS}{i:Nat}{xs:Array KJ}{Q:KJ->KR->Prop}(g:A.handled=KL)(d:s.heap.IsTupleIter it t i)(k:s.heap.IsTuple t xs)(j:xs[i]?=KL)(n:∀h' e,O3 it s.heap h'->(∃o,h'.get? e=KE o/\o.cls=.type "StopIteration")->E (.ref e) {s with heap:=h'}):wpAny (K4 prog w) A (Ll (.ref it)) Q E s:=by
 obtain⟨o,b,l,hd⟩:=id d;obtain⟨p,c,_,nl,f⟩:=k;have h:s.TypeIs (.ref it) "tuple_iterator":=⟨o,b,l⟩;unfold Ll;refine KH (LH (name:=KI "__next__") h MK (LN MK h OF ?_ (Oy _)));show wpAny _ _ (QM (.ref it) 0>>=_) _ _ s;refine KH (LK b hd (x:=.ref t) rfl ?_);show wpAny _ _ (if(Lj t==ME)=KN then _ else _) _ _ s;rw[if_neg (show¬((Lj t==ME)=KN)from La)];show wpAny _ _ (QM (.ref it) 1>>=_) _ _ s;refine KH (LK b hd (x:=.int i 0) rfl ?_);show wpAny _ _ (seqItems? (.ref t)>>=_) _ _ s;refine KH (Mb c f ?_);simp only[Nw,j];refine KH (Ng (KH (Pq b hd (by simp) ?_)));show wpAny _ _ (newExc (.type "StopIteration") []>>=_) _ _ _;refine KH ?_;simp only[newExc,newTuple];refine KH (LC ?_ (by size_fits));refine KH (m:=Pr _ _) (wpAny_of_eq (a:=ME) (by first|rfl|(simp only[Pr];rfl)) ?_);refine LC ?_ (by size_fits);simp only[raiseNew];refine KH (wpAny_handled ?_);first|rw[show A.in1.handled=KL from g]|rw[g]
 refine KH (KP (wpAny_throw ?_));exact n _ _ (((M8 ..).extBut.push _).push _) ⟨_,K9 _ rfl,rfl⟩
theorem dM{i a:KS}{k:Nat}{xs:Array KJ}{x:KJ}{Q:KJ->KR->Prop}(c:a≠i)(e:jL s.heap i a k xs)(f:xs[k]?=KE x)(g:∀h',jL h' i a (k+1) xs->Mr i s.heap h'->Q x {s with heap:=h'}):wpAny (K4 prog w) A (Ll (.ref i)) Q E s:=by cases e with
 |list p q=>exact wpAny_nextOf_list_item p q f λh' d b=>g h' (.list d (q.extBut b.extBut c)) b|tup p q=>exact vc p q f λh' d b=>g h' (.tup d (q.extBut b.extBut c)) b
theorem jf{i a:KS}{k:Nat}{xs:Array KJ}{Q:KJ->KR->Prop}(d:A.handled=KL)(b:jL s.heap i a k xs)(c:xs[k]?=KL)(f:∀h' e,O3 i s.heap h'->(∃o,h'.get? e=KE o/\o.cls=.type "StopIteration")->E (.ref e) {s with heap:=h'}):wpAny (K4 prog w) A (Ll (.ref i)) Q E s:=by cases b with
 |list p q=>exact wpAny_nextOf_list_end d p q c f|tup p q=>exact yc d p q c f
structure yd(h:Lu)(z TI TO i1 i2 a1 a2:KS)(k:Nat)(xs ys:Array KJ)(f0:KJ):Prop where
 zp:Sj h z TI TO f0
 ti:Og h TI (.ref i1) (.ref i2)to:∃a b,Og h TO a b
 s1:jL h i1 a1 k xs
 s2:jL h i2 a2 k ys
theorem vd{z TI TO g f a1 B:KS}{k:Nat}{xs ys:Array KJ}{x y:KJ}{Q:KJ->KR->Prop}(D:Oq z TI TO g f a1 B)(Z:yd s.heap z TI TO g f a1 B k xs ys .none)(hx:xs[k]?=KE x)(hy:ys[k]?=KE y)(hQ:∀h',yd h' z TI TO g f a1 B (k+1) xs ys (OG s.heap.objs.size)->Og h' s.heap.objs.size x y->h'.objs.size=s.heap.objs.size+1->(∀c o,c≠z->c≠TO->c≠g->c≠f->s.heap.get? c=KE o->h'.get? c=KE o)->Q (.ref s.heap.objs.size) {s with heap:=h'}):wpAny (K4 prog w) A (Builtin.«zip.__next__» ⟨[.ref z],[]⟩) (λO s'=>∃v,O=.done (.ret v)/\Q v s') E s:=by
 obtain⟨r,t,⟨a,b,N⟩,h1,h2⟩:=Z;show wpAny _ _ (QM (.ref z) 2>>=_) _ _ _;refine KH (LK r rfl (x:=.bool KO) rfl ?_);show wpAny _ _ (QM (.ref z) 3>>=_) _ _ _;refine KH (LK r rfl (x:=.ref TI) rfl ?_);refine KH (Mb t rfl ?_);show wpAny _ _ (Lw (.ref z)>>=_) _ _ _;refine KH ?_;unfold Lw;refine KH (LK r rfl (x:=.none) rfl (KP ?_));simp only[if_true];refine KH (Ng ?_);refine KH (LK r rfl (x:=.ref TO) rfl ?_);refine KH (MV r (by simp) λg1 I p=>?_);replace I:Sj g1 z TI TO .ellipsis:=I;refine KH ?_;simp only[Qb,List.zipIdx_nil,NW,NJ];refine KH (KH (PY ?_));show wpAny _ _ (Ll (.ref g)>>=_) _ _ _;refine KH (dM D.l1i1 (h1.ext p.extBut D.i1z D.l1z) hx λg2 p2 n=>KP ?_);have T:Og g2 TO a b:=n.extBut _ _ D.TOi1 (p.extBut _ _ D.TOz N);refine KH (Mb T rfl ?_);refine KH (O4 T λY K m=>?_);replace K:Og Y TO x b:=K;refine KH (Sk (KP ?_));refine KH (KH (PY ?_));show wpAny _ _ (Ll (.ref f)>>=_) _ _ _;have q3:jL Y f B k ys:=((h2.ext p.extBut D.i2z D.l2z).ext n.extBut D.i12.symm D.l2i1).ext m.extBut D.TOi2.symm D.l2TO;refine KH (dM D.l2i2 q3 hy λg4 p4 l=>KP ?_);have S:Og g4 TO x b:=l.extBut _ _ D.TOi2 K;refine KH (Mb S rfl ?_);refine KH (O4 S λd F j=>?_);replace F:Og d TO x y:=F;refine KH (Sk (KP (KP ?_)));refine KH (Mb F rfl ?_);refine KH (Rh ?_);have W:d.objs.size=s.heap.objs.size:=by rw[j.1,l.1,m.1,n.1,p.1]
 have R:Sj d z TI TO .ellipsis:=j.extBut _ _ D.TOz.symm (l.extBut _ _ D.i2z.symm (m.extBut _ _ D.TOz.symm (n.extBut _ _ D.i1z.symm I)));have X:∀c o,c≠z->c≠TO->c≠g->c≠f->s.heap.get? c=KE o->d.get? c=KE o:=λc o i G c3 P e=>j.extBut _ _ G (l.extBut _ _ P (m.extBut _ _ G (n.extBut _ _ c3 (p.extBut _ _ i e))));have u1:jL d g a1 (k+1) xs:=((p2.ext m.extBut D.TOi1.symm D.l1TO).ext l.extBut D.i12 D.l1i2).ext j.extBut D.TOi1.symm D.l1TO;have u2:jL d f B (k+1) ys:=p4.ext j.extBut D.TOi2.symm D.l2TO;have J:Og d TI (.ref g) (.ref f):=X _ _ D.TIz D.TITO D.TIi1 D.TIi2 t;have q:z<d.objs.size:=K5 R;show wpAny _ _ (Oh (.ref z) (.ref d.objs.size)>>=_) _ _ _;refine KH ?_;unfold Oh;have z6:Sj (d.push {cls:=.type "tuple",data:=.seq #[x,y]}) z TI TO .ellipsis:=KQ _ R;refine KH (MV z6 (by simp) λg7 H M=>?_);replace H:Sj g7 z TI TO (OG d.objs.size):=H;refine MV H (by simp) λu C L=>?_;replace C:Sj u z TI TO (OG d.objs.size):=C;have h:∀c o,c≠z->d.get? c=KE o->u.get? c=KE o:=λc o i e=>L.extBut _ _ i (M.extBut _ _ i (KQ _ e));have U:Og u d.objs.size x y:=L.extBut _ _ (Nc q) (M.extBut _ _ (Nc q) (K9 _ rfl));have V:u.objs.size=d.objs.size+1:=by rw[L.1,M.1,Mn]
 rw[W]at C U V;refine KP ⟨_,rfl,?_⟩;show Q (.ref d.objs.size) _;rw[W];exact hQ u ⟨C,h _ _ D.TIz J,⟨_,_,h _ _ D.TOz F⟩,u1.keep (λo e=>h _ o D.i1z e) (λo e=>h _ o D.l1z e),u2.keep (λo e=>h _ o D.i2z e) (λo e=>h _ o D.l2z e)⟩ U V λc o i G c3 P e=>h c o i (X c o i G c3 P e)
theorem ye{z TI TO t m a1 H:KS}{k:Nat}{xs ys:Array KJ}{Q:Fin->KR->Prop}(N:A.handled=KL)(D:Oq z TI TO t m a1 H)(Z:yd s.heap z TI TO t m a1 H k xs ys .none)(p:xs[k]?=KL\/ys[k]?=KL)(O:∀h' e,(∀c o,c≠z->c≠TO->c≠t->c≠m->s.heap.get? c=KE o->h'.get? c=KE o)->(∃o,h'.get? e=KE o/\o.cls=.type "StopIteration")->E (.ref e) {s with heap:=h'}):wpAny (K4 prog w) A (Builtin.«zip.__next__» ⟨[.ref z],[]⟩) Q E s:=by
 obtain⟨n,C,⟨a,b,B⟩,P,T⟩:=Z;show wpAny _ _ (QM (.ref z) 2>>=_) _ _ _;refine KH (LK n rfl (x:=.bool KO) rfl ?_);show wpAny _ _ (QM (.ref z) 3>>=_) _ _ _;refine KH (LK n rfl (x:=.ref TI) rfl ?_);refine KH (Mb C rfl ?_);show wpAny _ _ (Lw (.ref z)>>=_) _ _ _;refine KH ?_;unfold Lw;refine KH (LK n rfl (x:=.none) rfl (KP ?_));simp only[if_true];refine KH (Ng ?_);refine KH (LK n rfl (x:=.ref TO) rfl ?_);refine KH (MV n (by simp) λW r l=>?_);replace r:Sj W z TI TO .ellipsis:=r;refine KH ?_;simp only[Qb,List.zipIdx_nil,NW,NJ];refine KH (KH (PY ?_));show wpAny _ _ (Ll (.ref t)>>=_) _ _ _;cases v:xs[k]? with
 |none=>
  refine KH (jf N (P.ext l.extBut D.i1z D.l1z) v λG e g y=>?_);obtain⟨u,d,f⟩:=y;have J:Sj G z TI TO .ellipsis:=g _ _ D.i1z.symm r;have i:e≠z:=λx=>by subst x;rw[J]at d;cases d;simp at f
  exact MV J (by simp) λF _ j=>O F e (λc o q _ c3 _ x=>j.extBut _ _ q (g _ _ c3 (l.extBut _ _ q x))) ⟨u,j.extBut _ _ i d,f⟩|some x=>
  have S:ys[k]?=KL:=by rcases p with h|h;rw[v]at h;cases h;exact h
  refine KH (dM D.l1i1 (P.ext l.extBut D.i1z D.l1z) v λG p2 g=>KP ?_);have K:Og G TO a b:=g.extBut _ _ D.TOi1 (l.extBut _ _ D.TOz B);refine KH (Mb K rfl ?_);refine KH (O4 K λF t3 j=>?_);refine KH (Sk (KP ?_));refine KH (KH (PY ?_));show wpAny _ _ (Ll (.ref m)>>=_) _ _ _;have R:jL F m H k ys:=((T.ext l.extBut D.i2z D.l2z).ext g.extBut D.i12.symm D.l2i1).ext j.extBut D.TOi2.symm D.l2TO;refine KH (jf N R S λV e M y=>?_);obtain⟨u,d,f⟩:=y;have I:Sj V z TI TO .ellipsis:=M _ _ D.i2z.symm (j.extBut _ _ D.TOz.symm (g.extBut _ _ D.i1z.symm r));have i:e≠z:=λx=>by subst x;rw[I]at d;cases d;simp at f
  exact MV I (by simp) λU _ L=>O U e (λc o q Y c3 X x=>L.extBut _ _ q (M _ _ X (j.extBut _ _ Y (g.extBut _ _ c3 (l.extBut _ _ q x))))) ⟨u,L.extBut _ _ i d,f⟩
theorem i9{z TI TO b a a1 d:KS}{k:Nat}{xs ys:Array KJ}{x y:KJ}{Q:Option KJ->KR->Prop}(D:Oq z TI TO b a a1 d)(Z:yd s.heap z TI TO b a a1 d k xs ys .none)(g:xs[k]?=KE x)(f:ys[k]?=KE y)(h:∀h',yd h' z TI TO b a a1 d (k+1) xs ys (OG s.heap.objs.size)->Og h' s.heap.objs.size x y->h'.objs.size=s.heap.objs.size+1->(∀c o,c≠z->c≠TO->c≠b->c≠a->s.heap.get? c=KE o->h'.get? c=KE o)->Q (KE (.ref s.heap.objs.size)) {s with heap:=h'}):wpAny (K4 prog w) A (N1 (.ref z)) Q E s:=by
 have e:s.TypeIs (.ref z) "zip":=⟨_,Z.zp,rfl⟩;unfold N1;exact KH (N0 (LH (name:=KI "__next__") e Mh (LN Mh e NQ (vd D Z g f λh' l j c3 i=>KP (h h' l j c3 i)) (NL _))))
theorem eU{z TI TO f d a1 h:KS}{k:Nat}{xs ys:Array KJ}{Q:Option KJ->KR->Prop}(l:A.handled=KL)(D:Oq z TI TO f d a1 h)(Z:yd s.heap z TI TO f d a1 h k xs ys .none)(a:xs[k]?=KL\/ys[k]?=KL)(p:∀h',(∀c o,c≠z->c≠TO->c≠f->c≠d->s.heap.get? c=KE o->h'.get? c=KE o)->Q KL {s with heap:=h'}):wpAny (K4 prog w) A (N1 (.ref z)) Q E s:=by
 have g:s.TypeIs (.ref z) "zip":=⟨_,Z.zp,rfl⟩;unfold N1;refine KH (N0 (LH (name:=KI "__next__") g Mh (LN Mh g NQ (ye l D Z a λh' e j m=>?_) (NL _))));obtain⟨o,i,n⟩:=m;exact KH (NI (T:="StopIteration") (b:=KN) ⟨o,i,n⟩ Rf (KP (p _ j)))
end
noncomputable def jM(tup:Bool)(a:KS):L_:={cls:=.type (if tup then"tuple_iterator"else"list_iterator"),data:=.fields #[.ref a,.int 0 0]}
inductive Sq(h:Lu)(a:KS)(xs:Array KJ):Bool->Prop where|list(q:h.IsList a xs):Sq h a xs KO|tup(q:h.IsTuple a xs):Sq h a xs KN
theorem Sq.keep{h h':Lu}{a:KS}{xs:Array KJ}{t:Bool}(x:Sq h a xs t)(ha:∀o,h.get? a=KE o->h'.get? a=KE o):Sq h' a xs t:=by cases x with
 |list q=>obtain⟨o,e,r⟩:=q;exact .list ⟨o,ha o e,r⟩|tup q=>obtain⟨o,e,r⟩:=q;exact .tup ⟨o,ha o e,r⟩
theorem Sq.lt{h:Lu}{a:KS}{xs:Array KJ}{t:Bool}(x:Sq h a xs t):a<h.objs.size:=by cases x with
 |list q=>obtain⟨o,e,r⟩:=q;exact K5 e|tup q=>obtain⟨o,e,r⟩:=q;exact K5 e
theorem Sq.JL{h:Lu}{a i:KS}{xs:Array KJ}{t:Bool}(x:Sq h a xs t)(e:h.get? i=KE (jM t a)):jL h i a 0 xs:=by cases x with
 |list q=>exact .list ⟨_,e,rfl,rfl⟩ q|tup q=>exact .tup ⟨_,e,rfl,rfl⟩ q
theorem lF{prog:Lb}{w:Lv}{A:Lz}{E:KJ->KR->Prop}{s:KR}{a:KS}{xs:Array KJ}{t:Bool}{Q:KJ->KR->Prop}(x:Sq s.heap a xs t)(h:Q (.ref s.heap.objs.size) {s with heap:=s.heap.push (jM t a)}):wpAny (K4 prog w) A (Sb (.ref a)) Q E s:=by cases x with
 |list q=>exact OM q h|tup q=>exact RO q h
noncomputable abbrev GN(h:Lu)(a:Bool)(a1:KS):Lu:=h.push (jM a a1)
noncomputable abbrev GO(h:Lu)(b a:Bool)(a1 c:KS):Lu:=(GN h b a1).push (jM a c)
noncomputable abbrev GP(h:Lu)(a b:Bool)(a1 c:KS):Lu:=(GO h a b a1 c).push {cls:=.type "tuple",data:=.seq #[.ref h.objs.size,.ref (GN h a a1).objs.size]}
noncomputable abbrev GQ(h:Lu)(b a:Bool)(a1 c:KS):Lu:=(GP h b a a1 c).push {cls:=.type "tuple",data:=.seq #[.none,.none]}
noncomputable abbrev BM(h:Lu)(b a:Bool)(a1 c:KS):Lu:=(GQ h b a a1 c).push {cls:=.type "zip",data:=.fields #[.none,.bool KO,.bool KO,.ref (GO h b a a1 c).objs.size,.ref (GP h b a a1 c).objs.size]}
theorem yf(a1 b:KS)(xs ys:Array KJ)(a c:Bool):Meets (Builtin.«zip.__new__» ⟨[.type "zip",.ref a1,.ref b],[]⟩) (λ_ R s=>Sq s.heap a1 xs a/\Sq s.heap b ys c/\R (.ok (.ret (.ref (GQ s.heap a c a1 b).objs.size))) {s with heap:=BM s.heap a c a1 b}):=.of_wp λprog w A R s h=>by
  obtain⟨j,g,d,f,os⟩:=s;obtain⟨n,m,h⟩:=h;have i:=sub_zip;have l:Sq (Shared.heap ⟨j,g,d,f,os⟩) a1 xs a:=n;have k:Sq (Shared.heap ⟨j.push (jM a a1),g,d,f,os⟩) b ys c:=m.keep λo e=>KQ _ e;wp_walk using lF l,lF k;exact⟨_,rfl,h⟩
theorem vf{prog:Lb}{w:Lv}{A:Lz}{E:KJ->KR->Prop}{s:KR}{a1 a:KS}{xs ys:Array KJ}{d f:Bool}{Q:KJ->KR->Prop}(p:Sq s.heap a1 xs d)(n:Sq s.heap a ys f)(h:∀h' z TI TO m l,Oq z TI TO m l a1 a->yd h' z TI TO m l a1 a 0 xs ys .none->(∀c o,s.heap.get? c=KE o->h'.get? c=KE o)->(∀b∈[z,TI,TO,m,l],s.heap.objs.size<=b)->Q (.ref z) {s with heap:=h'}):wpAny (K4 prog w) A (call (.type "zip") [.ref a1,.ref a]) Q E s:=by
 refine callType_new PySem.F.called_zip (by decide) (PySem.F.typeCall_zip_2 _ _) (PySem.F.newCall_zip_2 _ _) (λobj=>PySem.F.args_object_init_3 obj _ _) PySem.F.entry_zip_new (yf a1 a xs ys d f) ⟨p,n,?_⟩;have j:(GN s.heap d a1).objs.size=s.heap.objs.size+1:=Mn ..;have i:(GO s.heap d f a1 a).objs.size=s.heap.objs.size+2:=by rw[Mn,j]
 have g:(GP s.heap d f a1 a).objs.size=s.heap.objs.size+3:=by rw[Mn,i]
 have r:(GQ s.heap d f a1 a).objs.size=s.heap.objs.size+4:=by rw[Mn,g]
 have k:∀c o,s.heap.get? c=KE o->(BM s.heap d f a1 a).get? c=KE o:=λc o x=>KQ _ (KQ _ (KQ _ (KQ _ (KQ _ x))));have q:(BM s.heap d f a1 a).get? (GQ s.heap d f a1 a).objs.size=KE _:=K9 _ rfl;have t:(BM s.heap d f a1 a).get? (GP s.heap d f a1 a).objs.size=KE _:=KQ _ (K9 _ rfl);have u:(BM s.heap d f a1 a).get? (GO s.heap d f a1 a).objs.size=KE _:=KQ _ (KQ _ (K9 _ rfl));have v:(BM s.heap d f a1 a).get? (GN s.heap d a1).objs.size=KE (jM f a):=KQ _ (KQ _ (KQ _ (K9 _ rfl)));have y:(BM s.heap d f a1 a).get? s.heap.objs.size=KE (jM d a1):=KQ _ (KQ _ (KQ _ (KQ _ (K9 _ rfl))));show _/\_;rw[i,g,r]at q;rw[j,i]at u;rw[g]at t;rw[j]at v;rw[r];refine⟨⟨_,q,rfl⟩,h _ _ _ _ _ _ (zipApart_new p.lt n.lt) ⟨q,u,⟨_,_,t⟩,(p.keep λo e=>k _ o e).JL y,(n.keep λo e=>k _ o e).JL v⟩ k λb hb=>?_⟩;simp only[Mx,MH,or_false]at hb;rcases hb with rfl|rfl|rfl|rfl|rfl<;>first|exact K8 _|exact Qd _ _
end ZP
namespace L2
open PySem PySem.Spec PyProof.Rows ZP
noncomputable def Ii(K:KZ)(H:Hp)(a:KS)(xs:List V):Bool->Prop
 |false=>dF K H a xs|true=>gj K H a xs
section
variable{X:Cx}{pins:List (KS×L_)}{σ:St}{H:Hp}{s:KR}
theorem Inv.JM{a:KS}{xs:List V}{t:Bool}(I:Inv X pins σ H s)(h:Ii X.K H a xs t):∃b:List KJ,aq xs b/\Sq s.heap a b.toArray t/\xs.length<=KU:=by cases t with
 |false=>obtain⟨b,r,p,z⟩:=I.list h;exact⟨b,r,.list p.isList,z⟩|true=>obtain⟨b,r,p,z⟩:=I.tuple h;exact⟨b,r,.tup p,z⟩
theorem Inv.vg{fp:List KS}{h':Lu}{t':Nat}(I:Inv X pins σ H s)(d:∀b∈fp,dG X pins H b)(keep:∀c o,c∉fp->s.heap.get? c=KE o->h'.get? c=KE o):Inv X pins σ H {s with heap:=h',toks:=t'}:=I.call (h':=h') (g':=s.gens) (d':=s.drawn) (t':=t') (ch:=fp) (H':=H) ⟨λb o e n hb a=>keep b o a e,λb o e n hb a=>⟨o.slots,keep b o a e⟩,λb o e n a=>n,λb o e a=>⟨o,keep b o a e⟩,λb m e=>e,λb o u e=>e,λb ps e=>⟨#[],by rw[Array.append_empty];exact e⟩⟩ (λb o e=>(I.aM b o e).dW (λc v f q=>keep c v (λh=>by
   have g:=(d c h).1;rcases f with rfl|f;.rw[g]at e;cases e
   .rw[g]at f;cases f) q) (λ_ q=>q) λ_ _ q=>q) I.bare (λb hb=>by
   obtain⟨_,l,p,k,j,i⟩:=d b hb;exact⟨k,l,j,i⟩)
end
noncomputable def kQ(xs ys:List D):List D:=List.zipWith (λx y=>D.tup [x,y]) xs ys
end L2
end
section
namespace L2
open PySem PySem.Spec PyProof.Rows ZP
noncomputable def vh(x:D):Prop:=∃k:List NK,x=.tup (k.map nD)
theorem fR{B:Fb}{H:Hp}{v:V}{k:Key}(h:Is B H v (kD k)):v=kV k:=by cases k with
 |inl i=>simp only[kD,Is]at h;exact h|inr x=>simp only[kD,Is]at h;exact h
theorem rq{B:Fb}{H:Hp}:∀{a:List V}{ks:List Key},ab B H a (ks.map kD)->a=ks.map kV
 |_,[],h=>by simp only[Nd,ab]at h;rw[h];rfl|_,k::ks,h=>by
  simp only[Li,ab]at h;obtain⟨x,d,rfl,c,b⟩:=h;rw[fR c,rq b];rfl
theorem EM{B:Fb}{H:Hp}{v:V}{k:NK}(h:Is B H v (nD k)):Dy B H v k:=by cases k with
 |inl k=>exact fR h|inr ks=>
  simp only[nD,Is]at h;obtain⟨a,d,rfl,c,b⟩:=h;exact⟨a,rfl,by rw[<-rq b];exact c⟩
theorem vi{B:Fb}{H:Hp}:∀{a:List V}{ks:List NK},ab B H a (ks.map nD)->Paired (Dy B H) a ks
 |_,[],h=>by simp only[Nd,ab]at h;rw[h];exact .nil|_,k::ks,h=>by
  simp only[Li,ab]at h;obtain⟨x,d,rfl,c,b⟩:=h;exact .cons (EM c) (vi b)
theorem key_is{B:Fb}{H:Hp}(k:Key):Is B H (kV k) (kD k):=by cases k<;>simp only[kD,kV,Is]
theorem rz{B:Fb}{H:Hp}:∀(ks:List Key),ab B H (ks.map kV) (ks.map kD)
 |[]=>.nil|k::ks=>.cons (key_is k) (rz ks)
theorem EN{B:Fb}{H:Hp}{v:V}{k:NK}(h:Dy B H v k):Is B H v (nD k):=by cases k with
 |inl k=>rw[show v=kV k from h];exact key_is k|inr ks=>
  obtain⟨b,rfl,h⟩:=h;simp only[nD,Is];exact⟨b,_,rfl,h,rz ks⟩
theorem vj{B:Fb}{H:Hp}:∀{a:List V}{ks:List NK},Paired (Dy B H) a ks->ab B H a (ks.map nD)
 |_,_,.nil=>.nil|_,_,.cons h t=>.cons (EN h) (vj t)
theorem d6.is{B:Fb}{H:Hp}{a:KS}{ks:List NK}(h:d6 B H a ks):Is B H (.ref a) (.tup (ks.map nD)):=by
 obtain⟨b,d,c⟩:=h;simp only[Is];exact⟨a,b,rfl,d,vj c⟩
theorem d6.of{B:Fb}{H:Hp}{v:V}{ks:List NK}(h:Is B H v (.tup (ks.map nD))):∃a,v=.ref a/\d6 B H a ks:=by
 simp only[Is]at h;obtain⟨a,b,rfl,d,c⟩:=h;exact⟨a,rfl,b,d,vi c⟩
theorem pW{X:Cx}{F:Fb}{a:List (KS×L_)}{d:St}{H:Hp}{s:KR}(I:Inv X a d H s)(hK:X.K=F.K):∀{xs:List V}{us:List KJ}{ks:List NK},aq xs us->Paired (Dy F H) xs ks->aI X.prog X.w s.heap ks us
 |_,_,_,.nil,.nil=>.nil|_,_,.inl k::_,.cons r c,.cons h t=>by
  have h:_=kV k:=h;subst h;exact .sc (jx r) (pW I hK c t)|_,_,.inr ks::_,.cons r c,.cons h t=>by
  obtain⟨b,rfl,hb⟩:=(show∃b,_=V.ref b/\TupAt F H b (ks.map kV)from h);cases(show _=Lj b from r);exact .tp (A7 I (by rw[hK];exact hb.2)) (pW I hK c t)
theorem fB{X:Cx}{F:Fb}{b:List (KS×L_)}{d:St}{H:Hp}{s:KR}{a:KS}{ks:List NK}(I:Inv X b d H s)(hK:X.K=F.K)(h:d6 F H a ks):bB X.prog X.w s.heap ks a:=by
 obtain⟨e,k,j⟩:=h;obtain⟨c,r,⟨o,i,g,n,f⟩,_⟩:=I.tuple (show gj X.K H a e by rw[hK];exact k.2);exact⟨o,c.toArray,n,i,g,f,by simpa using pW I hK r j⟩
inductive T(α:Type)where|ok(a:α)|stuck|draw(n:Int)(k:Int->T α)|perm(l:List D)(k:List D->T α)
namespace T
variable{α β:Type}
protected def bind:T α->(α->T β)->T β
 |.ok a,f=>f a|.stuck,_=>.stuck|.draw n k,f=>.draw n λi=>(k i).bind f|.perm l k,f=>.perm l λi=>(k i).bind f
instance:Monad T where
 pure:=T.ok;bind:=T.bind
noncomputable def get:Option α->T α
 |some a=>.ok a|none=>.stuck
noncomputable def need(b:Bool):T Unit:=if b then .ok ()else .stuck
noncomputable def lG(n:Int):M Int:=do
 M.need (0<n/\n<1073741824)M.tick 1;M.any λi=>0<=i/\i<n
noncomputable def aN:T α->M α
 |.ok a=>pure a|.stuck=>M.fail|.draw n k=>do let i<-lG n;(k i).aN|.perm l k=>do let i<-M.any λi=>i.Perm l;(k i).aN
end T
theorem M.ext{b:Type}{m a:M b}(h:∀k Q E,m.run k Q E=a.run k Q E):m=a:=by
 obtain⟨r,p⟩:=m;obtain⟨c,d⟩:=a;have:r=c:=by funext k Q E;exact h k Q E
 subst this;rfl
theorem M.bind_assoc{c b d:Type}(m:M c)(f:c->M b)(g:b->M d):(m>>=f)>>=g=m>>=λa=>f a>>=g:=M.ext λ_ _ _=>rfl
namespace T
variable{α β:Type}
theorem cz(t:T α)(f:α->T β):(t>>=f).aN=t.aN>>=λa=>(f a).aN:=by
 show(T.bind t f).aN=_;induction t with
 |ok a=>rfl|stuck=>rfl|draw n k b=>
  show(lG n>>=λi=>((k i).bind f).aN)=(lG n>>=λi=>(k i).aN)>>=_;rw[M.bind_assoc];congr 1;funext i;exact b i|perm l k b=>
  show((M.any λi=>i.Perm l)>>=λi=>((k i).bind f).aN)=((M.any λi=>i.Perm l)>>=λi=>(k i).aN)>>=_;rw[M.bind_assoc];congr 1;funext i;exact b i
theorem gz:∀(t:T α){k Q E}(c:Xc->Nat->Prop),t.aN.run k Q E->t.aN.run k Q c
 |.ok a,_,_,_,_,h=>h|.stuck,_,_,_,_,h=>h.elim|.draw n f,k,Q,E,c,h=>by
  have h:(T.lG n).run k (λi d=>(f i).aN.run d Q E) E:=h;show(T.lG n).run k (λi d=>(f i).aN.run d Q c) c;obtain⟨j,g,e⟩:=h;exact⟨j,g,λd a b i p=>gz (f i) c (e d a b i p)⟩|.perm l f,k,Q,E,c,h=>λi p=>gz (f i) c (h i p)
theorem pX:∀(t:T α){k:Nat}{E:Xc->Nat->Prop},t.aN.run k (λ_ _=>False) E->False
 |.ok a,_,_,h=>h|.stuck,_,_,h=>h|.draw n f,k,E,h=>by
  have h:(T.lG n).run k (λi b=>(f i).aN.run b (λ_ _=>False) E) E:=h;obtain⟨d,e,c⟩:=h;exact pX (f 0) (c k (K8 _) (PF _) 0 ⟨PL _,d.1⟩)|.perm l f,k,E,h=>pX (f l) (h l (.refl l))
theorem yg(o:Option α):(T.get o).aN=M.get o:=by cases o<;>rfl
end T
noncomputable def Ref{a:Type}(t m:M a):Prop:=∀k Q E,t.run k Q E->m.run k Q E
theorem Ref.refl{a:Type}(m:M a):Ref m m:=λ_ _ _ h=>h
theorem Ref.of_eq{a:Type}{t m:M a}(h:t=m):Ref t m:=h▸.refl _
theorem Ref.bind{b c:Type}{t m:M b}{f g:b->M c}(h:Ref t m)(q:∀a,Ref (f a) (g a)):Ref (t>>=f) (m>>=g):=λk Q E z=>by
 refine h k _ E ?_;exact t.mono z (λa d y=>q a d Q E y) λ_ _ y=>y
theorem Ref.fail{a:Type}{m:M a}:Ref M.fail m:=λ_ _ _ h=>h.elim
theorem Ref.need{b:Bool}{P:Prop}(h:b=KN->P):Ref (T.need b).aN (M.need P):=λk Q E z=>by
 unfold T.need at z;split at z;.rename_i hb;exact⟨h hb,z⟩
 .exact z.elim
theorem Ref.get{a:Type}{o:Option a}:Ref (T.get o).aN (M.get o):=.of_eq (T.yg o)
section
variable{X:Cx}{F:Fx}{e:K7}{es:List K7}{st:MR}{sts:List MR}
theorem DE.ref{t m:ah->M D}(h:DE X F e m)(r:∀ρ,Ref (t ρ) (m ρ)):DE X F e t:=⟨h.hK,h.pe.imp λa H Q⟨ρ,k,S,z⟩=>⟨ρ,k,S,r ρ _ _ _ z⟩⟩
theorem DT.ref{t m:ah->M Bool}(h:DT X F e m)(r:∀ρ,Ref (t ρ) (m ρ)):DT X F e t:=⟨h.hK,h.pt.imp λa H Q⟨ρ,k,S,z⟩=>⟨ρ,k,S,r ρ _ _ _ z⟩⟩
theorem tV.ref{t m:ah->M Bool}(h:tV X F e m)(r:∀ρ,Ref (t ρ) (m ρ)):tV X F e t:=⟨h.hK,h.pw.imp λa H Q⟨ρ,k,S,z⟩=>⟨ρ,k,S,r ρ _ _ _ z⟩⟩
theorem DA.ref{t m:ah->M (List A)}(h:DA X F es m)(r:∀ρ,Ref (t ρ) (m ρ)):DA X F es t:=⟨h.hK,h.pa.imp λa H Q⟨ρ,k,S,z⟩=>⟨ρ,k,S,r ρ _ _ _ z⟩⟩
theorem DS.ref{t m:ah->M Fl}(h:DS X F st m)(r:∀ρ,Ref (t ρ) (m ρ)):DS X F st t:=⟨h.hK,h.ps.imp λZ a H⟨ρ,k,S,z⟩=>⟨ρ,k,S,r ρ _ _ _ z⟩⟩
theorem tU.ref{t m:ah->M Fl}(h:tU X F sts m)(r:∀ρ,Ref (t ρ) (m ρ)):tU X F sts t:=⟨h.hK,h.ps.imp λZ a H⟨ρ,k,S,z⟩=>⟨ρ,k,S,r ρ _ _ _ z⟩⟩
theorem DG.ref{tg:K7}{t m:D->ah->M ah}(h:DG X F tg m)(r:∀d ρ,Ref (t d ρ) (m d ρ)):DG X F tg t:=⟨h.hK,h.pg.imp λv a H Q⟨ρ,k,d,S,i,z⟩=>⟨ρ,k,d,S,i,r d ρ _ _ _ z⟩⟩
theorem xV.ref{a:List K7}{t m:List D->ah->M ah}(h:xV X F a m)(r:∀d ρ,Ref (t d ρ) (m d ρ)):xV X F a t:=⟨h.hK,h.pg.imp λv b H Q⟨ρ,k,d,S,i,z⟩=>⟨ρ,k,d,S,i,r d ρ _ _ _ z⟩⟩
theorem DI.ref{tg iter:K7}{t m:ah->M (List D)}(h:DI X F tg iter m)(r:∀ρ,Ref (t ρ) (m ρ)):DI X F tg iter t:=⟨h.hK,h.pi.imp λa H R⟨ρ,k,S,z⟩=>⟨ρ,k,S,r ρ _ _ _ z⟩⟩
theorem pV.ref{ifs:List K7}{t m:ah->M Bool}(h:pV X F ifs m)(r:∀ρ,Ref (t ρ) (m ρ)):pV X F ifs t:=⟨h.hK,λa s b H Q I⟨ρ,k,S,z⟩=>h.pi a s b H Q I ⟨ρ,k,S,r ρ _ _ _ z⟩⟩
theorem DE.stuck(hK:X.K=F.K):DE X F e (λ_=>M.fail):=⟨hK,λa s b H Q I⟨c,k,S,z⟩=>z.elim⟩
theorem DT.stuck(hK:X.K=F.K):DT X F e (λ_=>M.fail):=⟨hK,λa s b H Q I⟨c,k,S,z⟩=>z.elim⟩
theorem DS.stuck(hK:X.K=F.K):DS X F st (λ_=>M.fail):=⟨hK,λa s b H Q I⟨c,k,S,z⟩=>z.elim⟩
theorem DI.stuck{tg iter:K7}(hK:X.K=F.K):DI X F tg iter (λ_=>M.fail):=⟨hK,λa s b H R I⟨c,k,S,z⟩=>z.elim⟩
theorem eE.ref{f:KJ->KJ->Pu KJ}{t:D->D->M D}(h:∀d e,∃m,eE X F f m/\Ref (t d e) (m d e)):eE X F f t:=⟨λa s b H k x y v u d e Q I g c l hK j i q=>by
 obtain⟨m,o,r⟩:=h d e;exact o.op a s b H k x y v u d e Q I g c l hK j i (r _ _ _ q)⟩
theorem bC.ref{f:KJ}{t:List D->M D}(h:∀ds,∃m,bC X F f m/\Ref (t ds) (m ds)):bC X F f t:=⟨λa s b H k c d ds Q I g l hK i q=>by
 obtain⟨m,o,r⟩:=h ds;exact o.call a s b H k c d ds Q I g l hK i (r _ _ _ q)⟩
end
noncomputable def DC:D->Bool
 |.int _=>KN|_=>KO
noncomputable def zO:D->Bool
 |.int _=>KN|.str _=>KN|_=>KO
noncomputable def BN:D->Bool
 |.tup a=>a.all zO|d=>zO d
noncomputable def yh:D->Bool
 |.tup a=>a.all BN|_=>KO
noncomputable def iL:D->D->Bool
 |.int i,.int j=>decide (i=j)|.str x,.str y=>decide (x=y)|_,_=>KO
noncomputable def eV:List D->List D->Bool
 |[],[]=>KN|x::b,y::a=>iL x y&&eV b a|_,_=>KO
noncomputable def vk:D->D->Bool
 |.tup b,.tup a=>eV b a|x,y=>iL x y
noncomputable def iM:List D->List D->Bool
 |[],[]=>KN|x::b,y::a=>vk x y&&iM b a|_,_=>KO
noncomputable def eG:D->D->Bool
 |.tup b,.tup a=>iM b a|x,y=>iL x y
noncomputable def yi(x:D):Prop:=∃k:Key,x=kD k
theorem jg{x:D}(h:zO x=KN):∃k:Key,x=kD k:=by cases x<;>first|exact⟨.inl _,rfl⟩|exact⟨.inr _,rfl⟩|cases h
theorem lH:∀{xs:List D},xs.all zO=KN->∃ks:List Key,xs=ks.map kD
 |[],_=>⟨[],rfl⟩|x::xs,h=>by
  rw[NC,KW]at h;obtain⟨k,rfl⟩:=jg h.1;obtain⟨ks,rfl⟩:=lH h.2;exact⟨k::ks,rfl⟩
theorem vm{x:D}(h:BN x=KN):∃k:NK,x=nD k:=by
 by_cases b:∃a,x=.tup a
 .obtain⟨a,rfl⟩:=b;obtain⟨ks,rfl⟩:=lH h;exact⟨.inr ks,rfl⟩
 .have h:zO x=KN:=by cases x<;>first|exact h|exact absurd ⟨_,rfl⟩ b
  obtain⟨k,rfl⟩:=jg h;exact⟨.inl k,rfl⟩
theorem jN:∀{xs:List D},xs.all BN=KN->∃ks:List NK,xs=ks.map nD
 |[],_=>⟨[],rfl⟩|x::xs,h=>by
  rw[NC,KW]at h;obtain⟨k,rfl⟩:=vm h.1;obtain⟨ks,rfl⟩:=jN h.2;exact⟨k::ks,rfl⟩
theorem nM{x:D}(h:yh x=KN):vh x:=by cases x<;>first|(obtain⟨ks,rfl⟩:=jN h;exact⟨ks,rfl⟩)|cases h
theorem vn{l:List D}(h:l.all yh=KN):∀x∈l,vh x:=λx a=>nM (List.all_eq_true.mp h x a)
theorem yj{l:List D}(h:l.all zO=KN):∀x∈l,yi x:=λx a=>jg (List.all_eq_true.mp h x a)
theorem jO(a b:Key):iL (kD a) (kD b)=KN↔a=b:=by cases a<;>cases b<;>simp[kD,iL]
theorem lI:∀(a b:List Key),eV (a.map kD) (b.map kD)=KN↔a=b
 |[],[]=>by simp[eV]|[],_::_=>by simp[eV]|_::_,[]=>by simp[eV]|x::a,y::b=>by simp[eV,jO,lI a b]
theorem jP(a b:Key):eG (kD a) (kD b)=decide (a=b):=by
 have:eG (kD a) (kD b)=iL (kD a) (kD b):=by cases a<;>cases b<;>rfl
 rw[this,MB,jO,decide_eq_true_iff]
theorem yk(a b:NK):vk (nD a) (nD b)=KN↔a=b:=by cases a with
 |inl a=>cases b with
  |inl b=>
   have:vk (nD (.inl a)) (nD (.inl b))=iL (kD a) (kD b):=by cases a<;>cases b<;>rfl
   rw[this,jO];simp|inr b=>
   have:vk (nD (.inl a)) (nD (.inr b))=KO:=by cases a<;>rfl
   rw[this];simp
 |inr a=>cases b with
  |inl b=>
   have:vk (nD (.inr a)) (nD (.inl b))=KO:=by cases b<;>rfl
   rw[this];simp|inr b=>
   show eV (a.map kD) (b.map kD)=KN↔_;rw[lI];simp
theorem nN:∀(a b:List NK),iM (a.map nD) (b.map nD)=KN↔a=b
 |[],[]=>by simp[iM]|[],_::_=>by simp[iM]|_::_,[]=>by simp[iM]|x::a,y::b=>by simp[iM,yk,nN a b]
theorem jQ(a b:List NK):eG (.tup (a.map nD)) (.tup (b.map nD))=decide (a=b):=by
 show iM _ _=_;rw[MB,nN,decide_eq_true_iff]
noncomputable def aF:List D->List D->D->Option D
 |k::ks,v::a,d=>if eG k d then KE v else aF ks a d|_,_,_=>KL
noncomputable def bN(ks:List D)(d:D):Bool:=ks.any λk=>eG k d
section
variable{P:Lb}{w:Lv}{o:L_}{us:List (Key×KJ)}{xs:List (List NK×KS×KJ)}{hp:Lu}{a:KS}
theorem gY.at(h:gY P w o us)(e:hp.get? a=KE o):hp.DictOf (ar P w) a us:=let⟨i,j,g,f,d,c,b⟩:=h;⟨o,i,j,e,g,f,d,c,b⟩
theorem gY.of(h:hp.DictOf (ar P w) a us):∃o,hp.get? a=KE o/\gY P w o us:=let⟨o,i,j,e,g,f,d,c,b⟩:=h;⟨o,e,i,j,g,f,d,c,b⟩
theorem gZ.at(h:gZ P w o xs)(e:hp.get? a=KE o)(k:∀x∈xs,(cu P w).is hp x.1 x.2.1):hp.DictOfH (cu P w) a xs:=let⟨g,i,f,d,c,b⟩:=h;⟨o,g,i,e,f,d,c,k,b⟩
theorem gZ.of(h:hp.DictOfH (cu P w) a xs):∃o,hp.get? a=KE o/\gZ P w o xs:=let⟨o,g,i,e,f,d,c,_,b⟩:=h;⟨o,e,g,i,f,d,c,b⟩
theorem EO(h:gY P w o []):gZ P w o []:=by
 obtain⟨c,f,e,d,i,b,g⟩:=h;refine⟨c,f,e,d,?_,.nil⟩;generalize c.toList=l at b;cases b;rfl
theorem ER(h:gZ P w o []):gY P w o []:=by
 obtain⟨c,i,g,f,d,j⟩:=h;have e:c.toList=[]:=d;refine⟨c,i,g,f,λk b=>?_,by rw[e];exact .nil,.nil⟩;rw[<-N7,e]at b;exact nomatch b
theorem gY.mz(h:gY P w o us):∀v,o.data≠.cell v:=λv z=>by obtain⟨d,e,c,b,_⟩:=h;rw[b]at z;cases z
theorem gZ.mz(h:gZ P w o xs):∀v,o.data≠.cell v:=λv z=>by obtain⟨d,e,c,b,_⟩:=h;rw[b]at z;cases z
end
section
variable{B:Fb}{H:Hp}{o:L_}{ks:List D}{vs:List V}
theorem bo.ES(h:bo B H o ks vs)(b:∀x∈ks,yi x):∃(a:List (Key×V))(us:List (Key×KJ)),KV a us/\gY B.P B.w o us/\ks=a.map (λx=>kD x.1)/\vs=a.map (·.2):=by
 rcases h.2 with h|⟨a,f,d,c,g,rfl,rfl⟩;.exact h
 .cases a with
  |nil=>cases d;exact⟨[],[],.nil,ER c,rfl,rfl⟩|cons x r=>
   obtain⟨k,e⟩:=b _ K2;cases k<;>cases e
theorem bo.ET(h:bo B H o ks vs)(d:∀x∈ks,vh x):∃(a:List (List NK×KS×V))(xs:List (List NK×KS×KJ)),KA a xs/\gZ B.P B.w o xs/\(∀x∈a,d6 B H x.2.1 x.1)/\ks=a.map (λx=>D.tup (x.1.map nD))/\vs=a.map (·.2.2):=by
 rcases h.2 with⟨a,j,g,f,rfl,rfl⟩|h;.cases a with
  |nil=>cases g;exact⟨[],[],.nil,EO f,λx c=>(nomatch c),rfl,rfl⟩|cons x r=>
   obtain⟨k,e⟩:=d _ K2;obtain⟨b,i⟩:=x;cases b<;>cases e
 .exact h
theorem lJ{a:Type}[DecidableEq a]{k0 k:a}{v:V}{r:List (a×V)}:i7 ((k0,v)::r) k=if k0=k then KE v else i7 r k:=by
 unfold i7;rw[NU];by_cases h:k0=k;.simp[h]
 .simp[h]
theorem zP{R:V->D->Prop}{k:Key}{e:D}:∀{a:List (Key×V)}{ds:List D},Paired R (a.map (·.2)) ds->aF (a.map λx=>kD x.1) ds (kD k)=KE e->∃v,i7 a k=KE v/\R v e
 |[],ds,_,q=>by cases ds<;>cases q|(k0,g)::r,d::ds,.cons f c,q=>by
  simp only[Li,aF,jP]at q;rw[lJ];by_cases b:k0=k
  .simp only[b,decide_true,if_true]at q⊢;cases q;exact⟨_,rfl,f⟩
  .simp only[b,decide_false,if_false]at q⊢;exact zP c q
theorem vo{k:Key}:∀(a:List (Key×V)),bN (a.map λx=>kD x.1) (kD k)=(i7 a k).isSome
 |[]=>rfl|(k0,d)::r=>by
  have b:=vo (k:=k) r;unfold bN at b⊢;rw[Li,NA,b,lJ,jP];by_cases c:k0=k<;>simp[c]
theorem jR{k0 k:List NK}{p:KS×KJ}{r:List (List NK×KS×KJ)}:SS ((k0,p)::r) k=if k0=k then KE p else SS r k:=by
 unfold SS;rw[NU];by_cases h:k0=k;.simp[h]
 .simp[h]
theorem zQ{R:V->D->Prop}{k:List NK}{e:D}:∀{a:List (List NK×KS×V)}{xs:List (List NK×KS×KJ)}{ds:List D},KA a xs->Paired R (a.map (·.2.2)) ds->aF (a.map λx=>D.tup (x.1.map nD)) ds (.tup (k.map nD))=KE e->∃p v,SS xs k=KE p/\RelV v p.2/\R v e
 |[],_,ds,_,_,q=>by cases ds<;>cases q|(k0,n,j)::r,(m,b1,l)::xs,d::ds,.cons z t,.cons i h,q=>by
  obtain⟨c,g,b⟩:=z;simp only at c g b;subst c;simp only[Li,aF,jQ]at q;rw[jR];by_cases f:k0=k
  .simp only[f,decide_true,if_true]at q⊢;cases q;exact⟨_,_,rfl,b,i⟩
  .simp only[f,decide_false,if_false]at q⊢;exact zQ t h q
theorem ym{k:List NK}:∀{a:List (List NK×KS×V)}{xs:List (List NK×KS×KJ)},KA a xs->bN (a.map λx=>D.tup (x.1.map nD)) (.tup (k.map nD))=(SS xs k).isSome
 |[],_,.nil=>rfl|(k0,j,g)::r,(i,b1,h)::xs,.cons z t=>by
  obtain⟨b,f,e⟩:=z;simp only at b;subst b;have c:=ym (k:=k) t;unfold bN at c⊢;rw[Li,NA,c,jR,jQ];by_cases d:k0=k<;>simp[d]
end
section
variable{X:Cx}{F:Fx}{pins:List (KS×L_)}{σ:St}{H:Hp}{s:KR}{a:KS}{o:L_}{ks ds:List D}{vs:List V}{d e:D}{x:V}{v:KJ}{A:Lz}{E:KJ->KR->Prop}
theorem sQ.get(I:Inv X pins σ H s)(hK:X.K=F.K)(h:sQ F.toFb H a o):s.heap.get? a=KE o:=by
 obtain⟨_,_,⟨u,h⟩|h⟩:=h;.exact(I.aM a _ h).1
 .exact I.kH _ _ (by rw[hK];exact h)
theorem fC(I:Inv X pins σ H s)(hK:X.K=F.K):∀{b:List (List NK×KS×V)}{xs:List (List NK×KS×KJ)},KA b xs->(∀x∈b,d6 F.toFb H x.2.1 x.1)->∀x∈xs,(cu X.prog X.w).is s.heap x.1 x.2.1
 |_,_,.nil,_,x,c=>nomatch c|(k0,n,k)::r,(m,b1,l)::xs,.cons z t,h,x,c=>by
  obtain⟨g,f,j⟩:=z;simp only at g f;subst g f;rcases List.mem_cons.mp c with rfl|c;.exact fB I hK (h _ K2)
  .exact fC I hK t (λy i=>h y (K1 _ i)) x c
noncomputable def kinds(ks:List D)(d:D):Prop:=(∀x∈ks,yi x)/\yi d\/(∀x∈ks,vh x)/\vh d
theorem vp(h:bo F.toFb H o ks vs)(c:s.heap.get? a=KE o):s.TypeIs (.ref a) "dict":=by
 rcases h.2 with⟨_,_,_,⟨f,g,b,_⟩,_⟩|⟨_,_,_,⟨f,g,b,_⟩,_⟩;.exact⟨o,c,b.1⟩
 .exact⟨o,c,b.1⟩
theorem yn{R:V->D->Prop}{Q:KJ->KR->Prop}(hu:A.units+2<L6)(I:Inv X pins σ H s)(hK:X.K=F.K)(hP:X.prog=F.P)(hw:X.w=F.w)(h:bo F.toFb H o ks vs)(B:s.heap.get? a=KE o)(z:Paired R vs ds)(i:Is F.toFb H x d)(r:RelV x v)(c:kinds ks d)(C:aF ks ds d=KE e)(q:∀y u n,Inv X pins σ H n->RelV y u->R y e->Q u n):wpAny (K4 X.prog X.w) A (OK (.ref a) v) Q E s:=by
 rcases c with⟨c,k,rfl⟩|⟨c,k,rfl⟩
 .obtain⟨g,G,M,ob,rfl,rfl⟩:=h.ES c;rw[<-hP,<-hw]at ob;obtain⟨y,m,l⟩:=zP z C;have:=fR i;subst this;obtain⟨J,j,f⟩:=l7.some_of (v:=y) (o:=Rq G k) (by rw[<-m];exact M.val k);exact wpAny_getItem_of (jx r) (ob.at B).mapOf j (q y J _ (I.tok _) f l)
 .obtain⟨g,O,t,ob,tp,rfl,rfl⟩:=h.ET c;rw[<-hP,<-hw]at ob;obtain⟨p,y,m,l,N⟩:=zQ t z C;obtain⟨b,rfl,L⟩:=d6.of i;cases(show v=Lj b from r);exact wpAny_getItem_heap (fy hu) (fB I hK L) (ob.at B (fC I hK t tp)) m (q y _ _ (I.tok _) l N)
theorem vq{Q:KJ->KR->Prop}(hu:A.units+2<L6)(I:Inv X pins σ H s)(hK:X.K=F.K)(hP:X.prog=F.P)(hw:X.w=F.w)(h:bo F.toFb H o ks vs)(m:s.heap.get? a=KE o)(c:(a==Mu)=KO)(i:Is F.toFb H x d)(r:RelV x v)(f:kinds ks d)(q:∀j,Inv X pins σ H j->Q (.bool (bN ks d)) j):wpAny (K4 X.prog X.w) A (Lx .In v (.ref a)) Q E s:=by
 rcases f with⟨f,k,rfl⟩|⟨f,k,rfl⟩
 .obtain⟨g,u,p,ob,rfl,rfl⟩:=h.ES f;rw[<-hP,<-hw]at ob;have:=fR i;subst this;refine wpAny_in_of (jx r) c (ob.at m).mapOf ?_;rw[<-(p.val k).ll,<-vo];exact q _ (I.tok _)
 .obtain⟨g,t,l,ob,tp,rfl,rfl⟩:=h.ET f;rw[<-hP,<-hw]at ob;obtain⟨b,rfl,n⟩:=d6.of i;cases(show v=Lj b from r);refine wpAny_in_heap (fy hu) (fB I hK n) c (ob.at m (fC I hK l tp)) ?_;rw[<-ym l];exact q _ (I.tok _)
theorem sX{Q:KJ->KR->Prop}(hu:A.units+2<L6)(I:Inv X pins σ H s)(hK:X.K=F.K)(hP:X.prog=F.P)(hw:X.w=F.w)(h:bo F.toFb H o ks vs)(m:s.heap.get? a=KE o)(c:(a==Mu)=KO)(i:Is F.toFb H x d)(r:RelV x v)(f:kinds ks d)(q:∀j,Inv X pins σ H j->Q (.bool (!bN ks d)) j):wpAny (K4 X.prog X.w) A (Lx .NotIn v (.ref a)) Q E s:=by
 rcases f with⟨f,k,rfl⟩|⟨f,k,rfl⟩
 .obtain⟨g,u,p,ob,rfl,rfl⟩:=h.ES f;rw[<-hP,<-hw]at ob;have:=fR i;subst this;refine wpAny_notIn_of (jx r) c (ob.at m).mapOf ?_;rw[<-(p.val k).ll,<-vo];exact q _ (I.tok _)
 .obtain⟨g,t,l,ob,tp,rfl,rfl⟩:=h.ET f;rw[<-hP,<-hw]at ob;obtain⟨b,rfl,n⟩:=d6.of i;cases(show v=Lj b from r);refine wpAny_notIn_heap (fy hu) (fB I hK n) c (ob.at m (fC I hK l tp)) ?_;rw[<-ym l];exact q _ (I.tok _)
theorem BO(h:bo F.toFb H o ks vs):∃b c,o.ExactDict/\o.data=.dict b c/\b.size=ks.length/\(b.size:Int)<2^63:=by
 have g:=h.1;rw[N5]at g;rcases h.2 with⟨f,l,m,⟨b,c,j,i,_,p,_⟩,rfl,_⟩|⟨f,k,n,⟨b,c,j,i,q,_⟩,_,rfl,_⟩
 .have:b.size=l.length:=by rw[<-p.length];simp
  have r:=Paired.length m;rw[Lq]at g;exact⟨b,c,j,i,by rw[Lq];omega,by omega⟩
 .have:b.size=k.length:=size_of_entries q;have r:=Paired.length n;rw[Lq]at g;exact⟨b,c,j,i,by rw[Lq];omega,by omega⟩
end
theorem Kp.own{B:Fb}{H:Hp}{k:Nat}{a:KS}{u o':HO}(j:a≠B.p)(hu:H a=KE u)(ns:u.iJ=KO):Kp B H k (upd H a o') k where
 keep:=λb o hb st e=>by
  by_cases c:b=a;.subst c;rw[hu]at e;cases e;rw[ns]at st;cases st
  .rw[af c];exact e
 live:=λh=>by rw[af (LP j)];exact h
 le:=K8 _;bJ:=λq d=>by
  obtain⟨f,i,r,⟨w,⟨o,g⟩,v,t,s,n⟩,m⟩:=d;have l:q≠a:=λz=>by rw[z,hu]at g;cases g;cases ns
  exact⟨f,i,r,⟨by rw[af (LP j)];exact w,⟨o,by rw[af l];exact g⟩,v,t,s,n⟩,m⟩
section
variable{X:Cx}{F:Fx}{pins:List (KS×L_)}{σ:St}{H:Hp}{s:KR}{ρ:ah}{k:Nat}
theorem cv.ef{i:Nat}{d:D}{a:KS}{u o':HO}{w':W}(S:cv F ρ k σ H)(A:ρ[i]?=KE (KE (.own d)))(J:σ[i]?=KE (KE (.ref a)))(N:a≠F.p)(P:F.H0 a=KL)(hu:H a=KE u)(ns:u.iJ=KO)(hw:Dz F (upd H a o') k (.ref a) w')(O:∀ks ds,w'≠.fI ks ds:=by intro _ _ z;cases z):cv F (ρ.set i (KE w')) k σ (upd H a o'):=by
 have kp:Kp F.toFb H k (upd H a o') k:=Kp.own N hu ns;have I:i<ρ.length:=(List.getElem?_eq_some_iff.mp A).1;refine⟨by simp[S.len],λj x e=>?_,λt B x y v g c r G E s1=>?_,λt B ks ds w c r o=>?_,kp.live S.live,⟨λb o hb e=>?_,λh=>kp.live (S.ext.live h),S.ext.le,λq f=>kp.bJ q (S.ext.bJ q f)⟩,S.xK.trans kp⟩
 .rw[Mk]at e;by_cases C:i=j
  .subst C;rw[if_pos rfl,if_pos I]at e;cases e;exact⟨_,J,hw⟩
  .rw[if_neg C]at e;obtain⟨v,l,n⟩:=S.at_ j x e;refine⟨v,l,?_⟩;cases x with
   |d x=>exact Is.mono kp n|feed=>exact⟨n.1,kp.feed n.2⟩|own Q=>
    obtain⟨b,rfl,M,L,K⟩:=n;have m:b≠a:=λz=>by
     subst z;exact S.apart i j _ _ _ C A e rfl rfl J l
    exact⟨b,rfl,M,L,K.keep kp λo e=>by rw[af m];exact e⟩|fI ks ds=>exact absurd (S.alone j i ks ds _ e A rfl) C
 .rw[Mk]at c r;by_cases l:i=t
  .subst l;rw[if_neg g]at r;exact S.apart i B _ _ v g A r rfl E s1
  .rw[if_neg l]at c;by_cases n:i=B
   .subst n;exact S.apart t i _ _ v g c A G rfl s1
   .rw[if_neg n]at r;exact S.apart t B _ _ v g c r G E s1
 .rw[Mk]at c r;by_cases l:i=t
  .subst l;rw[if_pos rfl,if_pos I]at c;cases c;exact absurd rfl (O ks ds)
  .rw[if_neg l]at c;exact absurd (S.alone t i ks ds _ c A rfl) l
 .have m:b≠a:=λz=>by rw[z,P]at e;cases e
  rw[af m];exact S.ext.keep b o hb e
noncomputable def EU:D->Bool
 |.aQ _ _=>KN|_=>KO
structure EV(X:Cx)(F:Fx)(pins:List (KS×L_))(σ:St)(H:Hp)(s:KR)(k:Nat)(a:KS)(d:D)(u:HO)(o:L_):Prop where
 hu:H a=KE u
 ns:u.iJ=KO
 nt:∀xs,u≠.tup xs
 inv:Inv X pins σ (upd H a (.b6 o u)) s
 Ij:Is F.toFb (upd H a (.b6 o u)) (.ref a) d
 n1:∀xs,X.gh a≠KE (.tup xs)n2:∀ob v,X.gh a≠KE (.b6 ob v)n3:∀ps,X.gh a≠KE (.tS ps)nl:EU d=KN->∀xs,u≠.lst xs
theorem fM.vt{d:D}{a:KS}(I:Inv X pins σ H s)(h:fM F H a d):∃u o,EV X F pins σ H s k a d u o:=by
  obtain⟨g,B,h⟩:=h;have base:∀{u:HO},H a=KE u->u.iJ=KO->(∀f,u≠.tup f)->(∀b v,u≠.b6 b v)->(∀ps,u≠.tS ps)->(∀f,X.gh a≠KE (.tup f))/\(∀ob v,X.gh a≠KE (.b6 ob v))/\∀ps,X.gh a≠KE (.tS ps):=λ{u}hu ns nt q r=>⟨λf e=>by have:=I.base.iW a f e;rw[hu]at this;cases this;exact nt _ rfl,λob v e=>by have:=I.base.gV a ob v e;rw[hu]at this;cases this;exact q _ _ rfl,λps e=>by obtain⟨m,this⟩:=I.base.iX a ps e;rw[hu]at this;cases this;exact r _ rfl⟩;cases d with
  |lst y=>
    obtain⟨f,c,j⟩:=h;obtain⟨_,t,n,A,i⟩:=I.aM a _ c;obtain⟨b1,p,l⟩:=base c rfl (λ_ z=>nomatch z) (λ_ _ z=>nomatch z) (λ_ z=>nomatch z);refine⟨_,_,c,rfl,(λ_ z=>nomatch z),I.freeze c i (λ_ z=>nomatch z) (λ_ _ z=>nomatch z) (λ_ z=>nomatch z) (λ_ z=>nomatch z),?_,b1,p,l,λz=>nomatch z⟩;simp only[Is];exact⟨a,f,rfl,⟨g,_,ai⟩,j.mono (Kp.own (k:=k) g c rfl)⟩|aQ ks y=>
    obtain⟨o,f,c,j,x,w⟩:=h;have i:s.heap.get? a=KE o:=(I.aM a _ c).1;obtain⟨b1,p,l⟩:=base c rfl (λ_ z=>nomatch z) (λ_ _ z=>nomatch z) (λ_ z=>nomatch z);refine⟨_,o,c,rfl,(λ_ z=>nomatch z),I.freeze c i (λ_ z=>nomatch z) (λ_ _ z=>nomatch z) (λ_ z=>nomatch z) (λ_ z=>nomatch z),?_,b1,p,l,λ_ _ z=>nomatch z⟩;simp only[Is];exact⟨a,f,rfl,⟨o,⟨g,j,.inl ⟨_,ai⟩⟩,x.mono (Kp.own (k:=k) g c rfl)⟩,w.mono (Kp.own (k:=k) g c rfl)⟩|_=>exact h.elim
theorem Inv.gA{a:KS}{o:L_}{u:HO}(I:Inv X pins σ H s)(f:H a=KE (.b6 o u))(n1:∀xs,X.gh a≠KE (.tup xs))(n2:∀ob v,X.gh a≠KE (.b6 ob v))(n3:∀ps,X.gh a≠KE (.tS ps)):Inv X pins σ (upd H a u) s:=by
 have ne:∀{b:KS},H b=KL->b≠a:=λ{b}n z=>by rw[z,f]at n;cases n
 have tp:∀b xs,H b=KE (.tup xs)->(upd H a u) b=KE (.tup xs):=λb xs e=>by rw[af (λz=>by rw[z,f]at e;cases e)];exact e
 have g:∀b x,H b=KE (.own x)->(upd H a u) b=KE (.own x):=λb x e=>by rw[af (λz=>by rw[z,f]at e;cases e)];exact e
 refine⟨I.ok,I.os,I.bare,⟨I.base.keep,I.base.slot,λb ob e n h=>?_,I.base.there,λb xs e=>tp b xs (I.base.iW b xs e),λb ob v e=>?_,λb ps e=>?_⟩,I.loc,I.cell,?_,λx c e=>?_,λp i=>?_,λb v e=>?_,I.len⟩
 .have:=I.base.free b ob e n h;rw[af (ne this)];exact this
 .have q:=I.base.gV b ob v e;rw[af (λz=>by rw[z]at e;exact n2 _ _ e)];exact q
 .obtain⟨d,q⟩:=I.base.iX b ps e;exact⟨d,by rw[af (λz=>by rw[z]at e;exact n3 _ e)];exact q⟩
 .rw[af (ne I.free)];exact I.free
 .rw[af (ne (I.cY x c e))];exact I.cY x c e
 .obtain⟨e,n,r⟩:=I.pin p i;exact⟨e,by rw[af (ne n)];exact n,r⟩
 .by_cases hb:b=a
  .subst hb;rw[ai]at e;cases e;exact(I.aM b _ f).2.dW (λ_ _ _ q=>q) (λc q=>g c _ q) tp
  .rw[af hb]at e;exact(I.aM b v e).dW (λ_ _ _ q=>q) (λc q=>g c _ q) tp
end
mutual
noncomputable def flat(l:Bool):D->Bool
 |.bw=>KN|.bl _=>KN|.int _=>KN|.str _=>KN|.tup a=>jS l a|.lst a=>l&&jS l a|_=>KO
noncomputable def jS(l:Bool):List D->Bool
 |[]=>KN|x::a=>flat l x&&jS l a
end
section
variable{B:Fb}{H:Hp}{a:KS}{o:L_}{u u':HO}
theorem TupAt.gA{b:KS}{xs:List V}(d:H a=KE (.b6 o u))(nt:∀xs,u≠.tup xs)(h:TupAt B H b xs):TupAt B (upd H a u') b xs:=by
 refine⟨h.1,?_⟩;rcases h.2 with(c|⟨e,c⟩)|c;.exact .inl (.inl (by rw[af (λz=>by rw[z,d]at c;cases c)];exact c))
 .exact .inl (.inr ⟨e,by rw[af (λz=>by rw[z,d]at c;cases c;exact nt _ rfl)];exact c⟩)
 .exact .inr c
mutual
theorem Is.gA(c:H a=KE (.b6 o u)){l:Bool}(nt:∀xs,u≠.tup xs)(nl:l=KN->∀xs,u≠.lst xs):∀{d:D}{v:V},flat l d=KN->Is B H v d->Is B (upd H a u') v d
 |.bw,_,_,h=>by simp only[Is]at h⊢;exact h|.bl _,_,_,h=>by simp only[Is]at h⊢;exact h|.int _,_,_,h=>by simp only[Is]at h⊢;exact h|.str _,_,_,h=>by simp only[Is]at h⊢;exact h|.tup _,_,f,h=>by
  simp only[Is]at h⊢;simp only[flat]at f;obtain⟨b,xs,j,i,g⟩:=h;exact⟨b,xs,j,i.gA c nt,ab.gA c nt nl f g⟩|.lst _,_,f,h=>by
  simp only[Is]at h⊢;simp only[flat,KW]at f;obtain⟨b,xs,j,⟨i,k,e⟩,g⟩:=h;exact⟨b,xs,j,⟨i,k,by rw[af (λz=>by rw[z,c]at e;cases e;exact nl f.1 _ rfl)];exact e⟩,ab.gA c nt nl f.2 g⟩|.aQ _ _,_,f,_=>by simp[flat]at f
theorem ab.gA(b:H a=KE (.b6 o u)){l:Bool}(nt:∀xs,u≠.tup xs)(nl:l=KN->∀xs,u≠.lst xs):∀{ds:List D}{xs:List V},jS l ds=KN->ab B H xs ds->ab B (upd H a u') xs ds
 |[],_,_,h=>by simp only[ab]at h⊢;exact h|d::ds,_,f,h=>by
  simp only[ab]at h⊢;simp only[jS,KW]at f;obtain⟨x,c,i,g,e⟩:=h;exact⟨x,c,i,Is.gA b nt nl f.1 g,ab.gA b nt nl f.2 e⟩
end
end
noncomputable def g9(ρ:ah)(i:Nat):Bool:=match ρ[i]? with
 |some (KE (.own d))=>EU d|_=>KO
noncomputable def pA(i:Nat)(ρ:ah):ah:=match ρ[i]? with
 |some (KE (.own d))=>ρ.set i (KE (.d d))|_=>ρ
section
variable{X:Cx}{F:Fx}{e:K7}{st:MR}
theorem mB{ρ:ah}{i:Nat}{d:D}(h:ρ[i]?=KE (KE (.own d))):pA i ρ=ρ.set i (KE (.d d)):=by unfold pA;rw[h]
theorem pY{ρ:ah}{i:Nat}(h:∀d,ρ[i]?≠KE (KE (.own d))):pA i ρ=ρ:=by
 unfold pA;split;.rename_i d e;exact absurd e (h d)
 .rfl
theorem pZ(ρ:ah)(i:Nat):(∃d,ρ[i]?=KE (KE (.own d)))\/∀d,ρ[i]?≠KE (KE (.own d)):=by
 by_cases h:∃d,ρ[i]?=KE (KE (.own d));.exact .inl h
 .exact .inr λd e=>h ⟨d,e⟩
theorem DS.fz(i:Nat){t:ah->M Fl}(h:DS X F st t):DS X F st (λρ=>t (pA i ρ)):=by
 refine⟨h.hK,λb s j H Z I⟨ρ,k,S,z⟩=>?_⟩;rcases pZ ρ i with⟨d,f⟩|f
 .obtain⟨v,l,a,rfl,g⟩:=S.at_ i _ f;obtain⟨u,o,c⟩:=fM.vt (k:=k) I g;have m:=S.ef (w':=.d d) f l g.1 g.2.1 c.hu c.ns c.Ij;dsimp only at z;rw[mB f]at z;exact h.ps b s j _ Z c.inv ⟨_,k,m,M.wk z λp n q=>q.mono (Kp.own g.1 c.hu c.ns)⟩
 .dsimp only at z;rw[pY f]at z;exact h.ps b s j H Z I ⟨ρ,k,S,z⟩
theorem Ext.gA{H m:Hp}{k n:Nat}{a:KS}{u:HO}{o:L_}(h:a≠F.p)(hu:H a=KE u)(ns:u.iJ=KO)(e:Ext F.toFb (upd H a (.b6 o u)) k m n):Ext F.toFb H k (upd m a u) n:=by
 have ha:m a=KE (.b6 o u):=e.keep a _ h ai;have kp:Kp F.toFb H k (upd H a (.b6 o u)) k:=Kp.own h hu ns;refine⟨λb s hb q=>?_,λq=>by rw[af (LP h)];exact e.live (kp.live q),e.le,λq f=>?_⟩
 .by_cases c:b=a;.subst c;rw[ai,<-hu];exact q
  .rw[af c];exact e.keep b s hb (by rw[af c];exact q)
 .have t:q≠a:=λz=>by
   obtain⟨_,_,_,g,_⟩:=f;obtain⟨d,j⟩:=g.cs;rw[z,hu]at j;cases j;cases ns
  obtain⟨l,i,r,⟨B,⟨d,j⟩,A,y,x,w⟩,v⟩:=e.bJ q (kp.bJ q f);exact⟨l,i,r,⟨by rw[af (LP h)];exact B,⟨d,by rw[af t];exact j⟩,A,y,x,w⟩,v⟩
theorem DE.lL(i:Nat){t:ah->M D}(h:DE X F e t):DE X F e (λρ=>do let d<-t (pA i ρ);M.need (flat (g9 ρ i) d=KN);pure d):=by
 refine⟨h.hK,λc s r H Q I⟨ρ,k,S,z⟩=>?_⟩;rcases pZ ρ i with⟨d,g⟩|g
 .obtain⟨v,B,a,rfl,l⟩:=S.at_ i _ g;obtain⟨u,o,b⟩:=fM.vt (k:=k) I l;have G:=S.ef (w':=.d d) g B l.1 l.2.1 b.hu b.ns b.Ij;have z:(t (pA i ρ)).run k (λd f=>flat (g9 ρ i) d=KN/\qE F.toFb H k Q d f) F.E:=z;rw[mB g]at z;refine aU (h.pe c s r _ (λv j=>∃n d,Ext F.toFb (upd H a (.b6 o u)) k j n/\Is F.toFb j v d/\flat (g9 ρ i) d=KN/\qE F.toFb H k Q d n) b.inv ⟨_,k,G,M.wk z λd f q v j e p=>⟨f,d,e,p,q.1,q.2⟩⟩) λv s1 m=>?_;obtain⟨x,j,J,y,n,K,w,p,C,A⟩:=m;have ha:j a=KE (.b6 o u):=w.keep a _ l.1 ai;exact⟨x,upd j a u,J.gA ha b.n1 b.n2 b.n3,y,A x _ (w.gA l.1 b.hu b.ns) (Is.gA ha b.nt (λz=>b.nl (by unfold g9 at z;rw[g]at z;exact z)) C p)⟩
 .have z:(t (pA i ρ)).run k (λd f=>flat (g9 ρ i) d=KN/\qE F.toFb H k Q d f) F.E:=z;rw[pY g]at z;exact h.pe c s r H Q I ⟨ρ,k,S,M.wk z λd f q=>q.2⟩
theorem DT.lL(i:Nat){t:ah->M Bool}(h:DT X F e t):DT X F e (λρ=>t (pA i ρ)):=by
 refine⟨h.hK,λf s p H Q I⟨ρ,k,S,z⟩=>?_⟩;dsimp only at z;rcases pZ ρ i with⟨d,j⟩|j
 .obtain⟨v,y,a,rfl,g⟩:=S.at_ i _ j;obtain⟨u,o,c⟩:=fM.vt (k:=k) I g;have A:=S.ef (w':=.d d) j y g.1 g.2.1 c.hu c.ns c.Ij;rw[mB j]at z;refine aU (h.pt f s p _ (λb l=>∃n,Ext F.toFb (upd H a (.b6 o u)) k l n/\qT F.toFb H k Q b n) c.inv ⟨_,k,A,M.wk z λb x q l e=>⟨x,e,q⟩⟩) λb s1 m=>?_;obtain⟨l,B,n,r,w⟩:=m;have ha:l a=KE (.b6 o u):=r.keep a _ g.1 ai;exact⟨upd l a u,B.gA ha c.n1 c.n2 c.n3,w _ (r.gA g.1 c.hu c.ns)⟩
 .rw[pY j]at z;exact h.pt f s p H Q I ⟨ρ,k,S,z⟩
end
section
variable{X:Cx}{F:Fx}
noncomputable def EW:D->D->M D
 |.aQ ks a,d=>do M.need (kinds ks d);M.get (aF ks a d)|_,_=>M.fail
noncomputable def Ik(X:Cx)(F:Fx):R2:=λx y H Q=>∃(R:V->D->Prop)(a:KS)(o:L_)(ks f:List D)(c:List V)(d e:D),x=.ref a/\(∀b g s,Inv X b g H s->s.heap.get? a=KE o)/\bo F.toFb H o ks c/\Paired R c f/\Is F.toFb H y d/\kinds ks d/\aF ks f d=KE e/\∀z,R z e->Q z H
theorem vv(hu:X.A.units+2<L6)(hP:X.prog=F.P)(hw:X.w=F.w)(hK:X.K=F.K):uv X (Ik X F):=λf g c s k H x y v u Q I z t h L=>by
 obtain⟨R,a,o,ks,V,T,d,e,rfl,C,q,D,G,M,O,N⟩:=h;cases(show v=Lj a from z);have n:=C _ _ _ I;have key:=yn (A:=X.A) (E:=X.xe) (Q:=λr m=>EP X c k Q r m) hu I hK hP hw q n D G t M O λl U m S B J=>⟨l,H,S,B,N l J⟩;have p:=vp q n;unfold Rz;refine KH ?_;rw[getitemInPython_of_ne p.not_modules];refine KH (NV p PySem.F.slot_dict_getitem.lookup ?_);have i:wpAny (K4 X.prog X.w) X.A (Sh g KO (.ref a) u) (λr b=>wpAny (K4 X.prog X.w) X.A (letTemporaryGo f (.ref a) r>>=λ_=>pure r) (EP X c k Q) X.xe b) X.xe s:=by
  rw[L];exact wpAny_operating (MI key (λr b j=>KH (wpAny_letTemporaryGo (KP j))) λ_ _ x=>x)
 first
  |exact KP (KH i)|exact KH (KP (KH i))|exact KH i
theorem yo(hu:X.A.units+2<L6)(hP:X.prog=F.P)(hw:X.w=F.w):GK X F EW:=⟨λhK b c f s i H x y v u Q I p n h D=>by
 obtain⟨k,d,e,l,g,B,q⟩:=h;cases d with
 |aQ ks K=>
  obtain⟨E,q⟩:=q;obtain⟨z,J,G⟩:=M.run_get.mp q;simp only[Is]at g;obtain⟨a,m,rfl,⟨o,r,L⟩,t⟩:=g;exact vv hu hP hw hK b c f s i H _ y v u Q I p n ⟨_,a,o,ks,K,m,e,z,rfl,λ_ _ _ I=>r.get I hK,L,t.pr,B,E,J,λj C=>G j H .refl C⟩ D|_=>exact q.elim⟩
noncomputable def EX(neg:Bool):D->D->M D
 |d,.aQ ks _=>do M.need (kinds ks d);pure (.bl (if neg then !bN ks d else bN ks d))|_,_=>M.fail
theorem BP(hu:X.A.units+2<L6)(hP:X.prog=F.P)(hw:X.w=F.w):eE X F (Lx .In) (EX KO):=⟨λb s p H k x y v u d e Q I h g l hK i f q=>by cases e with
 |aQ ks B=>
  obtain⟨j,q⟩:=q;simp only[Is]at f;obtain⟨a,r,rfl,⟨o,c,m⟩,z⟩:=f;cases(show u=Lj a from g);exact vq hu I hK hP hw m (c.get I hK) c.2.1 i h j λt n=>⟨.bl (bN ks d),H,n,rfl,q _ H .refl (by simp only[Is];rfl)⟩|_=>exact q.elim⟩
theorem sY(hu:X.A.units+2<L6)(hP:X.prog=F.P)(hw:X.w=F.w):eE X F (Lx .NotIn) (EX KN):=⟨λb s p H k x y v u d e Q I h g l hK i f q=>by cases e with
 |aQ ks B=>
  obtain⟨j,q⟩:=q;simp only[Is]at f;obtain⟨a,r,rfl,⟨o,c,m⟩,z⟩:=f;cases(show u=Lj a from g);exact sX hu I hK hP hw m (c.get I hK) c.2.1 i h j λt n=>⟨.bl (!bN ks d),H,n,rfl,q _ H .refl (by simp only[Is];rfl)⟩|_=>exact q.elim⟩
noncomputable def Il(K:KZ)(H:Hp)(a:KS)(o:L_):Prop:=(∃u,H a=KE (.b6 o u))\/K.lookup a=KE o
noncomputable def Kk(K:KZ)(a:KS)(o:L_)(b:List V):It:=⟨λi H=>Il K H a o/\i<b.length,λi H x c=>c=H/\b[i]?=KE x,λi H=>Il K H a o/\b.length<=i⟩
theorem p_{P:Lb}{w:Lv}{K:KZ}{tg:K7}{a it:KS}{o:L_}{f:List V}{l:Array OD}{S:Nat}(hd:o.data=.dict l S)(t:aq f (l.toList.map (·.key)))(W:a≠it):Turn P w K tg (Kk K a o f) [it] it (λi h=>h.IsKeyIter it a i l.size S)where
 mem:=by simp
 obj:=λi h st b hb=>by
  have e:b=it:=by simpa using hb
  subst e;obtain⟨o,e,c,d⟩:=st;exact⟨o,e,λv z=>by rw[d]at z;cases z⟩
 keep:=λi h r st k=>st.at λo e=>k it (by simp) o e;item:=by
  intro X hP hw hK R i j s M H E I q st B;obtain⟨g,Q⟩:=B;have Y:f.length=l.size:=by simpa using t.length
  have A:s.heap.get? a=KE o:=by
   rcases g with⟨u,g⟩|g;.exact(I.aM a _ g).1
   .exact I.kH _ _ (by rw[hK];exact g)
  obtain⟨x,O⟩:∃x,f[i]?=KE x:=⟨f[i],by simp[Q]⟩;obtain⟨y,N,U⟩:=t.get O;have n:i<l.size:=by omega
  have ey:y=l[i].key:=by
   rw[Lr,Mg,Mt n]at N;exact(KY N).symm
  obtain⟨L,J,Z,G,D,C⟩:=q it (by simp);refine DictIt.rl st A hd n λr m T=>?_;have I1:Inv X j M H {s with heap:=r}:=I.turned (t':=s.toks) (λb o hb e=>(T.2 b hb).trans e) L J G D C;obtain⟨o',e,c,d⟩:=id m;exact⟨_,rfl,nq (s:={s with heap:=r}) e c d (by decide) ⟨x,H,I1,by rw[<-ey];exact U,⟨rfl,O⟩,m,λb hb=>(q b hb).1⟩⟩
 done:=by
  intro X hP hw hK R i j s M H E I q st B;obtain⟨g,Q⟩:=B;have Y:f.length=l.size:=by simpa using t.length
  have A:s.heap.get? a=KE o:=by
   rcases g with⟨u,g⟩|g;.exact(I.aM a _ g).1
   .exact I.kH _ _ (by rw[hK];exact g)
  obtain⟨L,J,Z,G,D,C⟩:=q it (by simp);exact DictIt.uK (I.ok.hd R) st A hd (by omega) λr eb=>⟨rfl,I.turned (t':=s.toks) (λb o hb e=>eb b o hb e) L J G D C⟩
 self:=λ_ _ _ _ _ st h=>Rg st h
theorem lM{P:Lb}{w:Lv}:∀{a:List (List NK×KS×V)}{xs:List (List NK×KS×KJ)},KA a xs->aq (a.map λx=>V.ref x.2.1) ((xs.map (Sr (cu P w))).map (·.key))
 |_,_,.nil=>.nil|_,_,.cons z t=>.cons (show Lj _=_ by rw[z.2.1]) (lM t)
theorem jT{B:Fb}{H:Hp}:∀{a:List (List NK×KS×V)},(∀x∈a,d6 B H x.2.1 x.1)->ab B H (a.map λx=>V.ref x.2.1) (a.map λx=>D.tup (x.1.map nD))
 |[],_=>.nil|x::r,h=>.cons (h x K2).is (jT λy b=>h y (K1 _ b))
theorem jU{B:Fb}{H:Hp}:∀{a:List (Key×V)},ab B H (a.map λx=>kV x.1) (a.map λx=>kD x.1)
 |[]=>.nil|(k,v)::ks=>.cons (by cases k<;>simp only[kD,kV,Is]) jU
theorem nO{H:Hp}{o:L_}{ks:List D}{g:List V}(h:bo F.toFb H o ks g):∃a b c,o.ExactDict/\o.data=.dict b c/\aq a (b.toList.map (·.key))/\ab F.toFb H a ks:=by
 rcases h.2 with⟨d,n,i,⟨b,c,f,e,_,k,_⟩,rfl,_⟩|⟨d,m,j,⟨b,c,f,e,l,_⟩,tp,rfl,_⟩;.exact⟨_,b,c,f,e,jE i k,jU⟩
 .exact⟨_,b,c,f,e,by rw[l];exact lM j,jT tp⟩
end
noncomputable def mC(X:Cx)(e:K7)(t:TE)(a:List (KS×L_))(s:KR)(b:St)(H:Hp):Prop:=(∀Q,t b H Q->wpAny (K4 X.prog X.w) X.A (MT e X.env) (EP X a b Q) X.xe s)/\∀(x:Lf)(c d:My)(gt:TG)(D:Ends),NX e (KE (.Name x c)) d.line X.env=pure KN->PG X (.Name x c) gt->Ay t gt D b H->wpAny (K4 X.prog X.w) X.A (exec (.Assign [.Name x c] e d) X.env) (SP X a D) X.xe s
structure DU(X:Cx)(F:Fx)(e:K7)(t:ah->M D):Prop where
 hK:X.K=F.K
 pu:∀pins s σ H,Inv X pins σ H s->mC X e (cF F t) pins s σ H
section
variable{X:Cx}{F:Fx}{e:K7}{pins:List (KS×L_)}{s:KR}{σ:St}{H:Hp}
theorem DU.de{t:ah->M D}(h:DU X F e t):DE X F e t:=⟨h.hK,λpins s σ H Q I q=>(h.pu pins s σ H I).1 Q q⟩
theorem DU.ref{t m:ah->M D}(h:DU X F e m)(r:∀ρ,Ref (t ρ) (m ρ)):DU X F e t:=⟨h.hK,λpins s σ H I=>⟨λQ⟨ρ,k,S,z⟩=>(h.pu pins s σ H I).1 Q ⟨ρ,k,S,r ρ _ _ _ z⟩,λx b a gt D c d⟨ρ,k,S,z⟩=>(h.pu pins s σ H I).2 x b a gt D c d ⟨ρ,k,S,r ρ _ _ _ z⟩⟩⟩
theorem nJ.pu{cmp:Option (KJ->Pu Unit)->Pu KJ}{t:TE}(w:nJ X cmp t)(E:MT e X.env=cmp KL)(g:∀u,evalThenUse e X.env u=(do let _<-cmp (KE u)))(I:Inv X pins σ H s):mC X e t pins s σ H:=by
 refine⟨λQ z=>w.pe E pins s σ H Q I z,λx P p2 gt Z m B z=>?_⟩;rw[exec_Assign_Name_used _ _ _ _ m];refine KH (Oi ?_);rw[g];refine KH (KH (w _ _ pins s σ H _ I z λD C j z=>?_));show wpAny (K4 X.prog X.w) X.A (PR (.Name x P) X.env (.ref D)) _ X.xe j;obtain⟨Y,M,q,R,a,l,c,f,le,T,k,G,J,y,h,o⟩:=z;have W:Inv X ((C,k)::pins) σ Y j:=M.dX λp r=>by
  rcases List.mem_cons.mp r with z|z
  .rw[z];exact⟨y,R,a,l,λv q=>by rw[h]at q;cases q⟩
  .exact M.pin p (Lg _ z)
 refine aU (B _ j σ _ (.ref D) (.ref D) Z.nx W rfl q) λ_ L i=>?_;obtain⟨d,N,K,O⟩:=i;obtain⟨U,S,_,_,_⟩:=K.pin (C,k) (Lg _ K2);refine⟨T,⟨k,G,J,U,h,o⟩,λh6 n=>KP (KP ?_)⟩;have V:Inv X pins d N L:=K.dX λp r=>K.pin p (Lg _ (K1 _ r));exact⟨d,N,V.turned (t':=L.toks) (it:=C) (λb ob hb e=>(n.2 b hb).trans e) S a (.inr le) c f,O⟩
theorem mC.imp{t t':TE}(h:mC X e t pins s σ H)(q:∀Q,t' σ H Q->t σ H Q):mC X e t' pins s σ H:=⟨λQ z=>h.1 Q (q Q z),λx b a gt D c d z=>h.2 x b a gt D c d (q _ z)⟩
noncomputable def Im(t:TE):TE:=λσ H Q=>t σ H λv c=>∃a b,v=.ref a/\c a=KE (.lst b)/\∀o,Q v (upd c a (.b6 o (.lst b)))
theorem BQ{tg:K7}{gt:TG}(h:PG X tg gt):PG X tg (λv σ H Q=>∃a xs,v=.ref a/\H a=KE (.lst xs)/\∀o,gt v σ (upd H a (.b6 o (.lst xs))) Q):=by
 intro pins s σ H v u Q I r⟨a,xs,e,ha,q⟩;obtain⟨_,b,n,d,c⟩:=I.aM a _ ha;exact h pins s σ _ v u Q (I.freeze ha c (λ_ z=>nomatch z) (λ_ _ z=>nomatch z) (λ_ z=>nomatch z) (λ_ z=>nomatch z)) r (q _)
theorem mC.b6{t:TE}(I:Inv X pins σ H s)(h:mC X e t pins s σ H):mC X e (Im t) pins s σ H:=by
 refine⟨λQ z=>?_,λx g f gt D j l z=>h.2 x g f _ D j (BQ l) z⟩;refine aU (h.1 _ z) λu s1 b=>?_;obtain⟨v,p,c,r,a,m,e,ha,d⟩:=b;obtain⟨_,i,n,o,k⟩:=c.aM a _ ha;exact⟨v,_,c.freeze ha k (λ_ z=>nomatch z) (λ_ _ z=>nomatch z) (λ_ z=>nomatch z) (λ_ z=>nomatch z),r,d _⟩
theorem yp(i:Nat){x:Lf}{a pos:My}{b:ah->M D}(hN:X.N.Nodup)(c:DU X F e b)(l:X.N[i]?=KE x)(g:Loc X.env.scope x)(j:NX e (KE (.Name x a)) pos.line X.env=pure KN)(m:X.fn x=KN\/X.env.scope.names.lookup x=KE .local):DS X F (.Assign [.Name x a] e pos) (λρ=>do let d<-b ρ;pure (.nx (ρ.set i (KE (.d d))))):=by
 refine⟨c.hK,λpins s σ H Z I⟨ρ,k,S,h⟩=>(c.pu pins s σ H I).2 x a pos (kW i) Z j (ma (i:=i) hN l g m) ?_⟩;refine cF.next S h λd r v q o p f n=>?_;exact n _ q o.kp (p.set i f)
end
section
variable{X:Cx}{F:Fx}{elt tg iter tg2 iter2:K7}{ifs ifs2:List K7}{pos:My}{scope:MQ}{g g2:D->ah->M ah}{tc tc2:ah->M Bool}{te:ah->M D}{tI tI2:ah->M (List D)}
theorem vw(own fr:List Lf)(i:List Nat)(d:X.calm=KN)(t:lA X.env.scope scope=KN)(U:i.map (λj=>X.N[j]?)=fr.map KE)(n:∀x∈fr,scope.names.lookup x=KE .free)(m:i.Nodup)(hw:DI X F tg iter tI)(W:∀b f C fp s H,DG (eP X b scope (own++fr) f C fp s H) F tg g)(V:∀b f C fp s H,pV (eP X b scope (own++fr) f C fp s H) F ifs tc)(Y:∀b f C fp s H,DE (eP X b scope (own++fr) f C fp s H) F elt te)(T:∀x,Nu iter X.env x=pure x):DU X F (.ListComp elt [⟨tg,iter,ifs,0⟩] scope pos) (λρ=>do let ds<-tI ρ;let r<-lB g tc te ds (cQ ρ own.length i);pure (.lst r)):=by
 refine⟨hw.hK,λb s E H I=>?_⟩;obtain⟨f,c⟩:=uX I.ok t;have P:mC X (.ListComp elt [⟨tg,iter,ifs,0⟩] scope pos) (u9 own.length i (Ic F tI) (H_ F g) (pM F tc) (gX (cF F te)) [] .lst) b s E H:=(lC (ok:=GI) (ob0:={cls:=.type "list",dict:=KL,data:=.seq ([]:List KJ).toArray}) (newAcc:=newObj (.type "list") (.seq #[])) (o:=HO.lst) (a0:=[]) (rd:=gX (cF F te)) (body:=λD env=>do let _<-call (.builtin "list.append") [.ref D,<-MT elt env]) d c U n hw.pi rfl (lD rfl rfl) (λh=>LC h) (λa ob v⟨_,_,_,_,e⟩z=>by rw[e]at z;cases z) ⟨Mo _,[],_,.nil,rfl⟩ (λz=>nomatch z) (λ_ _ _=>rfl) (λ_ _ _=>rfl) (λ_ _ _=>rfl) (λb cs C fp s H=>(W b cs C fp s H).pg) (λb cs C fp s H=>(V b cs C fp s H).pi) (λb cs C fp s H D o=>lu o (Y b cs C fp s H).pe) nK T).pu rfl (λ_=>rfl) I;refine(P.b6 I).imp λQ l=>?_;obtain⟨ρ,k,S,h⟩:=l;refine⟨ρ,k,S,M.wk h λds k1 q J H1 y O=>?_⟩;have A:=(S.mono y).eP own.length m;refine xZ O A q λG Z B H' L w R K hz p u _=>⟨p,G,rfl,ai,λo=>?_⟩;rw[cf];exact K _ _ ((y.trans w).trans (.new u)) (bF (k:=L) (w.live A.live) u R)
end
noncomputable def gB:List D->List D->D->D->List D
 |k::ks,v::a,d,e=>(if eG k d then e else v)::gB ks a d e|_,_,_,_=>[]
noncomputable def putD(ks ds:List D)(d e:D):List D×List D:=if bN ks d then(ks,gB ks ds d e)else(ks++[d],ds++[e])
section
variable{B:Fb}{H:Hp}
theorem zR{R:V->D->Prop}{k:Key}{y:V}{e:D}(f:R y e):∀{a:List (Key×V)}{ds:List D},Paired R (a.map (·.2)) ds->Paired R ((a.map λb=>if b.1=k then(b.1,y)else b).map (·.2)) (gB (a.map λx=>kD x.1) ds (kD k) e)
 |[],_,.nil=>.nil|(k0,j)::r,d::ds,.cons i h=>by
  have c:=zR (k:=k) f h;simp only[Li,gB,jP];by_cases g:k0=k
  .simp only[g,decide_true,if_true];exact .cons f c
  .simp only[g,decide_false,if_false];exact .cons i c
theorem zS{R:V->D->Prop}{k:List NK}{y:V}{e:D}(c:R y e):∀{a:List (List NK×KS×V)}{ds:List D},Paired R (a.map (·.2.2)) ds->Paired R ((a.map λx=>if x.1=k then(x.1,x.2.1,y)else x).map (·.2.2)) (gB (a.map λx=>D.tup (x.1.map nD)) ds (.tup (k.map nD)) e)
 |[],_,.nil=>.nil|(k0,j,i)::r,d::ds,.cons h g=>by
  have b:=zS (k:=k) c g;simp only[Li,gB,jQ];by_cases f:k0=k
  .simp only[f,decide_true,if_true];exact .cons c b
  .simp only[f,decide_false,if_false];exact .cons h b
theorem gC{f e:Type}{R:f->e->Prop}:∀{a:List f}{b:List e}{c:List f}{d:List e},Paired R a b->Paired R c d->Paired R (a++c) (b++d)
 |_,_,_,_,.nil,q=>q|_,_,_,_,.cons h t,q=>.cons h (gC t q)
theorem KA.xE{k:List NK}{y:V}{u:KJ}(r:RelV y u):∀{a:List (List NK×KS×V)}{xs:List (List NK×KS×KJ)},KA a xs->KA (a.map λx=>if x.1=k then(x.1,x.2.1,y)else x) (xs.map (putAt k u))
 |_,_,.nil=>.nil|(k0,j,f)::h,(i,b1,g)::xs,.cons z t=>by
  obtain⟨d,c,b⟩:=z;simp only at d c b;subst d c;refine .cons ?_ (KA.xE r t);by_cases e:k0=k;.simp only[e,if_true,putAt];exact⟨trivial,trivial,r⟩
  .simp only[e,if_false,putAt];exact⟨trivial,trivial,b⟩
end
section
variable{R:V->D->Prop}{X:Cx}{F:Fx}{pins:List (KS×L_)}{σ:St}{H:Hp}{s:KR}{a:KS}{o:L_}{ks ds:List D}{vs:List V}{d e:D}{x y:V}{v r:KJ}{A:Lz}{E:KJ->KR->Prop}
noncomputable def nP(R:V->D->Prop)(F:Fx)(H:Hp)(ks ds:List D)(d e:D)(o':L_):Prop:=(∃b,bo F.toFb H o' (putD ks ds d e).1 b/\Paired R b (putD ks ds d e).2)/\∀v,o'.data≠.cell v
theorem rA{b:List (Key×V)}{us:List (Key×KJ)}{k:Key}{o':L_}(h:KV b us)(i:b.length<KU)(f:Paired R (b.map (·.2)) ds)(c:R y e)(g:RelV y r)(ob:gY F.P F.w o' (stored us k r)):nP R F H (b.map λx=>kD x.1) ds (kD k) e o':=by
 refine⟨⟨(putK b k y).map (·.2),⟨?_,.inl ⟨putK b k y,_,h.put k g,ob,?_,rfl⟩⟩,?_⟩,ob.mz⟩
 .unfold putD;split;.simp;omega
  .simp;omega
 .unfold putD putK;rw[vo,<-jw];split
  .rw[LA];refine LV λx _=>?_;simp only[NG];split<;>rfl
  .simp
 .unfold putD putK;rw[vo,<-jw];split;.exact zR c f
  .rw[M4];exact gC f (.cons c .nil)
theorem rB{c:List (List NK×KS×V)}{xs:List (List NK×KS×KJ)}{k:List NK}{b:KS}{o':L_}(g:KA c xs)(p:c.length<KU)(n:Paired R (c.map (·.2.2)) ds)(tp:∀x∈c,d6 F.toFb H x.2.1 x.1)(t:d6 F.toFb H b k)(m:R y e)(l:RelV y r)(ob:gZ F.P F.w o' (Sn xs k b r)):nP R F H (c.map λx=>D.tup (x.1.map nD)) ds (.tup (k.map nD)) e o':=by
 have q:=ym (k:=k) g;by_cases f:(SS xs k).isSome=KN
 .have j:Sn xs k b r=xs.map (putAt k r):=by unfold Sn;rw[if_pos f]
  have i:putD (c.map λx=>D.tup (x.1.map nD)) ds (.tup (k.map nD)) e=(c.map λx=>D.tup (x.1.map nD),gB (c.map λx=>D.tup (x.1.map nD)) ds (.tup (k.map nD)) e):=by unfold putD;rw[q,if_pos f]
  rw[j]at ob;refine⟨?_,ob.mz⟩;rw[i];refine⟨_,⟨by simp;omega,.inr ⟨c.map λx=>if x.1=k then(x.1,x.2.1,y)else x,_,KA.xE l g,ob,λx h=>?_,?_,rfl⟩⟩,zS m n⟩
  .obtain⟨z,p,rfl⟩:=List.mem_map.mp h;split<;>exact tp z p
  .rw[LA];refine LV λx _=>?_;simp only[NG];split<;>rfl
 .have j:Sn xs k b r=xs++[(k,b,r)]:=by unfold Sn;rw[if_neg f]
  have i:putD (c.map λx=>D.tup (x.1.map nD)) ds (.tup (k.map nD)) e=(c.map (λx=>D.tup (x.1.map nD))++[.tup (k.map nD)],ds++[e]):=by unfold putD;rw[q,if_neg f]
  rw[j]at ob;refine⟨?_,ob.mz⟩;rw[i];refine⟨_,⟨by simp;omega,.inr ⟨c++[(k,b,y)],_,Paired.snoc g ⟨rfl,rfl,l⟩,ob,λx h=>?_,by simp,rfl⟩⟩,by rw[M4];exact gC n (.cons m .nil)⟩;rcases List.mem_append.mp h with z|z;.exact tp x z
  .rw[List.mem_singleton.mp z];exact t
theorem yq{Q:Unit->KR->Prop}(hu:A.units+1<L6)(I:Inv X pins σ H s)(hK:X.K=F.K)(hP:X.prog=F.P)(hw:X.w=F.w)(h:bo F.toFb H o ks vs)(J:s.heap.get? a=KE o)(G:Paired R vs ds)(i:Is F.toFb H x d)(z:RelV x v)(C:R y e)(u:RelV y r)(g:kinds ks d)(j:ks.length<KU)(q:∀h' o' L,Mr a s.heap h'->h'.get? a=KE o'->nP R F H ks ds d e o'->Q () {s with heap:=h',toks:=L}):wpAny (K4 X.prog X.w) A (dictSet a v r) Q E s:=by
 rcases g with⟨g,k,rfl⟩|⟨g,k,rfl⟩
 .obtain⟨l,N,B,ob,rfl,rfl⟩:=h.ES g;rw[<-hP,<-hw]at ob;have:=fR i;subst this;rw[Lq]at j;refine wpAny_dictSet_pairs (hsz:=by rw[<-Paired.length B];omega) (jx z) (ob.at J) λh' f n=>?_;obtain⟨o',p,c⟩:=gY.of f;exact q h' o' _ n p (rA B j G C u (by rw[<-hP,<-hw];exact c))
 .obtain⟨l,M,m,ob,tp,rfl,rfl⟩:=h.ET g;rw[<-hP,<-hw]at ob;obtain⟨b,rfl,t⟩:=d6.of i;cases(show v=Lj b from z);rw[Lq]at j;refine wpAny_dictSet_heap (hsz:=by rw[<-Paired.length m];omega) (show(cu X.prog X.w).room A from hu) (fB I hK t) (ob.at J (fC I hK m tp)) λh' f n=>?_;obtain⟨o',p,c⟩:=gZ.of f;exact q h' o' _ n p (rB m j G tp t C u (by rw[<-hP,<-hw];exact c))
theorem iN{Q:Unit->KR->Prop}(hu:A.units+2<L6)(I:Inv X pins σ H s)(hK:X.K=F.K)(hP:X.prog=F.P)(hw:X.w=F.w)(h:bo F.toFb H o ks vs)(J:s.heap.get? a=KE o)(G:Paired R vs ds)(i:Is F.toFb H x d)(z:RelV x v)(C:R y e)(u:RelV y r)(g:kinds ks d)(j:ks.length<KU)(q:∀h' o' L,Mr a s.heap h'->h'.get? a=KE o'->nP R F H ks ds d e o'->Q () {s with heap:=h',toks:=L}):wpAny (K4 X.prog X.w) A (setItem (.ref a) v r) Q E s:=by
 rcases g with⟨g,k,rfl⟩|⟨g,k,rfl⟩
 .obtain⟨l,N,B,ob,rfl,rfl⟩:=h.ES g;rw[<-hP,<-hw]at ob;have:=fR i;subst this;rw[Lq]at j;refine wpAny_setItem_pairs (hsz:=by rw[<-Paired.length B];omega) (jx z) (ob.at J) λh' f n=>?_;obtain⟨o',p,c⟩:=gY.of f;exact q h' o' _ n p (rA B j G C u (by rw[<-hP,<-hw];exact c))
 .obtain⟨l,M,m,ob,tp,rfl,rfl⟩:=h.ET g;rw[<-hP,<-hw]at ob;obtain⟨b,rfl,t⟩:=d6.of i;cases(show v=Lj b from z);rw[Lq]at j;refine wpAny_setItem_heap (hsz:=by rw[<-Paired.length m];omega) (fy hu) (fB I hK t) (ob.at J (fC I hK m tp)) λh' f n=>?_;obtain⟨o',p,c⟩:=gZ.of f;exact q h' o' _ n p (rB m j G tp t C u (by rw[<-hP,<-hw];exact c))
end
theorem fL.EY{B:Fb}{H:Hp}{a:KS}{d:D}(h:fL B H a d):∃u,H a=KE u:=by cases d with
 |lst e=>obtain⟨c,b,f⟩:=h;exact⟨_,b⟩|aQ ks e=>obtain⟨o,c,b,_⟩:=h;exact⟨_,b⟩|_=>exact h.elim
noncomputable def vx(ρ:ah):Bool:=ρ.all λx=>match x with
 |some (.fI _ _)=>KO|_=>KN
theorem vy{ρ:ah}(h:vx ρ=KN){i:Nat}{ks ds:List D}:ρ[i]?≠KE (KE (.fI ks ds)):=λe=>by
 have:=List.all_eq_true.mp h _ (LR e);cases this
section
variable{X:Cx}{F:Fx}{σ:St}{H:Hp}{ρ:ah}{k:Nat}
theorem cv.mD{p:KS}{o':HO}{d:D}(S:cv F ρ k σ H)(i:Nat)(hN:vx ρ=KN)(m:H p=KL)(h:fL F.toFb (upd H p o') p d):cv F (ρ.set i (KE (.own d))) k (σ.set i (KE (.ref p))) (upd H p o'):=by
 have r:=S.mono (Ext.new (F:=F.toFb) (k:=k) (o:=o') m);have ne:p≠F.p:=g0 S.live m;have G:F.H0 p=KL:=by cases e:F.H0 p with
  |none=>rfl|some o=>have:=S.ext.keep p o ne e;rw[m]at this;cases this
 have l:∀{j:Nat}{y:W},ρ[j]?=KE (KE y)->y.eQ=KN->σ[j]?≠KE (KE (.ref p)):=λ{j y}e o z=>by
  obtain⟨v,g,n⟩:=S.at_ j y e;rw[z]at g;cases g;cases y with
  |own K=>
   obtain⟨b,I,_,_,q⟩:=n;cases I;obtain⟨u,q⟩:=q.EY;rw[m]at q;cases q|fI ks J=>exact vy hN e|_=>cases o
 refine⟨by simp[S.len],λj x e=>?_,λt s x y v f a c B A s1=>?_,λt s ks J w a c o=>?_,r.live,r.ext,r.xK⟩
 .rw[Mk]at e⊢;by_cases C:i=j
  .subst C;rw[if_pos rfl]at e⊢;split at e
   .rename_i E;cases e;rw[if_pos (by rw[<-S.len];exact E)];exact⟨_,rfl,p,rfl,ne,G,h⟩
   .cases e
  .rw[if_neg C]at e⊢;exact r.at_ j x e
 .rw[Mk]at a c s1⊢;by_cases g:i=t
  .subst g;rw[if_pos rfl]at s1;rw[if_neg f]at c⊢;split at s1;.cases s1;exact l c A
   .cases s1
  .rw[if_neg g]at a s1;by_cases n:i=s
   .subst n;rw[if_pos rfl];split;.intro z;cases z;exact l a B s1
    .exactλz=>nomatch z
   .rw[if_neg n]at c⊢;exact S.apart t s x y v f a c B A s1
 .rw[Mk]at a;split at a;.split at a<;>cases a
  .exact absurd a (vy hN)
end
section
variable{X:Cx}{F:Fx}{e:K7}{es:List K7}{tas:ah->M (List A)}{ta tk:ah->M D}{pos pos' lp:My}{x:Lf}
theorem yr(i:Nat)(hN:X.N.Nodup)(ha:DA X F es tas)(n:X.N[i]?=KE x)(m:Loc X.env.scope x)(o:X.fn x=KN\/X.env.scope.names.lookup x=KE .local):DS X F (.Assign [.Name x pos'] (.List es lp) pos) (λρ=>do M.need (vx ρ=KN);let ds<-gu (<-tas ρ);M.need (ds.length<=KU);pure (.nx (ρ.set i (KE (.own (.lst ds)))))):=⟨ha.hK,(cD (i:=i) hN n m (mh ha.pa) rfl o).imp λZ t H a=>by
  obtain⟨ρ,k,S,hN,h⟩:=a;refine pq.next S h λu g f v r s j q=>?_;obtain⟨ds,rfl,c⟩:=bT q;obtain⟨l,c⟩:=c;have d:=bU j;refine⟨by rw[d.length];exact l,λp b=>?_⟩;exact c _ _ (r.trans (.new b)).kp (s.mD i hN b ⟨f,ai,d.mono (Ext.new (k:=g) b).kp⟩)⟩
noncomputable def bV:L_:={cls:=.type "dict",dict:=KL,data:=.dict #[]}
theorem g_{B:Fb}{H:Hp}:bo B H bV [] []:=⟨Mo _,.inl ⟨[],[],.nil,⟨#[],0,⟨rfl,rfl,rfl⟩,rfl,λe a=>by simp at a,.nil,.nil⟩,rfl,rfl⟩⟩
theorem mE{P:Lb}{w:Lv}{H:Hp}{h:Lu}{a:KS}{o:L_}(e:h.get? a=KE o):bj P w H h a (kI a o):=⟨e,⟨o,e⟩,λc b q st=>st _ q⟩
theorem yt(i:Nat)(hN:X.N.Nodup)(hK:X.K=F.K)(j:X.N[i]?=KE x)(g:Loc X.env.scope x)(l:X.fn x=KN\/X.env.scope.names.lookup x=KE .local):DS X F (.Assign [.Name x pos'] (.Dict [] [] lp) pos) (λρ=>do M.need (vx ρ=KN);pure (.nx (ρ.set i (KE (.own (.aQ [] [])))))):=by
 have pe:PE X (.Dict [] [] lp) (λ_ H Q=>∀p,H p=KL->(p==Mu)=KO->Q (.ref p) (upd H p (kI p bV))):=λc s f H Q I h=>wpAny_Dict_empty ⟨.ref s.heap.objs.size,_,I.laid (a:=s.heap.objs.size) (o:=kI s.heap.objs.size bV) (t':=s.toks) (λ_ _ q=>KQ _ q) (K8 _) (mE (K9 _ rfl)),rfl,h _ (I.aM.fresh (K8 _)) (beq_eq_false_iff_ne.mpr (LP (Lp I.GG)))⟩;exact⟨hK,(cD (i:=i) hN j g pe rfl l).imp λZ f H⟨ρ,k,S,hN,h⟩p d b=>h _ _ (Ext.new (k:=k) d).kp (S.mD i hN d ⟨_,[],ai,b,g_,.nil⟩)⟩
noncomputable def eW(ρ:ah)(i:Nat):Option D:=match ρ[i]? with
 |some (KE (.own d))=>KE d|_=>KL
theorem cR{ρ:ah}{i:Nat}{d:D}(h:eW ρ i=KE d):ρ[i]?=KE (KE (.own d)):=by
 unfold eW at h;split at h;.rename_i y e;cases h;exact e
 .cases h
noncomputable def jV:D->M (List D)
 |.lst a=>pure a|_=>M.fail
theorem dO{d:D}{k Q E}(h:(jV d).run k Q E):∃xs,d=.lst xs/\Q xs k:=by cases d with
 |lst xs=>exact⟨xs,rfl,h⟩|_=>exact h.elim
theorem BR(i:Nat){np q p:My}(E:X.N[i]?=KE x)(B:m_ X.env.scope x)(hd:(x==("__debug__":Lf))=KO)(m:(x==("__classdict__":Lf))=KO)(ha:DE X F e ta)(C:(q.endLine==p.line)=KN)(l:Ld [e] X.env=(KO,MT e X.env)::Ld [] X.env):DS X F (.Expr (.Call (.Attribute (.Name x np) "append" q) [e] [] p) pos) (λρ=>do
   let ds<-jV (<-M.get (eW ρ i))let d<-ta ρ;M.need (ds.length<KU)pure (.nx (ρ.set i (KE (.own (.lst (ds++[d]))))))):=by
 have pe:=qZ (X:=X) (name:="append") (apos:=q) (cpos:=p) NM PZ (by rfl) lj (bP (pos:=np) E B hd m) (aP ha.pe bQ l) rfl (by rw[l];rfl) C l rfl;refine⟨ha.hK,(l_ pe rfl).imp λZ I H⟨ρ,k,S,h⟩=>?_⟩;obtain⟨J,t,h⟩:=M.run_get.mp h;obtain⟨ds,rfl,h⟩:=dO h;obtain⟨v,g,a,rfl,b⟩:=S.at_ i _ (cR t);obtain⟨j,s,ix⟩:=b.2.2;refine⟨_,g,.inl ⟨rfl,j,.inl (.inl s)⟩,?_⟩;refine cF.next S h λd r u w o G y n=>?_;obtain⟨z,n⟩:=n;have c:=o.keep a _ b.1 s;have f:=ix.mono o.kp;refine⟨a,j,u,rfl,rfl,c,by rw[f.length];exact z,?_⟩;have kp:Kp F.toFb w r (upd w a (.lst (j++[u]))) r:=Kp.own b.1 c rfl;refine n _ _ (o.kp.trans kp) ?_;exact G.ef (cR t) g b.1 b.2.1 c rfl ⟨a,rfl,b.1,b.2.1,j++[u],ai,(f.append (.cons y .nil)).mono kp⟩
end
section
variable{X:Cx}{F:Fx}{e ke:K7}{ta tk:ah->M D}{pos pos' lp:My}{x:Lf}
theorem hJ{c:List (KS×L_)}{d:St}{H:Hp}{s:KR}{a:KS}{o o':L_}{h':Lu}{tk:Nat}(I:Inv X c d H s)(e:H a=KE (kI a o))(g:Mr a s.heap h')(f:h'.get? a=KE o'):Inv X c d (upd H a (kI a o')) {s with heap:=h',toks:=tk}:=I.write (x:=a) (e:=a) (by rw[e];exact trivial) (.inl rfl) (λb u hb q=>(g.2 b hb).trans q) ⟨_,f⟩ (mE f)
noncomputable def rC:D->M (List D×List D)
 |.aQ ks a=>pure (ks,a)|_=>M.fail
theorem sZ{d:D}{k Q E}(h:(rC d).run k Q E):∃ks ds,d=.aQ ks ds/\Q (ks,ds) k:=by cases d with
 |aQ ks ds=>exact⟨ks,ds,rfl,h⟩|_=>exact h.elim
theorem BS(i:Nat){np:My}(hu:X.A.units+2<L6)(hP:X.prog=F.P)(hw:X.w=F.w)(hi:X.N[i]?=KE x)(hv:m_ X.env.scope x)(hd:(x==("__debug__":Lf))=KO)(Y:(x==("__classdict__":Lf))=KO)(hk:DE X F ke tk)(ha:DE X F e ta)(hs:NX e (KE (.Subscript (.Name x np) ke pos')) pos.line X.env=pure KO):DS X F (.Assign [.Subscript (.Name x np) ke pos'] e pos) (λρ=>do
   let d<-ta ρ;let b<-rC (<-M.get (eW ρ i))let q<-tk ρ;M.need (b.1.length<KU/\kinds b.1 q)pure (.nx (ρ.set i (KE (.own (.aQ (putD b.1 b.2 q d).1 (putD b.1 b.2 q d).2)))))):=by
 refine⟨ha.hK,λc s B H Z I⟨ρ,k,S,h⟩=>?_⟩;let R2:D->List D×List D->D->M Fl:=λd b q=>do
  M.need (b.1.length<KU/\kinds b.1 q)pure (.nx (ρ.set i (KE (.own (.aQ (putD b.1 b.2 q d).1 (putD b.1 b.2 q d).2)))))
 let R:D->M Fl:=λd=>do
  let b<-rC (<-M.get (eW ρ i))let q<-tk ρ;R2 d b q
 refine Qt (aU (ha.pe c s B H (λu z=>∃d m,Ext F.toFb H k z m/\cv F ρ m B z/\Is F.toFb z u d/\(R d).run m (rb F Z H k) F.E) I (cF.next S h λd m u z e1 K U n=>⟨d,m,e1,K,U,n⟩)) λr s1⟨u,z,I1,ru,d,m,e1,K,U,n⟩=>?_) hs;obtain⟨d0,h0,n⟩:=M.run_get.mp n;obtain⟨ks,ds,rfl,n⟩:=sZ n;obtain⟨v,G,a,rfl,l⟩:=K.at_ i _ (cR h0);refine aU (bP (pos:=np) hi hv hd Y c s1 B z (λv L=>v=.ref a/\L=z) I1 ⟨_,G,rfl,rfl⟩) λov s2 j=>?_;obtain⟨w,L,I2,Q,ew,eH⟩:=j;subst ew eH;cases(show ov=Lj a from Q);refine aU (hk.pe c s2 B L (λy t=>∃q g,Ext F.toFb L m t g/\cv F ρ g B t/\Is F.toFb t y q/\(R2 d (ks,ds) q).run g (rb F Z H k) F.E) I2 (cF.next K n λq g y t p S3 T J=>⟨q,g,p,S3,T,J⟩)) λkv s3 j=>?_;obtain⟨y,t,I3,ry,q,g,p,S3,T,J⟩:=j;obtain⟨⟨hz,W⟩,J⟩:=J;obtain⟨o,xs,ho,C,dd,ia⟩:=l.2.2;have f:=p.keep a _ l.1 ho;have V:s3.heap.get? a=KE o:=(I3.aM a _ f).1;refine iN (F:=F) hu I3 ha.hK hP hw (dd.mono p.kp) V (ia.mono p.kp).pr T ry (U.mono p.kp) ru W hz λh' o' tk sb eo po=>?_;obtain⟨⟨O,d1,d2⟩,_⟩:=po;replace d2:=jC d2;have kp:Kp F.toFb t g (upd t a (kI a o')) g:=Kp.own l.1 f rfl;refine⟨B,_,hJ I3 f sb eo,J _ _ (((e1.trans p).kp).trans kp) ?_⟩;exact S3.ef (cR h0) G l.1 l.2.1 f rfl ⟨a,rfl,l.1,l.2.1,o',O,ai,C,d1.mono kp,d2.mono kp⟩
end
section
variable{X:Cx}{F:Fx}{e:K7}{ta:ah->M D}{pos pos' lp:My}{x y:Lf}
noncomputable def EZ:V->List V->Hp->VK->Prop:=λx d H Q=>∃l b c a,x=.ref l/\d=[.ref b]/\H l=KE (.lst c)/\Rd H b (.lst a)/\c.length+a.length<=KU/\Q .bw (upd H l (.lst (c++a)))
theorem yu:HM X "list.extend" EZ:=by
 intro i s A H x G v J Q I k m h;obtain⟨l,b,E,B,rfl,rfl,j,t,K,q⟩:=h;cases k;obtain⟨u,rfl,o⟩:=m.one;cases o;obtain⟨z,c,n,r,L,e⟩:=I.AV j;obtain⟨C,a,n2,g,w⟩:=t.ok I.aM;have p:=g.length;have f:c.toArray.size+a.toArray.size<=KU:=by rw[K3,K3];omega
 have d:¬(!c.toArray.isEmpty&&Oo (c.toArray.size+a.toArray.size))=KN:=by
  rw[uw f,Bool.and_false];exact La
 refine RK P0 ⟨_,e,rfl⟩ PySem.F.entry_list_extend (PySem.F.args_list_extend_2 _ _) (AutoSeq1.list_extend_list_list_0 l c.toArray n b a.toArray n2 d (by rw[K3];omega) (by omega)) ⟨e,w,?_⟩;refine⟨.bw,_,I.AU (its':=c++a) j e (by simp) (r.append g) ?_,rfl,q⟩;rw[LZ];omega
theorem BU(i:Nat){np t s:My}(L:X.N[i]?=KE x)(J:m_ X.env.scope x)(hd:(x==("__debug__":Lf))=KO)(p:(x==("__classdict__":Lf))=KO)(ha:DE X F e ta)(K:(t.endLine==s.line)=KN)(o:Ld [e] X.env=(KO,MT e X.env)::Ld [] X.env):DS X F (.Expr (.Call (.Attribute (.Name x np) "extend" t) [e] [] s) pos) (λρ=>do
   let ds<-jV (<-M.get (eW ρ i))let q<-jV (<-ta ρ)M.need (ds.length+q.length<=KU)pure (.nx (ρ.set i (KE (.own (.lst (ds++q))))))):=by
 have pe:=qZ (X:=X) (name:="extend") (apos:=t) (cpos:=s) NM P0 (by rfl) yu (bP (pos:=np) L J hd p) (aP ha.pe bQ o) rfl (by rw[o];rfl) K o rfl;refine⟨ha.hK,(l_ pe rfl).imp λZ P H⟨ρ,k,S,h⟩=>?_⟩;obtain⟨Q,C,h⟩:=M.run_get.mp h;obtain⟨ds,rfl,h⟩:=dO h;obtain⟨v,j,a,rfl,c⟩:=S.at_ i _ (cR C);obtain⟨m,B,ix⟩:=c.2.2;refine⟨_,j,.inl ⟨rfl,m,.inl (.inl B)⟩,?_⟩;refine cF.next S h λd w u E r O A l=>?_;obtain⟨q,rfl,l⟩:=dO l;obtain⟨I,l⟩:=l;have f:=r.keep a _ c.1 B;have g:=ix.mono r.kp;simp only[Is]at A;obtain⟨b,n,rfl,G,z⟩:=A;refine⟨a,b,m,n,rfl,rfl,f,.inr G.2,by rw[g.length,z.length];exact I,?_⟩;have kp:Kp F.toFb E w (upd E a (.lst (m++n))) w:=Kp.own c.1 f rfl;refine l _ _ (r.kp.trans kp) ?_;exact O.ef (cR C) j c.1 c.2.1 f rfl ⟨a,rfl,c.1,c.2.1,m++n,ai,(g.append z).mono kp⟩
end
section
variable{X:Cx}{F:Fx}
variable{o e:K7}{es:List K7}{to:ah->M D}{tas:ah->M (List A)}{name:Lf}{ap cp:My}{T id:String}{rc:D->Bool}{m:D->List D->M D}
noncomputable def isStr:D->Bool
 |.str _=>KN|_=>KO
end
noncomputable def JN(x:Lf):It:=⟨λi _=>i<x.cps.size,λi H v a=>a=H/\∃c,x.cps[i]?=KE c/\v=.str ⟨#[c]⟩,λi _=>x.cps.size<=i⟩
theorem nQ{P:Lb}{w:Lv}{K:KZ}{tg:K7}{it:KS}{x:Lf}{t:SH}{ty:String}(m:["enumerate","zip","dict_itemiterator","dict_reverseitemiterator","odict_iterator","itertools.zip_longest","itertools.pairwise"].contains ty=KO)(L:∀{A:Lz}{E:KJ->KR->Prop}{s:KR}{i c:Nat}{Q:Option KJ->KR->Prop},s.heap.IsStrIter it ty x t i->x.cps[i]?=KE c->(∀h',h'.IsStrIter it ty x t (i+1)->Mr it s.heap h'->Q (KE (.str ⟨#[c]⟩ s.toks)) {s with heap:=h',toks:=s.toks+1})->wpAny (K4 P w) A (N1 (.ref it)) Q E s)(M:∀{A:Lz}{E:KJ->KR->Prop}{s:KR}{i:Nat}{Q:Option KJ->KR->Prop},A.handled=KL->s.heap.IsStrIter it ty x t i->x.cps[i]?=KL->(∀h',O3 it s.heap h'->Q KL {s with heap:=h'})->wpAny (K4 P w) A (N1 (.ref it)) Q E s)(J:∀{A:Lz}{E:KJ->KR->Prop}{s:KR}{i:Nat}{Q:KJ->KR->Prop},s.heap.IsStrIter it ty x t i->Q (.ref it) s->wpAny (K4 P w) A (Sb (.ref it)) Q E s):Turn P w K tg (JN x) [it] it (λi h=>h.IsStrIter it ty x t i)where
 mem:=by simp
 obj:=λi h st b hb=>by
  have e:b=it:=by simpa using hb
  subst e;obtain⟨o,e,c,d⟩:=st;exact⟨o,e,λv z=>by rw[d]at z;cases z⟩
 keep:=λi h h' st k=>by
  obtain⟨o,e,r⟩:=st;exact⟨o,k it (by simp) o e,r⟩
 item:=by
  intro X hP hw hK F i g s C H E I l st n;subst hP hw hK;obtain⟨B,y,N,u,q,p⟩:=l it (by simp);have D:x.cps[i]?=KE x.cps[i]:=Mt n;refine L st D λh' j G=>?_;have R:Inv X g C H {s with heap:=h',toks:=s.toks+1}:=I.turned (t':=s.toks+1) (λb o hb e=>(G.2 b hb).trans e) B y u q p;obtain⟨o,e,c,d⟩:=id j;exact⟨_,rfl,nq (s:={s with heap:=h',toks:=s.toks+1}) e c d m ⟨.str ⟨#[x.cps[i]]⟩,H,R,⟨_,rfl⟩,⟨rfl,_,D,rfl⟩,j,λb hb=>(l b hb).1⟩⟩
 done:=by
  intro X hP hw hK F i g s C H E I l st n;subst hP hw hK;obtain⟨B,y,N,u,q,p⟩:=l it (by simp);exact M (I.ok.hd F) st (NP n) λh' O=>⟨rfl,I.turned (t':=s.toks) (λb o hb e=>O b o hb e) B y u q p⟩
 self:=λ_ _ _ _ _ st h=>J st h
noncomputable def xh(x:Lf):List D:=x.cps.toList.map λc=>.str ⟨#[c]⟩
theorem nR{B:Fb}{H:Hp}{k:Nat}{x:Lf}(h:x.length<=KU):sU B (JN x) (xh x) H k where
 step:=λj d i g hd e l=>by
  unfold xh at hd;rw[Lr]at hd;cases b:x.cps.toList[j]? with
  |none=>rw[b]at hd;cases hd|some c=>
   rw[b]at hd;cases hd;have a:x.cps[j]?=KE c:=by simpa using b
   refine⟨(Array.getElem?_eq_some_iff.mp a).1,λy n z=>?_⟩;obtain⟨rfl,m,f,rfl⟩:=z;rw[a]at f;cases f;exact⟨.refl,by simp only[Is]⟩
 stop:=λi g e l=>by
  show x.cps.size<=(xh x).length;simp[xh]
 len:=by
  have:x.cps.size<=KU:=h;simpa[xh]using this
noncomputable def cB:D->Option (List D)
 |.tup a=>KE a|.lst a=>KE a|.aQ ks _=>KE ks|.str x=>if x.length<=KU then KE (xh x)else KL|_=>KL
section
variable{X:Cx}{F:Fx}
theorem yv{tg a:K7}{ta:ah->M D}(ha:DE X F a ta):DI X F tg a (λρ=>do M.get (cB (<-ta ρ))):=⟨ha.hK,λl s σ H R I P=>by
  obtain⟨ρ,k,S,h⟩:=P;refine aU (ha.pe l s σ H _ I (cF.next S h (Q:=λv c=>∃d n A,Ext F.toFb H k c n/\Is F.toFb c v d/\cB d=KE A/\c F.p≠KL/\(∀J Z,Ext F.toFb H k Z n->sU F.toFb J A Z n->R J Z)) λd n v c r S1 f L=>by
   obtain⟨A,e,Y⟩:=M.run_get.mp L;exact⟨d,n,A,r,f,e,S1.live,Y⟩)) λv s1⟨x,c,g,C,d,n,A,r,f,m,lv,q⟩=>?_;have SU:∀b∈[s1.heap.objs.size],dG X l c b:=λb hb=>by
   have e:b=s1.heap.objs.size:=by simpa using hb
   subst e;exact g.AB (K8 _) (g.aM.fresh (K8 _))
  cases d with
  |tup xs=>
   cases m;simp only[Is]at f;obtain⟨a,B,rfl,w,G⟩:=f;cases(show v=Lj a from C);obtain⟨u,T,p,j⟩:=g.tuple (show gj X.K c a B by rw[ha.hK];exact w.2);refine RO (show s1.heap.IsTuple a u.toArray from p) ?_;exact⟨s1.heap.objs.size,[s1.heap.objs.size],_,_,c,rfl,g.kept (t':=s1.toks) λb o e=>KQ _ e,pD a _,⟨_,K9 _ rfl,rfl,rfl⟩,SU,q _ c r (by rw[ha.hK];exact uW w G j)⟩|lst xs=>
   cases m;simp only[Is]at f;obtain⟨a,B,rfl,w,G⟩:=f;cases(show v=Lj a from C);obtain⟨u,T,p,j⟩:=g.list (show dF X.K c a B by rw[ha.hK];exact w.2.sq);refine OM p.isList ?_;exact⟨s1.heap.objs.size,[s1.heap.objs.size],_,_,c,rfl,g.kept (t':=s1.toks) λb o e=>KQ _ e,sF a _,⟨_,K9 _ rfl,rfl,rfl⟩,SU,q _ c r (by rw[ha.hK];exact uV w G j)⟩|aQ ks a2=>
   cases m;simp only[Is]at f;obtain⟨a,B,rfl,⟨o,U,dd⟩,G⟩:=f;cases(show v=Lj a from C);obtain⟨a0,es,ep,E,hd,T,ik⟩:=nO dd;have ho:=U.get g ha.hK;have lt:a<s1.heap.objs.size:=K5 ho;refine DictIt.rk U.2.1 ho E.1 hd ?_;refine⟨s1.heap.objs.size,[s1.heap.objs.size],_,_,_,rfl,g.kept (t':=s1.toks) λb o e=>KQ _ e,p_ (K:=X.K) hd T (Lp lt),⟨_,K9 _ rfl,rfl,rfl⟩,SU,q _ _ r ?_⟩;have kn:∀{O:Hp}{V:Nat},Kp F.toFb c n O V->Il X.K O a o:=λe=>by
    rcases(U.mono e).2.2 with z|z;.exact .inl z
    .exact .inr (by rw[ha.hK];exact z)
   refine⟨λi d O V W N l2=>?_,λO V N l2=>⟨kn N,by rw[ik.length];exact K8 _⟩,dd.1⟩;obtain⟨y,L,Y⟩:=(ik.mono N).get W;refine⟨⟨kn N,(List.getElem?_eq_some_iff.mp L).1⟩,λz H3 yl=>?_⟩;obtain⟨rfl,j⟩:=yl;rw[L]at j;cases j;exact⟨.refl,Y⟩|str y=>
   simp only[Is]at f;subst f;obtain⟨t,rfl⟩:=C;simp only[cB]at m;split at m
   .rename_i j;cases m;cases E:y.cps.all (·<128)with
    |false=>exact wpAny_pyIter_wide E ⟨s1.heap.objs.size,[s1.heap.objs.size],_,_,c,rfl,g.kept (t':=s1.toks) λb o e=>KQ _ e,nQ (t:=t) (ty:="str_iterator") (by decide) wpAny_pyNext_wide_item wpAny_pyNext_wide_end wpAny_pyIter_striter_wide,⟨_,K9 _ rfl,rfl,rfl⟩,SU,q _ c r (nR j)⟩|true=>exact wpAny_pyIter_ascii E ⟨s1.heap.objs.size,[s1.heap.objs.size],_,_,c,rfl,g.kept (t':=s1.toks) λb o e=>KQ _ e,nQ (t:=t) (ty:="str_ascii_iterator") (by decide) wpAny_pyNext_ascii_item wpAny_pyNext_ascii_end wpAny_pyIter_striter_ascii,⟨_,K9 _ rfl,rfl,rfl⟩,SU,q _ c r (nR j)⟩
   .cases m|_=>cases m⟩
noncomputable def BV:D->Option Bool
 |.bw=>KE KO|.bl b=>KE b|.int i=>KE (i !=0)|.str y=>if y.length<=KU then KE ((y.length:Int)!=0)else KL|.tup a=>KE (!a.isEmpty)|.lst a=>KE (!a.isEmpty)|_=>KL
theorem iO{B:Fb}{H:Hp}{xs:List V}{ds:List D}(h:ab B H xs ds):xs.isEmpty=ds.isEmpty:=by
 have:=h.length;cases xs<;>cases ds<;>first|rfl|simp at this
theorem BW{e:K7}{t:ah->M D}(h:DE X F e t)(p:∀whole,RF e X.env whole=(do let v<-whole;Rm e.pos;Qj [v] (truthy v))):DT X F e (λρ=>do M.get (BV (<-t ρ))):=⟨h.hK,(uj h.pe p).imp λw H Q g=>by
  obtain⟨ρ,k,S,z⟩:=g;refine cF.next S z λd x v u s A f r=>?_;obtain⟨b,hb,q⟩:=M.run_get.mp r;refine⟨b,?_,q u s⟩;cases d with
  |bw=>cases hb;simp only[Is]at f;rw[f];rfl|bl c=>cases hb;simp only[Is]at f;rw[f];rfl|int i=>cases hb;simp only[Is]at f;rw[f];rfl|str y=>
   simp only[BV]at hb;split at hb
   .rename_i o;cases hb;simp only[Is]at f;rw[f];exact⟨o,rfl⟩
   .cases hb|tup n=>
   cases hb;simp only[Is]at f;obtain⟨a,j,rfl,m,l⟩:=f;exact .inr (.inl ⟨j,by rw[h.hK];exact m.2,by rw[iO l]⟩)|lst n=>
   cases hb;simp only[Is]at f;obtain⟨a,j,rfl,m,l⟩:=f;exact .inl ⟨j,by rw[h.hK];exact m.2.sq,by rw[iO l]⟩|_=>cases hb⟩
end
end L2
end
section
namespace SrtP
open PySem PyProof.Rows
section
variable{prog:Lb}{w:Lv}{A:Lz}{E:KJ->KR->Prop}{s:KR}{κ:M9}{a₀:Array Lh}
noncomputable def Cm(prog:Lb)(w:Lv)(A:Lz)(s:KR)(κ:M9)(a₀:Array Lh):Prop:=∀x∈a₀,∀y∈a₀,∀(Q:Bool->KR->Prop)(E:KJ->KR->Prop),(∀b,Q b s)->wpAny (K4 prog w) A (keyLt' κ x.1 y.1) Q E s
structure Bs(κ:M9)(a₀:Array Lh)(st:Ln):Prop where
 k:kindOf st=κ
 p:(M_ st).Perm a₀
 f:Ri st=KL
theorem Bs.size{st:Ln}(h:Bs κ a₀ st):(M_ st).size=a₀.size:=h.p.size_eq
theorem Bs.mem{st:Ln}(h:Bs κ a₀ st){x:Lh}(m:x∈M_ st):x∈a₀:=h.p.mem_iff.mp m
theorem jW(C:Cm prog w A s κ a₀){st:Ln}{x y:Lh}{Q:Option Bool->Ln->Prop}(d:kindOf st=κ)(c:x∈a₀)(a:y∈a₀)(q:∀b,Q (KE b) st):Q5 (K4 prog w) A E s (lt' x y) Q st:=by
 rw[lt'_eq];refine K0 (OO ?_);rw[d];refine K0 (wpS_lift (N0 (C x c y a _ _ λb=>⟨rfl,?_⟩)));exact K6 (q b)
theorem av{st:Ln}{a:Array Lh}{i:Nat}{Q:Lh->Ln->Prop}(h:i<a.size)(q:∀x∈a,a[i]?=KE x->Q x st):Q5 (K4 prog w) A E s (ML a i) Q st:=by
 rw[elem'_eq,Mt h];exact K6 (q _ (Array.getElem_mem h) (Mt h))
theorem eX(C:Cm prog w A s κ a₀){st:Ln}{i j:Nat}{Q:Option Bool->Ln->Prop}(h:Bs κ a₀ st)(e:i<a₀.size)(d:j<a₀.size)(q:∀b,Q (KE b) st):Q5 (K4 prog w) A E s (ltAt' i j) Q st:=by
 rw[ltAt'_eq];refine K0 (OO ?_);refine K0 (av (by rw[h.size];exact e) λx c _=>?_);refine K0 (av (by rw[h.size];exact d) λy a _=>?_);exact jW C h.k (h.mem c) (h.mem a) q
theorem du{st:Ln}{i j:Nat}{Q:Unit->Ln->Prop}(h:Bs κ a₀ st)(q:∀a,Bs κ a₀ a->Lc a=Lc st->Q () a):Q5 (K4 prog w) A E s (reverseSlice' i j) Q st:=by
 rw[reverseSlice'_eq];exact NR (q _ ⟨h.k,(mirror_perm _ _ _ _).trans h.p,h.f⟩ rfl)
theorem vz{st:Ln}{i j:Nat}{Q:Unit->Ln->Prop}(h:Bs κ a₀ st)(q:∀a,Bs κ a₀ a->Lc a=Lc st->Q () a):Q5 (K4 prog w) A E s (moveDown' i j) Q st:=by
 rw[moveDown'_eq];exact NR (q _ ⟨h.k,(bubble_perm _ _ _).trans h.p,h.f⟩ rfl)
theorem c7{st:Ln}{x:String}{Q:Unit->Ln->Prop}(q:Q () st):Q5 (K4 prog w) A E s (liftM (Qk x):StateT Ln Pu Unit) Q st:=wpS_lift (Ng ⟨rfl,q⟩)
theorem aR{e:Type}{a b:Nat}{f:Nat->e->StateT Ln Pu (ForInStep e)}{Q:e->Ln->Prop}{c:e}{st:Ln}(I:Nat->e->Ln->Prop)(R:e->Ln->Prop)(k:I a c st)(d:∀i c st,a<=i->i<b->I i c st->Q5 (K4 prog w) A E s (f i c) (λr g=>match r with|.done j=>R j g|.yield j=>I (i+1) j g) st)(h:∀c st,I (max a b) c st->R c st)(q:∀c st,R c st->Q c st):Q5 (K4 prog w) A E s (forIn [a:b] c f) Q st:=O5 (wpS_forRange I d h k) q
theorem gD(C:Cm prog w A s κ a₀){st:Ln}{lo a d:Nat}{Q:Option (Option Nat)×Nat->Ln->Prop}(h:Bs κ a₀ st)(l:1<=a)(j:a<=d)(k:lo+d<=a₀.size)(q:∀n,a<=n->n<=d->Q (KL,n) st):Q5 (K4 prog w) A E s (forIn [a:d] ((KL,a):Option (Option Nat)×Nat) λx __s=>do
   let __x<-ltAt' (lo+__s.snd) (lo+__s.snd-1)match __x with
    |some f=>if f=KN then pure (OP (KL,__s.snd))else pure (MA (KL,__s.snd+1))|x=>pure (OP (KE KL,__s.snd))) Q st:=by
 refine aR (λi c e=>e=st/\c=(KL,i)) (λc e=>e=st/\∃n,c=(KL,n)/\a<=n/\n<=d) ⟨rfl,rfl⟩ ?_ ?_ ?_
 .rintro i c e tW xi⟨rfl,rfl⟩;refine K0 (eX C h (by dsimp only;omega) (by dsimp only;omega) λb=>?_);cases b with
  |true=>exact K6 ⟨rfl,i,rfl,tW,by omega⟩|false=>exact K6 ⟨rfl,rfl⟩
 .rintro c e⟨rfl,rfl⟩;exact⟨rfl,_,rfl,by omega,by omega⟩
 .rintro c e⟨rfl,n,rfl,a1,g⟩;exact q n a1 g
theorem nS(C:Cm prog w A s κ a₀){st:Ln}{lo a e:Nat}{Q:Option (Option Nat)×Nat×Nat->Ln->Prop}(h:Bs κ a₀ st)(u:1<=a)(r:a<=e)(t:lo+e<=a₀.size)(q:∀n m d,a<=n->n<=e->Bs κ a₀ d->Lc d=Lc st->Q (KL,n,m) d):Q5 (K4 prog w) A E s (forIn [a:e] ((KL,a,0):Option (Option Nat)×Nat×Nat) λx __s=>do
   let __x<-ltAt' (lo+__s.snd.fst) (lo+__s.snd.fst-1)match __x with
    |some f=>
     if f=KN then
      if __s.snd.snd>0 then do
       let __r<-reverseSlice' (lo+__s.snd.fst-(__s.snd.snd+1)) (lo+__s.snd.fst)pure (MA (KL,__s.snd.fst+1,0))else pure (MA (KL,__s.snd.fst+1,0))else do
      let __x<-ltAt' (lo+__s.snd.fst-1) (lo+__s.snd.fst)match __x with
       |some g=>
        if g=KN then pure (OP (KL,__s.snd.fst,__s.snd.snd))else pure (MA (KL,__s.snd.fst+1,__s.snd.snd+1))|x=>pure (OP (KE KL,__s.snd.fst,__s.snd.snd))
    |x=>pure (OP (KE KL,__s.snd.fst,__s.snd.snd))) Q st:=by
 refine aR (λi c d=>Bs κ a₀ d/\Lc d=Lc st/\∃m,c=(KL,i,m)) (λc d=>Bs κ a₀ d/\Lc d=Lc st/\∃n m,c=(KL,n,m)/\a<=n/\n<=e) ⟨h,rfl,0,rfl⟩ ?_ ?_ ?_
 .rintro i c d tW xi⟨hb,j,m,rfl⟩;refine K0 (eX C hb (by dsimp only;omega) (by dsimp only;omega) λb=>?_);cases b with
  |true=>
   dsimp only;rw[if_pos rfl];by_cases o:m>0
   .rw[if_pos o];exact K0 (du hb λaW l k=>K6 ⟨l,k.trans j,0,rfl⟩)
   .rw[if_neg o];exact K6 ⟨hb,j,0,rfl⟩|false=>
   dsimp only;rw[if_neg (by decide)];refine K0 (eX C hb (by omega) (by omega) λb=>?_);cases b with
   |true=>exact K6 ⟨hb,j,i,m,rfl,tW,by omega⟩|false=>exact K6 ⟨hb,j,m+1,rfl⟩
 .rintro c d⟨hb,j,m,rfl⟩;exact⟨hb,j,_,m,rfl,by omega,by omega⟩
 .rintro c d⟨hb,j,n,m,rfl,a1,p⟩;exact q n m d a1 p hb j
theorem s9(C:Cm prog w A s κ a₀){st:Ln}{lo a:Nat}{Q:Option Nat->Ln->Prop}(h:Bs κ a₀ st)(I:1<=a)(k:lo+a<=a₀.size)(q:∀n i,1<=n->n<=a->Bs κ a₀ i->Lc i=Lc st->Q (KE n) i):Q5 (K4 prog w) A E s (countRun' lo a) Q st:=by
 rw[countRun'_eq];refine K0 (gD C h (K8 _) I k λn a1 F=>?_);dsimp only;by_cases z:(n==a)=KN
 .rw[if_pos z];exact K6 (q n st a1 F h rfl)
 .rw[if_neg z];have r:n+1<=a:=by
   have:n≠a:=λe=>z (by rw[e];exact beq_self_eq_true _);omega
  by_cases p:n>1
  .rw[if_pos p];refine K0 (eX C h (by omega) (by omega) λb=>?_);cases b with
   |true=>exact K6 (q n st a1 F h rfl)|false=>
    refine K0 (du h λee b1 D=>?_);refine K0 (c7 ?_);refine K0 (nS C b1 (by omega) r k λH m aW G l u o=>?_);dsimp only;by_cases t:m>0
    .rw[if_pos t];refine K0 (du u λx B y=>?_);refine K0 (du B λc f j=>?_);refine K0 (gD C f (by omega) l k λd v g=>?_);exact K6 (q d c (by omega) g f (j.trans (y.trans (o.trans D))))
    .rw[if_neg t];refine K0 (du u λc f j=>?_);refine K0 (gD C f (by omega) l k λd v g=>?_);exact K6 (q d c (by omega) g f (j.trans (o.trans D)))
  .rw[if_neg p];refine K0 (c7 ?_);refine K0 (nS C h (by omega) r k λH m aW G l u o=>?_);dsimp only;by_cases t:m>0
   .rw[if_pos t];refine K0 (du u λx B y=>?_);refine K0 (du B λc f j=>?_);refine K0 (gD C f (by omega) l k λd v g=>?_);exact K6 (q d c (by omega) g f (j.trans (y.trans o)))
   .rw[if_neg t];refine K0 (du u λc f j=>?_);refine K0 (gD C f (by omega) l k λd v g=>?_);exact K6 (q d c (by omega) g f (j.trans o))
theorem yw(C:Cm prog w A s κ a₀){st:Ln}{lo n ok:Nat}{Q:Bool->Ln->Prop}(h:Bs κ a₀ st)(u:lo+n<=a₀.size)(q:∀a,Bs κ a₀ a->Lc a=Lc st->Q KN a):Q5 (K4 prog w) A E s (binarySort' lo n ok) Q st:=by
 rw[binarySort'_eq];refine K0 (aR (λk c a=>c=(KL,())/\Bs κ a₀ a/\Lc a=Lc st) (λc a=>c=(KL,())/\Bs κ a₀ a/\Lc a=Lc st) ⟨rfl,h,rfl⟩ ?_ (λ_ _ z=>z) ?_)
 .rintro k c ee o m⟨rfl,b1,e⟩;refine K0 (aR (λi(c:Option Bool×Nat×Nat)a=>a=ee/\c.1=KL/\c.2.2<=k) (λc a=>a=ee/\c.1=KL) ⟨rfl,rfl,K8 _⟩ ?_ (λc a z=>⟨z.1,z.2.1⟩) ?_)
  .rintro i⟨p,l,r⟩a tW xi⟨rfl,d,f⟩;dsimp only at d f⊢;subst d;by_cases g:l>=r
   .rw[if_pos g];exact K6 ⟨rfl,rfl⟩
   .rw[if_neg g];refine K0 (eX C b1 (by omega) (by omega) λb=>?_);cases b with
    |true=>exact K6 ⟨rfl,rfl,by show(l+r)/2<=k;omega⟩|false=>exact K6 ⟨rfl,rfl,f⟩
  .rintro⟨p,l,r⟩a⟨rfl,d⟩;dsimp only at d⊢;subst d;exact K0 (vz b1 λaW t j=>K6 ⟨rfl,t,j.trans e⟩)
 .rintro c ee⟨rfl,b1,e⟩;exact K6 (q ee b1 e)
noncomputable def bD:Bool->Lh->Array Lh->Nat->Nat->Nat->StateT Ln Pu (Option Nat):=sortPriv%PySem.Builtin.gallop
theorem qb(left:Bool)(key:Lh)(j:Array Lh)(base n a:Nat):bD left key j base n a=(do
 let e(i:Nat):StateT Ln Pu (Option Bool):=do
  let x<-ML j (base+i)if left then lt' x key else return(<-lt' key x).map (!·)
 let mut c:=0;let mut d:=1;let mut lo:=0;let mut h:=0
 let KE right<-e a|return KL
 if right then
  let b:=n-a;for _ in[0:n]do
   if d>=b then break
   let KE f<-e (a+d)|return KL
   if !f then break
   c:=d;d:=2*d+1
  lo:=a+c+1;h:=a+min d b;else
  let b:=a+1;for _ in[0:n]do
   if d>=b then break
   let KE g<-e (a-d)|return KL
   if g then break
   c:=d;d:=2*d+1
  lo:=a+1-min d b;h:=a-c
 for _ in[0:n]do
  if lo>=h then break
  let m:=lo+(h-lo)/2
  let KE f<-e m|return KL
  if f then lo:=m+1 else h:=m
 return KE h):=rfl
theorem b9(C:Cm prog w A s κ a₀){st:Ln}{left:Bool}{key:Lh}{h:Array Lh}{base n e:Nat}{Q:Option Nat->Ln->Prop}(y:kindOf st=κ)(v:∀x∈h,x∈a₀)(g:key∈a₀)(p:e<n)(D:base+n<=h.size)(q:∀k,k<=n->Q (KE k) st):Q5 (K4 prog w) A E s (bD left key h base n e) Q st:=by
 rw[qb];extract_lets beyond la0 of0 jp mx1 mx2;have hb:∀(i:Nat)(Q:Option Bool->Ln->Prop),i<n->(∀b,Q (KE b) st)->Q5 (K4 prog w) A E s (beyond i) Q st:=λi Q o q=>by
  refine K0 (av (by omega) λx u _=>?_);cases left with
  |true=>exact jW C y (v x u) g q|false=>exact K0 (jW C y g (v x u) λb=>K6 (q _))
 have B:∀(t of lo o:Nat),o<=n->Q5 (K4 prog w) A E s (jp () t of lo o) Q st:=λt of lo o p=>by
  refine K0 (aR (λi(c:Option (Option Nat)×Nat×Nat)a=>a=st/\c.1=KL/\c.2.2<=n) (λc a=>a=st/\c.1=KL/\c.2.2<=n) ⟨rfl,rfl,p⟩ ?_ (λc a z=>z) ?_)
  .rintro i⟨m,l,r⟩a tW xi⟨rfl,d,j⟩;dsimp only at d j⊢;subst d;by_cases f:l>=r
   .rw[if_pos f];exact K6 ⟨rfl,rfl,j⟩
   .rw[if_neg f];refine K0 (hb _ _ (by omega) λb=>?_);cases b with
    |true=>exact K6 ⟨rfl,rfl,j⟩|false=>exact K6 ⟨rfl,rfl,by show l+(r-l)/2<=n;omega⟩
  .rintro⟨m,l,r⟩a⟨rfl,d,j⟩;dsimp only at d j⊢;subst d;exact K6 (q r j)
 refine K0 (hb _ _ p λb=>?_);cases b with
 |true=>
  dsimp only;rw[if_pos rfl];refine K0 (aR (λi(c:Option (Option Nat)×Nat×Nat)a=>a=st/\c.1=KL) (λc a=>a=st/\c.1=KL) ⟨rfl,rfl⟩ ?_ (λc a z=>z) ?_)
  .rintro i⟨m,l,r⟩a tW xi⟨rfl,d⟩;dsimp only at d⊢;subst d;by_cases f:r>=mx1
   .rw[if_pos f];exact K6 ⟨rfl,rfl⟩
   .rw[if_neg f];refine K0 (hb _ _ (by have:mx1=n-e:=rfl;omega) λb=>?_);cases b<;>exact K6 ⟨rfl,rfl⟩
  .rintro⟨m,l,r⟩a⟨rfl,d⟩;dsimp only at d⊢;subst d;exact B l r _ _ (by have:mx1=n-e:=rfl;omega)|false=>
  dsimp only;rw[if_neg (by decide)];refine K0 (aR (λi(c:Option (Option Nat)×Nat×Nat)a=>a=st/\c.1=KL) (λc a=>a=st/\c.1=KL) ⟨rfl,rfl⟩ ?_ (λc a z=>z) ?_)
  .rintro i⟨m,l,r⟩a tW xi⟨rfl,d⟩;dsimp only at d⊢;subst d;by_cases f:r>=mx2
   .rw[if_pos f];exact K6 ⟨rfl,rfl⟩
   .rw[if_neg f];refine K0 (hb _ _ (by omega) λb=>?_);cases b<;>exact K6 ⟨rfl,rfl⟩
  .rintro⟨m,l,r⟩a⟨rfl,d⟩;dsimp only at d⊢;subst d;exact B l r _ _ (by omega)
noncomputable def aC:Nat->StateT Ln Pu Unit:=sortPriv%PySem.Builtin.setMinGallop
noncomputable abbrev BX(st:Ln)(g:Nat):Ln:=RP (kindOf st) (M_ st) (Lc st) g (Ri st)
theorem hU(g:Nat):aC g=modify λs=>BX s g:=rfl
noncomputable def gE:Array Lh->Array Lh->StateT Ln Pu (Array Lh):=sortPriv%PySem.Builtin.mergeLo
theorem nT(a b:Array Lh):gE a b=(do
 Qk "list.sort.merge-lo"let j:=a.size+b.size;let done(d:Array Lh)(e f:Nat):=d++a.extract e a.size++b.extract f b.size;let i(d:Array Lh)(e f:Nat):=d++b.extract f b.size++a.extract e a.size;let mut d:Array Lh:=#[<-ML b 0]let mut e:=0;let mut f:=1;if f==b.size then return done d e f
 if e+1==a.size then return i d e f
 let mut c:=SF (<-get)for _ in[0:j]do
  let mut h:=0;let mut g:=0;for _ in[0:j]do
   let KE l<-lt' (<-ML b f) (<-ML a e)|return done d e f
   if l then
    d:=d.push (<-ML b f);f:=f+1;g:=g+1;h:=0;if f==b.size then return done d e f
    if g>=c then break
   else
    d:=d.push (<-ML a e);e:=e+1;h:=h+1;g:=0;if e+1==a.size then return i d e f
    if h>=c then break
  Qk "list.sort.gallop"c:=c+1;for _ in[0:j]do
   if c>1 then c:=c-1
   aC c
   let KE k<-bD KO (<-ML b f) a e (a.size-e) 0|return done d e f
   h:=k;if k>0 then
    d:=d++a.extract e (e+k);e:=e+k;if e+1==a.size then return i d e f
    if e==a.size then return done d e f
   d:=d.push (<-ML b f);f:=f+1;if f==b.size then return done d e f
   let KE k<-bD KN (<-ML a e) b f (b.size-f) 0|return done d e f
   g:=k;if k>0 then
    d:=d++b.extract f (f+k);f:=f+k;if f==b.size then return done d e f
   d:=d.push (<-ML a e);e:=e+1;if e+1==a.size then return i d e f
   if h<7&&g<7 then break
  c:=c+1;aC c
 PM "internal:list.sort.merge-bound"):=rfl
structure Lo(a b out:Array Lh)(ia ib:Nat):Prop where
 p:(out.toList++a.toList.drop ia++b.toList.drop ib).Perm (a.toList++b.toList)ha:ia<=a.size
 hb:ib<=b.size
section
variable{a b out:Array Lh}{ia ib k:Nat}{x:Lh}
theorem Lo.size(h:Lo a b out ia ib):out.size+(a.size-ia)+(b.size-ib)=a.size+b.size:=by
 have:=h.p.length_eq;simp only[LZ,P6,Mf]at this;exact this
theorem nU(xs:Array Lh)(i:Nat):(xs.extract i xs.size).toList=xs.toList.drop i:=by
 rw[Nx];rw[MP,L9 (by simp)]
theorem nV(xs:Array Lh)(i k:Nat):(xs.extract i (i+k)).toList=(xs.toList.drop i).take k:=by rw[Nx,MP,Qe]
theorem Lo.done(h:Lo a b out ia ib):(out++a.extract ia a.size++b.extract ib b.size).Perm (a++b):=by
 rw[MM];simp only[LW,nU];exact h.p
theorem Lo.last(h:Lo a b out ia ib):(out++b.extract ib b.size++a.extract ia a.size).Perm (a++b):=by
 rw[MM];simp only[LW,nU];refine MD ?_ h.p;rw[Ly,Ly];exact LO _ Nn
theorem nW{xs:Array Lh}{i:Nat}(e:xs[i]?=KE x):xs.toList.drop i=x::xs.toList.drop (i+1)/\i<xs.size:=by
 obtain⟨c,e⟩:=Array.getElem?_eq_some_iff.mp e;refine⟨?_,c⟩;rw[Nq (by simpa using c)];simp[e]
theorem Lo.lN(h:Lo a b out ia ib)(e:a[ia]?=KE x):Lo a b (out.push x) (ia+1) ib:=by
 obtain⟨c,d⟩:=nW e;refine⟨?_,by omega,h.hb⟩;have:=h.p;rw[c]at this;rw[MN];simpa using this
theorem Lo.lO(h:Lo a b out ia ib)(e:b[ib]?=KE x):Lo a b (out.push x) ia (ib+1):=by
 obtain⟨c,d⟩:=nW e;refine⟨?_,h.ha,by omega⟩;have:=h.p;rw[c]at this;rw[MN];refine MD ?_ this;simp only[Ly];refine LO _ ?_;show(x::(a.toList.drop ia++b.toList.drop (ib+1))).Perm (a.toList.drop ia++x::b.toList.drop (ib+1));exact List.perm_middle.symm
theorem Lo.BY(h:Lo a b out ia ib)(c:ia+k<=a.size):Lo a b (out++a.extract ia (ia+k)) (ia+k) ib:=by
 refine⟨?_,c,h.hb⟩;rw[LW,nV];refine MD (Nt ?_) h.p;have:a.toList.drop ia=(a.toList.drop ia).take k++a.toList.drop (ia+k):=by rw[<-List.drop_drop,N2]
 conv=>rhs;rw[this]
 simp only[Ly]
theorem Lo.BZ(h:Lo a b out ia ib)(c:ib+k<=b.size):Lo a b (out++b.extract ib (ib+k)) ia (ib+k):=by
 refine⟨?_,h.ha,c⟩;rw[LW,nV];refine MD ?_ h.p;have:b.toList.drop ib=(b.toList.drop ib).take k++b.toList.drop (ib+k):=by rw[<-List.drop_drop,N2]
 conv=>rhs;rw[this]
 simp only[Ly];refine LO _ ?_;rw[<-Ly,<-Ly];exact NS _ Nn
end
structure Gs(κ:M9)(a₀:Array Lh)(st st':Ln):Prop where
 b:Bs κ a₀ st'
 e:M_ st'=M_ st
 p:Lc st'=Lc st
theorem jh{yx st:Ln}{g:Nat}{Q:Unit->Ln->Prop}(h:Gs κ a₀ yx st)(q:∀a,Gs κ a₀ yx a->Q () a):Q5 (K4 prog w) A E s (aC g) Q st:=by
 rw[hU];exact NR (q _ ⟨⟨h.b.k,h.b.p,h.b.f⟩,h.e,h.p⟩)
theorem aK{i n:Nat}(h:¬(i==n)=KN):i≠n:=λe=>h (by rw[e];exact beq_self_eq_true _)
abbrev C6:=Option (Array Lh)×Array Lh×Nat×Nat×Nat×Nat
abbrev C7:=Option (Array Lh)×Array Lh×Nat×Nat×Nat×Nat×Nat
abbrev C5:=Option (Array Lh)×Array Lh×Nat×Nat×Nat
abbrev SM:=StateT Ln Pu
noncomputable def dn(a b c:Array Lh)(e d:Nat):Array Lh:=c++a.extract e a.size++b.extract d b.size
noncomputable def lst(a b c:Array Lh)(e d:Nat):Array Lh:=c++b.extract d b.size++a.extract e a.size
noncomputable def lo1(a b:Array Lh)(mg:Nat)(c:C6):SM (ForInStep C6):=do
 let y<-ML b c.2.2.2.1;let x<-ML a c.2.2.1;match<-lt' y x with
 |some d=>
  if d=KN then do
   let z<-ML b c.2.2.2.1;if(c.2.2.2.1+1==b.size)=KN then pure (.done (KE (dn a b (c.2.1.push z) c.2.2.1 (c.2.2.2.1+1)),c.2.1.push z,c.2.2.1,c.2.2.2.1+1,0,c.2.2.2.2.2+1))else if c.2.2.2.2.2+1>=mg then pure (.done (KL,c.2.1.push z,c.2.2.1,c.2.2.2.1+1,0,c.2.2.2.2.2+1))else pure (.yield (KL,c.2.1.push z,c.2.2.1,c.2.2.2.1+1,0,c.2.2.2.2.2+1))else do
   let z<-ML a c.2.2.1;if(c.2.2.1+1+1==a.size)=KN then pure (.done (KE (lst a b (c.2.1.push z) (c.2.2.1+1) c.2.2.2.1),c.2.1.push z,c.2.2.1+1,c.2.2.2.1,c.2.2.2.2.1+1,0))else if c.2.2.2.2.1+1>=mg then pure (.done (KL,c.2.1.push z,c.2.2.1+1,c.2.2.2.1,c.2.2.2.2.1+1,0))else pure (.yield (KL,c.2.1.push z,c.2.2.1+1,c.2.2.2.1,c.2.2.2.2.1+1,0))|_=>pure (.done (KE (dn a b c.2.1 c.2.2.1 c.2.2.2.1),c.2))
noncomputable def Io(a b:Array Lh)(mg g f d:Nat)(c:Array Lh)(e:Nat):SM (ForInStep C7):=do
 let z<-ML a d;if(d+1+1==a.size)=KN then pure (.done (KE (lst a b (c.push z) (d+1) e),c.push z,d+1,e,mg,g,f))else if(decide (g<7)&&decide (f<7))=KN then pure (.done (KL,c.push z,d+1,e,mg,g,f))else pure (.yield (KL,c.push z,d+1,e,mg,g,f))
noncomputable def GR(a b:Array Lh)(mg f g c:Nat)(d:Array Lh)(e:Nat):SM (ForInStep C7):=do
 let z<-ML b c;if(c+1==b.size)=KN then pure (.done (KE (dn a b (d.push z) e (c+1)),d.push z,e,c+1,mg,f,g))else do
  let x<-ML a e;match<-bD KN x b (c+1) (b.size-(c+1)) 0 with
  |some k=>
   if k>0 then
    if(c+1+k==b.size)=KN then pure (.done (KE (dn a b (d.push z++b.extract (c+1) (c+1+k)) e (c+1+k)),d.push z++b.extract (c+1) (c+1+k),e,c+1+k,mg,f,k))else Io a b mg f k e (d.push z++b.extract (c+1) (c+1+k)) (c+1+k)else Io a b mg f k e (d.push z) (c+1)|_=>pure (.done (KE (dn a b (d.push z) e (c+1)),d.push z,e,c+1,mg,f,g))
noncomputable def GS(a b:Array Lh)(c:C7)(mg:Nat):SM (ForInStep C7):=do
 aC mg;let y<-ML b c.2.2.2.1;match<-bD KO y a c.2.2.1 (a.size-c.2.2.1) 0 with
 |some k=>
  if k>0 then
   if(c.2.2.1+k+1==a.size)=KN then pure (.done (KE (lst a b (c.2.1++a.extract c.2.2.1 (c.2.2.1+k)) (c.2.2.1+k) c.2.2.2.1),c.2.1++a.extract c.2.2.1 (c.2.2.1+k),c.2.2.1+k,c.2.2.2.1,mg,k,c.2.2.2.2.2.2))else if(c.2.2.1+k==a.size)=KN then pure (.done (KE (dn a b (c.2.1++a.extract c.2.2.1 (c.2.2.1+k)) (c.2.2.1+k) c.2.2.2.1),c.2.1++a.extract c.2.2.1 (c.2.2.1+k),c.2.2.1+k,c.2.2.2.1,mg,k,c.2.2.2.2.2.2))else GR a b mg k c.2.2.2.2.2.2 c.2.2.2.1 (c.2.1++a.extract c.2.2.1 (c.2.2.1+k)) (c.2.2.1+k)else GR a b mg k c.2.2.2.2.2.2 c.2.2.2.1 c.2.1 c.2.2.1|_=>pure (.done (KE (dn a b c.2.1 c.2.2.1 c.2.2.2.1),c.2.1,c.2.2.1,c.2.2.2.1,mg,c.2.2.2.2.2.1,c.2.2.2.2.2.2))
noncomputable def Ip(a b:Array Lh)(c:C5):SM (ForInStep C5):=do
 let d<-forIn [0:a.size+b.size] ((KL,c.2.1,c.2.2.1,c.2.2.2.1,0,0):C6) λ_ d=>lo1 a b c.2.2.2.2 d;match d.1 with
 |some r=>pure (.done (KE r,d.2.1,d.2.2.1,d.2.2.2.1,c.2.2.2.2))|none=>do
  liftM (Qk "list.sort.gallop")let e<-forIn [0:a.size+b.size] ((KL,d.2.1,d.2.2.1,d.2.2.2.1,c.2.2.2.2+1,d.2.2.2.2.1,d.2.2.2.2.2):C7) λ_ e=>if e.2.2.2.2.1>1 then GS a b e (e.2.2.2.2.1-1)else GS a b e e.2.2.2.2.1;match e.1 with
  |some r=>pure (.done (KE r,e.2.1,e.2.2.1,e.2.2.2.1,e.2.2.2.2.1))|none=>do
   aC (e.2.2.2.2.1+1)pure (.yield (KL,e.2.1,e.2.2.1,e.2.2.2.1,e.2.2.2.2.1+1))
theorem s_(a b:Array Lh):gE a b=(do
 liftM (Qk "list.sort.merge-lo")let x<-ML b 0;if(1==b.size)=KN then pure (dn a b #[x] 0 1)else if(0+1==a.size)=KN then pure (lst a b #[x] 0 1)else do
  let st<-get;let c<-forIn [0:a.size+b.size] ((KL,#[x],0,1,SF st):C5) λ_ c=>Ip a b c;match c.1 with
  |some r=>pure r|none=>liftM (PM "internal:list.sort.merge-bound":Pu (Array Lh))):=by
 rw[nT];dsimp only;refine congrArg _ (funext λ_=>?_);refine congrArg _ (funext λx=>?_);refine congrArg _ ?_;refine congrArg _ ?_;refine congrArg _ (funext λst=>?_);refine congr (congrArg _ ?_) (funext λc=>by obtain⟨e,c⟩:=c;cases e<;>rfl);refine congrArg _ (funext λ_=>funext λc=>?_);unfold Ip;refine congr (congrArg _ rfl) (funext λd=>?_);obtain⟨f,d⟩:=d;cases f with
 |some r=>rfl|none=>
  dsimp only;refine congrArg _ (funext λ_=>?_);refine congr (congrArg _ ?_) (funext λc=>by obtain⟨e,c⟩:=c;cases e<;>rfl);refine congrArg _ (funext λ_=>funext λc=>?_);unfold GS;refine congr (congrArg _ ?_) ?_;all_goals
   refine congrArg _ (funext λ_=>?_);refine congrArg _ (funext λy=>?_);refine congrArg _ (funext λk=>?_);cases k with
   |none=>rfl|some k=>
    dsimp only;unfold GR;refine congr (congrArg _ ?_) ?_
    .refine congrArg _ ?_;refine congrArg _ ?_;refine congrArg _ (funext λy=>?_);refine congrArg _ ?_;refine congrArg _ (funext λy=>?_);refine congrArg _ (funext λk=>?_);cases k<;>rfl
    .refine congrArg _ (funext λy=>?_);refine congrArg _ ?_;refine congrArg _ (funext λy=>?_);refine congrArg _ (funext λk=>?_);cases k<;>rfl
structure Go(κ:M9)(a₀:Array Lh)(st:Ln)(a b:Array Lh)(o0:Nat)(r:Option (Array Lh))(out:Array Lh)(ia ib:Nat)(st':Ln):Prop where
 g:Gs κ a₀ st st'
 n:r=KL
 l:Lo a b out ia ib
 a1:ia+1<a.size
 b1:ib<b.size
 o:o0<out.size
inductive Fi(κ:M9)(a₀:Array Lh)(st:Ln)(a b:Array Lh)(o0:Nat)(out:Array Lh)(ia ib:Nat)(st':Ln):Option (Array Lh)->Prop where|ret{z:Array Lh}(g:Gs κ a₀ st st')(p:z.Perm (a++b)):Fi κ a₀ st a b o0 out ia ib st' (KE z)|go(h:Go κ a₀ st a b o0 KL out ia ib st'):Fi κ a₀ st a b o0 out ia ib st' KL
section
variable{st:Ln}{a b:Array Lh}
noncomputable abbrev Q7(κ:M9)(a₀:Array Lh)(st:Ln)(a b:Array Lh)(e:Nat):ForInStep C7->Ln->Prop:=λr d=>match r with
 |.done c=>Fi κ a₀ st a b e c.2.1 c.2.2.1 c.2.2.2.1 d c.1|.yield c=>Go κ a₀ st a b e c.1 c.2.1 c.2.2.1 c.2.2.2.1 d
theorem rD(u:∀x∈a,x∈a₀){mg n m e j i:Nat}{c:Array Lh}{d:Ln}(h:Go κ a₀ st a b i KL c e j d):Q5 (K4 prog w) A E s (Io a b mg n m e c j) (Q7 κ a₀ st a b i) d:=by
 refine K0 (av (by have:=h.a1;omega) λv t ev=>?_);have k:=h.l.lN ev;have r:(c.push v).size=c.size+1:=M5 ..;have q:=h.o;have p:=h.a1;by_cases f:(e+1+1==a.size)=KN
 .rw[if_pos f];exact K6 (.ret h.g k.last)
 rw[if_neg f];have f:=aK f;have g:Go κ a₀ st a b i KL (c.push v) (e+1) j d:=⟨h.g,rfl,k,by omega,h.b1,by omega⟩;split;.exact K6 (.go g)
 .exact K6 g
theorem rE(C:Cm prog w A s κ a₀)(p:∀x∈a,x∈a₀)(n:∀x∈b,x∈a₀){mg z y t f q:Nat}{c:Array Lh}{d:Ln}(h:Go κ a₀ st a b q KL c t f d):Q5 (K4 prog w) A E s (GR a b mg z y f c t) (Q7 κ a₀ st a b q) d:=by
 refine K0 (av h.b1 λv G ev=>?_);have m:=h.l.lO ev;have F:(c.push v).size=c.size+1:=M5 ..;have D:=h.o;have B:=h.b1;by_cases j:(f+1==b.size)=KN
 .rw[if_pos j];exact K6 (.ret h.g m.done)
 rw[if_neg j];have j:=aK j;refine K0 (av (by have:=h.a1;omega) λx u ex=>?_);refine K0 (b9 C h.g.b.k n (p x u) (by omega) (by omega) λk H=>?_);show Q5 _ _ _ _ (if k>0 then _ else _) _ _;by_cases e:k>0
 .rw[if_pos e];have r:=m.BZ (k:=k) (by omega);by_cases i:(f+1+k==b.size)=KN
  .rw[if_pos i];exact K6 (.ret h.g r.done)
  .rw[if_neg i];have i:=aK i;exact rD p ⟨h.g,rfl,r,h.a1,by omega,by rw[Ny];omega⟩
 .rw[if_neg e];exact rD p ⟨h.g,rfl,m,h.a1,by omega,by omega⟩
theorem rF(C:Cm prog w A s κ a₀)(n:∀x∈a,x∈a₀)(d:∀x∈b,x∈a₀){mg p:Nat}{c:C7}{e:Ln}(h:Go κ a₀ st a b p c.1 c.2.1 c.2.2.1 c.2.2.2.1 e):Q5 (K4 prog w) A E s (GS a b c mg) (Q7 κ a₀ st a b p) e:=by
 obtain⟨J,B,q,H,D,L,K⟩:=c;obtain⟨v,u,o,t,i,r⟩:=h;dsimp only at v u o t i r;subst u;refine K0 (jh v λz g=>?_);refine K0 (av i λy F I=>?_);refine K0 (b9 C g.b.k n (d y F) (by dsimp only;omega) (by dsimp only;omega) λk G=>?_);show Q5 _ _ _ _ (if k>0 then _ else _) _ _;dsimp only at G⊢;by_cases f:k>0
 .rw[if_pos f];have m:=o.BY (k:=k) (by omega);by_cases l:(q+k+1==a.size)=KN
  .rw[if_pos l];exact K6 (.ret g m.last)
  rw[if_neg l];have l:=aK l;by_cases j:(q+k==a.size)=KN
  .rw[if_pos j];exact K6 (.ret g m.done)
  rw[if_neg j];have j:=aK j;exact rE C n d ⟨g,rfl,m,by omega,i,by rw[Ny];omega⟩
 .rw[if_neg f];exact rE C n d ⟨g,rfl,o,t,i,r⟩
theorem yy(C:Cm prog w A s κ a₀)(H:∀x∈a,x∈a₀)(p:∀x∈b,x∈a₀){mg u n:Nat}{c:C6}{d:Ln}(h:Go κ a₀ st a b n c.1 c.2.1 c.2.2.1 c.2.2.2.1 d)(K:u<=n):Q5 (K4 prog w) A E s (lo1 a b mg c) (λr d=>match r with
  |.done g=>Fi κ a₀ st a b (u+1) g.2.1 g.2.2.1 g.2.2.2.1 d g.1|.yield g=>Go κ a₀ st a b (n+1) g.1 g.2.1 g.2.2.1 g.2.2.2.1 d) d:=by
 obtain⟨M,e,F,D,O,N⟩:=c;obtain⟨i,v,t,q,l,I⟩:=h;dsimp only at i v t q l I;subst v;refine K0 (av l λy o m=>?_);refine K0 (av (by dsimp only;omega) λz G L=>?_);refine K0 (jW C i.b.k (p y o) (H z G) λJ=>?_);cases J with
 |true=>
  dsimp only;rw[if_pos rfl];refine K0 (av l λy o m=>?_);have j:=t.lO m;have B:(e.push y).size=e.size+1:=M5 ..;by_cases f:(D+1==b.size)=KN
  .rw[if_pos f];exact K6 (.ret i j.done)
  .rw[if_neg f];have f:=aK f;split;.exact K6 (.go ⟨i,rfl,j,q,by dsimp only;omega,by dsimp only;omega⟩)
   .exact K6 ⟨i,rfl,j,q,by dsimp only;omega,by dsimp only;omega⟩|false=>
  dsimp only;rw[if_neg (by decide)];refine K0 (av (by omega) λy o m=>?_);have j:=t.lN m;have B:(e.push y).size=e.size+1:=M5 ..;by_cases f:(F+1+1==a.size)=KN
  .rw[if_pos f];exact K6 (.ret i j.last)
  .rw[if_neg f];have f:=aK f;split;.exact K6 (.go ⟨i,rfl,j,by dsimp only;omega,l,by dsimp only;omega⟩)
   .exact K6 ⟨i,rfl,j,by dsimp only;omega,l,by dsimp only;omega⟩
theorem yz(C:Cm prog w A s κ a₀)(H:∀x∈a,x∈a₀)(m:∀x∈b,x∈a₀){i:Nat}{c:C5}{ee:Ln}(h:Go κ a₀ st a b i c.1 c.2.1 c.2.2.1 c.2.2.2.1 ee):Q5 (K4 prog w) A E s (Ip a b c) (λr e=>match r with
  |.done q=>∃z,q.1=KE z/\z.Perm (a++b)/\Gs κ a₀ st e|.yield q=>Go κ a₀ st a b (i+1) q.1 q.2.1 q.2.2.1 q.2.2.2.1 e) ee:=by
 refine K0 (aR (λj(d:C6)e=>Go κ a₀ st a b (i+j) d.1 d.2.1 d.2.2.1 d.2.2.2.1 e) (λd e=>Fi κ a₀ st a b (i+1) d.2.1 d.2.2.1 d.2.2.2.1 e d.1) ⟨h.g,rfl,h.l,h.a1,h.b1,h.o⟩ ?_ ?_ ?_)
 .rintro j d aW _ N g;exact O5 (yy C H m g (Qd _ _)) λr e h=>by cases r<;>exact h
 .rintro⟨I,k,G,F,K,J⟩aW g;obtain⟨B,y,n,v,u,D⟩:=g;dsimp only at B y n v u D;subst y;have:=n.size;exact .go ⟨B,rfl,n,v,u,by dsimp only;omega⟩
 .rintro⟨I,k,G,F,K,J⟩aW f;dsimp only at f⊢;cases f with
  |ret g p=>exact K6 ⟨_,rfl,p,g⟩|go g=>
   refine K0 (c7 ?_);refine K0 (aR (λj(d:C7)e=>Go κ a₀ st a b (i+1) d.1 d.2.1 d.2.2.1 d.2.2.2.1 e) (λd e=>Fi κ a₀ st a b (i+1) d.2.1 d.2.2.1 d.2.2.2.1 e d.1) g ?_ ?_ ?_)
   .rintro j d t _ _ g;split;.exact O5 (rF C H m g) λr e h=>by cases r<;>exact h
    .exact O5 (rF C H m g) λr e h=>by cases r<;>exact h
   .rintro⟨I,k,G,F,mg,K,J⟩t g;obtain⟨B,y,n,v,u,D⟩:=g;dsimp only at B y n v u D;subst y;exact .go ⟨B,rfl,n,v,u,D⟩
   .rintro⟨I,k,G,F,mg,K,J⟩t f;dsimp only at f⊢;cases f with
    |ret g p=>exact K6 ⟨_,rfl,p,g⟩|go g=>exact K0 (jh g.g λL M=>K6 ⟨M,rfl,g.l,g.a1,g.b1,g.o⟩)
theorem nX(C:Cm prog w A s κ a₀){Q:Array Lh->Ln->Prop}(h:Bs κ a₀ st)(y:∀x∈a,x∈a₀)(m:∀x∈b,x∈a₀)(ha:0<a.size)(hb:0<b.size)(q:∀r d,r.Perm (a++b)->Gs κ a₀ st d->Q r d):Q5 (K4 prog w) A E s (gE a b) Q st:=by
 rw[s_];refine K0 (c7 ?_);refine K0 (av hb λx D ex=>?_);have k:Lo a b #[x] 0 1:=by
  have l:Lo a b #[] 0 0:=⟨by simp,Mo _,Mo _⟩;exact l.lO ex
 have n:Gs κ a₀ st st:=⟨h,rfl,rfl⟩;by_cases f:(1==b.size)=KN
 .rw[if_pos f];exact K6 (q _ _ k.done n)
 rw[if_neg f];by_cases e:(0+1==a.size)=KN
 .rw[if_pos e];exact K6 (q _ _ k.last n)
 rw[if_neg e];have f:=aK f;have e:=aK e;refine K0 (OO ?_);refine K0 (aR (λi(c:C5)d=>Go κ a₀ st a b i c.1 c.2.1 c.2.2.1 c.2.2.2.1 d) (λc d=>∃z,c.1=KE z/\z.Perm (a++b)/\Gs κ a₀ st d) ⟨n,rfl,k,by dsimp only;omega,by dsimp only;omega,by show 0<1;omega⟩ ?_ ?_ ?_)
 .rintro i c ee _ _ g;exact O5 (yz C y m g) λr d h=>by cases r<;>exact h
 .rintro⟨B,j,v,u,mg⟩aW g;have:=g.l.size;have:=g.o;have:=g.a1;have:=g.b1;dsimp only at*;omega
 .rintro⟨B,j,v,u,mg⟩aW⟨z,t,p,g⟩;dsimp only at t⊢;subst t;exact K6 (q z aW p g)
end
end
end SrtP
end
section
namespace SrtP
open PySem PyProof.Rows
section
variable{prog:Lb}{w:Lv}{A:Lz}{E:KJ->KR->Prop}{s:KR}{κ:M9}{a₀:Array Lh}
noncomputable def gF:Array Lh->Array Lh->StateT Ln Pu (Array Lh):=sortPriv%PySem.Builtin.mergeHi
theorem nY(a b:Array Lh):gF a b=(do
 Qk "list.sort.merge-hi"let j:=a.size+b.size;let done(d:Array Lh)(f e:Nat):=a.extract 0 f++b.extract 0 e++d.reverse;let g(d:Array Lh)(f e:Nat):=b.extract 0 e++a.extract 0 f++d.reverse;let mut f:=a.size-1;let mut e:=b.size;let mut d:Array Lh:=#[<-ML a f]if f==0 then return done d f e
 if e==1 then return g d f e
 let mut c:=SF (<-get)for _ in[0:j]do
  let mut i:=0;let mut h:=0;for _ in[0:j]do
   let KE l<-lt' (<-ML b (e-1)) (<-ML a (f-1))|return done d f e
   if l then
    f:=f-1;d:=d.push (<-ML a f);i:=i+1;h:=0;if f==0 then return done d f e
    if i>=c then break
   else
    e:=e-1;d:=d.push (<-ML b e);h:=h+1;i:=0;if e==1 then return g d f e
    if h>=c then break
  Qk "list.sort.gallop"c:=c+1;for _ in[0:j]do
   if c>1 then c:=c-1
   aC c
   let KE at_<-bD KO (<-ML b (e-1)) a 0 f (f-1)|return done d f e
   let k:=f-at_;i:=k;if k>0 then
    d:=d++(a.extract at_ f).reverse;f:=at_;if f==0 then return done d f e
   e:=e-1;d:=d.push (<-ML b e)if e==1 then return g d f e
   let KE at_<-bD KN (<-ML a (f-1)) b 0 e (e-1)|return done d f e
   let k:=e-at_;h:=k;if k>0 then
    d:=d++(b.extract at_ e).reverse;e:=at_;if e==1 then return g d f e
    if e==0 then return done d f e
   f:=f-1;d:=d.push (<-ML a f)if f==0 then return done d f e
   if i<7&&h<7 then break
  c:=c+1;aC c
 PM "internal:list.sort.merge-bound"):=rfl
structure Hi(a b out:Array Lh)(na nb:Nat):Prop where
 p:(a.toList.take na++b.toList.take nb++out.toList).Perm (a.toList++b.toList)ha:na<=a.size
 hb:nb<=b.size
section
variable{a b out:Array Lh}{na nb k:Nat}{x:Lh}
theorem Hi.size(h:Hi a b out na nb):na+nb+out.size=a.size+b.size:=by
 have:=h.p.length_eq;have d:=h.ha;have c:=h.hb;simp only[LZ,OU,Mf]at this;omega
noncomputable def rG(a b out:Array Lh)(na nb:Nat):Array Lh:=a.extract 0 na++b.extract 0 nb++out.reverse
noncomputable def DD(a b out:Array Lh)(na nb:Nat):Array Lh:=b.extract 0 nb++a.extract 0 na++out.reverse
theorem zT(xs:Array Lh)(n:Nat):(xs.extract 0 n).toList=xs.toList.take n:=by
 rw[Nx,MP];rfl
theorem Hi.done(h:Hi a b out na nb):(rG a b out na nb).Perm (a++b):=by
 unfold rG;rw[MM];simp only[LW,zT,N8];exact(LO _ (OQ _)).trans h.p
theorem Hi.first(h:Hi a b out na nb):(DD a b out na nb).Perm (a++b):=by
 unfold DD;rw[MM];simp only[LW,zT,N8];exact(List.Perm.append Nn (OQ _)).trans h.p
theorem nZ{xs:Array Lh}{i:Nat}(e:xs[i]?=KE x):xs.toList.take (i+1)=xs.toList.take i++[x]:=by
 obtain⟨c,e⟩:=Array.getElem?_eq_some_iff.mp e;rw[List.take_succ_eq_append_getElem (by simpa using c)];simp[e]
theorem dP(xs:Array Lh){i n:Nat}(h:i<=n):xs.toList.take n=xs.toList.take i++(xs.extract i n).toList:=by
 rw[Nx,MP];obtain⟨k,rfl⟩:∃k,n=i+k:=⟨n-i,by omega⟩;rw[Qe,<-List.take_add]
theorem Hi.lN(h:Hi a b out na nb)(c:1<=na)(e:a[na-1]?=KE x):Hi a b (out.push x) (na-1) nb:=by
 refine⟨?_,by have:=h.ha;omega,h.hb⟩;refine MD ?_ h.p;have:=nZ e;rw[show na-1+1=na by omega]at this;rw[this,MN];simp only[Ly];refine LO _ ?_;rw[<-Ly];exact Nn
theorem Hi.lO(h:Hi a b out na nb)(c:1<=nb)(e:b[nb-1]?=KE x):Hi a b (out.push x) na (nb-1):=by
 refine⟨?_,h.ha,by have:=h.hb;omega⟩;refine MD ?_ h.p;have:=nZ e;rw[show nb-1+1=nb by omega]at this;rw[this,MN];simp only[Ly];refine LO _ (LO _ ?_);exact Nn
theorem Hi.BY(h:Hi a b out na nb)(c:k<=na):Hi a b (out++(a.extract k na).reverse) k nb:=by
 refine⟨?_,by have:=h.ha;omega,h.hb⟩;refine MD ?_ h.p;rw[dP a c,LW,N8];simp only[Ly];refine LO _ ?_;rw[<-Ly];exact List.perm_append_comm.trans (NS _ (OQ _))
theorem Hi.BZ(h:Hi a b out na nb)(c:k<=nb):Hi a b (out++(b.extract k nb).reverse) na k:=by
 refine⟨?_,h.ha,by have:=h.hb;omega⟩;refine MD ?_ h.p;rw[dP b c,LW,N8];simp only[Ly];refine LO _ (LO _ ?_);exact List.perm_append_comm.trans (NS _ (OQ _))
end
abbrev D6:=Option (Array Lh)×Nat×Nat×Array Lh×Nat×Nat
abbrev D7:=Option (Array Lh)×Nat×Nat×Array Lh×Nat×Nat×Nat
abbrev D5:=Option (Array Lh)×Nat×Nat×Array Lh×Nat
noncomputable def tW(a b:Array Lh)(mg:Nat)(c:D6):SM (ForInStep D6):=do
 let y<-ML b (c.2.2.1-1)let x<-ML a (c.2.1-1)match<-lt' y x with
 |some d=>
  if d=KN then do
   let z<-ML a (c.2.1-1)if(c.2.1-1==0)=KN then pure (.done (KE (rG a b (c.2.2.2.1.push z) (c.2.1-1) c.2.2.1),c.2.1-1,c.2.2.1,c.2.2.2.1.push z,c.2.2.2.2.1+1,0))else if c.2.2.2.2.1+1>=mg then pure (.done (KL,c.2.1-1,c.2.2.1,c.2.2.2.1.push z,c.2.2.2.2.1+1,0))else pure (.yield (KL,c.2.1-1,c.2.2.1,c.2.2.2.1.push z,c.2.2.2.2.1+1,0))else do
   let z<-ML b (c.2.2.1-1)if(c.2.2.1-1==1)=KN then pure (.done (KE (DD a b (c.2.2.2.1.push z) c.2.1 (c.2.2.1-1)),c.2.1,c.2.2.1-1,c.2.2.2.1.push z,0,c.2.2.2.2.2+1))else if c.2.2.2.2.2+1>=mg then pure (.done (KL,c.2.1,c.2.2.1-1,c.2.2.2.1.push z,0,c.2.2.2.2.2+1))else pure (.yield (KL,c.2.1,c.2.2.1-1,c.2.2.2.1.push z,0,c.2.2.2.2.2+1))|_=>pure (.done (KE (rG a b c.2.2.2.1 c.2.1 c.2.2.1),c.2))
noncomputable def Iq(a b:Array Lh)(mg g f d:Nat)(c:Array Lh)(e:Nat):SM (ForInStep D7):=do
 let z<-ML a (d-1)if(d-1==0)=KN then pure (.done (KE (rG a b (c.push z) (d-1) e),d-1,e,c.push z,mg,g,f))else if(decide (g<7)&&decide (f<7))=KN then pure (.done (KL,d-1,e,c.push z,mg,g,f))else pure (.yield (KL,d-1,e,c.push z,mg,g,f))
noncomputable def GU(a b:Array Lh)(mg f g d:Nat)(c:Array Lh)(e:Nat):SM (ForInStep D7):=do
 let z<-ML b (d-1)if(d-1==1)=KN then pure (.done (KE (DD a b (c.push z) e (d-1)),e,d-1,c.push z,mg,f,g))else do
  let x<-ML a (e-1)match<-bD KN x b 0 (d-1) (d-1-1)with
  |some p=>
   if d-1-p>0 then
    if(p==1)=KN then pure (.done (KE (DD a b (c.push z++(b.extract p (d-1)).reverse) e p),e,p,c.push z++(b.extract p (d-1)).reverse,mg,f,d-1-p))else if(p==0)=KN then pure (.done (KE (rG a b (c.push z++(b.extract p (d-1)).reverse) e p),e,p,c.push z++(b.extract p (d-1)).reverse,mg,f,d-1-p))else Iq a b mg f (d-1-p) e (c.push z++(b.extract p (d-1)).reverse) p;else Iq a b mg f (d-1-p) e (c.push z) (d-1)|_=>pure (.done (KE (rG a b (c.push z) e (d-1)),e,d-1,c.push z,mg,f,g))
noncomputable def xi(a b:Array Lh)(c:D7)(mg:Nat):SM (ForInStep D7):=do
 aC mg;let y<-ML b (c.2.2.1-1)match<-bD KO y a 0 c.2.1 (c.2.1-1)with
 |some p=>
  if c.2.1-p>0 then
   if(p==0)=KN then pure (.done (KE (rG a b (c.2.2.2.1++(a.extract p c.2.1).reverse) p c.2.2.1),p,c.2.2.1,c.2.2.2.1++(a.extract p c.2.1).reverse,mg,c.2.1-p,c.2.2.2.2.2.2))else GU a b mg (c.2.1-p) c.2.2.2.2.2.2 c.2.2.1 (c.2.2.2.1++(a.extract p c.2.1).reverse) p;else GU a b mg (c.2.1-p) c.2.2.2.2.2.2 c.2.2.1 c.2.2.2.1 c.2.1|_=>pure (.done (KE (rG a b c.2.2.2.1 c.2.1 c.2.2.1),c.2.1,c.2.2.1,c.2.2.2.1,mg,c.2.2.2.2.2.1,c.2.2.2.2.2.2))
noncomputable def Ir(a b:Array Lh)(c:D5):SM (ForInStep D5):=do
 let d<-forIn [0:a.size+b.size] ((KL,c.2.1,c.2.2.1,c.2.2.2.1,0,0):D6) λ_ d=>tW a b c.2.2.2.2 d;match d.1 with
 |some r=>pure (.done (KE r,d.2.1,d.2.2.1,d.2.2.2.1,c.2.2.2.2))|none=>do
  liftM (Qk "list.sort.gallop")let e<-forIn [0:a.size+b.size] ((KL,d.2.1,d.2.2.1,d.2.2.2.1,c.2.2.2.2+1,d.2.2.2.2.1,d.2.2.2.2.2):D7) λ_ e=>if e.2.2.2.2.1>1 then xi a b e (e.2.2.2.2.1-1)else xi a b e e.2.2.2.2.1;match e.1 with
  |some r=>pure (.done (KE r,e.2.1,e.2.2.1,e.2.2.2.1,e.2.2.2.2.1))|none=>do
   aC (e.2.2.2.2.1+1)pure (.yield (KL,e.2.1,e.2.2.1,e.2.2.2.1,e.2.2.2.2.1+1))
theorem td(a b:Array Lh):gF a b=(do
 liftM (Qk "list.sort.merge-hi")let x<-ML a (a.size-1)if(a.size-1==0)=KN then pure (rG a b #[x] (a.size-1) b.size)else if(b.size==1)=KN then pure (DD a b #[x] (a.size-1) b.size)else do
  let st<-get;let c<-forIn [0:a.size+b.size] ((KL,a.size-1,b.size,#[x],SF st):D5) λ_ c=>Ir a b c;match c.1 with
  |some r=>pure r|none=>liftM (PM "internal:list.sort.merge-bound":Pu (Array Lh))):=by
 rw[nY];dsimp only;refine congrArg _ (funext λ_=>?_);refine congrArg _ (funext λx=>?_);refine congrArg _ ?_;refine congrArg _ ?_;refine congrArg _ (funext λst=>?_);refine congr (congrArg _ ?_) (funext λc=>by obtain⟨e,c⟩:=c;cases e<;>rfl);refine congrArg _ (funext λ_=>funext λc=>?_);unfold Ir;refine congr (congrArg _ rfl) (funext λd=>?_);obtain⟨f,d⟩:=d;cases f with
 |some r=>rfl|none=>
  dsimp only;refine congrArg _ (funext λ_=>?_);refine congr (congrArg _ ?_) (funext λc=>by obtain⟨e,c⟩:=c;cases e<;>rfl);refine congrArg _ (funext λ_=>funext λc=>?_);unfold xi;refine congr (congrArg _ ?_) ?_;all_goals
   refine congrArg _ (funext λ_=>?_);refine congrArg _ (funext λy=>?_);refine congrArg _ (funext λk=>?_);cases k with
   |none=>rfl|some k=>
    dsimp only;unfold GU;refine congr (congrArg _ ?_) ?_
    .refine congrArg _ ?_;refine congrArg _ (funext λy=>?_);refine congrArg _ ?_;refine congrArg _ (funext λy=>?_);refine congrArg _ (funext λk=>?_);cases k<;>rfl
    .refine congrArg _ (funext λy=>?_);refine congrArg _ ?_;refine congrArg _ (funext λy=>?_);refine congrArg _ (funext λk=>?_);cases k<;>rfl
structure Ho(κ:M9)(a₀:Array Lh)(st:Ln)(a b:Array Lh)(o0:Nat)(r:Option (Array Lh))(out:Array Lh)(na nb:Nat)(st':Ln):Prop where
 g:Gs κ a₀ st st'
 n:r=KL
 l:Hi a b out na nb
 a1:1<=na
 b1:2<=nb
 o:o0<out.size
inductive Hf(κ:M9)(a₀:Array Lh)(st:Ln)(a b:Array Lh)(o0:Nat)(out:Array Lh)(na nb:Nat)(st':Ln):Option (Array Lh)->Prop where|ret{z:Array Lh}(g:Gs κ a₀ st st')(p:z.Perm (a++b)):Hf κ a₀ st a b o0 out na nb st' (KE z)|go(h:Ho κ a₀ st a b o0 KL out na nb st'):Hf κ a₀ st a b o0 out na nb st' KL
section
variable{st:Ln}{a b:Array Lh}
noncomputable abbrev R7(κ:M9)(a₀:Array Lh)(st:Ln)(a b:Array Lh)(e:Nat):ForInStep D7->Ln->Prop:=λr d=>match r with
 |.done c=>Hf κ a₀ st a b e c.2.2.2.1 c.2.1 c.2.2.1 d c.1|.yield c=>Ho κ a₀ st a b e c.1 c.2.2.2.1 c.2.1 c.2.2.1 d
theorem rH(y:∀x∈a,x∈a₀){mg p n e j i:Nat}{c:Array Lh}{d:Ln}(h:Ho κ a₀ st a b i KL c e j d):Q5 (K4 prog w) A E s (Iq a b mg p n e c j) (R7 κ a₀ st a b i) d:=by
 have m:=h.a1;have q:=h.l.ha;refine K0 (av (by omega) λv u ev=>?_);have k:=h.l.lN m ev;have t:(c.push v).size=c.size+1:=M5 ..;have r:=h.o;by_cases f:(e-1==0)=KN
 .rw[if_pos f];exact K6 (.ret h.g k.done)
 rw[if_neg f];have f:=aK f;have g:Ho κ a₀ st a b i KL (c.push v) (e-1) j d:=⟨h.g,rfl,k,by omega,h.b1,by omega⟩;split;.exact K6 (.go g)
 .exact K6 g
theorem rJ(C:Cm prog w A s κ a₀)(r:∀x∈a,x∈a₀)(q:∀x∈b,x∈a₀){mg D B u e t:Nat}{c:Array Lh}{d:Ln}(h:Ho κ a₀ st a b t KL c u e d):Q5 (K4 prog w) A E s (GU a b mg D B e c u) (R7 κ a₀ st a b t) d:=by
 have H:=h.b1;have G:=h.l.hb;have F:=h.a1;have y:=h.l.ha;refine K0 (av (by omega) λv K ev=>?_);have p:=h.l.lO (by omega) ev;have J:(c.push v).size=c.size+1:=M5 ..;have I:=h.o;by_cases m:(e-1==1)=KN
 .rw[if_pos m];exact K6 (.ret h.g p.first)
 rw[if_neg m];have m:=aK m;refine K0 (av (by omega) λx z ex=>?_);refine K0 (b9 C h.g.b.k q (r x z) (by omega) (by omega) λk L=>?_);show Q5 _ _ _ _ (if e-1-k>0 then _ else _) _ _;by_cases f:e-1-k>0
 .rw[if_pos f];have n:=p.BZ (k:=k) (by omega);by_cases j:(k==1)=KN
  .rw[if_pos j];exact K6 (.ret h.g n.first)
  .rw[if_neg j];have j:=aK j;by_cases i:(k==0)=KN
   .rw[if_pos i];exact K6 (.ret h.g n.done)
   .rw[if_neg i];have i:=aK i;exact rH r ⟨h.g,rfl,n,h.a1,by omega,by rw[Ny];omega⟩
 .rw[if_neg f];exact rH r ⟨h.g,rfl,p,h.a1,by omega,by omega⟩
theorem rK(C:Cm prog w A s κ a₀)(l:∀x∈a,x∈a₀)(d:∀x∈b,x∈a₀){mg n:Nat}{c:D7}{e:Ln}(h:Ho κ a₀ st a b n c.1 c.2.2.2.1 c.2.1 c.2.2.1 e):Q5 (K4 prog w) A E s (xi a b c mg) (R7 κ a₀ st a b n) e:=by
 obtain⟨K,o,I,z,B,M,L⟩:=c;obtain⟨u,t,g,r,m,q⟩:=h;dsimp only at u t g r m q;subst t;have H:=g.ha;have G:=g.hb;refine K0 (jh u λv j=>?_);refine K0 (av (by dsimp only;omega) λy D J=>?_);refine K0 (b9 C j.b.k l (d y D) (by dsimp only;omega) (by dsimp only;omega) λk F=>?_);show Q5 _ _ _ _ (if o-k>0 then _ else _) _ _;dsimp only at F⊢;by_cases f:o-k>0
 .rw[if_pos f];have p:=g.BY (k:=k) (by omega);by_cases i:(k==0)=KN
  .rw[if_pos i];exact K6 (.ret j p.done)
  rw[if_neg i];have i:=aK i;exact rJ C l d ⟨j,rfl,p,by omega,m,by rw[Ny];omega⟩
 .rw[if_neg f];exact rJ C l d ⟨j,rfl,g,r,m,q⟩
theorem yA(C:Cm prog w A s κ a₀)(H:∀x∈a,x∈a₀)(q:∀x∈b,x∈a₀){mg u o:Nat}{c:D6}{d:Ln}(h:Ho κ a₀ st a b o c.1 c.2.2.2.1 c.2.1 c.2.2.1 d)(M:u<=o):Q5 (K4 prog w) A E s (tW a b mg c) (λr d=>match r with
  |.done g=>Hf κ a₀ st a b (u+1) g.2.2.2.1 g.2.1 g.2.2.1 d g.1|.yield g=>Ho κ a₀ st a b (o+1) g.1 g.2.2.2.1 g.2.1 g.2.2.1 d) d:=by
 obtain⟨O,F,D,e,Q,P⟩:=c;obtain⟨i,v,l,m,t,I⟩:=h;dsimp only at i v l m t I;subst v;have L:=l.ha;have K:=l.hb;refine K0 (av (by dsimp only;omega) λy p n=>?_);refine K0 (av (by dsimp only;omega) λz G N=>?_);refine K0 (jW C i.b.k (q y p) (H z G) λJ=>?_);cases J with
 |true=>
  dsimp only;rw[if_pos rfl];refine K0 (av (by omega) λy p n=>?_);have j:=l.lN m n;have B:(e.push y).size=e.size+1:=M5 ..;by_cases f:(F-1==0)=KN
  .rw[if_pos f];exact K6 (.ret i j.done)
  .rw[if_neg f];have f:=aK f;split;.exact K6 (.go ⟨i,rfl,j,by dsimp only;omega,t,by dsimp only;omega⟩)
   .exact K6 ⟨i,rfl,j,by dsimp only;omega,t,by dsimp only;omega⟩|false=>
  dsimp only;rw[if_neg (by decide)];refine K0 (av (by omega) λy p n=>?_);have j:=l.lO (by omega) n;have B:(e.push y).size=e.size+1:=M5 ..;by_cases f:(D-1==1)=KN
  .rw[if_pos f];exact K6 (.ret i j.first)
  .rw[if_neg f];have f:=aK f;split;.exact K6 (.go ⟨i,rfl,j,m,by dsimp only;omega,by dsimp only;omega⟩)
   .exact K6 ⟨i,rfl,j,m,by dsimp only;omega,by dsimp only;omega⟩
theorem yB(C:Cm prog w A s κ a₀)(H:∀x∈a,x∈a₀)(m:∀x∈b,x∈a₀){i:Nat}{c:D5}{ee:Ln}(h:Ho κ a₀ st a b i c.1 c.2.2.2.1 c.2.1 c.2.2.1 ee):Q5 (K4 prog w) A E s (Ir a b c) (λr e=>match r with
  |.done q=>∃z,q.1=KE z/\z.Perm (a++b)/\Gs κ a₀ st e|.yield q=>Ho κ a₀ st a b (i+1) q.1 q.2.2.2.1 q.2.1 q.2.2.1 e) ee:=by
 refine K0 (aR (λj(d:D6)e=>Ho κ a₀ st a b (i+j) d.1 d.2.2.2.1 d.2.1 d.2.2.1 e) (λd e=>Hf κ a₀ st a b (i+1) d.2.2.2.1 d.2.1 d.2.2.1 e d.1) ⟨h.g,rfl,h.l,h.a1,h.b1,h.o⟩ ?_ ?_ ?_)
 .rintro j d aW _ N g;exact O5 (yA C H m g (Qd _ _)) λr e h=>by cases r<;>exact h
 .rintro⟨I,G,F,k,K,J⟩aW g;obtain⟨B,y,n,v,u,D⟩:=g;dsimp only at B y n v u D;subst y;have:=n.size;exact .go ⟨B,rfl,n,v,u,by dsimp only;omega⟩
 .rintro⟨I,G,F,k,K,J⟩aW f;dsimp only at f⊢;cases f with
  |ret g p=>exact K6 ⟨_,rfl,p,g⟩|go g=>
   refine K0 (c7 ?_);refine K0 (aR (λj(d:D7)e=>Ho κ a₀ st a b (i+1) d.1 d.2.2.2.1 d.2.1 d.2.2.1 e) (λd e=>Hf κ a₀ st a b (i+1) d.2.2.2.1 d.2.1 d.2.2.1 e d.1) g ?_ ?_ ?_)
   .rintro j d t _ _ g;split;.exact O5 (rK C H m g) λr e h=>by cases r<;>exact h
    .exact O5 (rK C H m g) λr e h=>by cases r<;>exact h
   .rintro⟨I,G,F,k,mg,K,J⟩t g;obtain⟨B,y,n,v,u,D⟩:=g;dsimp only at B y n v u D;subst y;exact .go ⟨B,rfl,n,v,u,D⟩
   .rintro⟨I,G,F,k,mg,K,J⟩t f;dsimp only at f⊢;cases f with
    |ret g p=>exact K6 ⟨_,rfl,p,g⟩|go g=>exact K0 (jh g.g λL M=>K6 ⟨M,rfl,g.l,g.a1,g.b1,g.o⟩)
theorem n6(C:Cm prog w A s κ a₀){Q:Array Lh->Ln->Prop}(h:Bs κ a₀ st)(y:∀x∈a,x∈a₀)(m:∀x∈b,x∈a₀)(ha:0<a.size)(hb:0<b.size)(q:∀r d,r.Perm (a++b)->Gs κ a₀ st d->Q r d):Q5 (K4 prog w) A E s (gF a b) Q st:=by
 rw[td];refine K0 (c7 ?_);refine K0 (av (by omega) λx D ex=>?_);have k:Hi a b #[x] (a.size-1) b.size:=by
  have l:Hi a b #[] a.size b.size:=⟨by simp[L9],K8 _,K8 _⟩;exact l.lN ha ex
 have n:Gs κ a₀ st st:=⟨h,rfl,rfl⟩;by_cases f:(a.size-1==0)=KN
 .rw[if_pos f];exact K6 (q _ _ k.done n)
 rw[if_neg f];by_cases e:(b.size==1)=KN
 .rw[if_pos e];exact K6 (q _ _ k.first n)
 rw[if_neg e];have f:=aK f;have e:=aK e;refine K0 (OO ?_);refine K0 (aR (λi(c:D5)d=>Ho κ a₀ st a b i c.1 c.2.2.2.1 c.2.1 c.2.2.1 d) (λc d=>∃z,c.1=KE z/\z.Perm (a++b)/\Gs κ a₀ st d) ⟨n,rfl,k,by dsimp only;omega,by dsimp only;omega,by show 0<1;omega⟩ ?_ ?_ ?_)
 .rintro i c ee _ _ g;exact O5 (yB C y m g) λr d h=>by cases r<;>exact h
 .rintro⟨B,v,u,j,mg⟩aW g;have:=g.l.size;have:=g.o;have:=g.a1;have:=g.b1;dsimp only at*;omega
 .rintro⟨B,v,u,j,mg⟩aW⟨z,t,p,g⟩;dsimp only at t⊢;subst t;exact K6 (q z aW p g)
end
end
end SrtP
end
section
namespace SrtP
open PySem PyProof.Rows
inductive Runs:Nat->List (Nat×Nat×Nat)->Nat->Prop where|nil(s:Nat):Runs s [] s|cons{s n p e:Nat}{r:List (Nat×Nat×Nat)}(h:1<=n)(t:Runs (s+n) r e):Runs s ((s,n,p)::r) e
theorem Runs.le{s e:Nat}{l:List (Nat×Nat×Nat)}(h:Runs s l e):s<=e:=by induction h with
 |nil=>exact K8 _|cons _ _ a=>omega
theorem Runs.snoc{s e n p:Nat}{l:List (Nat×Nat×Nat)}(h:Runs s l e)(b:1<=n):Runs s (l++[(e,n,p)]) (e+n):=by induction h with
 |nil s=>exact .cons b (.nil _)|cons h t a=>exact .cons h a
theorem Runs.mod{s e i:Nat}{l:List (Nat×Nat×Nat)}(pw:Nat)(h:Runs s l e):Runs s (l.modify i λx=>(x.1,x.2.1,pw)) e:=by induction h generalizing i with
 |nil s=>cases i<;>exact .nil s|cons h t a=>cases i with
  |zero=>exact .cons h t|succ i=>exact .cons h a
theorem Runs.two{s e:Nat}:∀{i:Nat}{l:List (Nat×Nat×Nat)},Runs s l e->i+1<l.length->∃sa a p b q,l[i]?=KE (sa,a,p)/\l[i+1]?=KE (sa+a,b,q)/\1<=a/\1<=b/\sa+a+b<=e/\Runs s ((l.set i (sa,a+b,p)).eraseIdx (i+1)) e
 |i,[],h,c=>by simp at c|0,[_],h,c=>by simp at c|0,_::_::_,.cons (n:=n) (p:=p) d (.cons (n:=m) (p:=q) f t),c=>⟨_,n,p,m,q,rfl,rfl,d,f,t.le,.cons (by omega) (by rw[<-OY];exact t)⟩|i+1,_::_,.cons d t,c=>by
  obtain⟨sa,a,p,b,q,u,r,o,k,j,g⟩:=t.two (i:=i) (by simpa using c);exact⟨sa,a,p,b,q,by simpa using u,by simpa using r,o,k,j,.cons d g⟩
theorem n9:∀(m pre c b:List Lh)(k:Nat),c.length=m.length->∀(xs:Array Lh),xs.toList=pre++c++b->k<=pre.length->((m.zipIdx k).foldl (λa(x:Lh×Nat)=>a.setIfInBounds (pre.length-k+x.2) x.1) xs).toList=pre++m++b
 |[],pre,c,b,k,h,xs,e,_=>by cases c with
  |nil=>exact e|cons _ _=>simp at h
 |y::m,pre,[],b,k,h,xs,e,_=>by simp at h|y::m,pre,z::c,b,k,h,xs,e,g=>by
  simp only[Qb,List.foldl_cons];have f:(xs.setIfInBounds (pre.length-k+k) y).toList=(pre++[y])++c++b:=by
   rw[show pre.length-k+k=pre.length by omega,Pt,e];simp
  have:=n9 m (pre++[y]) c b (k+1) (by simpa using h) _ f (by simp;omega);have d:(pre++[y]).length-(k+1)=pre.length-k:=by simp
  rw[d]at this;rw[this];simp
section
variable{prog:Lb}{w:Lv}{A:Lz}{E:KJ->KR->Prop}{s:KR}{κ:M9}{a₀:Array Lh}
theorem n_(i:Nat):mergeAt' i=(do
 let s<-get
 let(KE (sa,d,b),KE (e,c,_)):=((Lc s)[i]?,(Lc s)[i+1]?)|unsupported "internal:list.sort.pending"
 set (setPending s (((Lc s).setIfInBounds i (sa,d+c,b)).eraseIdxIfInBounds (i+1)))
 let KE k<-bD KO (<-ML (M_ s) e) (M_ s) sa d 0|return KO
 let(sa,d):=(sa+k,d-k)if d==0 then return KN
 let KE c<-bD KN (<-ML (M_ s) (sa+d-1)) (M_ s) e c (c-1)|return KO
 if c==0 then return KN
 let x:=(M_ s).extract sa e;let y:=(M_ s).extract e (e+c)let merged<-if d<=c then gE x y else gF x y
 modify λs=>setArr s (merged.toList.zipIdx.foldl (λa(p,j)=>a.setIfInBounds (sa+j) p) (M_ s))return(Ri (<-get)).isNone):=rfl
theorem rL{xs:Array Lh}{i j:Nat}{z:Lh}(h:z∈xs.extract i j):z∈xs:=by
 rw[<-N7,Nx,MP]at h;exact Array.mem_toList_iff.mp (List.mem_of_mem_drop (List.mem_of_mem_take h))
theorem yC{Q:PUnit->Ln->Prop}{st a:Ln}(h:Q ⟨⟩ a):Q5 (K4 prog w) A E s (set a:StateT Ln Pu PUnit) Q st:=by
 unfold Q5;rw[StateT.run_set];exact KP ⟨rfl,h⟩
theorem eY(C:Cm prog w A s κ a₀){st:Ln}{i lo:Nat}{Q:Bool->Ln->Prop}(h:Bs κ a₀ st)(N:Runs 0 (Lc st).toList lo)(U:lo<=a₀.size)(J:i+1<(Lc st).size)(q:∀o,Bs κ a₀ o->Runs 0 (Lc o).toList lo->Q KN o):Q5 (K4 prog w) A E s (mergeAt' i) Q st:=by
 obtain⟨sa,c,p,F,L,T,S,Y,X,W,R⟩:=N.two (i:=i) (by simpa using J);rw[n_];refine K0 (OO ?_);rw[show(Lc st)[i]?=KE (sa,c,p)by rw[<-Mg];exact T,show(Lc st)[i+1]?=KE (sa+c,F,L)by rw[<-Mg];exact S];dsimp only;refine K0 (yC ?_);have M:=h.size;generalize d:setPending st (((Lc st).setIfInBounds i (sa,c+F,p)).eraseIdxIfInBounds (i+1))=ee;have b1:Bs κ a₀ ee:=by subst d;exact⟨h.k,h.p,h.f⟩
 have D:Runs 0 (Lc ee).toList lo:=by
  subst d;show Runs 0 (((Lc st).setIfInBounds i (sa,c+F,p)).eraseIdxIfInBounds (i+1)).toList lo;rw[Array.eraseIdxIfInBounds_eq,dif_pos (by rw[Array.size_setIfInBounds];exact J),Array.toList_eraseIdx,Pt];exact R
 have a1:M_ ee=M_ st:=by subst d;rfl
 clear d;refine K0 (av (by omega) λx v _=>?_);refine K0 (b9 C b1.k (λy n=>h.mem n) (h.mem v) (by omega) (by omega) λk V=>?_);dsimp only;by_cases B:(c-k==0)=KN
 .rw[if_pos B];exact K6 (q ee b1 D)
 rw[if_neg B];have B:=aK B;refine K0 (av (by omega) λy n _=>?_);refine K0 (b9 C b1.k (λy n=>h.mem n) (h.mem n) (by omega) (by omega) λl O=>?_);dsimp only;by_cases m:(l==0)=KN
 .rw[if_pos m];exact K6 (q ee b1 D)
 rw[if_neg m];have m:=aK m;have v:0<((M_ st).extract (sa+k) (sa+c)).size:=by rw[RQ];omega
 have n:0<((M_ st).extract (sa+c) (sa+c+l)).size:=by rw[RQ];omega
 have I:∀z∈(M_ st).extract (sa+k) (sa+c),z∈a₀:=λz G=>h.mem (rL G);have H:∀z∈(M_ st).extract (sa+c) (sa+c+l),z∈a₀:=λz G=>h.mem (rL G);have u:∀(r:Array Lh)(aW:Ln),r.Perm ((M_ st).extract (sa+k) (sa+c)++(M_ st).extract (sa+c) (sa+c+l))->Gs κ a₀ ee aW->Q5 (K4 prog w) A E s (do
   modify λs=>setArr s (r.toList.zipIdx.foldl (λa(x:Lh×Nat)=>match x with|(p,j)=>a.setIfInBounds (sa+k+j) p) (M_ s))let __do_lift<-get;pure (Ri __do_lift).isNone) Q aW:=λr aW t g=>by
  refine K0 (NR ?_);refine K0 (OO ?_);have P:(Ri (setArr aW (r.toList.zipIdx.foldl (λa(x:Lh×Nat)=>match x with|(p,j)=>a.setIfInBounds (sa+k+j) p) (M_ aW)))).isNone=KN:=by
   show(Ri aW).isNone=KN;rw[g.b.f];rfl
  rw[P];refine K6 (q _ ⟨g.b.k,?_,g.b.f⟩ ?_)
  .show(r.toList.zipIdx.foldl (λa(x:Lh×Nat)=>match x with|(p,j)=>a.setIfInBounds (sa+k+j) p) (M_ aW)).Perm a₀;rw[g.e,a1];refine Array.Perm.trans ?_ h.p;rw[MM];have K:=n9 r.toList ((M_ st).toList.take (sa+k)) (((M_ st).extract (sa+k) (sa+c)++(M_ st).extract (sa+c) (sa+c+l)).toList) ((M_ st).toList.drop (sa+c+l)) 0 (by rw[Mf,Mf];exact t.size_eq.symm) (M_ st) ?_ (Mo _)
   .rw[show((M_ st).toList.take (sa+k)).length-0=sa+k by simp;omega]at K;refine MD (Nt K) ?_;refine MD (NS _ (LO _ t.toList)) (Nt ?_);rw[LW,<-Ly,<-dP _ (by omega),<-dP _ (by omega),N2]
   .rw[LW,<-Ly,<-dP _ (by omega),<-dP _ (by omega),N2]
  .show Runs 0 (Lc aW).toList lo;rw[g.p];exact D
 split;.exact K0 (nX C b1 I H v n λr aW t g=>u r aW t g)
 .exact K0 (n6 C b1 I H v n λr aW t g=>u r aW t g)
end
end SrtP
end
section
namespace SrtP
open PySem PyProof.Rows
section
variable{prog:Lb}{w:Lv}{A:Lz}{E:KJ->KR->Prop}{s:KR}{κ:M9}{a₀:Array Lh}
theorem jX:∀(f n r:Nat),1<=n->1<=minRun' f n r
 |0,n,r,h=>by show 1<=n+r;omega|f+1,n,r,h=>by
  rw[minRun'_succ];split;.omega
  .exact jX f _ _ (by omega)
theorem B0(c:Prop)[Decidable c]{n:Nat}(h:2<=n):(if c then n-2-1 else n-2)+1<n:=by split<;>omega
theorem vA(C:Cm prog w A s κ a₀){st:Ln}{Q:Unit->Ln->Prop}(h:Bs κ a₀ st)(g:Lc st=#[])(q:∀a,Bs κ a₀ a->Q () a):Q5 (K4 prog w) A E s sortRuns' Q st:=by
 rw[sortRuns'_eq];refine K0 (OO ?_);have D:=h.size;dsimp only;rw[D];refine K0 (aR (λ_(c:Option Unit×Nat)a=>c.1=KL/\Bs κ a₀ a/\Runs 0 (Lc a).toList c.2/\c.2<=a₀.size) (λc a=>c.1=KL/\Bs κ a₀ a/\∃lo,Runs 0 (Lc a).toList lo/\lo<=a₀.size) ⟨rfl,h,by rw[g];exact .nil _,Mo _⟩ ?_ (λc a z=>⟨z.1,z.2.1,_,z.2.2⟩) ?_)
 .rintro i⟨T,lo⟩ee _ _⟨u,b1,r,l⟩;dsimp only at u r l⊢;subst u;by_cases I:lo>=a₀.size
  .rw[if_pos I];exact K6 ⟨rfl,b1,lo,r,l⟩
  .rw[if_neg I];refine K0 (s9 C b1 (by omega) (by omega) λn aW t S b N=>?_);have d:Runs 0 (Lc aW).toList lo:=by rw[N];exact r
   dsimp only;have F:=jX a₀.size a₀.size 0 (by omega);generalize minRun' a₀.size a₀.size 0=B at F⊢;by_cases H:n<B
   .rw[if_pos H];refine K0 (c7 ?_);have hN:1<=min (a₀.size-lo) B:=by omega
    have v:lo+min (a₀.size-lo) B<=a₀.size:=by omega
    generalize min (a₀.size-lo) B=m at hN v⊢;refine K0 (yw C b v λe j M=>?_);have o:Runs 0 (Lc e).toList lo:=by rw[M];exact d
    simp only[LS,K_,if_false];refine K0 (OO ?_);cases G:(Lc e).back? with
    |none=>
     dsimp only;refine K0 (NR (K6 ⟨rfl,⟨j.k,j.p,j.f⟩,?_,by dsimp only;omega⟩));show Runs 0 ((Lc e).push (lo,m,0)).toList (lo+m);rw[MN];exact o.snoc hN|some x=>
     obtain⟨s1,n1,O⟩:=x;dsimp only;refine K0 (aR (λ_ c a=>c=(KL,())/\Bs κ a₀ a/\Runs 0 (Lc a).toList lo) (λc a=>c=(KL,())/\Bs κ a₀ a/\Runs 0 (Lc a).toList lo) ⟨rfl,j,o⟩ ?_ (λ_ _ z=>z) ?_)
     .rintro i c aW _ _⟨rfl,b,d⟩;refine K0 (OO ?_);by_cases g:(Lc aW).size>1
      .rw[if_pos g];cases R:(Lc aW)[(Lc aW).size-2]? with
       |none=>exact K6 ⟨rfl,b,d⟩|some y=>
        obtain⟨L,K,J⟩:=y;dsimp only;split;.exact K6 ⟨rfl,b,d⟩
        .refine K0 (eY C b d (by omega) (by omega) λe j o=>?_);exact K6 ⟨rfl,j,o⟩
      .rw[if_neg g];exact K6 ⟨rfl,b,d⟩
     .rintro c aW⟨rfl,b,d⟩;dsimp only;refine K0 (NR (K0 (NR (K6 ⟨rfl,⟨b.k,b.p,b.f⟩,?_,by dsimp only;omega⟩))));show Runs 0 (((Lc aW).modify ((Lc aW).size-1) _).push (lo,m,0)).toList (lo+m);rw[MN,Ru];exact(d.mod _).snoc hN
   .rw[if_neg H];refine K0 (OO ?_);cases G:(Lc aW).back? with
    |none=>
     dsimp only;refine K0 (NR (K6 ⟨rfl,⟨b.k,b.p,b.f⟩,?_,by dsimp only;omega⟩));show Runs 0 ((Lc aW).push (lo,n,0)).toList (lo+n);rw[MN];exact d.snoc t|some x=>
     obtain⟨s1,n1,O⟩:=x;dsimp only;refine K0 (aR (λ_ c a=>c=(KL,())/\Bs κ a₀ a/\Runs 0 (Lc a).toList lo) (λc a=>c=(KL,())/\Bs κ a₀ a/\Runs 0 (Lc a).toList lo) ⟨rfl,b,d⟩ ?_ (λ_ _ z=>z) ?_)
     .rintro i c aW _ _⟨rfl,b,d⟩;refine K0 (OO ?_);by_cases g:(Lc aW).size>1
      .rw[if_pos g];cases R:(Lc aW)[(Lc aW).size-2]? with
       |none=>exact K6 ⟨rfl,b,d⟩|some y=>
        obtain⟨L,K,J⟩:=y;dsimp only;split;.exact K6 ⟨rfl,b,d⟩
        .refine K0 (eY C b d (by omega) (by omega) λe j o=>?_);exact K6 ⟨rfl,j,o⟩
      .rw[if_neg g];exact K6 ⟨rfl,b,d⟩
     .rintro c aW⟨rfl,b,d⟩;dsimp only;refine K0 (NR (K0 (NR (K6 ⟨rfl,⟨b.k,b.p,b.f⟩,?_,by dsimp only;omega⟩))));show Runs 0 (((Lc aW).modify ((Lc aW).size-1) _).push (lo,n,0)).toList (lo+n);rw[MN,Ru];exact(d.mod _).snoc t
 .rintro⟨T,P⟩ee⟨u,b1,lo,r,l⟩;dsimp only at u⊢;subst u;refine K0 (aR (λ_ c a=>c=(KL,())/\Bs κ a₀ a/\Runs 0 (Lc a).toList lo) (λc a=>c=(KL,())/\Bs κ a₀ a/\Runs 0 (Lc a).toList lo) ⟨rfl,b1,r⟩ ?_ (λ_ _ z=>z) ?_)
  .rintro i c aW _ _⟨rfl,b,d⟩;refine K0 (OO ?_);by_cases g:(Lc aW).size<=1
   .rw[if_pos g];exact K6 ⟨rfl,b,d⟩
   .rw[if_neg g];refine K0 (eY C b d l (B0 _ (by omega)) λe j o=>?_);exact K6 ⟨rfl,j,o⟩
  .rintro c aW⟨rfl,b,d⟩;exact K6 (q aW b)
end
end SrtP
end
section
namespace SrtP
open PySem PySem.W PyProof.Rows L2
noncomputable def Kept(a:KS)(h h':Lu):Prop:=∀b o,b≠a->h.get? b=KE o->h'.get? b=KE o
noncomputable abbrev eR(h h':Lu):Prop:=∀b o,h.get? b=KE o->h'.get? b=KE o
section
variable{prog:Lb}{w:Lv}{A:Lz}{E:KJ->KR->Prop}{s:KR}
theorem og(a:List KJ):(a.toArray.zip a.toArray).toList=a.map λv=>(v,v):=by
 rw[Array.toList_zip];induction a with
 |nil=>rfl|cons v r b=>simpa using b
theorem jY{a:KS}{d:List KJ}{n:Nat}{P:PySem.Fin->KR->Prop}{F:M9}(D:s.heap.get? a=KE (Of "list" d.toArray n))(N:d.length<=KU)(S:2<=d.length->∀h',Kept a s.heap h'->(∀Q':M9->KR->Prop,Q' F {s with heap:=h'}->wpAny (K4 prog w) A (keyKind' d.toArray) Q' (λ_ _=>False) {s with heap:=h'})/\∀x∈d,∀y∈d,∀(Q:Bool->KR->Prop)(E:KJ->KR->Prop),(∀b,Q b {s with heap:=h'})->wpAny (K4 prog w) A (keyLt' F x y) Q E {s with heap:=h'})(h:∀(us:List KJ)(h':Lu)(c:Nat),us.Perm d->Kept a s.heap h'->h'.get? a=KE (Of "list" us.toArray c)->P (.done (.ret .none)) {s with heap:=h'}):wpAny (K4 prog w) A (Builtin.«list.sort» ⟨[.ref a],[]⟩) P E s:=by
 have ha:a<s.heap.objs.size:=K5 D;have s1:=M8 s.heap a (M2 λ_=>(#[]:Array KJ));obtain⟨H,r⟩:∃H,(s.heap.update a (M2 λ_=>(#[]:Array KJ))).get? a=KE (Of "list" #[] H):=⟨_,QN D λ_=>#[]⟩;rw[list_sort_plain];refine KH (listItems_at D rfl ?_);refine KH (RC D rfl ?_ (by rw[K3];exact N) (Mo _));refine KH (Sl r rfl ?_);refine KH (Rh ?_ (by show d.length<=_;exact N));refine KH (wpAny_newList ?_ (Mo _));refine LF ?_;show wpAny (K4 prog w) A _ P E {s with heap:=((s.heap.update a (M2 λ_=>(#[]:Array KJ))).push (Of "tuple" d.toArray 0)).push (Of "list" #[] 0)};generalize t:((s.heap.update a (M2 λ_=>(#[]:Array KJ))).push (Of "tuple" d.toArray 0)).push (Of "list" #[] 0)=m;have J:Kept a s.heap m:=λb o hb e=>by
  rw[<-t];exact KQ _ (KQ _ ((s1.2 b hb).trans e))
 have i:m.get? a=KE (Of "list" #[] H):=by
  rw[<-t];exact KQ _ (KQ _ r)
 dsimp only;have B:∀(us:Array KJ),us.toList.Perm d->∀l,(m.update a (M2 λ_=>us)).get? a=KE (Of "list" us l)->P (.done (.ret .none)) {s with heap:=m.update a (M2 λ_=>us)}:=λus hu l T=>h us.toList _ l hu (λb o hb e=>((M8 m a _).2 b hb).trans (J b o hb e)) T;have fz:∀(us:Array KJ),us.toList.Perm d->us.size<=KU+1:=λus hu=>by have:=hu.length_eq;rw[Mf]at this;omega
 have K:((d.toArray.zip d.toArray).map (·.2)).toList=d:=by
  rw[Qf,og,LA];exact Rj _
 by_cases z:d.toArray.size<2
 .rw[if_pos z,if_pos z];refine KH (KP ?_);rw[StateT.run_pure];refine KH (KP ?_);dsimp only;have hu:((M_ (RP general' (d.toArray.zip d.toArray) #[] 7 KL)).map (·.2)).toList.Perm d:=Nt K;generalize(M_ (RP general' (d.toArray.zip d.toArray) #[] 7 KL)).map (·.2)=us at hu⊢;obtain⟨l,q⟩:∃l,(m.update a (M2 λ_=>us)).get? a=KE (Of "list" us l):=⟨_,QN i λ_=>_⟩;refine KH (Sl i rfl ?_);refine KH (RC i rfl ?_ (Mo _) (fz us hu));simp only[bne_self_eq_false,K_,if_false];exact KP (B us hu l q)
 .rw[if_neg z,if_neg z];have G:2<=d.length:=by
   have:¬d.length<2:=by simpa using z
   omega
  obtain⟨O,C⟩:=S G m J;refine KH (MI (O (λj I=>j=F/\I={s with heap:=m}) ⟨rfl,rfl⟩) (λj W U=>?_) λ_ _ x=>x.elim);obtain⟨rfl,rfl⟩:=U;have V:Cm prog w A {s with heap:=m} j (d.toArray.zip d.toArray):=λx M y L=>by
   rw[<-N7,og]at M L;obtain⟨v,R,rfl⟩:=List.mem_map.mp M;obtain⟨u,hu,rfl⟩:=List.mem_map.mp L;exact C v R u hu
  refine KH (MI (vA (st:=RP j (d.toArray.zip d.toArray) #[] 7 KL) (Q:=λ_ k=>Bs j (d.toArray.zip d.toArray) k) V ⟨rfl,Array.Perm.refl _,rfl⟩ rfl λk b=>b) ?_ λ_ _ e=>e);rintro⟨⟨⟩,k⟩I⟨rfl,b⟩;dsimp only;have hu:((M_ k).map (·.2)).toList.Perm d:=by
   rw[Qf];refine(b.p.toList.map _).trans (Nt ?_);rw[<-Qf];exact K
  rw[b.f];generalize(M_ k).map (·.2)=us at hu⊢;obtain⟨l,q⟩:∃l,(m.update a (M2 λ_=>us)).get? a=KE (Of "list" us l):=⟨_,QN i λ_=>_⟩;refine KH (Sl i rfl ?_);refine KH (RC i rfl ?_ (Mo _) (fz us hu));simp only[bne_self_eq_false,K_,if_false];exact KP (B us hu l q)
structure vB(prog:Lb)(w:Lv)(A:Lz)(vals:List KJ)(κ:M9)(s:KR):Prop where
 kind:2<=vals.length->∀h',eR s.heap h'->∀Q':M9->KR->Prop,Q' κ {s with heap:=h'}->wpAny (K4 prog w) A (keyKind' vals.toArray) Q' (λ_ _=>False) {s with heap:=h'}cmp:2<=vals.length->∀h',eR s.heap h'->∀x∈vals,∀y∈vals,∀(Q:Bool->KR->Prop)(E:KJ->KR->Prop),(∀b,Q b {s with heap:=h'})->wpAny (K4 prog w) A (keyLt' κ x y) Q E {s with heap:=h'}
theorem oh{v:KJ}{Q:KJ->KR->Prop}(h:wpAny (K4 prog w) A.in1 (SQ v) (λvals s1=>vals.length<=KU/\∃d,vB prog w A.in1.in1 vals d s1/\∀(us:List KJ)(h':Lu)(c:Nat),us.Perm vals->eR s1.heap h'->h'.get? s1.heap.objs.size=KE (Of "list" us.toArray c)->Q (.ref s1.heap.objs.size) {s1 with heap:=h'}) E s):wpAny (K4 prog w) A (call (.builtin "sorted") [v]) Q E s:=by
 refine Calls.call_function_entry kind_sorted plain_sorted entry_sorted (args_sorted1 _) ?_;unfold Builtin.«sorted»;refine KH (m:=checkCount "sorted" 1 1 _) (KP ?_);refine KH (MI h (λvals s1 i=>?_) λ_ _ e=>e);obtain⟨f,d,K,q⟩:=i;refine KH (wpAny_newList ?_ f);have a:(s1.heap.push (Of "list" vals.toArray 0)).get? s1.heap.objs.size=KE (Of "list" vals.toArray 0):=K9 _ rfl;have keep:∀h',Kept s1.heap.objs.size (s1.heap.push (Of "list" vals.toArray 0)) h'->eR s1.heap h':=λh' k b o e=>k b o (Lp (K5 e)) (KQ _ e);refine KH (LF (LN slot_list_sort ⟨_,a,rfl⟩ entry_list_sort ?body (args_list_sort _)));case body=>
  refine jY (s:={s1 with heap:=s1.heap.push (Of "list" vals.toArray 0)}) a f (λg h' k=>⟨K.kind g h' (keep h' k),K.cmp g h' (keep h' k)⟩) λus h' c v k e=>⟨_,rfl,?_⟩;exact KP ⟨_,rfl,q us h' c v (keep h' k) e⟩
end
end SrtP
end
section
namespace SrtP
open PySem PySem.W PyProof.Rows L2
section
variable{prog:Lb}{w:Lv}{A:Lz}{E:KJ->KR->Prop}{s:KR}
noncomputable def jZ(h:Lu)(v:KJ)(k:List Int):Prop:=∃a b,v=.ref a/\Qz h a (List.toArray b)/\Nv b k
noncomputable def TT(h:Lu)(v:KJ):Prop:=∃k,k≠[]/\jZ h v k
noncomputable def NT(h:Lu)(v:KJ):Prop:=∃a b,v=.ref a/\Qz h a (List.toArray b)/\b≠[]/\∀u∈b,∃k,jZ h u k
theorem jZ.grown{h h':Lu}{v:KJ}{k:List Int}(t:jZ h v k)(g:eR h h'):jZ h' v k:=by
 obtain⟨a,b,e,⟨o,c,r⟩,d⟩:=t;exact⟨a,b,e,⟨o,g _ _ c,r⟩,d⟩
theorem TT.grown{h h':Lu}{v:KJ}(t:TT h v)(g:eR h h'):TT h' v:=let⟨k,a,t⟩:=t;⟨k,a,t.grown g⟩
theorem NT.grown{h h':Lu}{v:KJ}(t:NT h v)(g:eR h h'):NT h' v:=by
 obtain⟨a,b,e,⟨o,c,r⟩,d,f⟩:=t;exact⟨a,b,e,⟨o,g _ _ c,r⟩,d,λu hu=>let⟨k,z⟩:=f u hu;⟨k,z.grown g⟩⟩
theorem tf{M:Sf}{h:Lu}{v:KJ}{k:List Int}(t:jZ h v k):Looks M h (SN v) (.type "tuple"):=λA Q E s g q=>by
 obtain⟨a,b,rfl,⟨o,c,d,n,hd⟩,e⟩:=t;exact N_ (T:="tuple") ⟨o,g _ _ c,d⟩ q
theorem om{h:Lu}{M:Sf}:∀{vals:List KJ},(∀v∈vals,TT h v)->∃fs:List KJ,KatTups h vals fs/\fs.length=vals.length/\∀v∈fs,Looks M h (SN v) (.type "int")
 |[],_=>⟨[],trivial,rfl,λv b=>by cases b⟩|v::r,H=>by
  obtain⟨fs,p,m,l⟩:=om (M:=M) (vals:=r) λu hu=>H u (K1 _ hu);obtain⟨k,f,a,d,rfl,⟨o,e,j,n,hd⟩,g⟩:=H v K2;cases g with
  |nil=>exact absurd rfl f|cons i c r=>
   refine⟨.int i c::fs,KatTups.cons e j hd (by simp) p,by simp[m],λv b=>?_⟩;rcases List.mem_cons.mp b with z|z;.rw[z];exact SortM.lz i c
   .exact l v z
theorem oo{h:Lu}{M:Sf}:∀{vals:List KJ},(∀v∈vals,NT h v)->∃fs:List KJ,KatTups h vals fs/\fs.length=vals.length/\∀v∈fs,Looks M h (SN v) (.type "tuple")
 |[],_=>⟨[],trivial,rfl,λv c=>by cases c⟩|v::r,H=>by
  obtain⟨fs,l,j,i⟩:=oo (M:=M) (vals:=r) λu hu=>H u (K1 _ hu);obtain⟨a,b,rfl,⟨o,d,g,n,hd⟩,e,f⟩:=H v K2;cases b with
  |nil=>exact absurd rfl e|cons u m=>
   refine⟨u::fs,KatTups.cons d g hd (by simp) l,by simp[j],λv c=>?_⟩;rcases List.mem_cons.mp c with z|z
   .rw[z];obtain⟨k,t⟩:=f u K2;exact tf t
   .exact i v z
theorem tm{vals:List KJ}(t:∀v∈vals,∃i a,v=.int i a):vB prog w A vals oneType' s where
 kind:=λb c g k q=>by
  refine kas_kind (s:={s with heap:=c}) b (T:=.type "int") (λv f=>?_) (by decide) (by decide) q;obtain⟨i,a,rfl⟩:=t v f;exact SortM.lz i a
 cmp:=λb c g x e y d Q E q=>by
  obtain⟨i,a,rfl⟩:=t x e;obtain⟨j,h,rfl⟩:=t y d;rw[keyLt'_oneType];exact oneLt_int (q _)
theorem B1{vals:List KJ}(t:∀v∈vals,TT s.heap v):vB prog w A vals (tuples' KN) s where
 kind:=λB e g I q=>by
  obtain⟨fs,C,H,z⟩:=om (M:=K4 prog w) λv p=>(t v p).grown g;exact kat_kind (s:={s with heap:=e}) C (by omega) z (by decide) q
 cmp:=λB e g x m y l Q E q=>by
  obtain⟨k,_,a,j,rfl,⟨o,r,G,n,hd⟩,h⟩:=(t x m).grown g;obtain⟨F,_,b,i,rfl,⟨D,c,u,n2,d⟩,f⟩:=(t y l).grown g;refine kat_lt (s:={s with heap:=e}) r hd c d (SortM.rj _ _ _ _ 0 h f ?_ (q _));rw[K3,K3,h.length,f.length,decide_eq_true_iff]
theorem items_int{a:List KJ}{k:List Int}(h:Nv a k):ItemsAre (ar prog w) (k.map OX) a:=by induction h with
 |nil=>exact .nil|cons i b _ c=>exact .cons (iG prog w i b) c
theorem jZ.key{h:Lu}{v:KJ}{k:List Int}(t:jZ h v k):∃a,v=.ref a/\IsTupleKey (ar prog w) h (k.map OX) a:=by
 obtain⟨a,b,e,⟨o,c,f,n,hd⟩,d⟩:=t;exact⟨a,e,o,_,n,c,f,hd,by simpa using items_int d⟩
theorem zU{Q:Bool->KR->Prop}{c:Bool}(hu:A.units<L6)(q:∀b,Q b s):∀(xs ys:List KJ)(i:Nat),(∀u∈xs,∃k,jZ s.heap u k)->(∀u∈ys,∃k,jZ s.heap u k)->KatLex prog w A KO c Q (xs.zip ys) i s
 |[],_,_,_,_=>q c|_::_,[],_,_,_=>q c|x::xs,y::ys,i,g,f=>by
  obtain⟨k,d⟩:=g x K2;obtain⟨z,ty⟩:=f y K2;obtain⟨a,v,m⟩:=d.key (prog:=prog) (w:=w);obtain⟨b,t,l⟩:=ty.key (prog:=prog) (w:=w);have go:∀e,KatGo prog w A KO c Q x y (xs.zip ys) i e s:=λe=>by cases e with
   |true=>exact kat_yes (zU hu q xs ys (i+1) (λu hu=>g u (K1 _ hu)) λu hu=>f u (K1 _ hu))|false=>
    refine kat_no ?_;obtain⟨C,o,rfl,j,r⟩:=d;obtain⟨B,n,rfl,h,p⟩:=ty;exact kat_one _ _ (HT.ju j h (by simpa using r) (by simpa using p) hu (q _))
  subst v t;exact RM hu m l (go _)
theorem B2{vals:List KJ}(hu:A.units<L6)(t:∀v∈vals,NT s.heap v):vB prog w A vals (tuples' KO) s where
 kind:=λB h g I q=>by
  obtain⟨fs,C,H,z⟩:=oo (M:=K4 prog w) λv k=>(t v k).grown g;exact kat_kind (s:={s with heap:=h}) C (by omega) z (by decide) q
 cmp:=λB h g x j y i Q E q=>by
  obtain⟨a,d,rfl,⟨o,l,G,n,hd⟩,F,r⟩:=(t x j).grown g;obtain⟨b,c,rfl,⟨D,e,u,n2,f⟩,m,p⟩:=(t y i).grown g;exact kat_lt (s:={s with heap:=h}) l hd e f (zU hu q d c 0 r p)
end
end SrtP
end
section
namespace L2
open PySem PySem.Spec PyProof.Rows
section
variable{X:Cx}{F:Fx}
noncomputable def vC:D->Bool
 |.tup []=>KO|.tup a=>a.all DC|_=>KO
noncomputable def E1:D->Bool
 |.tup a=>a.all DC|_=>KO
noncomputable def E2:D->Bool
 |.tup []=>KO|.tup a=>a.all E1|_=>KO
noncomputable def ou(ds:List D):Bool:=ds.all DC||ds.all vC||ds.all E2
noncomputable def ox:D->Option (List D)
 |.lst a=>KE a|.aQ ks _=>KE ks|_=>KL
noncomputable def vD(d:D):M D:=do
 let a<-M.get (ox d)M.need (a.length<=KU/\ou a=KN)let l<-M.any λl=>l.Perm a;pure (.lst l)
theorem rM{d:D}(h:DC d=KN):∃i,d=.int i:=by cases d<;>first|exact⟨_,rfl⟩|cases h
theorem rN:∀{ds:List D},ds.all DC=KN->∃ns:List Int,ds=ns.map D.int
 |[],_=>⟨[],rfl⟩|d::ds,h=>by
  rw[NC,KW]at h;obtain⟨i,rfl⟩:=rM h.1;obtain⟨ns,rfl⟩:=rN h.2;exact⟨i::ns,rfl⟩
theorem j7{B:Fb}{H:Hp}:∀{a:List V}{ns:List Int},ab B H a (ns.map D.int)->a=ns.map V.int
 |_,[],h=>by simp only[Nd,ab]at h;rw[h];rfl|_,n::ns,h=>by
  simp only[Li,ab,Is]at h;obtain⟨x,c,rfl,rfl,b⟩:=h;rw[j7 b];rfl
section
variable{pins:List (KS×L_)}{σ:St}{H:Hp}{s:KR}
theorem rO(I:Inv X pins σ H s)(hK:X.K=F.K){v:V}{u:KJ}{xs:List D}(r:RelV v u)(i:Is F.toFb H v (.tup xs))(h:xs.all DC=KN):∃ns:List Int,xs=ns.map D.int/\SrtP.jZ s.heap u ns:=by
 obtain⟨ns,rfl⟩:=rN h;simp only[Is]at i;obtain⟨a,g,rfl,c,e⟩:=i;cases(show u=Lj a from r);have:=j7 e;subst this;obtain⟨b,d,f,_⟩:=I.tuple (show gj X.K H a _ by rw[hK];exact c.2);exact⟨ns,rfl,a,b,rfl,f,intsAre_of d⟩
theorem E3(I:Inv X pins σ H s)(hK:X.K=F.K){v:V}{u:KJ}{d:D}(r:RelV v u)(i:Is F.toFb H v d)(h:vC d=KN):SrtP.TT s.heap u:=by match d,h,i with
 |.tup (x::a),h,i=>
  obtain⟨ns,e,t⟩:=rO I hK r i h;refine⟨ns,λz=>?_,t⟩;rw[z]at e;cases e
theorem E4(I:Inv X pins σ H s)(hK:X.K=F.K){v:V}{u:KJ}{d:D}(r:RelV v u)(i:Is F.toFb H v d)(h:E2 d=KN):SrtP.NT s.heap u:=by match d,h,i with
 |.tup (x::f),h,i=>
  simp only[Is]at i;obtain⟨a,A,rfl,l,b⟩:=i;cases(show u=Lj a from r);obtain⟨g,m,n,_⟩:=I.tuple (show gj X.K H a _ by rw[hK];exact l.2);refine⟨a,g,rfl,n,?_,?_⟩
  .intro z;subst z;cases m;simp[ab]at b
  .have h:(x::f).all E1=KN:=h;clear n l r;rename_i k;clear k;generalize x::f=c at b h;induction m generalizing c with
   |nil=>intro u hu;cases hu|cons o B p=>
    intro u hu;cases c with
    |nil=>simp[ab]at b|cons d c=>
     simp only[ab]at b;obtain⟨y,w,e,j,q⟩:=b;cases e;rw[NC,KW]at h;rcases List.mem_cons.mp hu with z|z
     .subst z;match d,h.1,j with
      |.tup f,hd,j=>
       obtain⟨ns,_,t⟩:=rO I hK o j hd;exact⟨ns,t⟩
     .exact p c q h.2 u z
theorem mF{P:KJ->Prop}{f:D->Bool}(e:∀{v:V}{u:KJ}{d:D},RelV v u->Is F.toFb H v d->f d=KN->P u):∀{c:List V}{us:List KJ}{ds:List D},aq c us->ab F.toFb H c ds->ds.all f=KN->∀u∈us,P u
 |_,_,[],b,a,_,u,hu=>by
  simp only[ab]at a;subst a;cases b;cases hu|_,_,d::ds,b,a,h,u,hu=>by
  simp only[ab]at a;obtain⟨x,l,rfl,k,j⟩:=a;rw[NC,KW]at h;cases b with|cons i g=>
   rcases List.mem_cons.mp hu with z|z;.subst z;exact e i k h.1
   .exact mF e g j h.2 u z
theorem yD(I:Inv X pins σ H s)(hK:X.K=F.K){A:Lz}(hu:A.units<L6){c:List V}{us:List KJ}{ds:List D}(a:aq c us)(b:ab F.toFb H c ds)(h:ou ds=KN):∃e,SrtP.vB X.prog X.w A us e s:=by
 unfold ou at h;rw[Mc,Mc]at h;rcases h with(h|h)|h
 .refine⟨_,SrtP.tm (mF (P:=λu=>∃i f,u=.int i f) (λ{v u d}r i hd=>?_) a b h)⟩;obtain⟨g,rfl⟩:=rM hd;simp only[Is]at i;subst i;exact⟨g,r⟩
 .exact⟨_,SrtP.B1 (mF (λr i hd=>E3 I hK r i hd) a b h)⟩
 .exact⟨_,SrtP.B2 hu (mF (λr i hd=>E4 I hK r i hd) a b h)⟩
end
theorem Paired.E5{f e:Type}{P:f->e->Prop}{ys us:List e}(p:us.Perm ys):∀{xs:List f},Paired P xs ys->∃a,a.Perm xs/\Paired P a us:=by induction p with
 |nil=>intro xs h;exact⟨xs,.refl _,h⟩|cons x p o=>
  intro xs h;cases h with|cons r t=>
   obtain⟨a,g,d⟩:=o t;exact⟨_::a,g.cons _,.cons r d⟩
 |swap x y l=>
  intro xs h;cases h with|cons r t=>cases t with|cons k j=>exact⟨_,.swap _ _ _,.cons k (.cons r j)⟩
 |trans g s c b=>
  intro xs h;obtain⟨a,n,d⟩:=b h;obtain⟨i,m,q⟩:=c d;exact⟨i,m.trans n,q⟩
theorem qc{B:Fb}{H:Hp}{j xs:List V}(p:j.Perm xs):∀{ds:List D},ab B H xs ds->∃c,c.Perm ds/\ab B H j c:=by induction p with
 |nil=>intro ds h;exact⟨ds,.refl _,h⟩|cons x p t=>
  intro ds h;cases ds with
  |nil=>simp[ab]at h|cons d ds=>
   simp only[ab]at h;obtain⟨q,n,e,b,a⟩:=h;cases e;obtain⟨c,k,i⟩:=t a;exact⟨d::c,k.cons _,.cons b i⟩
 |swap x y l=>
  intro ds h;cases ds with
  |nil=>simp[ab]at h|cons d ds=>cases ds with
   |nil=>simp[ab]at h|cons v ds=>
    simp only[ab]at h;obtain⟨q,n,e,b,o,m,u,a,i⟩:=h;cases e;cases u;exact⟨v::d::ds,.swap _ _ _,.cons a (.cons b i)⟩
 |trans k w g f=>
  intro ds h;obtain⟨c,s,b⟩:=f h;obtain⟨fs,r,a⟩:=g b;exact⟨fs,r.trans s,a⟩
theorem tq{c:List (KS×L_)}{j:St}{H:Hp}{s:KR}{a:KS}{g:List V}{R:List KJ->KR->Prop}(I:Inv X c j H s)(m:dF X.K H a g)(h:∀(h':Lu)(k:Nat)(us:List KJ),SrtP.eR s.heap h'->aq g us->R us {s with heap:=h',toks:=k}):wpAny (K4 X.prog X.w) X.A.in1 (SQ (.ref a)) R X.xe s:=by
 obtain⟨f,i,pl,l⟩:=I.list m;have d:=i.length;refine collect_list pl.isList ?_ (by simpa[d]using l);refine h _ s.toks f (λb o e=>?_) i;rw[Heap.get?_update_ne _ _ _ _ (Lp (K5 e))];exact KQ _ e
theorem tu(C:X.calm=KN){j:List (KS×L_)}{t:St}{H:Hp}{s:KR}{x:V}{u:KJ}{d:D}{ds:List D}{R:List KJ->KR->Prop}(I:Inv X j t H s)(hK:X.K=F.K)(r:RelV x u)(i:Is F.toFb H x d)(e:ox d=KE ds)(h:∀(h':Lu)(f:Nat)(c:List V)(us:List KJ),SrtP.eR s.heap h'->aq c us->ab F.toFb H c ds->R us {s with heap:=h',toks:=f}):wpAny (K4 X.prog X.w) X.A.in1 (SQ u) R X.xe s:=by
 have hd:(∃l,d=.lst l)\/∃ks q,d=.aQ ks q:=by cases d<;>first|exact .inl ⟨_,rfl⟩|exact .inr ⟨_,_,rfl⟩|cases e
 rcases hd with⟨l,rfl⟩|⟨ks,q,rfl⟩
 .cases e;simp only[Is]at i;obtain⟨a,c,rfl,v,iv⟩:=i;cases(show u=Lj a from r);exact tq I (by rw[hK];exact v.2.sq) λh' f us g m=>h h' f c us g m iv
 .cases e;simp only[Is]at i;obtain⟨a,c,rfl,⟨o,p,n⟩,G⟩:=i;cases(show u=Lj a from r);obtain⟨k,E,J,y,hd,m,ik⟩:=nO n;have z:=p.get I hK;obtain⟨_,_,_,b,B,_⟩:=BO n;rw[hd]at b;injection b with b _;subst b;exact DictIt.pO (show X.A.in1.handled=KL from I.ok.hd C) p.2.1 z y.1 hd (by rw[B];exact n.1) λh' f g=>h h' f k _ g m ik
theorem vE(T:X.calm=KN)(hu:X.A.units+2<L6):bC X F (.builtin "sorted") (one vD)where
 call:=λb s C H k Y o ds Q I L l hK P N=>by
  obtain⟨d,rfl,q⟩:=fA N;obtain⟨v,rfl,i⟩:=P.one;obtain⟨es,e,q⟩:=M.run_get.mp q;obtain⟨⟨w,R⟩,q⟩:=q;obtain⟨u,rfl,J⟩:=vals1 L;refine SrtP.oh (tu T I hK J i e λf h vs o g a iv=>?_);have n:Inv X b C H {s with heap:=f,toks:=h}:=I.kept (t':=h) g;obtain⟨E,K⟩:=yD n hK (A:=X.A.in1.in1) (show X.A.units+1+1<L6 from hu) a iv R;have S:o.length<=KU:=by rw[<-a.length,iv.length];exact w
  refine⟨S,E,K,λG U c O V B=>?_⟩;obtain⟨Z,pw,j⟩:=Paired.E5 O a;obtain⟨m,pe,r⟩:=qc pw iv;have x:H f.objs.size=KL:=n.aM.fresh (K8 _);have W:=n.newList (t:=h) (D:=f.objs.size) V (K8 _) j (by rw[r.length,pe.length_eq];exact w) B;exact⟨.ref f.objs.size,_,W.freeze ai B (λ_ z=>nomatch z) (λ_ _ z=>nomatch z) (λ_ z=>nomatch z) (λ_ z=>nomatch z),rfl,by
   rw[cf];exact q m pe _ _ (.new x) (bF (k:=k) l x r)⟩
end
section
variable{prog:Lb}{w:Lv}{A:Lz}{E:KJ->KR->Prop}{s:KR}
theorem hV:entryFor table "dict.update.loop"=KE Builtin.«dict.update.loop»:=entryFor_of_tree (by kernel_rfl)
theorem hW:plainId "dict.update.loop"=KN:=by decide+kernel
end
noncomputable def aD(ks:List D)(d:D):Bool:=(ks.all zO&&zO d)||(ks.all yh&&yh d)
theorem bK{ks:List D}{d:D}(h:aD ks d=KN):kinds ks d:=by
 unfold aD at h;rw[Mc,KW,KW]at h;rcases h with⟨b,a⟩|⟨b,a⟩;.exact .inl ⟨yj b,jg a⟩
 .exact .inr ⟨vn b,nM a⟩
noncomputable def dQ:List D->List D×List D->Option (List D×List D)
 |[],a=>KE a|.tup [k,v]::r,a=>if aD a.1 k&&decide (a.1.length<KU)then dQ r (putD a.1 a.2 k v)else KL|_,_=>KL
mutual
noncomputable def vF:D->PyData
 |.bl b=>.bool b|.int i=>.int i|.str x=>.str x|.tup a=>.tuple (tv a)|.lst a=>.list (tv a)|_=>.none
noncomputable def tv:List D->List PyData
 |[]=>[]|x::a=>vF x::tv a
end
mutual
noncomputable def tw:D->Bool
 |.bw=>KN|.bl _=>KN|.int _=>KN|.str _=>KN|.tup a=>oy a|.lst a=>oy a|_=>KO
noncomputable def oy:List D->Bool
 |[]=>KN|x::a=>tw x&&oy a
end
mutual
theorem rP:∀(d:D),(vF d).hasDict=KO
 |.bw=>rfl|.bl _=>rfl|.int _=>rfl|.str _=>rfl|.tup a=>by simp only[vF,PyData.hasDict];exact j8 a|.lst a=>by simp only[vF,PyData.hasDict];exact j8 a|.aQ _ _=>rfl
theorem j8:∀(ds:List D),R6 (tv ds)=KO
 |[]=>rfl|d::ds=>by simp only[tv,R6,rP d,j8 ds,Bool.or_self]
end
mutual
theorem oz{h:Lu}:∀{u:KJ}{d:D},tw d=KN->aX h u d->∃as,Reads h u (vF d) as
 |_,.bw,_,i=>by simp only[aX]at i;subst i;exact⟨_,.none⟩|_,.bl b,_,i=>by simp only[aX]at i;subst i;exact⟨_,.bool b⟩|_,.int n,_,i=>by simp only[aX]at i;obtain⟨t,rfl⟩:=i;exact⟨_,.int n t⟩|_,.str x,_,i=>by simp only[aX]at i;obtain⟨t,rfl⟩:=i;exact⟨_,.str x t⟩|_,.tup k,p,i=>by
  simp only[aX]at i;obtain⟨a,c,rfl,⟨o,j,g,n,f⟩,e⟩:=i;simp only[tw]at p;obtain⟨as,r⟩:=hX p e;exact⟨_,.tuple j g f r⟩|_,.lst k,p,i=>by
  simp only[aX]at i;obtain⟨a,c,rfl,⟨o,j,g,n,f⟩,e⟩:=i;simp only[tw]at p;obtain⟨as,r⟩:=hX p e;exact⟨_,.list j g f r⟩|_,.aQ _ _,p,_=>by simp[tw]at p
theorem hX{h:Lu}:∀{us:List KJ}{ds:List D},oy ds=KN->bM h us ds->∃as,ReadsAll h us (tv ds) as
 |_,[],_,i=>by simp only[bM]at i;subst i;exact⟨_,.nil⟩|_,d::ds,p,i=>by
  simp only[bM]at i;obtain⟨u,r,rfl,e,c⟩:=i;simp only[oy,KW]at p;obtain⟨as,b⟩:=oz p.1 e;obtain⟨bs,a⟩:=hX p.2 c;exact⟨_,.cons b a⟩
end
noncomputable def tz(d:D):Bool:=tw d&&((vF d).showable&&(decide ((vF d).depth<=8)&&decide ((vF d).shown.length<=KU)))
section
variable{X:Cx}{F:Fx}
noncomputable def zV:D->D->M D
 |.str x,.str y=>do M.need (x.length+y.length<=KU);pure (.str (x++y))|_,_=>M.fail
theorem yE:eE X F (Nh .Add) zV:=⟨λc s m H k x y v u d e Q I j i l hK g f q=>by cases d with
 |str a=>cases e with
  |str b=>
   simp only[Is]at g f;subst g f;obtain⟨t,rfl⟩:=j;obtain⟨h,rfl⟩:=i;exact SB.add (λh n=>⟨.str _,H,I.tok _,⟨_,rfl⟩,q.2 _ H .refl (by simp only[Is])⟩) q.1|_=>exact q.elim
 |_=>exact q.elim⟩
noncomputable def E6(ng:Bool):D->D->M D
 |.str x,.str y=>pure (.bl (if ng then !(Oc y x)else Oc y x))|_,_=>M.fail
theorem yF:eE X F (Lx .In) (E6 KO):=⟨λc s j H k x y v u d e Q I i h l hK g f q=>by cases d with
 |str a=>cases e with
  |str b=>
   simp only[Is]at g f;subst g f;obtain⟨t,rfl⟩:=i;obtain⟨m,rfl⟩:=h;exact SB.contains ⟨.bl _,H,I,rfl,q _ H .refl (by simp only[Is];rfl)⟩|_=>exact q.elim
 |_=>exact q.elim⟩
theorem qd:eE X F (Lx .NotIn) (E6 KN):=⟨λc s j H k x y v u d e Q I i h l hK g f q=>by cases d with
 |str a=>cases e with
  |str b=>
   simp only[Is]at g f;subst g f;obtain⟨t,rfl⟩:=i;obtain⟨m,rfl⟩:=h;exact SB.notContains ⟨.bl _,H,I,rfl,q _ H .refl (by simp only[Is];rfl)⟩|_=>exact q.elim
 |_=>exact q.elim⟩
noncomputable def E7:D->D->M D
 |.bl a,.bl b=>pure (.bl (a !=b))|_,_=>M.fail
theorem yG:eE X F (Lx .IsNot) E7:=⟨λc s j H k x y v u d e Q I i h l hK g f q=>by cases d with
 |bl a=>cases e with
  |bl b=>
   simp only[Is]at g f;subst g f;cases(show v=N4 a from i);cases(show u=N4 b from h);exact isnot_bool ⟨.bl _,H,I,rfl,q _ H .refl (by simp only[Is])⟩|_=>exact q.elim
 |_=>exact q.elim⟩
noncomputable def E8(d:D):M D:=match d with
 |.str x=>pure (.str x)|.lst _=>M.fail|.aQ _ _=>M.fail|_=>do M.need (tz d=KN);pure (.str (vF d).shown)
theorem yH(C:X.A.guards=KE [])(hu:X.A.units+16<L6):bC X F (.type "str") (one E8)where
 call:=λm s D H k E G g Q I p l hK y w=>by
  obtain⟨d,rfl,q⟩:=fA w;obtain⟨v,rfl,i⟩:=y.one;obtain⟨u,rfl,c⟩:=vals1 p;cases d with
  |bw=>
   simp only[Is]at i;subst i;cases(show u=ME from c);exact PySem.P.str_of_none ⟨.str _,H,I.tok _,⟨_,rfl⟩,q.2 _ H .refl (by simp only[Is];rfl)⟩|bl b=>
   simp only[Is]at i;subst i;cases(show u=N4 b from c);exact PySem.P.str_of_bool ⟨.str _,H,I.tok _,⟨_,rfl⟩,q.2 _ H .refl (by simp only[Is];rfl)⟩|int j=>
   simp only[Is]at i;subst i;obtain⟨t,rfl⟩:=c;have z:j.natAbs.log2<1920:=by
    have h:=q.1;unfold tz at h;rw[KW,KW]at h;exact of_decide_eq_true h.2.1
   exact PySem.P.str_of_int z ⟨.str _,H,I.tok _,⟨_,rfl⟩,q.2 _ H .refl (by simp only[Is];rfl)⟩|str x=>
   simp only[Is]at i;subst i;obtain⟨t,rfl⟩:=c;exact PySem.P.str_of_str ⟨.str _,H,I,⟨_,rfl⟩,q _ H .refl (by simp only[Is])⟩|tup g=>
   obtain⟨f,q⟩:=q;have q:qE F.toFb H k Q (.str (vF (.tup g)).shown) k:=q;unfold tz at f;rw[KW,KW,KW,decide_eq_true_eq,decide_eq_true_eq]at f;obtain⟨K,r⟩:=oz f.1 (dz I hK c i);simp only[Is]at i;obtain⟨a,n,rfl,_⟩:=i;cases(show u=Lj a from c);refine str_of_reads r f.2.1 (PyData.noDict_hsm (rP _)) C (by have:=f.2.2.1;omega) (λ_ _ e=>e) (λJ t o B=>?_) f.2.2.2;exact⟨.str _,H,I.kept (t':=o) B,⟨t,rfl⟩,q _ H .refl (by simp only[Is])⟩|lst g=>exact q.elim|aQ ks n=>exact q.elim
end
theorem j9{b:Type}:∀{l:List b}{i:Nat}{x:b},l[i]?=KE x->l.set i x=l
 |[],_,_,h=>by simp at h|a::l,0,x,h=>by simp at h;subst h;rfl|a::l,i+1,x,h=>by simp at h;simp[j9 h]
theorem Ext.chg{B:Fb}{H0 H:Hp}{k0 k:Nat}{a:KS}{u o':HO}(e:Ext B H0 k0 H k)(d:a≠B.p)(g:H0 a=KL)(hu:H a=KE u)(ns:u.iJ=KO):Ext B H0 k0 (upd H a o') k:=⟨λb o hb q=>by
  have c:b≠a:=λz=>by rw[z,g]at q;cases q
  rw[af c];exact e.keep b o hb q,λh=>(Kp.own (k:=k) d hu ns).live (e.live h),e.le,λq f=>(Kp.own d hu ns).bJ q (e.bJ q f)⟩
section
variable{F:Fx}{ρ:ah}{k:Nat}{σ:St}{H H':Hp}
theorem cv.vG{p:KS}(S:cv F ρ k σ H)(a:H p=KL):p≠F.p/\F.H0 p=KL:=by
 have ne:p≠F.p:=g0 S.live a;refine⟨ne,?_⟩;cases e:F.H0 p with
 |none=>rfl|some o=>have:=S.ext.keep p o ne e;rw[a]at this;cases this
theorem cv.fI{i:Nat}{a:KS}{ks ds:List D}(S:cv F ρ k σ H)(z:∀j w,ρ[j]?=KE (KE w)->w.eQ=KN->j=i)(kp:Kp F.toFb H k H' k)(ex:Ext F.toFb F.H0 F.k0 H' k)(n:nF F H' a ks ds):cv F (ρ.set i (KE (.fI ks ds))) k (σ.set i (KE (.ref a))) H':=by
 have look:∀j w,(ρ.set i (KE (.fI ks ds)))[j]?=KE (KE w)->(j=i/\w=.fI ks ds)\/(j≠i/\ρ[j]?=KE (KE w)/\w.eQ=KO):=λj w e=>by
  rw[Mk]at e;by_cases b:i=j
  .subst b;rw[if_pos rfl]at e;split at e;.cases e;exact .inl ⟨rfl,rfl⟩
   .cases e
  .rw[if_neg b]at e;refine .inr ⟨LP b,e,?_⟩;cases o:w.eQ with
   |false=>rfl|true=>exact absurd (z j w e o) (LP b)
 refine⟨by simp[S.len],λj w e=>?_,λg f x y v l q p s r s1=>?_,λg f t C w q p o=>?_,kp.live S.live,ex,S.xK.trans kp⟩
 .rcases look j w e with⟨rfl,rfl⟩|⟨b,B,o⟩
  .have u:j<ρ.length:=by
    rw[List.getElem?_eq_some_iff]at e;obtain⟨h,_⟩:=e;simpa using h
   exact⟨.ref a,by rw[Na (by rw[<-S.len];exact u)],a,rfl,n⟩
  .obtain⟨v,A,m⟩:=S.at_ j w B;refine⟨v,by rw[MY (LP b)];exact A,?_⟩;cases w with
   |d x=>exact Is.mono kp m|feed=>exact⟨m.1,kp.feed m.2⟩|own d=>cases o|fI ks ds=>cases o
 .rcases look g x q with⟨rfl,rfl⟩|⟨_,_,o⟩
  .rcases look f y p with⟨rfl,rfl⟩|⟨_,_,o⟩;.exact absurd rfl l
   .rw[r]at o;cases o
  .rw[s]at o;cases o
 .rcases look g _ q with⟨rfl,_⟩|⟨_,_,c⟩
  .rcases look f w p with⟨rfl,_⟩|⟨_,_,c⟩;.rfl
   .rw[o]at c;cases c
  .cases c
end
noncomputable def nh(b:KS):D:=.int (b:Int)
noncomputable def E9:V->D->Prop:=λv d=>∃b:KS,v=.ref b/\d=nh b
theorem mG:∀(bs:List KS),Paired E9 (bs.map V.ref) (bs.map nh)
 |[]=>.nil|b::bs=>.cons ⟨b,rfl,rfl⟩ (mG bs)
theorem ji{a b:KS}(h:nh a=nh b):a=b:=by
 unfold nh at h;injection h with h;exact Int.ofNat.inj h
theorem vH:∀{bs:List KS}{a:List V},Paired E9 a (bs.map nh)->a=bs.map V.ref
 |[],_,.nil=>rfl|b::bs,_,.cons ⟨c,e,d⟩ t=>by
  rw[e,vH t,ji d];rfl
theorem lP{P:KS->D->Prop}{q d:D}:∀{ks:List D}{bs:List KS}{ds:List D},Paired P bs ds->aF ks ds q=KE d->∃b∈bs,aF ks (bs.map nh) q=KE (nh b)/\P b d
 |[],_,_,_,h=>by simp[aF]at h|k::ks,_,_,.nil,h=>by simp[aF]at h|k::ks,b::bs,j::ds,.cons i t,h=>by
  simp only[aF]at h;simp only[Li,aF];split at h
  .rename_i a;cases h;exact⟨b,K2,by rw[if_pos a],i⟩
  .rename_i a;obtain⟨c,g,f,e⟩:=lP t h;exact⟨c,K1 _ g,by rw[if_neg a];exact f,e⟩
noncomputable def vI(f:D->D)(q:D):List D->List D->List D
 |k::ks,v::a=>if eG k q then f v::a else v::vI f q ks a|_,a=>a
theorem rQ{P i:KS->D->Prop}{f:D->D}{q:D}{b:KS}:∀{ks:List D}{bs:List KS}{ds:List D},Paired P bs ds->bs.Nodup->aF ks (bs.map nh) q=KE (nh b)->(∀c∈bs,c≠b->∀d,P c d->i c d)->(∀d,P b d->i b (f d))->Paired i bs (vI f q ks ds)
 |[],bs,_,_,_,h,_,_=>by cases bs<;>simp[aF]at h|k::ks,_,_,.nil,_,h,_,_=>by simp[aF]at h|k::ks,c::bs,n::ds,.cons l t,nd,h,e,j=>by
  rw[M6]at nd;simp only[Li,aF]at h;simp only[vI];split at h
  .rename_i g;rw[if_pos g];have hb:c=b:=ji (KY h);subst hb;exact .cons (j _ l) (d7 t λa ha d p=>e a (K1 _ ha) (λz=>nd.1 (z▸ha)) d p)
  .rename_i g;rw[if_neg g];have hb:b∈bs:=by
    have:∀{ks:List D}{bs:List KS},aF ks (bs.map nh) q=KE (nh b)->b∈bs:=λ{ks bs}h=>by induction bs generalizing ks with
     |nil=>cases ks<;>simp[aF]at h|cons c bs m=>cases ks with
      |nil=>simp[aF]at h|cons k ks=>
       simp only[Li,aF]at h;split at h;.rw[ji (KY h)];exact K2
       .exact K1 _ (m h)
    exact this h
   exact .cons (e c K2 (λz=>nd.1 (z▸hb)) _ l) (rQ t nd.2 h (λa ha=>e a (K1 _ ha)) j)
theorem Paired.yI{c d:Type}{R:c->d->Prop}{a:c}:∀{l:List c}{r:List d},Paired R l r->a∈l->∃b,R a b
 |_,_,.nil,h=>nomatch h|_,_,.cons h t,z=>by
  rcases List.mem_cons.mp z with rfl|z;.exact⟨_,h⟩
  .exact Paired.yI t z
noncomputable def eZ(ρ:ah)(i:Nat):Option (List D×List D):=match ρ[i]? with
 |some (KE (.fI ks a))=>KE (ks,a)|_=>KL
theorem fD{ρ:ah}{i:Nat}{p:List D×List D}(h:eZ ρ i=KE p):ρ[i]?=KE (KE (.fI p.1 p.2)):=by
 unfold eZ at h;split at h;.rename_i ks a e;cases h;exact e
 .cases h
section
variable{X:Cx}{F:Fx}{e ke:K7}{ta tk:ah->M D}{pos pos' lp:My}{x:Lf}
theorem yJ(i:Nat)(hN:X.N.Nodup)(hK:X.K=F.K)(m:X.N[i]?=KE x)(l:Loc X.env.scope x)(n:X.fn x=KN\/X.env.scope.names.lookup x=KE .local):DS X F (.Assign [.Name x pos'] (.Dict [] [] lp) pos) (λρ=>do M.need (∀j w,ρ[j]?=KE (KE w)->w.eQ=KN->j=i);pure (.nx (ρ.set i (KE (.fI [] []))))):=by
 have pe:PE X (.Dict [] [] lp) (λ_ H Q=>∀p,H p=KL->(p==Mu)=KO->Q (.ref p) (upd H p (kI p bV))):=λf s g H Q I h=>wpAny_Dict_empty ⟨.ref s.heap.objs.size,_,I.laid (a:=s.heap.objs.size) (o:=kI s.heap.objs.size bV) (t':=s.toks) (λ_ _ q=>KQ _ q) (K8 _) (mE (K9 _ rfl)),rfl,h _ (I.aM.fresh (K8 _)) (beq_eq_false_iff_ne.mpr (LP (Lp I.GG)))⟩;refine⟨hK,(cD (i:=i) hN m l pe rfl n).imp λZ g H⟨ρ,k,S,r,h⟩p c d=>?_⟩;obtain⟨ne,t⟩:=S.vG c;exact h _ _ (Ext.new (k:=k) c).kp (S.fI r (Ext.new (k:=k) c).kp (S.ext.trans (.new c)) ⟨bV,[],ne,t,ai,d,g_,.nil,(λz=>nomatch z),(λb z=>nomatch z),.nil⟩)
theorem yK(i:Nat){np:My}(hu:X.A.units+2<L6)(hP:X.prog=F.P)(hw:X.w=F.w)(hi:X.N[i]?=KE x)(hv:m_ X.env.scope x)(hd:(x==("__debug__":Lf))=KO)(a2:(x==("__classdict__":Lf))=KO)(hk:DE X F ke tk):DS X F (.Assign [.Subscript (.Name x np) ke pos'] (.List [] lp) pos) (λρ=>do
   let G<-M.get (eZ ρ i)let q<-tk ρ;M.need (G.1.length<KU/\kinds G.1 q/\bN G.1 q=KO)pure (.nx (ρ.set i (KE (.fI (G.1++[q]) (G.2++[.lst []])))))):=by
 refine⟨hk.hK,λg s B H Z I⟨ρ,k,S,h⟩=>?_⟩;obtain⟨⟨ks,ds⟩,h0,h⟩:=M.run_get.mp h;let R2:D->M Fl:=λq=>do
  M.need (ks.length<KU/\kinds ks q/\bN ks q=KO)pure (.nx (ρ.set i (KE (.fI (ks++[q]) (ds++[.lst []])))))
 refine Qt (aU (mh bQ g s B H (λu H1=>∃p,u=.ref p/\H p=KL/\H1=upd H p (.lst [])) I ⟨Mo _,λp n=>⟨p,rfl,n,rfl⟩⟩) λr s1 f=>?_) rfl;obtain⟨u,H1,I1,ru,p,rfl,n,rfl⟩:=f;obtain⟨C,p0⟩:=S.vG n;have e1:Ext F.toFb H k (upd H p (.lst [])) k:=.new n;have S1:=S.mono e1;obtain⟨v,J,a,rfl,o,bs,Q,a0,ob,sy,dc,nd,na,bp,lv⟩:=S.at_ i _ (fD h0);refine aU (bP (pos:=np) hi hv hd a2 g s1 B _ (λv H2=>v=.ref a/\H2=upd H p (.lst [])) I1 ⟨_,J,rfl,rfl⟩) λov s2 f=>?_;obtain⟨w,H2,I2,T,ew,eH⟩:=f;subst ew eH;cases(show ov=Lj a from T);refine aU (hk.pe g s2 B _ (λy t=>∃q m,Ext F.toFb (upd H p (.lst [])) k t m/\cv F ρ m B t/\Is F.toFb t y q/\(R2 q).run m (rb F Z H k) F.E) I2 (cF.next S1 h λq m y t O L V K=>⟨q,m,O,L,V,K⟩)) λkv s3 f=>?_;obtain⟨y,t,I3,ry,q,m,O,L,V,K⟩:=f;obtain⟨⟨hz,Y,hh⟩,K⟩:=K;have e:=e1.trans O;have l:=e.keep a _ Q ob;have W:s3.heap.get? a=KE o:=(I3.aM a _ l).1;have pa:p≠a:=λz=>by rw[z,ob]at n;cases n
 have U:p∉bs:=λz=>by
  obtain⟨d,_,_,_,q,_⟩:=Paired.yI lv z;rw[n]at q;cases q
 refine iN (R:=E9) (F:=F) hu I3 hk.hK hP hw (dc.mono e.kp) W (mG bs) V ry (⟨p,rfl,rfl⟩:E9 (.ref p) (nh p)) ru Y hz λh' o' tk sb eo po=>?_;obtain⟨⟨a3,d1,d2⟩,_⟩:=po;have ep:putD ks (bs.map nh) q (nh p)=(ks++[q],(bs++[p]).map nh):=by
  unfold putD;rw[hh,M4];rfl
 rw[ep]at d1 d2;have:=vH d2;subst this;have kp:Kp F.toFb t m (upd t a (kI a o')) m:=Kp.own Q l rfl;have S4:=L.fI (i:=i) (λj w ej oj=>L.alone i j ks ds w (fD h0) ej oj) kp (L.ext.chg Q a0 l rfl) (a:=a) (ks:=ks++[q]) (ds:=ds++[.lst []]) ⟨o',bs++[p],Q,a0,ai,sy,d1.mono kp,List.nodup_append.mpr ⟨nd,(by simp),λb hb c hc z=>by rw[List.mem_singleton.mp hc]at z;exact U (z▸hb)⟩,(λz=>by
    rcases List.mem_append.mp z with z|z;.exact na z
    .exact pa (List.mem_singleton.mp z).symm),(λb hb=>by
    rcases List.mem_append.mp hb with z|z;.exact bp b z
    .rw[List.mem_singleton.mp z];exact⟨C,p0⟩),gC (d7 lv λb hb d z=>(z.keep e.kp λo z=>e.keep b o (bp b hb).1 z).keep kp λo z=>by rw[af (λ(y:b=a)=>na (by rw[<-y];exact hb))];exact z) (.cons ⟨[],[],rfl,by rw[af pa];exact O.keep p _ C ai,.nil⟩ .nil)⟩;rw[j9 J]at S4;exact⟨B,_,hJ I3 l sb eo,K _ _ (e.kp.trans kp) S4⟩
theorem yL(i:Nat){np sp Y U:My}(hu:X.A.units+2<L6)(hP:X.prog=F.P)(hw:X.w=F.w)(hi:X.N[i]?=KE x)(hv:m_ X.env.scope x)(hd:(x==("__debug__":Lf))=KO)(O:(x==("__classdict__":Lf))=KO)(hk:DE X F ke tk)(G:je ke)(ha:DE X F e ta)(hl:(Y.endLine==U.line)=KN)(E:Ld [e] X.env=(KO,MT e X.env)::Ld [] X.env)(hb:Om (.Subscript (.Name x np) ke sp) "append" X.env (MT (.Subscript (.Name x np) ke sp) X.env)=MT (.Subscript (.Name x np) ke sp) X.env):DS X F (.Expr (.Call (.Attribute (.Subscript (.Name x np) ke sp) "append" Y) [e] [] U) pos) (λρ=>do
   let n<-M.get (eZ ρ i)let q<-tk ρ;M.need (kinds n.1 q)let ys<-jV (<-M.get (aF n.1 n.2 q))let d<-ta ρ;M.need (ys.length<KU)pure (.nx (ρ.set i (KE (.fI n.1 (vI (λ_=>.lst (ys++[d])) q n.1 n.2)))))):=by
 have pe:=qZ (X:=X) (name:="append") (apos:=Y) (cpos:=U) NM PZ (by rfl) lj (eO (pos:=sp) (vv (F:=F) hu hP hw ha.hK) (bP (pos:=np) hi hv hd O) hk.pe G) (aP ha.pe bQ E) hb (by rw[E];rfl) hl E rfl;refine⟨ha.hK,(l_ pe rfl).imp λZ σ H⟨ρ,k,S,h⟩=>?_⟩;obtain⟨⟨ks,ds⟩,h0,h⟩:=M.run_get.mp h;obtain⟨v,s,a,rfl,o,bs,m,a0,ob,sy,dc,nd,na,W,lv⟩:=S.at_ i _ (fD h0);refine⟨_,s,?_⟩;refine cF.next S h λq k1 y H1 B S1 i1 l=>?_;obtain⟨K,l⟩:=l;obtain⟨d0,L,l⟩:=M.run_get.mp l;obtain⟨ys,rfl,l⟩:=dO l;have C:=B.keep a _ m ob;obtain⟨b,hb,lb,a2,t,T,hx,ix⟩:=lP lv L;injection T with T;subst T;refine⟨E9,a,o,ks,bs.map nh,bs.map V.ref,q,nh b,rfl,λ_ _ _ I=>(I.aM a _ C).1,dc.mono B.kp,mG bs,i1,K,lb,?_⟩;rintro _⟨b',rfl,eb⟩;obtain rfl:=ji eb;have f:=W b hb;have r:=B.keep b _ f.1 hx;refine⟨.inl ⟨rfl,t,.inl (.inl r)⟩,?_⟩;refine cF.next S1 l λd k2 u H2 e2 S2 i2 R=>?_;obtain⟨hz,R⟩:=R;have e:=B.trans e2;have g:=e2.keep b _ f.1 r;have p:=ix.mono e.kp;refine⟨b,t,u,rfl,rfl,g,by rw[p.length];exact hz,?_⟩;have kp:Kp F.toFb H2 k2 (upd H2 b (.lst (t++[u]))) k2:=Kp.own f.1 g rfl;have Q:a≠b:=λz=>na (z▸hb);have S4:=S2.fI (i:=i) (λj w ej oj=>S2.alone i j ks ds w (fD h0) ej oj) kp (S2.ext.chg f.1 f.2 g rfl) (a:=a) (ks:=ks) (ds:=vI (λ_=>.lst (ys++[d])) q ks ds) ⟨o,bs,m,a0,by rw[af Q];exact e.keep a _ m ob,sy,(dc.mono e.kp).mono kp,nd,na,W,rQ lv nd lb (λc hc J d' z=>(z.keep e.kp λo z=>e.keep c o (W c hc).1 z).keep kp λo z=>by rw[af J];exact z) λd' z=>⟨ys++[d],t++[u],rfl,ai,(p.append (.cons i2 .nil)).mono kp⟩⟩;rw[j9 s]at S4;exact R _ _ (e.kp.trans kp) S4
noncomputable def Iu(X:Cx)(F:Fx):R2:=λx y H Q=>∃a o ks f d,y=.ref a/\(∀b c s,Inv X b c H s->s.heap.get? a=KE o)/\(a==Mu)=KO/\bo F.toFb H o ks f/\Is F.toFb H x d/\kinds ks d/\Q (.bl (bN ks d)) H
theorem B5(hu:X.A.units+2<L6)(hP:X.prog=F.P)(hw:X.w=F.w)(hK:X.K=F.K):iZ X (Lx .In) (Iu X F):=λb s m H x y v u Q I f c h=>by
 obtain⟨a,o,ks,n,d,rfl,g,sy,k,i,j,q⟩:=h;cases(show u=Lj a from c);exact vq hu I hK hP hw k (g _ _ _ I) sy i f j λp l=>⟨.bl (bN ks d),H,l,rfl,q⟩
theorem B6(i:Nat){np:My}(hu:X.A.units+2<L6)(hP:X.prog=F.P)(hw:X.w=F.w)(ha:DE X F e ta)(p:X.N[i]?=KE x)(m:m_ X.env.scope x)(hd:(x==("__debug__":Lf))=KO)(g:(x==("__classdict__":Lf))=KO):DT X F (.Compare e [.In] [.Name x np] pos) (λρ=>do let d<-ta ρ;let j<-M.get (eZ ρ i);M.need (kinds j.1 d);pure (bN j.1 d)):=⟨ha.hK,(fu (B5 (F:=F) hu hP hw ha.hK) ha.pe (bP (pos:=np) p m hd g) rfl).imp λy H Q c=>by
  obtain⟨ρ,k,S,h⟩:=c;refine cF.next S h λd C v u r t l b=>?_;obtain⟨⟨ks,E⟩,q,b⟩:=M.run_get.mp b;obtain⟨n,b⟩:=b;obtain⟨v,f,a,rfl,o,bs,J,K,ob,sy,s,nd,z,G,B⟩:=t.at_ i _ (fD q);exact⟨_,f,a,o,ks,_,d,rfl,λ_ _ _ I=>(I.aM a _ ob).1,sy,s,l,n,_,rfl,b u r⟩⟩
end
section
variable{X:Cx}{F:Fx}
noncomputable def Iv:D->D->M D
 |.bl a,.bl b=>pure (.bl (a==b))|_,_=>M.fail
theorem B7:eE X F (Lx .Is) Iv:=⟨λc s j H k x y v u d e Q I i h l hK g f q=>by cases d with
 |bl a=>cases e with
  |bl b=>
   simp only[Is]at g f;subst g f;cases(show v=N4 a from i);cases(show u=N4 b from h);exact is_bool ⟨.bl _,H,I,rfl,q _ H .refl (by simp only[Is])⟩|_=>exact q.elim
 |_=>exact q.elim⟩
theorem vJ{o:K7}{to:ah->M D}{m l:My}(j:DE X F o to)(hb:Om o "lower" X.env (MT o X.env)=MT o X.env)(u:(m.endLine==l.line)=KN):DE X F (.Call (.Attribute o "lower" m) [] [] l) (λρ=>do match<-to ρ with
   |.str x=>do M.need ((Mw x).length<=KU);pure (.str (Mw x))|_=>M.fail):=⟨j.hK,λa s n H Q I⟨ρ,k,S,h⟩=>Call_method0 hb u (aU (j.pe a s n H (λv c=>∃x b,v=.str x/\Ext F.toFb H k c b/\(Mw x).length<=KU/\qE F.toFb H k Q (.str (Mw x)) b) I (cF.next S h λd b v c g z i f=>by cases d with
   |str x=>
    simp only[Is]at i;exact⟨x,b,i,g,f.1,f.2⟩|_=>exact f.elim)) λv s1⟨w,c,y,p,x,b,e,g,r,q⟩=>by
    subst e;obtain⟨t,rfl⟩:=p;exact SB.lower (by
     show decide _=KO;exact decide_eq_false (by have:=r;rw[N5]at this;omega)) ⟨.str _,c,y.tok _,⟨_,rfl⟩,q _ c g (by simp only[Is])⟩)⟩
theorem vK{o:K7}{to:ah->M D}{m l:My}(i:DE X F o to)(hb:Om o "isalpha" X.env (MT o X.env)=MT o X.env)(r:(m.endLine==l.line)=KN):DE X F (.Call (.Attribute o "isalpha" m) [] [] l) (λρ=>do match<-to ρ with
   |.str x=>pure (.bl (OE x))|_=>M.fail):=⟨i.hK,λa s n H Q I⟨ρ,k,S,h⟩=>Call_method0 hb r (aU (i.pe a s n H (λv c=>∃x b,v=.str x/\Ext F.toFb H k c b/\qE F.toFb H k Q (.bl (OE x)) b) I (cF.next S h λd b v c f y g j=>by cases d with
   |str x=>
    simp only[Is]at g;exact⟨x,b,g,f,j⟩|_=>exact j.elim)) λv s1⟨w,c,u,p,x,b,e,f,q⟩=>by
    subst e;obtain⟨t,rfl⟩:=p;exact SB.isalpha ⟨.bl _,c,u,rfl,q _ c f (by simp only[Is])⟩)⟩
end
end L2
end
section
namespace HT
open PySem PyProof.Rows
section
variable{prog:Lb}{w:Lv}{A:Lz}{E:KJ->KR->Prop}{s:KR}
theorem mH{t l:KS}{a b c d e f:KJ}{u:SH}{Q:KJ->KR->Prop}(n:Qz s.heap t #[a,b,c,d,e,f])(r:s.heap.IsSliceOf l .none .none (.int (-1) u))(h:Q (.ref s.heap.objs.size) {s with heap:=s.heap.push {cls:=.type "tuple",data:=.seq #[f,e,d,c,b,a]}}):wpAny (K4 prog w) A (OK (.ref t) (.ref l)) Q E s:=by
 obtain⟨os,i,o,j⟩:=id r;have p:s.TypeIs (.ref l) "slice":=⟨os,i,o⟩;unfold OK;try with_reducible refine LF ?_
 first|refine KH (KP ?_)|skip
 refine KH (PD n.typeIs (by decide) ?_);refine KH (LH (name:=KI "__getitem__") n.typeIs L4 (LN L4 n.typeIs entry_tuple_getitem ?_ (Pm _ _)));show wpAny _ _ (Nl (.ref t)>>=_) _ _ s;refine KH (Rx n ?_);refine KH (N_ p ?_);rw[if_pos (by decide)];have v:∀{Q:Int×Int×Nat->KR->Prop},Q (5,-1,6) s->wpAny (K4 prog w) A.in1 (Nk (.ref l) (pure (((#[a,b,c,d,e,f]:Array KJ).size:Nat):Int))) Q E s:=λ{Q}h=>by
  unfold Nk Pw;refine KH (KH (LK i j (x:=.none) rfl (KH (LK i j (x:=.none) rfl (KH (LK i j (x:=.int (-1) u) rfl (KP ?_)))))));refine KH (slicePart_int ?_);show wpAny _ _ (if((-1:Int)==0)=KN then _ else _) _ _ s;rw[if_neg (by decide)];refine KH (Pl (KH (Pl (KH (KP ?_)))));first
   |(with_unfolding_all exact KP h)|(refine KP ?_;simpa[MO]using h)
 refine KH (v ?_);show wpAny _ _ (if((5:Int)==0&&(-1:Int)==1&&(6:Nat)==(#[a,b,c,d,e,f]:Array KJ).size)=KN then _ else _) _ _ s;rw[if_neg (by simp)];have q:((LY 6).filterMap λ(k:Nat)=>(#[a,b,c,d,e,f]:Array KJ)[((5:Int)+(k:Int)*(-1)).toNat]?).toArray=#[f,e,d,c,b,a]:=rfl;rw[q];have g:sizeOk (.seq #[f,e,d,c,b,a]):=by show 6<=KU;decide
 first
  |exact KH (m:=L3 _) (LC (KP ⟨_,rfl,KP h⟩) g)|exact KH (m:=L3 _) (LC (KH (KP (KP ⟨_,rfl,KP h⟩))) g)|exact KH (KH (m:=L3 _) (LC (KP (KP ⟨_,rfl,KP h⟩)) g))|exact KH (KH (m:=L3 _) (LC (KP ⟨_,rfl,KP h⟩) g))
theorem lQ{it t:KS}{items:Array KJ}(g:t≠it):∀(n i:Nat)(s:KR)(Q:List KJ->KR->Prop),s.heap.IsListIter it t i->s.heap.IsList t items->i+n<=items.size->(∀h',h'.IsListIter it t (i+n)->Mr it s.heap h'->Q ((items.toList.drop i).take n) {s with heap:=h'})->wpAny (K4 prog w) A (draw (.ref it) n) Q E s
 |0,i,s,Q,e,_,_,j=>by
  show wpAny _ _ (pure []) Q E s;exact KP (by simpa using j s.heap e (R8 ..))|n+1,i,s,Q,e,l,m,j=>by
  have h:i<items.size:=by omega
  show wpAny _ _ (N1 (.ref it)>>=_) Q E s;refine KH (Ql e l (x:=items[i]) (by simp[h]) λk c a=>?_);refine KH (LF (lQ g n (i+1) _ _ c (l.extBut a.extBut g) (by omega) λf b d=>KP ?_));have hd:items.toList.drop i=items[i]::items.toList.drop (i+1):=by simp[Nq,h]
  have:=j f (by rw[show i+(n+1)=i+1+n by omega];exact b) (a.trans d);rw[hd,List.take_succ_cons]at this;exact this
theorem gG{env:Q4}{a:List K7}{x1}{pos:My}{t:KS}{items:Array KJ}{Q:Unit->KR->Prop}(q:A.handled=KL)(l:s.heap.IsList t items)(p:(L8 a env).length=items.size)(g:(L8 a env).findIdx? (·.1)=KL)(h:∀h',O3 s.heap.objs.size s.heap h'->wpAny (K4 prog w) A (PU ((L8 a env).map (·.2)) items.toList) Q E {s with heap:=h'}):wpAny (K4 prog w) A (PR (.Tuple a x1 pos) env (.ref t)) Q E s:=by
 have m:t≠s.heap.objs.size:=by obtain⟨o,ho,_⟩:=l;exact Lp (K5 ho)
 rw[assign_Tuple];refine KH (Oi ?_);unfold unpack;rw[p,g];refine KH (LF ?_);unfold unpackItems;refine KH ?_;unfold notIterableAtAll;refine KH (NV l.typeIs slot_list_iter.lookup ?_);refine KP ?_;simp only[K_,if_false];refine KH (LF (OM l ?_));refine KH (LF (lQ m items.size 0 _ _ ⟨_,K9 _ rfl,rfl,rfl⟩ (l.push _) (by omega) λk d c=>?_));have n:List.take items.size (List.drop 0 items.toList)=items.toList:=by rw[List.drop_zero];exact L9 (by simp)
 rw[n];rw[if_neg (by simp)];have f:k.IsList t items:=(l.push _).extBut c.extBut m;refine KH (LF (QR q d f (by simp) λj i=>?_));simp only[Option.isSome_none,K_,if_false];exact KP (h j λb o hb e=>i b o hb (c.extBut b o hb (KQ _ e)))
end
end HT
namespace L2
open PySem PySem.Spec PyProof.Rows
section
variable{X:Cx}{F:Fx}{e a b:K7}{te ta tb:ah->M D}{es:List K7}{gs:List D->ah->M ah}{pos p2:My}
noncomputable def qf:D->M D
 |.tup [a,b,c,d,e,f]=>pure (.tup [f,e,d,c,b,a])|_=>M.fail
theorem vL{d:D}{k Q E}(h:(qf d).run k Q E):∃a b c x e f,d=.tup [a,b,c,x,e,f]/\Q (.tup [f,e,x,c,b,a]) k:=by
 unfold qf at h;split at h;.exact⟨_,_,_,_,_,_,rfl,h⟩
 .exact h.elim
theorem yM{st:K7}{Y:ah->M D}(he:DE X F e te)(hs:DE X F st Y):DE X F (.Subscript e (.Slice KL KL (KE st) p2) pos) (λρ=>do
  let d<-te ρ;let z<-dm (<-Y ρ)M.need (z=-1)qf d):=by
 refine⟨he.hK,λj s O H Q I⟨ρ,k,S,h⟩=>?_⟩;refine Sy (aU (he.pe j s O H (λx C=>∃d m,Ext F.toFb H k C m/\cv F ρ m O C/\Is F.toFb C x d/\(do
  let z<-dm (<-Y ρ)M.need (z=-1)qf d:M D).run m (qE F.toFb H k Q) F.E) I (cF.next S h λd m x C e1 S1 L h1=>⟨d,m,e1,S1,L,h1⟩)) λv s1⟨x,C,I1,r1,d,m,e1,S1,L,h1⟩=>?_);refine wpAny_Slice ?_;rw[Ry];refine KP ?_;refine KP ?_;rw[evalPart_some];refine aU (hs.pe j s1 O C (λy N=>∃J,y=.int (-1)/\Ext F.toFb C m N J/\N F.p≠KL/\(qf d).run J (qE F.toFb H k Q) F.E) I1 (cF.next S1 h1 λz J y N V S2 i2 B=>by
   obtain⟨n,rfl,B⟩:=a_.mp B;obtain⟨hn,h3⟩:=B;subst hn;simp only[Is]at i2;exact⟨J,i2,V,S2.live,h3⟩)) λu s2⟨y,N,I2,r2,J,ey,V,lv,B⟩=>?_;subst ey;obtain⟨Z,rfl⟩:=r2;obtain⟨a,b,c,d0,e,f,rfl,B⟩:=vL B;have L:=L.mono V.kp;simp only[Is]at L;obtain⟨t,xs,rfl,tt,ia⟩:=L;simp only[ab]at ia;obtain⟨x1,_,rfl,j1,W,_,rfl,j2,U,_,rfl,j3,P,_,rfl,j4,G,_,rfl,j5,l,_,rfl,j6,rfl⟩:=ia;cases(show v=Lj t from r1);have I4:Inv X j O N {s2 with heap:=s2.heap.push {cls:=.type "slice",data:=.fields #[.none,.none,.int (-1) Z]}}:=I2.kept (t':=s2.toks) λb ob q=>KQ _ q;obtain⟨a0,r,ht,hz⟩:=I4.tuple (show gj X.K N t _ by rw[he.hK];exact tt.2);obtain⟨u1,w1,y1,q1,v1⟩:∃g i,a0=g::i/\RelV x1 g/\aq [W,U,P,G,l] i:=by cases r with|cons h t=>exact⟨_,_,rfl,h,t⟩
 subst y1;obtain⟨u2,w2,y2,q2,v2⟩:∃g i,w1=g::i/\RelV W g/\aq [U,P,G,l] i:=by cases v1 with|cons h t=>exact⟨_,_,rfl,h,t⟩
 subst y2;obtain⟨u3,w3,y3,q3,v3⟩:∃g i,w2=g::i/\RelV U g/\aq [P,G,l] i:=by cases v2 with|cons h t=>exact⟨_,_,rfl,h,t⟩
 subst y3;obtain⟨u4,w4,y4,q4,v4⟩:∃g i,w3=g::i/\RelV P g/\aq [G,l] i:=by cases v3 with|cons h t=>exact⟨_,_,rfl,h,t⟩
 subst y4;obtain⟨u5,w5,y5,q5,v5⟩:∃g i,w4=g::i/\RelV G g/\aq [l] i:=by cases v4 with|cons h t=>exact⟨_,_,rfl,h,t⟩
 subst y5;obtain⟨u6,w6,y6,q6,v6⟩:∃g i,w5=g::i/\RelV l g/\aq [] i:=by cases v5 with|cons h t=>exact⟨_,_,rfl,h,t⟩
 subst y6;cases v6;have hf:=I4.aM.fresh (K8 _);have a2:wpAny (K4 X.prog X.w) X.A (OK (.ref t) (.ref s2.heap.objs.size)) (EP X j O Q) X.xe {s2 with heap:=s2.heap.push {cls:=.type "slice",data:=.fields #[.none,.none,.int (-1) Z]}}:=by
  refine HT.mH (u:=Z) ht (RJ ..) ?_;exact⟨.ref _,_,I4.laid (t':=s2.toks) (o:=.tup [l,G,P,U,W,x1]) (λb ob q=>KQ _ q) (K8 _) ⟨by show 6<=KU;decide,[u6,u5,u4,u3,u2,u1],.cons q6 (.cons q5 (.cons q4 (.cons q3 (.cons q2 (.cons q1 .nil))))),Rn _ _⟩,rfl,B _ _ ((e1.trans V).trans (.new hf)) (d8 (k:=J) lv hf (.cons j6 (.cons j5 (.cons j4 (.cons j3 (.cons j2 (.cons j1 .nil)))))))⟩
 exact tail_any (ops:=[.ref t,.ref s2.heap.objs.size]) ht.typeIs PyProof.Rows.slot_tuple_getitem.lookup a2 rfl
noncomputable def oA:List D->Option (List Int)
 |[]=>KE []|.int i::r=>(oA r).map (i::·)|_=>KL
theorem rR{B:Fb}{H:Hp}:∀{ds:List D}{c:List V}{ns:List Int},ab B H c ds->oA ds=KE ns->c=ns.map V.int
 |[],_,ns,h,e=>by simp only[ab]at h;cases e;exact h|d::ds,c,ns,h,e=>by
  simp only[ab]at h;obtain⟨x,j,rfl,f,g⟩:=h;cases d with
  |int b=>
   simp only[oA,ON]at e;obtain⟨cs,i,rfl⟩:=e;simp only[Is]at f;rw[f,rR g i];rfl|_=>cases e
noncomputable def oB:D->Option (List Int)
 |.tup c=>oA c|_=>KL
noncomputable def Iw(d e:D):M D:=do
 let ns<-M.get (oB d)let c<-M.get (oB e)pure (.bl (HT.lexLt ns c))
theorem oE{B:Fb}{H:Hp}{v:V}{d:D}{ns:List Int}(h:oB d=KE ns)(i:Is B H v d):∃a,v=.ref a/\gj B.K H a (ns.map V.int):=by
 cases d<;>first|cases h|skip
 rename_i f;simp only[Is]at i;obtain⟨a,j,rfl,c,g⟩:=i;have h:oA f=KE ns:=h;rw[rR g h]at c;exact⟨a,rfl,c.2⟩
theorem B8(hu:X.A.units<L6):eE X F (Lx .Lt) Iw:=.of (AM hu) λhK H k x y d e Q l i h q=>by
 obtain⟨ns,m,q⟩:=M.run_get.mp q;obtain⟨g,j,q⟩:=M.run_get.mp q;obtain⟨a,rfl,f⟩:=oE m i;obtain⟨b,rfl,c⟩:=oE j h;exact⟨a,b,ns,g,rfl,rfl,by rw[hK];exact f,by rw[hK];exact c,q _ H .refl (by simp only[Is])⟩
noncomputable def Kl(n:Nat)(gs:List D->ah->M ah):D->ah->M ah
 |.tup c,d=>do M.need (c.length=n);gs c d|.lst c,d=>do M.need (c.length=n);gs c d|_,_=>M.fail
theorem E_{n:Nat}{j:Nat}(x:X.calm=KN)(h:xV X F es gs)(t:(L8 es X.env).length=n)(f:(L8 es X.env).findIdx? (·.1)=KL):DG X F (.Tuple es j pos) (Kl n gs):=⟨h.hK,λc s l H v u Q I r⟨m,k,d,S,i,g⟩=>by cases d with
  |tup z=>exact(Bz (n:=n) x h t f).pg c s l H v u Q I r ⟨m,k,_,S,i,g⟩|lst z=>
   simp only[Is]at i;obtain⟨a,p,rfl,C,y⟩:=i;cases(show u=Lj a from r);obtain⟨A,q,pl,J⟩:=I.list (show dF X.K H a p by rw[h.hK];exact C.2.sq);refine HT.gG (I.ok.hd x) pl.isList (by rw[t,<-g.1,<-y.length,q.length];simp) f λE B=>?_;have G:Inv X c l H {s with heap:=E}:=I.kept (t':=s.toks) λb o e=>B b o (Lp (K5 e)) e;exact h.pg c _ l H p _ Q G (by simpa using q) ⟨m,k,z,S,y,g.2⟩|_=>exact g.elim⟩
end
theorem j_:∀(l:List KJ)(a:Nat),(∀(j:Nat)(v:KJ),l[j]?=KE v->∃t,v=Rl ((a+j:Nat):Int) t)->aq ((List.range' a l.length).map λ(i:Nat)=>V.int (i:Int)) l
 |[],a,_=>.nil|v::l,a,h=>by
  obtain⟨t,rfl⟩:=h 0 v rfl;refine .cons ⟨t,rfl⟩ (j_ l (a+1) λj w e=>?_);obtain⟨b,c⟩:=h (j+1) w e;exact⟨b,by rw[c];congr 1;omega⟩
theorem iP{B:Fb}{H:Hp}:∀(l:List Nat),ab B H (l.map λ(i:Nat)=>V.int (i:Int)) (l.map λ(i:Nat)=>D.int (i:Int))
 |[]=>.nil|_::l=>.cons (by simp only[Is]) (iP l)
section
variable{X:Cx}{F:Fx}{a e:K7}{ta:TA}{tas:ah->M (List A)}{p pos p0 pos0:My}{x:Lf}
noncomputable def Km(ta:TA):TE:=λc H Q=>ta c H λd b=>∃n:Nat,d=[.int (n:Int)]/\n<=1000000/\∀l,b l=KL->Q (.ref l) (upd b l (.lst ((LY n).map λ(i:Nat)=>V.int (i:Int))))
theorem yN(L:X.calm=KN)(k:Gl X "list")(g:X.mg "list"=KL)(K:Gl X "range")(G:X.mg "range"=KL)(ha:PA X [a] ta)(E:Ld [a] X.env=[(KO,MT a X.env)]):PE X (.Call (.Name "list" p0) [.Call (.Name "range" p) [a] [] pos] [] pos0) (Km ta):=by
 intro f s w H Q I h;refine MU (eL I k g Qu ?_);refine Mj ?_ rfl rfl;show wpAny _ _ (SJ ((KO,MT (.Call (.Name "range" p) [a] [] pos) X.env)::NN pos0 (Ld [] X.env))) _ _ s;refine Pk ?_;refine MU (eL I K G boot_range ?_);refine Mj (aU (ha pos f s w H _ I h) λR s1⟨P,U,m,r,B⟩=>?_) E rfl;obtain⟨n,rfl,S,q⟩:=B;obtain⟨u,rfl,z⟩:=vals1 r;obtain⟨t,rfl⟩:=z;refine call_range_1 (PC ?_);refine call_list_range (n:=n) (I.ok.hd L) (IsRange.new ..) (small_one (by omega) (by omega) (by omega) (by omega)) ?_ (by omega) λT y d c J N l=>?_
 .unfold P2;split;.split<;>omega
  .omega
 have D:aq ((LY n).map λ(i:Nat)=>V.int (i:Int)) d.toList:=by
  have:=j_ d.toList 0 λj v e=>by
   obtain⟨t,O⟩:=l.2 j v (by rw[<-e,Mg]);exact⟨t,by rw[O];congr 1;omega⟩
  rw[Mf,l.1,<-List.range_eq_range']at this;exact this
 have C:((LY n).map λ(i:Nat)=>V.int (i:Int)).length<=KU:=by rw[Lq,PK,N5];omega
 refine⟨.ref _,_,m.laid (t':=y) (o:=.lst ((LY n).map λ(i:Nat)=>V.int (i:Int))) (λb o e=>J b o (KQ _ e)) (by rw[Mn];exact PF _) ⟨C,d.toList,c,D,by rw[Array.toArray_toList];exact N⟩,rfl,q _ (m.aM.fresh (by rw[Mn];exact PF _))⟩
theorem yO(i:Nat){n c:My}(z:X.calm=KN)(hN:X.N.Nodup)(ha:DA X F [a] tas)(l:Gl X "list")(g:X.mg "list"=KL)(w:Gl X "range")(t:X.mg "range"=KL)(s:Ld [a] X.env=[(KO,MT a X.env)])(u:X.N[i]?=KE x)(r:Loc X.env.scope x)(y:X.fn x=KN\/X.env.scope.names.lookup x=KE .local):DS X F (.Assign [.Name x c] (.Call (.Name "list" p0) [.Call (.Name "range" p) [a] [] pos] [] pos0) n) (λρ=>do
   M.need (vx ρ=KN)let ds<-gu (<-tas ρ)let j<-BG dm ds;M.need (0<=j/\j<=1000000)pure (.nx (ρ.set i (KE (.own (.lst (aB j.toNat))))))):=⟨ha.hK,(cD (i:=i) hN u r (yN z l g w t ha.pa s) rfl y).imp λZ E H f=>by
  obtain⟨ρ,k,S,hN,h⟩:=f;refine pq.next S h λK I G L C D q B=>?_;obtain⟨ds,rfl,b⟩:=bT B;obtain⟨d,rfl,b⟩:=nI b;obtain⟨j,rfl,b⟩:=a_.mp b;obtain⟨⟨o,J⟩,b⟩:=b;obtain⟨v,rfl,iv⟩:=(bU q).one;simp only[Is]at iv;subst iv;refine⟨j.toNat,by rw[Int.toNat_of_nonneg o],by omega,λp m=>?_⟩;exact b _ _ (C.trans (.new m)).kp (D.mD i hN m ⟨_,ai,iP _⟩)⟩
theorem lR{f:List (KS×L_)}{j:St}{s:KR}:∀(bs:List KS){H:Hp},Inv X f j H s->(∀b∈bs,∃xs,H b=KE (.lst xs))->bs.Nodup->∃H',Inv X f j H' s/\(∀b,b∉bs->H' b=H b)/\∀b∈bs,∀xs,H b=KE (.lst xs)->∃o,H' b=KE (.b6 o (.lst xs))
 |[],H,I,_,_=>⟨H,I,λ_ _=>rfl,λb hb=>nomatch hb⟩|b::bs,H,I,h,nd=>by
  rw[M6]at nd;obtain⟨xs,i⟩:=h b K2;obtain⟨_,q,n,v,r⟩:=I.aM b _ i;have t:=I.freeze i r (λ_ z=>nomatch z) (λ_ _ z=>nomatch z) (λ_ z=>nomatch z) (λ_ z=>nomatch z);have ne:∀c∈bs,c≠b:=λc d z=>nd.1 (z▸d);obtain⟨H',u,k,m⟩:=lR bs t (λc d=>by rw[af (ne c d)];exact h c (K1 _ d)) nd.2;refine⟨H',u,λc d=>?_,λc d l g=>?_⟩;.rw[k c (λz=>d (K1 _ z)),af (λz=>d (by rw[z];exact K2))]
  .rcases List.mem_cons.mp d with rfl|d
   .rw[i]at g;cases g;exact⟨_,by rw[k c nd.1,ai]⟩
   .exact m c d l (by rw[af (ne c d)];exact g)
theorem yP(i:Nat){np:My}(hK:X.K=F.K)(hi:X.N[i]?=KE x)(hv:m_ X.env.scope x)(hd:(x==("__debug__":Lf))=KO)(T:(x==("__classdict__":Lf))=KO):DS X F (.Return (KE (.Name x np)) pos) (λρ=>do let kd<-M.get (eZ ρ i);pure (.ro (.aQ kd.1 kd.2))):=by
 have pe:PE X (.Name x np) (λG H Q=>∃(a:KS)(bs:List KS),G[i]?=KE (KE (.ref a))/\bs.Nodup/\(∀b∈bs,∃g,H b=KE (.lst g))/\∀c,(∀b,b∉bs->c b=H b)->(∀b∈bs,∀g,H b=KE (.lst g)->∃o,c b=KE (.b6 o (.lst g)))->Q (.ref a) c):=λE s G H Q I h=>by
  obtain⟨a,bs,hs,nd,hb,q⟩:=h;refine aU (bP (pos:=np) hi hv hd T E s G H (λv H2=>v=.ref a/\H2=H) I ⟨_,hs,rfl,rfl⟩) λu s1 y=>?_;obtain⟨w,H2,I2,r,e1,e2⟩:=y;subst e1 e2;obtain⟨c,I',n,O⟩:=lR bs I2 hb nd;exact⟨.ref a,c,I',r,q c n O⟩
 refine⟨hK,(fO pe).imp λZ G H y=>?_⟩;obtain⟨ρ,k,S,h⟩:=y;obtain⟨⟨ks,ds⟩,h0,h⟩:=M.run_get.mp h;obtain⟨v,P,a,rfl,o,bs,U,a0,ob,sy,dc,nd,na,J,L⟩:=S.at_ i _ (fD h0);refine⟨a,bs,P,nd,λb hb=>?_,λc n O=>?_⟩
 .obtain⟨d,W,g,_,q,_⟩:=Paired.yI L hb;exact⟨g,q⟩
 have Y:∀b o,o.iJ=KN->H b=KE o->b∉bs:=λb o st e z=>by
  obtain⟨d,W,g,_,q,_⟩:=Paired.yI L z;rw[e]at q;cases q;cases st
 have kp:Kp F.toFb H k c k:=by
  refine⟨λb o hb st e=>by rw[n b (Y b o st e)];exact e,λl=>by rw[n _ (λz=>(J _ z).1 rfl)];exact l,K8 _,λq f=>?_⟩;obtain⟨ns,j,r,⟨h1,⟨o,h2⟩,h3,h4,h5,h6⟩,hj⟩:=f;exact⟨ns,j,r,⟨by rw[n _ (λz=>(J _ z).1 rfl)];exact h1,⟨o,by rw[n _ (Y q _ rfl h2)];exact h2⟩,h3,h4,h5,h6⟩,hj⟩
 have ex:Ext F.toFb F.H0 F.k0 c k:=by
  refine⟨λb o hb e=>?_,λl=>kp.live (S.ext.live l),S.ext.le,λq f=>kp.bJ q (S.ext.bJ q f)⟩;rw[n b (λz=>by rw[(J b z).2]at e;cases e)];exact S.ext.keep b o hb e
 have all:∀(m:List KS)(C:List D),(∀b∈m,b∈bs)->Paired (uF F.toFb H) m C->ab F.toFb c (m.map V.ref) C:=λm C B p=>by induction p with
  |nil=>exact .nil|cons h t ih=>
   obtain⟨W,g,rfl,hx,ix⟩:=h;obtain⟨o',R⟩:=O _ (B _ K2) g hx;refine .cons ?_ (ih λb hb=>B b (K1 _ hb));simp only[Is];exact⟨_,g,rfl,⟨(J _ (B _ K2)).1,o',R⟩,ix.mono kp⟩
 exact h a c ex ⟨U,a0,o,bs.map V.ref,by rw[n a na];exact ob,sy,dc.mono kp,all bs ds (λ_ z=>z) L⟩
theorem vM{f g:Lf}(i:Nat){j:K7}{b:List K7}{n1 n2 Z Y:Nat}{t mg:List A->M Rs}{pf pg np cp c:My}(Df:mo X.prog X.w X.K X.mg X.base f n1 Z t)(z:cM Z X.A)(V:mo X.prog X.w X.K X.mg X.base g n2 Y mg)(y:cM Y X.A)(hP:X.prog=F.P)(hw:X.w=F.w)(hi:X.N[i]?=KE x)(hv:m_ X.env.scope x)(hd:(x==("__debug__":Lf))=KO)(O:(x==("__classdict__":Lf))=KO)(ha:DA X F (j::b) tas)(D:Gl X f)(C:Gl X g)(L:(f==("__debug__":Lf))=KO)(J:(g==("__debug__":Lf))=KO)(I:Ld (j::b) X.env=(KO,MT j X.env)::Ld b X.env)(n:(NN c (Ld b X.env)).any (·.1)=KO):DE X F (.Call (.Name f pf) [.Name x np,.Call (.Name g pg) (j::b) [] c] [] cp) (λρ=>do
   M.need (ρ[i]?=KE (KE .feed))let bs<-tas ρ;M.need (bs.length=n2/\n1=2)let r<-GL (mg bs)let d<-Kf r;let l<-GL (t [.feed,.own d])HZ l):=by
 obtain⟨a2,a4,Df⟩:=Df;obtain⟨a0,a3,V⟩:=V;have m:Ld [.Name x np,.Call (.Name g pg) (j::b) [] c] X.env=(KO,MT (.Name x np) X.env)::Ld [.Call (.Name g pg) (j::b) [] c] X.env:=rfl;refine⟨ha.hK,(pR (pos:=cp) Df z D (aP (bP (pos:=np) hi hv hd O) (aP (pR (pos:=c) V y C ha.pa J I n) bQ rfl) m) L m rfl).imp λσ H Q⟨ρ,k,S,G,h⟩=>?_⟩;have s:(⟨X.K,F.p,X.prog,X.w⟩:Fb)=F.toFb:=by
  have:F.toFb=⟨F.K,F.p,F.P,F.w⟩:=rfl;rw[this,ha.hK,hP,hw]
 obtain⟨v,h3,rfl,fd⟩:=S.at_ i _ G;refine⟨_,h3,?_⟩;refine pq.next S h λbs j1 vs H1 e1 S1 i1 R=>?_;obtain⟨⟨hb,B⟩,R⟩:=R;have o:=Paired.length i1;refine⟨F.p,j1,bs,H1,[],[],?_,S1.live,?_,.inl ⟨rfl,rfl,rfl⟩,?_,?_⟩;.rw[LB,LB,L9 (Oa o)]
 .rw[LB,L9 (Oa o),s];exact i1
 .rw[LB];exact hb
 rw[LB,s];refine M.wk R λr u q=>?_;cases r with
 |d _=>exact q.elim|own d=>
  intro a H2 U hn ap oi;have ex:Ext F.toFb H1 j1 (era H2 a) u:=U.H9 hn ap;have q:(GL (t [.feed,.own d])>>=λl=>HZ l).run u (qE F.toFb H k Q) F.E:=q;refine⟨F.p,u,[.feed],era H2 a,[.ref a],[.own d],rfl,ex.live S1.live,?_,.inr ⟨a,d,rfl,rfl,rfl,ap,?_⟩,B.symm,?_⟩
  .rw[s];exact .cons ⟨rfl,ex.feed (e1.feed fd)⟩ .nil
  .rw[s];exact oi
  .rw[s];refine M.wk q λl j3 W=>?_;cases l with
   |own _=>exact W.elim|d d2=>exactλv H3 T i3=>W v H3 ((e1.trans ex).trans T) i3
end
noncomputable def vN(te:ah->M D)(ρ:ah)(i:Nat)(a:List Nat):List D->List D->M (List D)
 |[],_=>pure []|d::b,rest=>do
  let n<-dm (<-te ((cQ (ρ.set i (KE (.own (.lst rest)))) 1 a).set 0 (KE (.d d))))M.need (0<=n/\n<(rest.length:Int)/\rest.length<=KU)let x<-M.get rest[n.toNat]?;let r<-vN te ρ i a b (rest.eraseIdx n.toNat)pure (x::r)
theorem ab.erase{B:Fb}{H:Hp}:∀{xs:List V}{ds:List D}(n:Nat),ab B H xs ds->ab B H (xs.eraseIdx n) (ds.eraseIdx n)
 |_,[],n,h=>by simp only[ab]at h;rw[h];simpa using ab.nil|_,d::ds,0,h=>by
  simp only[ab]at h;obtain⟨x,b,rfl,_,a⟩:=h;exact a|_,d::ds,n+1,h=>by
  simp only[ab]at h;obtain⟨x,b,rfl,c,a⟩:=h;exact .cons c (a.erase n)
theorem Fc{n:Int}{l:Nat}(c:0<=n)(b:n<(l:Int)):Rp n l=KE n.toNat:=by
 have a:¬n<0:=by omega
 simp only[Rp,a,if_false];rw[if_pos (by simp;omega)]
section
variable{X:Cx}{F:Fx}{ae iter:K7}{scope:MQ}{x kx:Lf}{te:ah->M D}{tI:ah->M (List D)}{np ap cp kp pos pos0:My}
theorem yQ(i U:Nat)(fr:List Lf)(g:List Nat)(P:X.calm=KN)(c4:lA X.env.scope scope=KN)(hj:g.map (λj=>X.N[j]?)=fr.map KE)(c1:∀x∈fr,scope.names.lookup x=KE .free)(b3:g.Nodup)(b4:g[U]?=KE i)(hw:DI X F (.Name kx kp) iter tI)(hg:∀b T C fp s H,PG (eP X b scope ([kx]++fr) T C fp s H) (.Name kx kp) (kW 0))(hx:∀b T C fp s H,(eP X b scope ([kx]++fr) T C fp s H).N[1+U]?=KE x/\m_ (eP X b scope ([kx]++fr) T C fp s H).env.scope x)(hd:(x==("__debug__":Lf))=KO)(c5:(x==("__classdict__":Lf))=KO)(he:∀b T C fp s H,DE (eP X b scope ([kx]++fr) T C fp s H) F ae te)(hl:(ap.endLine==cp.line)=KN)(L:∀env,Ld [ae] env=(KO,MT ae env)::Ld [] env)(hs:∀y,Nu iter X.env y=pure y):DS X F (.Return (KE (.ListComp (.Call (.Attribute (.Name x np) "pop" ap) [ae] [] cp) [⟨.Name kx kp,iter,[],0⟩] scope pos0)) pos) (λρ=>do
   let ls<-jV (<-M.get (eW ρ i))let ds<-tI ρ;let r<-vN te ρ i g ds ls;pure (.rt (.lst r))):=by
 have pe:PE X (.ListComp (.Call (.Attribute (.Name x np) "pop" ap) [ae] [] cp) [⟨.Name kx kp,iter,[],0⟩] scope pos0) (u9 1 g (Ic F tI) (kW 0) AZ (gX (HL X.K "list" ux (λl H Q=>∃v,l[1+U]?=KE (KE v)/\Q v H) (zG (cF F te) Ef))) [] .lst):=λb s l H Q I z=>by
  obtain⟨T,c⟩:=uX I.ok c4;exact(lC (own:=[kx]) (ok:=GI) (ob0:={cls:=.type "list",dict:=KL,data:=.seq ([]:List KJ).toArray}) (newAcc:=newObj (.type "list") (.seq #[])) (o:=HO.lst) (a0:=[]) (body:=λD env=>do let _<-call (.builtin "list.append") [.ref D,<-MT (.Call (.Attribute (.Name x np) "pop" ap) [ae] [] cp) env]) P c hj c1 hw.pi rfl (lD rfl rfl) (λh=>LC h) (λa ob v⟨_,_,_,_,e⟩z=>by rw[e]at z;cases z) ⟨Mo _,[],_,.nil,rfl⟩ (λz=>nomatch z) (λ_ _ _=>rfl) (λ_ _ _=>rfl) (λ_ _ _=>rfl) (λb cs C fp s H=>hg b cs C fp s H) (λb cs C fp s H=>nB) (λb cs C fp s H D o=>lu o (qZ (X:=eP X b scope ([kx]++fr) cs C fp s H) (name:="pop") (apos:=ap) (cpos:=cp) NM PySem.F.slot_list_pop (by rfl) uy (bP (pos:=np) (hx b cs C fp s H).1 (hx b cs C fp s H).2 hd c5) (aP (he b cs C fp s H).pe bQ (L _)) rfl (by rw[L];rfl) hl (L _) rfl)) nK hs).pe rfl b s l H Q I z
 refine⟨hw.hK,(fO (pP pe)).imp λZ l H⟨ρ,k,S,h⟩=>?_⟩;obtain⟨d0,h0,h⟩:=M.run_get.mp h;obtain⟨ls,rfl,h⟩:=dO h;obtain⟨v,O,a,rfl,oa⟩:=S.at_ i _ (cR h0);refine⟨ρ,k,S,M.wk h λds k1 q J H1 e1 it=>?_⟩;have q:(vN te ρ i g ds ls>>=λr=>pure (Fl.rt (.lst r))).run k1 (rb F Z H k) F.E:=q;have S1:=S.mono e1;have er:ρ.set i (KE (.own (.lst ls)))=ρ:=j9 (cR h0);refine⟨λn m t Y V=>m=ds.length-n/\n<=ds.length/\t.length<=n/\(∃v0,Y=(aO l 1 g).set 0 v0)/\∃rest w as,cv F (ρ.set i (KE (.own (.lst rest)))) w l V/\Kp F.toFb H1 k1 V w/\ab F.toFb V t as/\(vN te ρ i g (ds.drop n) rest).run w (λr k'=>rb F Z H k (.rt (.lst (as++r))) k') F.E,⟨ds.length,rfl,Mo _,K8 _,⟨KL,(j9 (by simp[aO])).symm⟩,ls,k1,[],by rw[er];exact S1,.refl,.nil,q⟩,?_⟩;rintro n m t Y V⟨rfl,d4,e0,⟨v0,rfl⟩,rest,w,as,S2,e2,ia,A⟩;by_cases a7:n<ds.length
 .obtain⟨d,rG,c2⟩:=mq a7;rw[c2]at A;obtain⟨go,yl⟩:=it.step n d V w rG e2 S2.live;refine .inr ⟨go,λy H3 hy=>?_⟩;obtain⟨e3,i3⟩:=yl y H3 hy;have S3:=S2.mono e3;have B3:=(S3.eP 1 b3).set 0 i3;have c9:((aO l 1 g).set 0 v0).set 0 (KE y)=(aO l 1 g).set 0 (KE y):=List.set_set ..;unfold kW;rw[c9];unfold AZ;dsimp only;rw[if_pos rfl];unfold gX HL;have a2:((aO l 1 g).set 0 (KE y))[1+U]?=KE (KE (.ref a)):=by
   rw[MY (by omega)];exact dq (by omega) (by rw[show 1+U-1=U by omega];exact b4) O
  have il:i<ρ.length:=(List.getElem?_eq_some_iff.mp (cR h0)).1;have a6:(ρ.set i (KE (W.own (.lst rest))))[i]?=KE (KE (.own (.lst rest))):=by rw[Na il]
  obtain⟨w3,a5,a3,rfl,f⟩:=S3.at_ i _ a6;rw[O]at a5;cases a5;obtain⟨xs,a4,a8⟩:=f.2.2;refine⟨_,a2,.inl ⟨rfl,xs,.inl (.inl a4)⟩,?_⟩;refine cF.next B3 A λdn k4 u H4 e4 B4 i4 R=>?_;obtain⟨nn,rfl,R⟩:=a_.mp R;obtain⟨⟨n0,n1,n2⟩,R⟩:=R;obtain⟨xd,b0,R⟩:=M.run_get.mp R;simp only[Is]at i4;subst i4;have S4:=S3.mono e4;have G:=e4.keep a _ f.1 a4;have B:=a8.mono e4.kp;obtain⟨wv,b2,a9⟩:=B.get b0;have d2:=B.length;have d1:=N5;refine⟨a,xs,nn,nn.toNat,wv,rfl,rfl,G,by omega,by omega,Fc n0 (by omega),b2,?_⟩;have kp:Kp F.toFb H4 k4 (upd H4 a (.lst (xs.eraseIdx nn.toNat))) k4:=Kp.own f.1 G rfl;have S5:=S4.ef (o':=.lst (xs.eraseIdx nn.toNat)) (w':=.own (.lst (rest.eraseIdx nn.toNat))) a6 O f.1 f.2.1 G rfl ⟨a,rfl,f.1,f.2.1,_,ai,(B.erase nn.toNat).mono kp⟩;rw[List.set_set]at S5;have hz:=it.len;refine⟨by omega,ds.length-(n+1),by omega,rfl,a7,by simp;omega,⟨_,rfl⟩,rest.eraseIdx nn.toNat,k4,as++[xd],S5,(e2.trans (e3.trans e4).kp).trans kp,((ia.mono (e3.trans e4).kp).mono kp).append (.cons (a9.mono kp) .nil),M.wk R λr k7 z=>?_⟩;rw[Ly];exact z
 .have e:n=ds.length:=by omega
  subst e;rw[Qa]at A;have A:rb F Z H k (.rt (.lst (as++[]))) w:=A;rw[LB]at A;refine .inl ⟨it.stop V w e2 S2.live,λp hp _=>⟨p,t,rfl,ai,λo=>?_⟩⟩;rw[cf];exact A _ _ (S2.ext.trans (.new hp)) (bF (k:=w) S2.live hp ia)
end
end L2
end
section
namespace ZP
open PySem PyProof.Rows
section
variable{prog:Lb}{w:Lv}{A:Lz}{E:KJ->KR->Prop}{s:KR}
theorem oF{a:KS}{Q:Option L_->KR->Prop}(h:Q (s.heap.get? a) s):wpAny (K4 prog w) A (Sm a) Q E s:=λb p _=>by
 unfold Sm;rw[Sem.wp_loadIfAlive];exact h
noncomputable abbrev yR(h:Lu)(z TI TO:KS)(q:Nat)(b:Bool):Prop:=h.get? z=KE {cls:=.type "zip",dict:=KL,data:=.fields #[OG q,.bool b,.bool KO,.ref TI,.ref TO],slots:=#[]}
structure B9(h:Lu)(z TI TO i1 i2 a1 a2:KS)(k:Nat)(xs ys:Array KJ)(q:Nat):Prop where
 zp:∃b,yR h z TI TO q b
 al:∃o,h.get? q=KE o
 ti:Og h TI (.ref i1) (.ref i2)s1:jL h i1 a1 k xs
 s2:jL h i2 a2 k ys
theorem rS{z TI TO:KS}{q:Nat}{b:Bool}{Q:Bool->KR->Prop}(a:yR s.heap z TI TO q b)(ha:∃o,s.heap.get? q=KE o)(h:∀h',yR h' z TI TO q KN->Mr z s.heap h'->Q KO {s with heap:=h'}):wpAny (K4 prog w) A (Lw (.ref z)) Q E s:=by
 obtain⟨o,e⟩:=ha;unfold Lw;refine KH (LK a rfl (x:=OG q) rfl ?_);show wpAny _ _ (Sm (Int.toNat (q:Int))>>=_) _ _ _;rw[Nw];refine KH (oF ?_);rw[e];show wpAny _ _ (QM (.ref z) 1>>=_) _ _ _;refine KH (LK a rfl (x:=.bool b) rfl ?_);cases b with
 |true=>exact KP (h s.heap a (R8 ..))|false=>
  show wpAny _ _ (setField (.ref z) 1 (.bool KN)>>=_) _ _ _;exact KH (MV a (by simp) λf c d=>KP (h f c d))
theorem tD{z TI TO f d a1 n:KS}{k:Nat}{xs ys:Array KJ}{x y:KJ}{q:Nat}{Q:KJ->KR->Prop}(D:Oq z TI TO f d a1 n)(Z:B9 s.heap z TI TO f d a1 n k xs ys q)(r:q≠z)(u:q≠f)(t:q≠d)(U:xs[k]?=KE x)(T:ys[k]?=KE y)(V:∀h',B9 h' z TI TO f d a1 n (k+1) xs ys q->Og h' s.heap.objs.size x y->h'.objs.size=s.heap.objs.size+1->(∀c o,c≠z->c≠TO->c≠f->c≠d->s.heap.get? c=KE o->h'.get? c=KE o)->(∀o,s.heap.get? TO=KE o->h'.get? TO=KE o)->Q (.ref s.heap.objs.size) {s with heap:=h'}):wpAny (K4 prog w) A (Builtin.«zip.__next__» ⟨[.ref z],[]⟩) (λC M=>∃v,C=.done (.ret v)/\Q v M) E s:=by
 obtain⟨⟨b,p⟩,ha,j,X,W⟩:=Z;show wpAny _ _ (QM (.ref z) 2>>=_) _ _ _;refine KH (LK p rfl (x:=.bool KO) rfl ?_);show wpAny _ _ (QM (.ref z) 3>>=_) _ _ _;refine KH (LK p rfl (x:=.ref TI) rfl ?_);refine KH (Mb j rfl ?_);show wpAny _ _ (Lw (.ref z)>>=_) _ _ _;refine KH (rS p ha λg1 K i=>?_);refine KH ?_;simp only[<-NO,NW,NJ];refine KH (KH (LF ?_));show wpAny _ _ (Ll (.ref f)>>=_) _ _ _;refine KH (dM D.l1i1 (X.ext i.extBut D.i1z D.l1z) U λY P h=>KP ?_);refine KP ?_;refine KH (KH (LF ?_));show wpAny _ _ (Ll (.ref d)>>=_) _ _ _;have N:jL Y d n k ys:=(W.ext i.extBut D.i2z D.l2z).ext h.extBut D.i12.symm D.l2i1;refine KH (dM D.l2i2 N T λa O g=>KP ?_);refine KP (KP ?_);show wpAny _ _ (newTuple [x,y]>>=_) _ _ _;refine KH (Rh ?_);have S:a.objs.size=s.heap.objs.size:=by rw[g.1,h.1,i.1]
 have J:yR a z TI TO q KN:=g.extBut _ _ D.i2z.symm (h.extBut _ _ D.i1z.symm K);have H:∀c o,c≠z->c≠TO->c≠f->c≠d->s.heap.get? c=KE o->a.get? c=KE o:=λc o m I c3 l e=>g.extBut _ _ l (h.extBut _ _ c3 (i.extBut _ _ m e));have G:∀c o,c≠z->c≠f->c≠d->s.heap.get? c=KE o->a.get? c=KE o:=λc o m c3 l e=>g.extBut _ _ l (h.extBut _ _ c3 (i.extBut _ _ m e));have L:jL a f a1 (k+1) xs:=P.ext g.extBut D.i12 D.l1i2;refine KP ⟨_,rfl,?_⟩;show Q (.ref a.objs.size) _;have F:Og (a.push {cls:=.type "tuple",data:=.seq #[x,y]}) a.objs.size x y:=K9 _ rfl;have sz:(a.push {cls:=.type "tuple",data:=.seq #[x,y]}).objs.size=a.objs.size+1:=Mn ..;rw[S]at F sz⊢;obtain⟨R,B⟩:=ha;exact V _ ⟨⟨KN,KQ _ J⟩,⟨R,KQ _ (G _ _ r u t B)⟩,KQ _ (H _ _ D.TIz D.TITO D.TIi1 D.TIi2 j),L.keep (λo e=>KQ _ e) (λo e=>KQ _ e),O.keep (λo e=>KQ _ e) (λo e=>KQ _ e)⟩ F sz (λc o m I c3 l e=>KQ _ (H c o m I c3 l e)) λo e=>KQ _ (G TO o D.TOz D.TOi1 D.TOi2 e)
theorem vO{z TI TO i d a1 t:KS}{k:Nat}{xs ys:Array KJ}{q:Nat}{Q:Fin->KR->Prop}(u:A.handled=KL)(D:Oq z TI TO i d a1 t)(Z:B9 s.heap z TI TO i d a1 t k xs ys q)(f:xs[k]?=KL\/ys[k]?=KL)(v:∀h' e,(∀c o,c≠z->c≠TO->c≠i->c≠d->s.heap.get? c=KE o->h'.get? c=KE o)->(∃o,h'.get? e=KE o/\o.cls=.type "StopIteration")->E (.ref e) {s with heap:=h'}):wpAny (K4 prog w) A (Builtin.«zip.__next__» ⟨[.ref z],[]⟩) Q E s:=by
 obtain⟨⟨b,j⟩,ha,n,y,G⟩:=Z;show wpAny _ _ (QM (.ref z) 2>>=_) _ _ _;refine KH (LK j rfl (x:=.bool KO) rfl ?_);show wpAny _ _ (QM (.ref z) 3>>=_) _ _ _;refine KH (LK j rfl (x:=.ref TI) rfl ?_);refine KH (Mb n rfl ?_);show wpAny _ _ (Lw (.ref z)>>=_) _ _ _;refine KH (rS j ha λL J a=>?_);refine KH ?_;simp only[<-NO,NW,NJ];refine KH (KH (LF ?_));show wpAny _ _ (Ll (.ref i)>>=_) _ _ _;cases l:xs[k]? with
 |none=>exact KH (jf u (y.ext a.extBut D.i1z D.l1z) l λp e g m=>v p e (λc o r _ c3 _ x=>g _ _ c3 (a.extBut _ _ r x)) m)|some x=>
  have F:ys[k]?=KL:=by rcases f with h|h;rw[l]at h;cases h;exact h
  refine KH (dM D.l1i1 (y.ext a.extBut D.i1z D.l1z) l λp K g=>KP ?_);refine KP ?_;refine KH (KH (LF ?_));show wpAny _ _ (Ll (.ref d)>>=_) _ _ _;have B:jL p d t k ys:=(G.ext a.extBut D.i2z D.l2z).ext g.extBut D.i12.symm D.l2i1;exact KH (jf u B F λH e C m=>v H e (λc o r M c3 I x=>C _ _ I (g.extBut _ _ c3 (a.extBut _ _ r x))) m)
theorem hZ{z TI TO d a a1 h:KS}{k:Nat}{xs ys:Array KJ}{x y:KJ}{q:Nat}{Q:Option KJ->KR->Prop}(D:Oq z TI TO d a a1 h)(Z:B9 s.heap z TI TO d a a1 h k xs ys q)(e:q≠z)(g:q≠d)(f:q≠a)(l:xs[k]?=KE x)(j:ys[k]?=KE y)(m:∀h',B9 h' z TI TO d a a1 h (k+1) xs ys q->Og h' s.heap.objs.size x y->h'.objs.size=s.heap.objs.size+1->(∀c o,c≠z->c≠TO->c≠d->c≠a->s.heap.get? c=KE o->h'.get? c=KE o)->(∀o,s.heap.get? TO=KE o->h'.get? TO=KE o)->Q (KE (.ref s.heap.objs.size)) {s with heap:=h'}):wpAny (K4 prog w) A (N1 (.ref z)) Q E s:=by
 have i:s.TypeIs (.ref z) "zip":=by obtain⟨b,hz⟩:=Z.zp;exact⟨_,hz,rfl⟩
 unfold N1;exact KH (N0 (LH (name:=KI "__next__") i Mh (LN Mh i NQ (tD D Z e g f l j λh' t r c3 p n=>KP (m h' t r c3 p n)) (NL _))))
theorem eI{z TI TO f d a1 h:KS}{k:Nat}{xs ys:Array KJ}{q:Nat}{Q:Option KJ->KR->Prop}(l:A.handled=KL)(D:Oq z TI TO f d a1 h)(Z:B9 s.heap z TI TO f d a1 h k xs ys q)(a:xs[k]?=KL\/ys[k]?=KL)(p:∀h',(∀c o,c≠z->c≠TO->c≠f->c≠d->s.heap.get? c=KE o->h'.get? c=KE o)->Q KL {s with heap:=h'}):wpAny (K4 prog w) A (N1 (.ref z)) Q E s:=by
 have g:s.TypeIs (.ref z) "zip":=by obtain⟨b,hz⟩:=Z.zp;exact⟨_,hz,rfl⟩
 unfold N1;refine KH (N0 (LH (name:=KI "__next__") g Mh (LN Mh g NQ (vO l D Z a λh' e j m=>?_) (NL _))));obtain⟨o,i,n⟩:=m;exact KH (NI (T:="StopIteration") (b:=KN) ⟨o,i,n⟩ Rf (KP (p _ j)))
end
end ZP
namespace L2
open PySem PySem.Spec PyProof.Rows ZP
section
variable{X:Cx}{pins:List (KS×L_)}{σ:St}
noncomputable def B_(h:Lu)(H:Hp)(z TI TO b a a1 c:KS)(k:Nat)(xs ys:Array KJ):Prop:=yd h z TI TO b a a1 c k xs ys .none\/∃q,B9 h z TI TO b a a1 c k xs ys q/\H q≠KL
theorem dG.mono{H H':Hp}{b:KS}(h:dG X pins H b)(e:H' b=KL):dG X pins H' b:=⟨e,h.2⟩
end
end L2
end
section
namespace L2
open PySem PySem.Spec PyProof.Rows ZP
section
variable{prog:Lb}{w:Lv}{A:Lz}{E:KJ->KR->Prop}{s:KR}
theorem kR:Sx (.type "zip") "keys"=pure KL:=by rw[typeLookup_type,Q3];kernel_rfl
theorem h_:Sx (.type "zip") "__getattr__"=pure KL:=by rw[typeLookup_type,Q3];kernel_rfl
theorem mJ:entryFor table "zip.__getattribute__"=KE Builtin.«object.__getattribute__»:=entryFor_alias (id':="object.__getattribute__") (by kernel_rfl) (by decide+kernel) (by decide+kernel) (by kernel_rfl)
theorem vP(a:KS)(xs:Array KJ)(h:Array (Option KJ))(u:SH):Meets (Builtin.«object.__getattribute__» ⟨[.ref a,.str "keys" u],[]⟩) (λA R s=>s.heap.get? a=KE {cls:=.type "zip",dict:=KL,data:=.fields xs,slots:=h}/\raisesAttr (.ref a) "keys" A R s):=Meets.of_wp λprog w A R s c=>by
  obtain⟨j,g,d,f,os⟩:=s;obtain⟨i,c⟩:=c;have k:(⟨j,g,d,f,os⟩:KR).TypeIs (.ref a) "zip":=⟨_,i,rfl⟩;have e:=kR;have b:(["__module__","__name__","__qualname__","__doc__","__annotations__"]:List Lf).contains "keys"=KO:=by decide+kernel
  unfold Builtin.«object.__getattribute__»;repeat(any_goals(first|assumption|wp_step))
  try simp only[b,K_,if_false]
  repeat(any_goals(first|assumption|wp_step))
  exact wpAny_raiseAttrError c.1 c.2 (attrMsg_fits (by decide+kernel) (by size_fits))
theorem qg{a:KS}{xs:Array KJ}{l:Array (Option KJ)}{Q:Option KJ->KR->Prop}(n:s.heap.get? a=KE {cls:=.type "zip",dict:=KL,data:=.fields xs,slots:=l})(q:A.handled=KL)(h:∀h' i,(∀b o,s.heap.get? b=KE o->h'.get? b=KE o)->Q KL {s with heap:=h',toks:=i}):wpAny (K4 prog w) A (getAttr? (.ref a) "keys") Q E s:=by
 obtain⟨j,g,d,i,os⟩:=s;have p:∀c,(⟨j,g,d,c,os⟩:KR).TypeIs (.ref a) "zip":=λ_=>⟨_,n,rfl⟩;have H:=sub_AttributeError;have G:=F.slot_zip_getattribute.lookup;have D:=F.slot_zip_getattribute.bind (.ref a);have C:=h_;have k:wpAny (K4 prog w) A (getAttr? (.ref a) "keys") (λr m=>∃h' c,r=KL/\(∀b o,j.get? b=KE o->h'.get? b=KE o)/\m=⟨h',g,d,c,os⟩) E ⟨j,g,d,i,os⟩:=by
  unfold getAttr? getAttrBy? getAttrBy;repeat(any_goals(first|assumption|exact p _|((with_reducible show wpAny _ _ (call (Value.builtin "zip.__getattribute__") _ _) _ _ _);refine RK F.slot_zip_getattribute (p _) mJ (F.args_zip_getattribute_2 _ _) (vP a xs l _) ⟨n,q,λh' c e f=>?_⟩)|wp_step))
  obtain⟨y,x,B⟩:=f.there;show wpAny _ _ (RR _ _ _ _ _ _ _) _ _ _;unfold RR;repeat(any_goals(first|assumption|wp_step))
  exact⟨_,_,rfl,f.of.keeps,rfl⟩
 exact MI k (λr m⟨h',c,v,t,u⟩=>by subst v u;exact h h' c t) λ_ _ z=>z
end
section
variable{X:Cx}{F:Fx}{pins:List (KS×L_)}{σ:St}
theorem Ca{a:Type}{b z t u v w:a}(h:b∈[z,t,u,v,w]):b=z\/b=t\/b=u\/b=v\/b=w:=by simpa using h
theorem qh(H:X.calm=KN)(hK:X.K=F.K)(hP:X.prog=F.P)(hw:X.w=F.w){A1:Lz}(hA:A1.handled=KL)(hu:A1.units+2<L6){n z TI TO C B a1 a2:KS}{r:List D×List D}{R:Result->KR->Prop}(hp:n≠F.p)(Ap:Oq z TI TO C B a1 a2){xs ys:List KJ}{vs us:List V}(r1:aq vs xs)(r2:aq us ys)(n1:n≠a1)(n2:n≠a2):∀(ps qs:List D)(k:Nat)(j:Int)(t:SH)(ks ds:List D)(ws:List V)(o:L_)(i:Hp)(s:KR),Inv X pins σ i s->i F.p≠KL->i n=KE (kI n o)->bo F.toFb i o ks ws->ab F.toFb i ws ds->ab F.toFb i (vs.drop k) ps->ab F.toFb i (us.drop k) qs->(∀b∈[z,TI,TO,C,B],dG X pins i b/\∃o,s.heap.get? b=KE o)->B_ s.heap i z TI TO C B a1 a2 k xs.toArray ys.toArray->dQ (kQ ps qs) (ks,ds)=KE r->(∀o' Y H' s',Inv X pins σ H' s'->H' n=KE (kI n o')->(∀b u,b≠n->i b=KE u->H' b=KE u)->bo F.toFb H' o' r.1 Y->ab F.toFb H' Y r.2->R (.ok (.ret .none)) s')->codeAny (K4 X.prog X.w) A1 (.builtin "dict.update.loop" ⟨[.ref n,.ref z,.int j t,.none],[]⟩) R s:=by
 intro ps;induction ps with
 |nil=>
  intro qs k j t ks ds ws o i s I l hD dd ia a4 a3 fp Z e q;have e:KE (ks,ds)=KE r:=e;cases e;have J:xs.toArray[k]?=KL\/ys.toArray[k]?=KL:=by
   have:=a4.length;have:=r1.length;left;simp at*;omega
  refine QP hV ?_;rw[O6 hW _];unfold Builtin.«dict.update.loop»;dsimp only;have M:∀d,(∀c o,c≠z->c≠TO->c≠C->c≠B->s.heap.get? c=KE o->d.get? c=KE o)->R (.ok (.ret .none)) {s with heap:=d}:=λd g=>by
   have I2:Inv X pins σ i {s with heap:=d}:=I.vg (t':=s.toks) (fp:=[z,TI,TO,C,B]) (λb hb=>(fp b hb).1) λc o H e=>by
    simp only[Mx,MH,or_false,not_or]at H;exact g c o H.1 H.2.2.1 H.2.2.2.1 H.2.2.2.2 e
   exact q o ws i _ I2 hD (λ_ _ _ z=>z) dd ia
  rcases Z with Z|⟨y,Z,hy⟩;.exact KH (eU (A:=A1.in1) hA Ap Z J λd g=>KH (KP (KP (M d g))))
  .exact KH (eI (A:=A1.in1) hA Ap Z J λd g=>KH (KP (KP (M d g))))|cons p ps ih=>
  intro qs k j t ks ds ws o i s I l hD dd ia a4 a3 fp Z e q;cases qs with
  |nil=>
   have e:KE (ks,ds)=KE r:=e;cases e;have J:xs.toArray[k]?=KL\/ys.toArray[k]?=KL:=by
    have:=a3.length;have:=r2.length;right;simp at*;omega
   refine QP hV ?_;rw[O6 hW _];unfold Builtin.«dict.update.loop»;dsimp only;have M:∀d,(∀c o,c≠z->c≠TO->c≠C->c≠B->s.heap.get? c=KE o->d.get? c=KE o)->R (.ok (.ret .none)) {s with heap:=d}:=λd g=>by
    have I2:Inv X pins σ i {s with heap:=d}:=I.vg (t':=s.toks) (fp:=[z,TI,TO,C,B]) (λb hb=>(fp b hb).1) λc o H e=>by
     simp only[Mx,MH,or_false,not_or]at H;exact g c o H.1 H.2.2.1 H.2.2.2.1 H.2.2.2.2 e
    exact q o ws i _ I2 hD (λ_ _ _ z=>z) dd ia
   rcases Z with Z|⟨y,Z,hy⟩;.exact KH (eU (A:=A1.in1) hA Ap Z J λd g=>KH (KP (KP (M d g))))
   .exact KH (eI (A:=A1.in1) hA Ap Z J λd g=>KH (KP (KP (M d g))))|cons p' qs=>
   have e:(if aD ks p&&decide (ks.length<KU)then dQ (kQ ps qs) (putD ks ds p p')else KL)=KE r:=e;by_cases hk:(aD ks p&&decide (ks.length<KU))=KN
   .rw[if_pos hk]at e;rw[KW,decide_eq_true_eq]at hk;simp only[ab]at a4 a3;obtain⟨v,vr,ev,iv,d0⟩:=a4;obtain⟨u,ur,eu,iu,d4⟩:=a3;have hv:vs[k]?=KE v:=by
     have:=congrArg List.head? ev;simpa[List.head?_drop]using this
    have e1:vs.drop (k+1)=vr:=by
     have:=congrArg List.tail ev;simpa[List.tail_drop]using this
    have e3:us[k]?=KE u:=by
     have:=congrArg List.head? eu;simpa[List.head?_drop]using this
    have e2:us.drop (k+1)=ur:=by
     have:=congrArg List.tail eu;simpa[List.tail_drop]using this
    obtain⟨x,hx,rx⟩:=r1.get hv;obtain⟨y,hy,ry⟩:=r2.get e3;have b3:xs.toArray[k]?=KE x:=by simpa using hx
    have b2:ys.toArray[k]?=KE y:=by simpa using hy
    refine QP hV ?_;rw[O6 hW _];unfold Builtin.«dict.update.loop»;dsimp only;have lt:∀b∈[z,TI,TO,C,B],b<s.heap.objs.size:=λb hb=>by obtain⟨o,e⟩:=(fp b hb).2;exact K5 e
    have hf:i s.heap.objs.size=KL:=I.aM.fresh (K8 _);have nD:n≠s.heap.objs.size:=λh=>by rw[h,hf]at hD;cases hD
    have go:∀d,B_ d (upd i s.heap.objs.size (.tup [v,u])) z TI TO C B a1 a2 (k+1) xs.toArray ys.toArray->Og d s.heap.objs.size x y->d.objs.size=s.heap.objs.size+1->(∀c o,c≠z->c≠TO->c≠C->c≠B->s.heap.get? c=KE o->d.get? c=KE o)->(∀b∈[z,TI,TO,C,B],∃o,d.get? b=KE o)->∀h2 o2 a6,Mr n d h2->h2.get? n=KE o2->nP (Is F.toFb (upd i s.heap.objs.size (.tup [v,u]))) F (upd i s.heap.objs.size (.tup [v,u])) ks ds p p' o2->Inv X pins σ (upd i s.heap.objs.size (.tup [v,u])) {s with heap:=d}->codeAny (K4 X.prog X.w) A1 (.builtin "dict.update.loop" ⟨[.ref n,.ref z,OG (j+1),.none],[]⟩) R {s with heap:=h2,toks:=a6}:=λd Q pr O g a7 h2 o2 a6 a0 eo po I1=>by
     obtain⟨⟨Y,d1,d2⟩,_⟩:=po;replace d2:=jC d2;have ex:Ext F.toFb i 0 (upd i s.heap.objs.size (.tup [v,u])) 0:=.new hf;have a5:upd i s.heap.objs.size (.tup [v,u]) n=KE (kI n o):=by rw[af nD];exact hD
     have kp:Kp F.toFb (upd i s.heap.objs.size (.tup [v,u])) 0 (upd (upd i s.heap.objs.size (.tup [v,u])) n (kI n o2)) 0:=Kp.own hp a5 rfl;have I2:Inv X pins σ (upd (upd i s.heap.objs.size (.tup [v,u])) n (kI n o2)) {s with heap:=h2,toks:=a6}:=hJ (s:={s with heap:=d}) I1 a5 a0 eo;have G:∀b∈[z,TI,TO,C,B],b≠n:=λb hb h=>by
      have:=(fp b hb).1.1;rw[h,hD]at this;cases this
     have E:∀b o,b≠n->d.get? b=KE o->h2.get? b=KE o:=λb o hb q=>(a0.2 b hb).trans q;refine ih qs (k+1) _ _ (putD ks ds p p').1 (putD ks ds p p').2 Y o2 _ _ I2 (kp.live (ex.live l)) ai (d1.mono kp) (d2.mono kp) (by rw[e1];exact(d0.mono ex.kp).mono kp) (by rw[e2];exact(d4.mono ex.kp).mono kp) (λb hb=>⟨(fp b hb).1.mono (by rw[af (G b hb),af (Lp (lt b hb))];exact(fp b hb).1.1),?_⟩) ?_ e λo' a8 H' s' I' e6 e5 f1 f0=>q o' a8 H' s' I' e6 (λb u' hb e=>e5 b u' hb (by rw[af hb,af (λh=>by rw[h,hf]at e;cases e)];exact e)) f1 f0
     .obtain⟨o',e'⟩:=a7 b hb;exact⟨o',E b o' (G b hb) e'⟩
     .rcases Q with Q|⟨y',Q,e0⟩
      .obtain⟨W,c2,⟨a,b,c3⟩,U,S⟩:=Q;exact .inl ⟨E z _ (G z (by simp)) W,E TI _ (G TI (by simp)) c2,⟨a,b,E TO _ (G TO (by simp)) c3⟩,U.keep (λo=>E C o (G C (by simp))) (λo=>E a1 o (LP n1)),S.keep (λo=>E B o (G B (by simp))) (λo=>E a2 o (LP n2))⟩
      .obtain⟨⟨b,W⟩,⟨o',c2⟩,c3,U,S⟩:=Q;by_cases L:y'=n;.exact .inr ⟨y',⟨⟨b,E z _ (G z (by simp)) W⟩,⟨o2,by rw[L];exact eo⟩,E TI _ (G TI (by simp)) c3,U.keep (λo=>E C o (G C (by simp))) (λo=>E a1 o (LP n1)),S.keep (λo=>E B o (G B (by simp))) (λo=>E a2 o (LP n2))⟩,by rw[L,ai];intro h;cases h⟩
       .exact .inr ⟨y',⟨⟨b,E z _ (G z (by simp)) W⟩,⟨o',E y' o' L c2⟩,E TI _ (G TI (by simp)) c3,U.keep (λo=>E C o (G C (by simp))) (λo=>E a1 o (LP n1)),S.keep (λo=>E B o (G B (by simp))) (λo=>E a2 o (LP n2))⟩,by rw[af L];exact e0⟩
    have N:∀d,B_ d (upd i s.heap.objs.size (.tup [v,u])) z TI TO C B a1 a2 (k+1) xs.toArray ys.toArray->Og d s.heap.objs.size x y->d.objs.size=s.heap.objs.size+1->(∀c o,c≠z->c≠TO->c≠C->c≠B->s.heap.get? c=KE o->d.get? c=KE o)->(∀b∈[z,TI,TO,C,B],∃o,d.get? b=KE o)->wpAny (K4 X.prog X.w) A1.in1 (Qj [.ref s.heap.objs.size] (do
       let N<-(Qw (.ref s.heap.objs.size)).tryCatch λe=>do
        if !(<-RN e (.type "TypeError"))then throw e
        Qk "dict.update.element-no-sequence"raiseError"TypeError"s!"cannot convert dictionary update sequence element #{j} to a sequence"
       match N with
       |[k,v]=>Qj [k,v] (dictSet n k v)|l=>
        Qk "dict.update.element-length"raiseError"ValueError"s!"dictionary update sequence element #{j} has length {l.length}; 2 is required")>>=λ_=>SR (.builtin "dict.update.loop" ⟨[.ref n,.ref z,OG (j+1),.none],[]⟩)) (λM s'=>match M with|.done f=>R (.ok f) s'|.again c'=>c'.quiet=KN/\codeAny (K4 X.prog X.w) A1 c' R s') (λe s'=>R (.error e) s') {s with heap:=d}:=λd Q pr O g a7=>by
     have I2:Inv X pins σ i {s with heap:=d}:=I.vg (t':=s.toks) (fp:=[z,TI,TO,C,B]) (λb hb=>(fp b hb).1) λc o H e=>by
      simp only[Mx,MH,or_false,not_or]at H;exact g c o H.1 H.2.2.1 H.2.2.2.1 H.2.2.2.2 e
     have I3:Inv X pins σ (upd i s.heap.objs.size (.tup [v,u])) {s with heap:=d}:=I2.zL (a:=s.heap.objs.size) I.sz hf (Nc I.lt) (λx c e q=>by
       obtain⟨w',q'⟩:=I.cell x c e;exact absurd q'.lt (by rw[q];exact LU _)) (λp hp q=>absurd (K5 (I.pin p hp).1) (by rw[q];exact LU _)) ⟨by show 2<=KU;decide,[x,y],.cons rx (.cons ry .nil),⟨_,pr,rfl,_,rfl⟩⟩;have ex:Ext F.toFb i 0 (upd i s.heap.objs.size (.tup [v,u])) 0:=.new hf;have a5:upd i s.heap.objs.size (.tup [v,u]) n=KE (kI n o):=by rw[af nD];exact hD
     refine KH (LF (KH (wpAny_tryCatch ?_)));unfold Qw;refine KH (N_ (T:="tuple") ⟨_,pr,rfl⟩ ?_);rw[if_pos (by decide)];refine KH (Mb pr rfl (KP ?_));dsimp only[P_];have e4:d.get? n=KE o:=(I3.aM n _ a5).1;refine LF (yq (F:=F) (A:=A1.in1) (R:=Is F.toFb (upd i s.heap.objs.size (.tup [v,u]))) (show A1.units+1+1<L6 from hu) I3 hK hP hw (dd.mono ex.kp) e4 (ia.mono ex.kp).pr (iv.mono ex.kp) rx (iu.mono ex.kp) ry (bK hk.1) hk.2 λh2 o2 tk a0 eo po=>?_);exact KP ⟨RS _ (by decide+kernel),go d Q pr O g a7 h2 o2 tk a0 eo po I3⟩
    have b4:upd i s.heap.objs.size (.tup [v,u]) s.heap.objs.size≠KL:=by rw[ai];intro h;cases h
    rcases Z with Z|⟨y0,Z,L⟩
    .refine KH (i9 Ap Z b3 b2 λd Q pr O g=>?_);obtain⟨W,c2,⟨a,b,c3⟩,U,S⟩:=Q;have o4:∃o,d.get? C=KE o:=by cases U with|list p _=>obtain⟨o,e,_⟩:=p;exact⟨o,e⟩|tup p _=>obtain⟨o,e,_⟩:=p;exact⟨o,e⟩
     have o5:∃o,d.get? B=KE o:=by cases S with|list p _=>obtain⟨o,e,_⟩:=p;exact⟨o,e⟩|tup p _=>obtain⟨o,e,_⟩:=p;exact⟨o,e⟩
     refine N d (.inr ⟨_,⟨⟨_,W⟩,⟨_,pr⟩,c2,U,S⟩,b4⟩) pr O g λb hb=>?_;rcases Ca hb with rfl|rfl|rfl|rfl|rfl;.exact⟨_,W⟩
     .exact⟨_,c2⟩
     .exact⟨_,c3⟩
     .exact o4
     .exact o5
    .have G:∀b∈[z,TI,TO,C,B],y0≠b:=λb hb h=>L (by rw[h];exact(fp b hb).1.1);refine KH (hZ Ap Z (G z (by simp)) (G C (by simp)) (G B (by simp)) b3 b2 λd Q pr O g c9=>?_);obtain⟨⟨b0,W⟩,⟨o',c2⟩,c3,U,S⟩:=Q;have o4:∃o,d.get? C=KE o:=by cases U with|list p _=>obtain⟨o,e,_⟩:=p;exact⟨o,e⟩|tup p _=>obtain⟨o,e,_⟩:=p;exact⟨o,e⟩
     have o5:∃o,d.get? B=KE o:=by cases S with|list p _=>obtain⟨o,e,_⟩:=p;exact⟨o,e⟩|tup p _=>obtain⟨o,e,_⟩:=p;exact⟨o,e⟩
     refine N d (.inr ⟨y0,⟨⟨b0,W⟩,⟨o',c2⟩,c3,U,S⟩,by
      by_cases e:y0=s.heap.objs.size;.rw[e];exact b4
      .rw[af e];exact L⟩) pr O g λb hb=>?_;rcases Ca hb with rfl|rfl|rfl|rfl|rfl;.exact⟨_,W⟩
     .exact⟨_,c3⟩
     .obtain⟨o',e'⟩:=(fp b (by simp)).2;exact⟨o',c9 o' e'⟩
     .exact o4
     .exact o5
   .rw[if_neg hk]at e;cases e
end
end L2
end
section
namespace L2
open PySem PySem.Spec PyProof.Rows ZP
section
variable{X:Cx}{F:Fx}{pins:List (KS×L_)}{σ:St}{H:Hp}{s:KR}
theorem vQ(O:X.calm=KN)(hu:X.A.units+4<L6)(hK:X.K=F.K)(hP:X.prog=F.P)(hw:X.w=F.w){z TI TO x v a1 Y:KS}{xs ys:List KJ}{vs us:List V}{ps E:List D}{r:List D×List D}{k:Nat}{Q:VK}(I:Inv X pins σ H s)(l:H F.p≠KL)(Ap:Oq z TI TO x v a1 Y)(r1:aq vs xs)(r2:aq us ys)(Z:yd s.heap z TI TO x v a1 Y 0 xs.toArray ys.toArray .none)(fp:∀b∈[z,TI,TO,x,v],dG X pins H b)(j1:ab F.toFb H vs ps)(j2:ab F.toFb H us E)(e:dQ (kQ ps E) ([],[])=KE r)(q:qE F.toFb H k Q (.aQ r.1 r.2) k):wpAny (K4 X.prog X.w) X.A (Qr (.type "dict") [.ref z]) (EP X pins σ Q) X.xe s:=by
 have N:H s.heap.objs.size=KL:=I.aM.fresh (K8 _);have m:s.heap.objs.size≠F.p:=g0 l N;have L:(s.heap.objs.size==Mu)=KO:=beq_eq_false_iff_ne.mpr (LP (Lp I.GG));refine callType_codes (Q₁:=λobj i=>obj=.ref s.heap.objs.size/\i={s with heap:=s.heap.push {cls:=.type "dict",data:=.dict #[]}}) PySem.F.kt_called_dict (PySem.F.kt_typeCall_dict_1 _) PySem.F.entry_dict_init (kt_code_dict_new _ ⟨rfl,rfl⟩) ?_;rintro obj i⟨rfl,rfl⟩;have B:(s.heap.push {cls:=.type "dict",data:=.dict #[]}).get? s.heap.objs.size=KE bV:=K9 _ rfl;have I1:Inv X pins σ (upd H s.heap.objs.size (kI s.heap.objs.size bV)) {s with heap:=s.heap.push {cls:=.type "dict",data:=.dict #[]}}:=I.laid (a:=s.heap.objs.size) (t':=s.toks) (λ_ _ q=>KQ _ q) (K8 _) (mE B);have ex:Ext F.toFb H k (upd H s.heap.objs.size (kI s.heap.objs.size bV)) k:=.new N;have hT:Shared.TypeIs {s with heap:=s.heap.push {cls:=.type "dict",data:=.dict #[]}} (.ref s.heap.objs.size) "dict":=⟨_,B,rfl⟩;refine⟨hT,PySem.F.args_dict_init_2 _ _,?_⟩;unfold Builtin.«dict.__init__»;refine KH ?_;unfold Builtin.Dict.selfAndRest;refine KH (QX hT ?_);show wpAny _ _ (pure (s.heap.objs.size,[Lj z])) _ _ _;refine KP ?_;show wpAny _ _ (Qg "dict.__init__" s.heap.objs.size (.ref z) [] .none) _ _ _;unfold Qg;have j:∀b o,s.heap.get? b=KE o->(s.heap.push {cls:=.type "dict",data:=.dict #[]}).get? b=KE o:=λb o e=>KQ _ e;refine KH (N_ (T:="zip") ⟨_,j _ _ Z.zp,rfl⟩ ?_);rw[if_pos (by decide)];refine KH (qg (j _ _ Z.zp) (show X.A.in1.in1.handled=KL from I.ok.hd O) λh2 y g2=>?_);rw[if_pos (show(KL:Option KJ).isNone=KN from rfl)];refine KH (Ng ?_);have I2:Inv X pins σ (upd H s.heap.objs.size (kI s.heap.objs.size bV)) {s with heap:=h2,toks:=y}:=I1.kept (t':=y) g2;have f:∀b o,s.heap.get? b=KE o->h2.get? b=KE o:=λb o e=>g2 b o (j b o e);obtain⟨W,c2,⟨a,b,c3⟩,U,S⟩:=id Z;have J:=U.lt;have G:=S.lt;refine KH (wpAny_pyIter_zip (f _ _ W) ?_);refine KP ⟨RS _ (by decide+kernel),?_⟩;have o4:∃o,s.heap.get? x=KE o:=by cases U with|list p _=>obtain⟨o,e,_⟩:=p;exact⟨o,e⟩|tup p _=>obtain⟨o,e,_⟩:=p;exact⟨o,e⟩
 have o5:∃o,s.heap.get? v=KE o:=by cases S with|list p _=>obtain⟨o,e,_⟩:=p;exact⟨o,e⟩|tup p _=>obtain⟨o,e,_⟩:=p;exact⟨o,e⟩
 have there:∀b∈[z,TI,TO,x,v],∃o,s.heap.get? b=KE o:=λb hb=>by
  rcases Ca hb with rfl|rfl|rfl|rfl|rfl;.exact⟨_,W⟩
  .exact⟨_,c2⟩
  .exact⟨_,c3⟩
  .exact o4
  .exact o5
 refine qh O hK hP hw (A1:=X.A.in1) (I.ok.hd O) (show X.A.units+1+2<L6 by omega) m Ap r1 r2 (Nc J.2) (Nc G.2) ps E 0 0 _ [] [] [] bV _ _ I2 (ex.live l) ai g_ .nil (by simpa using j1.mono ex.kp) (by simpa using j2.mono ex.kp) (λb hb=>⟨(fp b hb).mono (by
   obtain⟨o,e⟩:=there b hb;rw[af (Lp (K5 e))];exact(fp b hb).1),by
   obtain⟨o,e⟩:=there b hb;exact⟨o,f b o e⟩⟩) (.inl ⟨f _ _ W,f _ _ c2,⟨a,b,f _ _ c3⟩,U.keep (f x) (f a1),S.keep (f v) (f Y)⟩) e λt C H' s' I' n R d1 d2=>⟨rfl,?_⟩;have M:s'.heap.get? s.heap.objs.size=KE t:=(I'.aM _ _ n).1;have I4:=I'.freeze n M (λ_ z=>nomatch z) (λ_ _ z=>nomatch z) (λ_ z=>nomatch z) (λ_ z=>nomatch z);have kp:Kp F.toFb H' k (upd H' s.heap.objs.size (.b6 t (kI s.heap.objs.size t))) k:=Kp.own m n rfl;have sm:nA H (upd H' s.heap.objs.size (.b6 t (kI s.heap.objs.size t))):=λb u e=>by
  have hb:b≠s.heap.objs.size:=λh=>by rw[h,N]at e;cases e
  rw[af hb];exact R b u hb (by rw[af hb];exact e)
 refine⟨.ref s.heap.objs.size,_,I4,rfl,q _ _ (.of sm) ?_⟩;simp only[Is];exact⟨_,C,rfl,⟨t,⟨m,L,.inl ⟨_,ai⟩⟩,d1.mono kp⟩,d2.mono kp⟩
noncomputable def GV:List D->M D
 |[.lst b,.lst a]=>do let r<-M.get (dQ (kQ b a) ([],[]));pure (.aQ r.1 r.2)|_=>M.fail
theorem yS{ds:List D}{k Q E}(h:(GV ds).run k Q E):∃xs ys r,ds=[.lst xs,.lst ys]/\dQ (kQ xs ys) ([],[])=KE r/\Q (.aQ r.1 r.2) k:=by match ds,h with
 |[.lst xs,.lst ys],h=>
  obtain⟨r,e,q⟩:=M.run_get.mp h;exact⟨xs,ys,r,rfl,e,q⟩
variable{a b:K7}{p pos p0 pos0:My}{tas:ah->M (List A)}
theorem yT(hc:X.calm=KN)(hu:X.A.units+4<L6)(hP:X.prog=F.P)(hw:X.w=F.w)(G:X.mg "dict"=KL)(hm:X.mg "zip"=KL)(ha:DA X F [a,b] tas)(J:Gl X "dict")(hg:Gl X "zip")(hs:Ld [a,b] X.env=(KO,MT a X.env)::Ld [b] X.env)(E:(NN pos (Ld [b] X.env)).any (·.1)=KO):DE X F (.Call (.Name "dict" p0) [.Call (.Name "zip" p) [a,b] [] pos] [] pos0) (λρ=>do GV (<-gu (<-tas ρ))):=by
 refine⟨ha.hK,λpins s σ H Q I o=>?_⟩;obtain⟨ρ,k,S,h⟩:=o;refine MU (eL I J G (show Mz "dict"=KE (.type "dict")by decide+kernel) ?_);refine Mj ?_ rfl rfl;show wpAny _ _ (SJ ((KO,MT (.Call (.Name "zip" p) [a,b] [] pos) X.env)::NN pos0 (Ld [] X.env))) _ _ s;refine Pk ?_;refine MU (eL I hg hm boot_zip ?_);refine Mj (aU (ha.pa pos pins s σ H (λB c=>∃d g f r v u,Ext F.toFb H k c d/\c F.p≠KL/\B=[v,u]/\Is F.toFb c v (.lst g)/\Is F.toFb c u (.lst f)/\dQ (kQ g f) ([],[])=KE r/\qE F.toFb H k Q (.aQ r.1 r.2) d) I (pq.next S h λas d B c L S1 O h1=>?_)) λus s1⟨B,c,l,r,C⟩=>?_) hs E
 .obtain⟨ds,rfl,h2⟩:=bT h1;obtain⟨g,f,r,rfl,e,q⟩:=yS h2;obtain⟨v,u,rfl,n,m⟩:=(bU O).two;exact⟨d,g,f,r,v,u,L,S1.live,rfl,n,m,e,q⟩
 .obtain⟨d,g,f,rr,v,u,L,lv,rfl,n,m,e,q⟩:=C;simp only[Is]at n m;obtain⟨a1,y,rfl,l1,c1⟩:=n;obtain⟨a2,x,rfl,l2,c2⟩:=m;obtain⟨u1,u2,rfl,U,T⟩:=vals2 r;cases U;cases T;obtain⟨a0,W,C,z1⟩:=l.JM (t:=KO) (show Ii X.K c a1 y KO by rw[ha.hK];exact l1.2.sq);obtain⟨N,V,Y,z2⟩:=l.JM (t:=KO) (show Ii X.K c a2 x KO by rw[ha.hK];exact l2.2.sq);refine vf C Y λh' z TI TO O i2 D Z hk j=>?_;have I2:Inv X pins σ c {s1 with heap:=h'}:=l.kept (t':=s1.toks) hk;refine PC ?_;exact vQ (k:=d) hc hu ha.hK hP hw I2 lv D W V Z (λb hb=>l.AB (j b hb) (l.aM.fresh (j b hb))) c1 c2 e λv H' ex i=>q v H' (L.trans ex) i
end
section
variable{X:Cx}{F:Fx}
theorem Fd{a:List (KS×L_)}{b:St}{H:Hp}{s:KR}{p:KS}(I:Inv X a b H s)(h:H p≠KL):X.K.lookup p=KL:=by cases e:X.K.lookup p with
 |none=>rfl|some o=>exact absurd (I.bs p o (I.mod.GC p o e)).2 h
theorem vR{x:Lf}{v:V}{u:KJ}{d:D}{pos:My}(f:Gl X x)(c:X.mg x=KE u)(r:RelV v u)(e:∀H,H F.p≠KL->X.K.lookup F.p=KL->Is F.toFb H v d)(hd:(x==("__debug__":Lf))=KO)(hK:X.K=F.K):DE X F (.Name x pos) (λ_=>pure d):=⟨hK,λa s b H Q I⟨g,k,S,h⟩=>xp f c r hd a s b H Q I (h _ H .refl (e H S.live (Fd I S.live)))⟩
end
inductive Tg where|nm(i:Nat)|nil|cons(t r:Tg)|tup(n:Nat)(r:Tg)
inductive BI where|len|tuple|list|all|sorted|str deriving DecidableEq
inductive Ex where|var(i:Nat)|cst(d:D)|iQ(i:Nat)|op(o:Q8)(a b:Ex)|neg(a:Ex)|cmp(o:Oj)(a b:Ex)|DF(o o':Oj)(a b c:Ex)|and(a b:Ex)|or(a b:Ex)|one(a:Ex)|not(a:Ex)|xj(c a b:Ex)|i_(a b:Ex)|fE(a b:Ex)|bh(a:Ex)|bx(a:Ex)|fN(a:Ex)|aw(o:Oj)(a b:Ex)|oG(o o':Oj)(a b c:Ex)|nil|cons(a r:Ex)|feed(i:Nat)(r:Ex)|tup(r:Ex)|lst(r:Ex)|idx(a b:Ex)|cut(a lo hi:Ex)|rev(a st:Ex)|low(a:Ex)|Cb(a:Ex)|vS(r:Ex)|oH(f i h:Nat)(r:Ex)|xk(a:Ex)(i:Nat)|bi(f:BI)(r:Ex)|call(f:Nat)(r:Ex)|kJ(T:String)(a:Ex)|lc(own:List Lf)(js:List Nat)(tg:Tg)(it c elt:Ex)|ic(r:Ex)|bG(a:Ex)|yes|bad|lL(i:Nat)(e:Ex)
noncomputable def aJ:D->T Bool
 |.bl b=>.ok b|_=>.stuck
noncomputable def bO:D->T Int
 |.int i=>.ok i|_=>.stuck
noncomputable def fS:List A->T (List D)
 |[]=>.ok []|.d x::r=>do let a<-fS r;.ok (x::a)|.feed::_=>.stuck|.own _::_=>.stuck
noncomputable def c8(i:Int):Bool:=decide (-(2^64)<i)&&decide (i<2^64)
noncomputable def yU:D->D->T D
 |.int i,.int j=>.ok (.int (i+j))|.str x,.str y=>do T.need (decide (x.length+y.length<=KU));.ok (.str (x++y))|.tup b,.tup a=>do T.need (decide (b.length+a.length<=KU));.ok (.tup (b++a))|.lst b,.lst a=>do T.need (decide (b.length+a.length<=KU));.ok (.lst (b++a))|_,_=>.stuck
noncomputable def Iy:D->D->T D
 |.int i,.int j=>.ok (.int (i-j))|_,_=>.stuck
noncomputable def Iz:D->D->T D
 |.int i,.int j=>do T.need (c8 i||c8 j);.ok (.int (i*j))|_,_=>.stuck
noncomputable def vT:Q8->D->D->T D
 |.Add,d,e=>yU d e|.Sub,d,e=>Iy d e|.Mult,d,e=>Iz d e|.Mod,d,e=>do let i<-bO d;let j<-bO e;T.need (decide (0<j));.ok (.int (i%j))|.Pow,d,e=>do let i<-bO d;let j<-bO e;T.need (decide (i=10)&&decide (0<=j/\j<=30));.ok (.int (i^j.toNat))|_,_,_=>.stuck
noncomputable def DH(ng:Bool)(d e:D):T D:=match e with
 |.aQ ks _=>do T.need (aD ks d);.ok (.bl (if ng then !bN ks d else bN ks d))|.str y=>(match d with
  |.str x=>.ok (.bl (if ng then !(Oc y x)else Oc y x))|_=>.stuck)|_=>do let a<-T.get (items e);let b<-T.get (pz d a);.ok (.bl (if ng then !b else b))
noncomputable def bz:Oj->D->D->T D
 |.Eq,d,e=>do let b<-T.get (cw b8 d e);.ok (.bl b)|.NotEq,d,e=>do let b<-T.get (cw b8 d e);.ok (.bl (!b))|.Lt,d,e=>match d with
  |.tup _=>do let ns<-T.get (oB d);let c<-T.get (oB e);.ok (.bl (HT.lexLt ns c))|_=>do let i<-bO d;let j<-bO e;.ok (.bl (decide (i<j)))
 |.LtE,d,e=>do let i<-bO d;let j<-bO e;.ok (.bl (decide (i<=j)))|.Gt,d,e=>do let i<-bO d;let j<-bO e;.ok (.bl (decide (j<i)))|.Is,d,e=>do let a<-aJ d;let b<-aJ e;.ok (.bl (a==b))|.IsNot,d,e=>do let a<-aJ d;let b<-aJ e;.ok (.bl (a !=b))|.In,d,e=>DH KO d e|.NotIn,d,e=>DH KN d e|_,_,_=>.stuck
noncomputable def Cc:D->D->T D:=λd e=>do
 let i<-bO e;match d with
 |.tup a=>T.get (fw a i)|.lst a=>T.get (fw a i)|.str x=>do T.need (decide (x.length<=KU));T.get (xQ x i)|_=>.stuck
noncomputable def e7:D->D->T D
 |.aQ ks a,e=>do T.need (aD ks e);T.get (aF ks a e)|d,e=>Cc d e
noncomputable def vU(lo b:Option Int):D->T D
 |.tup a=>.ok (.tup (cutD a lo b))|.lst a=>.ok (.lst (cutD a lo b))|.str x=>do T.need (decide (x.length<=KU));.ok (.str (MG x lo b))|_=>.stuck
noncomputable def yV(d:D):T Bool:=T.get (BV d)
noncomputable def rT(d:D):T D:=do
 let a<-T.get (ox d)T.need (decide (a.length<=KU)&&ou a)T.perm a λl=>.ok (.lst l)
noncomputable def Cd(d:D):T D:=match d with
 |.str x=>.ok (.str x)|.lst _=>.stuck|.aQ _ _=>.stuck|_=>do T.need (tz d);.ok (.str (vF d).shown)
noncomputable def kK:BI->List D->T D
 |.len,[d]=>match d with
  |.tup a=>.ok (.int a.length)|.lst a=>.ok (.int a.length)|.str x=>do T.need (decide (x.length<=KU));.ok (.int x.length)|_=>.stuck
 |.tuple,[d]=>do let a<-T.get (items d);.ok (.tup a)|.list,[d]=>do let a<-T.get (items d);.ok (.lst a)|.all,[d]=>match d with
  |.lst a=>do let bs<-T.get (bools a);.ok (.bl (bs.all id))|_=>.stuck
 |.sorted,[d]=>rT d|.str,[d]=>Cd d|_,_=>.stuck
noncomputable def gH(Ty:String)(d:D):T D:=do
 let t<-T.get (HY d)let b<-T.get (Ni [] (.type t) (.type Ty));.ok (.bl b)
mutual
noncomputable def gf:Tg->D->ah->T ah
 |.nm i,d,b=>.ok (b.set i (KE (.d d)))|.tup n r,d,b=>match d with
  |.tup a=>if a.length=n then ie r a b else .stuck|.lst a=>if a.length=n then ie r a b else .stuck|_=>.stuck
 |_,_,_=>.stuck
noncomputable def ie:Tg->List D->ah->T ah
 |.nil,a,c=>match a with
  |[]=>.ok c|_=>.stuck
 |.cons t r,a,c=>match a with
  |d::a=>do let b<-gf t d c;ie r a b|[]=>.stuck
 |_,_,_=>.stuck
end
noncomputable def dR(g:D->ah->T ah)(tc:ah->T Bool)(te:ah->T D):List D->ah->T (List D)
 |[],_=>.ok []|d::c,e=>do
  let a<-g d e;let b<-tc a;if b then do
   let x<-te a;let r<-dR g tc te c a;.ok (x::r)else dR g tc te c a
noncomputable def yW(d:D):T (List D):=do
 let j<-bO d;T.need (decide (-(2^62)<=j)&&decide (j<=1000000));.ok (aB j.toNat)
noncomputable def fT(ρ:ah)(i:Nat):Bool:=match ρ[i]? with
 |some (KE .feed)=>KN|_=>KO
structure Ev where
 aG:Nat->List A->T Rs
 iQ:Nat->Option D
noncomputable def toD:Rs->T D
 |.d x=>.ok x|.own _=>.stuck
noncomputable def Fe:Rs->T D
 |.d _=>.stuck|.own x=>.ok x
noncomputable def Ev.call(v:Ev)(f:Nat)(as:List A):T D:=v.aG f as>>=toD
noncomputable def Ev.oI(v:Ev)(f:Nat)(as:List A):T D:=v.aG f as>>=Fe
noncomputable def Ce:D->T D
 |.str x=>do T.need (decide ((Mw x).length<=KU));.ok (.str (Mw x))|_=>.stuck
noncomputable def Cf:D->T D
 |.str x=>.ok (.bl (OE x))|_=>.stuck
noncomputable def oJ:D->T D
 |.tup [a,b,c,d,e,f]=>.ok (.tup [f,e,d,c,b,a])|_=>.stuck
noncomputable def Ff:List D->T D
 |[.lst b,.lst a]=>do let r<-T.get (dQ (kQ b a) ([],[]));.ok (.aQ r.1 r.2)|_=>.stuck
mutual
noncomputable def ao(v:Ev):Ex->ah->T D
 |.var i,g=>T.get (cH g i)|.cst d,_=>.ok d|.iQ i,_=>T.get (v.iQ i)|.op o a b,g=>do let d<-ao v a g;let e<-ao v b g;vT o d e|.neg a,g=>do let i<-bO (<-ao v a g);.ok (.int (-i))|.cmp o a b,g=>do let d<-ao v a g;let e<-ao v b g;bz o d e|.DF o n a b c,g=>do
  let d<-ao v a g;let e<-ao v b g;let y<-aJ (<-bz o d e)if y then do let f<-ao v c g;bz n e f else .ok (.bl KO)|.and a b,g=>do let c<-aJ (<-ao v a g);if c then ao v b g else .ok (.bl KO)|.or a b,g=>do let c<-aJ (<-ao v a g);if c then .ok (.bl KN)else ao v b g|.xj c a b,g=>do let x<-bg v c g;if x then ao v a g else ao v b g|.low a,g=>do Ce (<-ao v a g)|.Cb a,g=>do Cf (<-ao v a g)|.rev a st,g=>do let d<-ao v a g;let z<-bO (<-ao v st g);T.need (decide (z=-1));oJ d|.vS r,g=>do Ff (<-fS (<-fU v r g))|.oH f i h r,g=>do
  T.need (fT g i)let bs<-fU v r g;let d<-v.oI h bs;v.call f [.feed,.own d]|.one a,g=>ao v a g|.not a,g=>do let c<-aJ (<-ao v a g);.ok (.bl (!c))|.tup r,g=>do let j<-fS (<-fU v r g);T.need (decide (j.length<=KU));.ok (.tup j)|.lst r,g=>do let j<-fS (<-fU v r g);T.need (decide (j.length<=KU));.ok (.lst j)|.idx a b,g=>do let d<-ao v a g;let e<-ao v b g;e7 d e|.cut a lo s,g=>do let d<-ao v a g;let l<-Cg v lo g;let u<-Cg v s g;vU l u d|.bi f r,g=>do kK f (<-fS (<-fU v r g))|.call f r,g=>do let t<-fU v r g;v.call f t|.kJ Ty a,g=>do gH Ty (<-ao v a g)|.lc own p m q c k,g=>do
  let j<-ni v q g;let r<-dR (gf m) (λg=>bg v c g) (λg=>ao v k g) j (cQ g own.length p);.ok (.lst r)|.lL i e,g=>do
  let d<-ao v e (pA i g)T.need (flat (g9 g i) d);.ok d|_,_=>.stuck
noncomputable def bg(v:Ev):Ex->ah->T Bool
 |.yes,_=>.ok KN|.i_ a b,g=>do let c<-bg v a g;if c then bg v b g else .ok KO|.fE a b,g=>do let c<-bg v a g;if c then .ok KN else bg v b g|.bh a,g=>bg v a g|.bx a,g=>do let c<-bg v a g;.ok (!c)|.fN a,g=>do yV (<-ao v a g)|.aw o a b,g=>do let d<-ao v a g;let e<-ao v b g;aJ (<-bz o d e)|.oG o j a b c,g=>do
  let d<-ao v a g;let e<-ao v b g;let y<-aJ (<-bz o d e)if y then do let f<-ao v c g;aJ (<-bz j e f)else .ok KO|.xk a i,g=>do
  let d<-ao v a g;let h<-T.get (eZ g i)T.need (aD h.1 d);.ok (bN h.1 d)|.lL i e,g=>bg v e (pA i g)|_,_=>.stuck
noncomputable def fU(v:Ev):Ex->ah->T (List A)
 |.nil,_=>.ok []|.cons a r,b=>do let d<-ao v a b;let c<-fU v r b;.ok (.d d::c)|.feed i r,b=>do T.need (fT b i);let c<-fU v r b;.ok (.feed::c)|_,_=>.stuck
noncomputable def Cg(v:Ev):Ex->ah->T (Option Int)
 |.nil,_=>.ok KL|.one a,b=>do let i<-bO (<-ao v a b);.ok (KE i)|_,_=>.stuck
noncomputable def ni(v:Ev):Ex->ah->T (List D)
 |.ic r,b=>do match<-fS (<-fU v r b)with
  |[d]=>yW d|_=>.stuck
 |.bG a,b=>do T.get (cB (<-ao v a b))|_,_=>.stuck
end
inductive aY where|asg(tg:Tg)(e:Ex)|set(i:Nat)(e:Ex)|par(i j:Nat)(r:Ex)|ret(e:Ex)|nil|cons(s r:aY)|iff(c:Ex)(a b:aY)|e8(tg:Tg)(it:Ex)(b:aY)|IA(c:Ex)(b:aY)|bad|qi(i:Nat)(r:Ex)|g9(i:Nat)|app(i:Nat)(e:Ex)|put(i:Nat)(k e:Ex)|fz(i:Nat)(s:aY)|ext(i:Nat)(e:Ex)|vV(i:Nat)(r:Ex)|vW(i:Nat)|putN(i:Nat)(k:Ex)|ja(i:Nat)(k e:Ex)|vX(i:Nat)|vY(i j0:Nat)(js:List Nat)(k:Lf)(it e:Ex)
noncomputable def c_:D->T (List D)
 |.lst a=>.ok a|_=>.stuck
noncomputable def oK:D->T (List D×List D)
 |.aQ ks a=>.ok (ks,a)|_=>.stuck
noncomputable def e9(g:D->ah->T ah)(body:ah->T Fl):List D->ah->T Fl
 |[],c=>.ok (.nx c)|d::e,c=>do
  let b<-g d c;match<-body b with
  |.nx a=>e9 g body e a|.ct a=>e9 g body e a|.bk a=>.ok (.nx a)|.rt r=>.ok (.rt r)|.ro _=>.stuck
noncomputable def mK(c:ah->T Bool)(body:ah->T Fl):Nat->ah->T Fl
 |0,_=>.stuck|n+1,d=>do
  let b<-c d;if b then do match<-body d with
   |.nx a=>mK c body n a|.ct a=>mK c body n a|.bk a=>.ok (.nx a)|.rt r=>.ok (.rt r)|.ro _=>.stuck;else .ok (.nx d)
noncomputable def ig:Nat:=1000
noncomputable def tE(te:ah->T D)(ρ:ah)(i:Nat)(a:List Nat):List D->List D->T (List D)
 |[],_=>.ok []|d::b,rest=>do
  let n<-bO (<-te ((cQ (ρ.set i (KE (.own (.lst rest)))) 1 a).set 0 (KE (.d d))))T.need (decide (0<=n)&&(decide (n<(rest.length:Int))&&decide (rest.length<=KU)))let x<-T.get rest[n.toNat]?;let r<-tE te ρ i a b (rest.eraseIdx n.toNat);.ok (x::r)
noncomputable def vZ(i:Nat)(ρ:ah):Bool:=(ρ.set i KL).all λx=>match x with
 |some w=>!w.eQ|none=>KN
noncomputable def au(v:Ev):aY->ah->T Fl
 |.asg m e,f=>do let d<-ao v e f;let l<-gf m d f;.ok (.nx l)|.set i e,f=>do let d<-ao v e f;.ok (.nx (f.set i (KE (.d d))))|.par i j r,f=>do match<-fS (<-fU v r f)with
  |[d,e]=>.ok (.nx ((f.set i (KE (.d d))).set j (KE (.d e))))|_=>.stuck
 |.ret e,f=>do let d<-ao v e f;.ok (.rt d)|.nil,f=>.ok (.nx f)|.cons s r,f=>do match<-au v s f with
  |.nx l=>au v r l|w=>.ok w
 |.iff c a b,f=>do let x<-bg v c f;if x then au v a f else au v b f|.e8 m n b,f=>do e9 (gf m) (au v b) (<-ni v n f) f|.IA c b,f=>mK (bg v c) (au v b) ig f|.bad,_=>.stuck|.qi i r,f=>do
  T.need (vx f)let h<-fS (<-fU v r f)T.need (decide (h.length<=KU));.ok (.nx (f.set i (KE (.own (.lst h)))))|.g9 i,f=>do
  T.need (vx f);.ok (.nx (f.set i (KE (.own (.aQ [] [])))))|.app i e,f=>do
  let h<-c_ (<-T.get (eW f i))let d<-ao v e f;T.need (decide (h.length<KU));.ok (.nx (f.set i (KE (.own (.lst (h++[d]))))))|.put i k e,f=>do
  let d<-ao v e f;let g<-oK (<-T.get (eW f i))let q<-ao v k f;T.need (decide (g.1.length<KU)&&aD g.1 q);.ok (.nx (f.set i (KE (.own (.aQ (putD g.1 g.2 q d).1 (putD g.1 g.2 q d).2)))))|.fz i s,f=>au v s (pA i f)|.ext i e,f=>do
  let h<-c_ (<-T.get (eW f i))let p<-c_ (<-ao v e f)T.need (decide (h.length+p.length<=KU));.ok (.nx (f.set i (KE (.own (.lst (h++p))))))|.vV i r,f=>do
  T.need (vx f)match<-fS (<-fU v r f)with
  |[d]=>do
   let j<-bO d;T.need (decide (0<=j)&&decide (j<=1000000));.ok (.nx (f.set i (KE (.own (.lst (aB j.toNat))))))|_=>.stuck
 |.vW i,f=>do
  T.need (vZ i f);.ok (.nx (f.set i (KE (.fI [] []))))|.putN i k,f=>do
  let g<-T.get (eZ f i)let q<-ao v k f;T.need (decide (g.1.length<KU)&&(aD g.1 q&&!bN g.1 q));.ok (.nx (f.set i (KE (.fI (g.1++[q]) (g.2++[.lst []])))))|.ja i k e,f=>do
  let g<-T.get (eZ f i)let q<-ao v k f;T.need (aD g.1 q)let o<-c_ (<-T.get (aF g.1 g.2 q))let d<-ao v e f;T.need (decide (o.length<KU));.ok (.nx (f.set i (KE (.fI g.1 (vI (λ_=>.lst (o++[d])) q g.1 g.2)))))|.vX i,f=>do
  let g<-T.get (eZ f i);.ok (.ro (.aQ g.1 g.2))|.vY i y u k n e,f=>do
  let t<-c_ (<-T.get (eW f i))let h<-ni v n f;let r<-tE (λf=>ao v e f) f i u h t;.ok (.rt (.lst r))
structure Df where
 np:Nat
 nn:Nat
 body:aY
noncomputable def bW(n:Nat)(as:List A):ah:=as.map (λa=>KE a.w)++Mm (n-as.length) KL
noncomputable def DJ:Fl->T Rs
 |.rt d=>.ok (.d d)|.ro d=>.ok (.own d)|.nx _=>.ok (.d .bw)|_=>.stuck
noncomputable def lEq:List Nat->List Nat->Bool
 |[],[]=>KN|x::b,y::a=>So x y&&lEq b a|_,_=>KO
theorem v7:∀{a b:List Nat},lEq a b=KN->a=b
 |[],[],_=>rfl|[],_::_,h=>nomatch h|_::_,[],h=>nomatch h|x::d,y::c,h=>by
  simp only[lEq,KW]at h;rw[Np h.1,v7 h.2]
theorem oM:∀(a:List Nat),lEq a a=KN
 |[]=>rfl|x::b=>by simp only[lEq,KW];exact⟨Nat.beq_refl x,oM b⟩
noncomputable def sEq(x y:Lf):Bool:=lEq x.cps.toList y.cps.toList
theorem aT{x y:Lf}(h:sEq x y=KN):x=y:=by
 obtain⟨⟨a⟩⟩:=x;obtain⟨⟨b⟩⟩:=y;have:=v7 h;simp only at this;rw[this]
theorem oN(x:Lf):sEq x x=KN:=oM _
theorem v8{x y:Lf}(h:sEq x y=KO):x≠y:=λe=>by rw[e,oN]at h;cases h
theorem mL(x y:Lf):sEq x y=(x==y):=by cases h:sEq x y with
 |true=>rw[aT h];simp|false=>exact(beq_eq_false_iff_ne.mpr (v8 h)).symm
noncomputable def pB(x:Lf):List (Lf×Nj)->Option Nj
 |[]=>KL|(y,k)::r=>if sEq x y then KE k else pB x r
theorem kf(x:Lf):∀(l:List (Lf×Nj)),pB x l=l.lookup x
 |[]=>rfl|(y,k)::r=>by
  simp only[pB,LD,mL,kf x r];cases x==y<;>rfl
structure MC where
 N:List Lf
 sc:MQ
 all:Bool
 own:List (Lf×Nj)
structure dE where
 dn:List Lf
 gn:List Lf
noncomputable def isAt(N:List Lf)(i:Nat)(x:Lf):Bool:=match N[i]? with
 |some y=>sEq y x|none=>KO
theorem gI{N:List Lf}{i:Nat}{x:Lf}(h:isAt N i x=KN):N[i]?=KE x:=by
 unfold isAt at h;split at h;.rename_i y e;rw[e,aT h]
 .cases h
noncomputable def mM(x:Lf):Bool:=!sEq x "__debug__"&&!sEq x "__classdict__"&&!sEq x "__name__"
theorem ij{x:Lf}(h:mM x=KN):(x==("__debug__":Lf))=KO/\(x==("__classdict__":Lf))=KO/\x≠"__name__":=by
 simp only[mM,KW,M1]at h;exact⟨by rw[<-mL];exact h.1.1,by rw[<-mL];exact h.1.2,v8 h.2⟩
noncomputable def b_(m:MC)(i:Nat)(x:Lf):Bool:=isAt m.N i x&&mM x&&match pB x m.sc.names with
 |some .local=>KN|some .cell=>KN|some .free=>KN|_=>KO
noncomputable def eh(m:MC)(i:Nat)(x:Lf):Bool:=isAt m.N i x&&match pB x m.sc.names with
 |some .local=>KN|some .cell=>m.all||(match pB x m.own with|some .cell=>KN|_=>KO)|_=>KO
noncomputable def bX(m:MC)(x:Lf):Bool:=mM x&&match pB x m.sc.names with
 |some .globalImplicit=>KN|_=>KO
noncomputable def ax:K7->Bool
 |.Starred _ _=>KN|_=>KO
theorem aL{e:K7}{a:List K7}{env:Q4}(h:ax e=KO):Ld (e::a) env=(KO,MT e env)::Ld a env:=by cases e<;>first|rfl|(cases h)
theorem fF{env:Q4}{pos:My}:∀{a:List K7},(a.all λe=>!ax e)=KN->(NN pos (Ld a env)).any (·.1)=KO
 |[],_=>rfl|e::a,h=>by
  rw[NC,KW,M1]at h;rw[aL h.1];show(KO||(NN pos (Ld a env)).any (·.1))=KO;rw[fF h.2];rfl
noncomputable def gJ:K7->Bool
 |.Call _ [] [] _=>KN|_=>KO
noncomputable def br:K7->Bool
 |.Set _ _ _=>KN|_=>KO
noncomputable def gL:K7->Bool
 |.Slice _ _ _ _=>KN|_=>KO
noncomputable def mN:K7->Bool
 |.UnaryOp .Not _ _=>KO|.BoolOp _ _ _=>KO|.IfExp _ _ _ _=>KO|.Compare _ _ _ _=>KO|_=>KN
noncomputable def v9(outer sc:MQ):MQ:={sc with names:=sc.names.map λ(n,k)=>if(k==Mp&&outer.kind==.function&&outer.names.lookup n==KE .cell)then(n,Md)else(n,k)}
noncomputable def e_(m:MC)(own fr:List Lf)(sc:MQ):MC:=⟨own++fr,v9 m.sc sc,KO,sc.names⟩
noncomputable def cc(m:MC)(a:List Nat):List Lf:=a.map λj=>(m.N[j]?).getD ""
noncomputable def DK:List Lf->Bool
 |[]=>KN|x::r=>(r.all λy=>!sEq x y)&&DK r
noncomputable def tF:List Nat->Bool
 |[]=>KN|x::r=>(r.all λy=>!Nat.beq x y)&&tF r
noncomputable def oO(m:MC)(own:List Lf)(a:List Nat)(sc:MQ):Bool:=lA m.sc sc&&(a.all λj=>decide (j<m.N.length))&&((cc m a).all λx=>pB x sc.names==KE .free)&&tF a&&DK (own++cc m a)
noncomputable def fV:BI->Lf|.len=>"len"|.tuple=>"tuple"|.list=>"list"|.all=>"all"|.sorted=>"sorted"|.str=>"str"
noncomputable def cV:List Lf:=["len","int","str","tuple","list","all","sorted","dict","isinstance","bool","range","zip"]
structure XC(g:dE)(v:Ev)(m:MC)(X:Cx)(F:Fx):Prop where
 hK:X.K=F.K
 hP:X.prog=F.P
 hw:X.w=F.w
 hN:X.N=m.N
 nd:m.N.Nodup
 sc:X.env.scope=m.sc
 calm:X.calm=KN
 un:X.A.units+64<L6
 fn:m.all=KN->∀x,X.fn x=KN
 fo:∀x,pB x m.own=KE .cell->X.fn x=KN
 JO:X.A.mark KL=X.A
 bl:∀x∈cV,X.mg x=KL
 df:∀f x,g.dn[f]?=KE x->∃n k,cM k X.A/\mo X.prog X.w X.K X.mg X.base x n k (λas=>(v.aG f as).aN)/\∀as,as.length≠n->v.aG f as=.stuck
 gd:X.A.guards=KE []co:∀i x d,g.gn[i]?=KE x->v.iQ i=KE d->∃u w,X.mg x=KE u/\RelV w u/\∀H,H F.p≠KL->X.K.lookup F.p=KL->Is F.toFb H w d
section
variable{g:dE}{v:Ev}{m:MC}{X:Cx}{F:Fx}
theorem XC.at_(h:XC g v m X F){i:Nat}{x:Lf}(q:isAt m.N i x=KN):X.N[i]?=KE x:=by rw[h.hN];exact gI q
theorem XC.lk(h:XC g v m X F)(x:Lf):pB x m.sc.names=X.env.scope.names.lookup x:=by rw[kf,h.sc]
theorem XC.tX(h:XC g v m X F){i:Nat}{x:Lf}(q:b_ m i x=KN):X.N[i]?=KE x/\m_ X.env.scope x/\(x==("__debug__":Lf))=KO/\(x==("__classdict__":Lf))=KO:=by
 simp only[b_,KW]at q;obtain⟨⟨c,b⟩,a⟩:=q;have p:=ij b;refine⟨h.at_ c,?_,p.1,p.2.1⟩;unfold m_;rw[<-h.lk];split at a;.rename_i e;exact .inl e
 .rename_i e;exact .inr (.inl e)
 .rename_i e;exact .inr (.inr e)
 .cases a
theorem XC.loc(h:XC g v m X F){i:Nat}{x:Lf}(q:eh m i x=KN):X.N[i]?=KE x/\Loc X.env.scope x/\(X.fn x=KN\/X.env.scope.names.lookup x=KE .local):=by
 simp only[eh,KW]at q;obtain⟨b,a⟩:=q;refine⟨h.at_ b,?_⟩;unfold Loc;rw[<-h.lk];split at a;.rename_i e;exact⟨.inl e,.inr e⟩
 .rename_i e;rw[Mc]at a;refine⟨.inr e,.inl ?_⟩;rcases a with a|a;.exact h.fn a x
  .split at a;.rename_i c;exact h.fo x c
   .cases a
 .cases a
theorem XC.gl(h:XC g v m X F){x:Lf}(q:bX m x=KN):Gl X x/\(x==("__debug__":Lf))=KO/\x≠"__name__":=by
 simp only[bX,KW]at q;obtain⟨b,a⟩:=q;have p:=ij b;refine⟨?_,p.1,p.2.2⟩;show X.env.scope.names.lookup x=_;rw[<-h.lk];split at a;.rename_i e;exact e
 .cases a
end
theorem da(d:D):Ref (aJ d).aN (dy d):=by cases d<;>first|exact .refl _|exact .fail
theorem be(d:D):Ref (bO d).aN (dm d):=by cases d<;>first|exact .refl _|exact .fail
theorem cX:∀(as:List A),(fS as).aN=gu as
 |[]=>rfl|.d x::r=>by
  show(fS r>>=λa=>T.ok (x::a)).aN=_;rw[T.cz,cX r];rfl|.feed::_=>rfl|.own _::_=>rfl
theorem aj{a:Type}{b:Bool}{P:Prop}{t:T a}{m:M a}(h:b=KN->P)(q:Ref t.aN m):Ref (do T.need b;t:T a).aN (do M.need P;m):=by
 rw[T.cz];exact(Ref.need h).bind λ_=>q
theorem aa{c d:Type}{t:T c}{m:M c}{f:c->T d}{h:c->M d}(a:Ref t.aN m)(b:∀x,Ref (f x).aN (h x)):Ref (t>>=f).aN (m>>=h):=by
 rw[T.cz];exact a.bind b
theorem aE{a c:Type}{o:Option a}{f:a->T c}{h:a->M c}(b:∀x,Ref (f x).aN (h x)):Ref (T.get o>>=f).aN (M.get o>>=h):=aa .get b
section
variable{X:Cx}{F:Fx}
theorem Fg(hu:X.A.units+64<L6)(hP:X.prog=F.P)(hw:X.w=F.w)(o:Q8):eE X F (Nh o) (λd e=>(vT o d e).aN):=by
 have two:∀{b:Int->Int->Bool}{C:Int->Int->Prop}{f:Int->Int->D}(d e:D),(∀i j,b i j=KN->C i j)->Ref (do let i<-bO d;let j<-bO e;T.need (b i j);T.ok (f i j):T D).aN (mI C f d e):=λd e h=>aa (be d) λi=>aa (be e) λj=>aj (h i j) (.refl _);refine .ref λd e=>?_;cases o with
 |Add=>
  by_cases g:∃a,d=.str a
  .obtain⟨a,rfl⟩:=g;exact⟨zV,yE,by cases e<;>first|exact aj of_decide_eq_true (.refl _)|exact .fail⟩
  refine⟨EK,ya,?_⟩;cases d<;>first|exact absurd ⟨_,rfl⟩ g|exact .fail|(cases e<;>first|exact .refl _|exact .fail|exact aj of_decide_eq_true (.refl _))
 |Sub=>
  refine⟨EL,yb,?_⟩;cases d<;>first|exact .fail|(cases e<;>first|exact .refl _|exact .fail)
 |Mult=>
  refine⟨_,Be,?_⟩;cases d with
  |int i=>cases e with
   |int j=>
    refine aj (b:=c8 i||c8 j) (t:=T.ok (D.int (i*j))) (λh=>?_) (.refl _);simp only[c8,Mc,KW,decide_eq_true_eq]at h;exact h|_=>exact .fail
  |_=>exact .fail
 |Mod=>exact⟨_,Bg,two d e λi j h=>of_decide_eq_true h⟩|Pow=>exact⟨_,Bh,two d e λi j h=>by
   rw[KW]at h;have m:=of_decide_eq_true h.2;exact⟨m.1,by omega,by rw[of_decide_eq_true h.1];decide⟩⟩|_=>exact⟨λ_ _=>M.fail,⟨λc s n H k x y v u d e Q I r p l hK B z q=>q.elim⟩,.fail⟩
theorem v_(ng:Bool)(d e:D)(f:∀ks ds,e≠.aQ ks ds)(c:∀y,e≠.str y):Ref (DH ng d e).aN (Ig ng d e):=by
 have:DH ng d e=(do let a<-T.get (items e);let b<-T.get (pz d a);.ok (.bl (if ng then !b else b))):=by cases e<;>first|rfl|exact absurd rfl (f _ _)|exact absurd rfl (c _)
 rw[this];exact aE λ_=>aE λ_=>.refl _
theorem ip(hu:X.A.units+64<L6)(hP:X.prog=F.P)(hw:X.w=F.w)(o:Oj):eE X F (Lx o) (λd e=>(bz o d e).aN):=by
 have f:X.A.units<L6:=by omega
 have b:X.A.units+2<L6:=by omega
 refine .ref λd e=>?_;cases o with
 |Eq=>exact⟨_,EF hu,aE λ_=>.refl _⟩|NotEq=>exact⟨_,EG hu,aE λ_=>.refl _⟩|Lt=>cases d with
  |tup m=>exact⟨_,B8 f,aE λ_=>aE λ_=>.refl _⟩|_=>exact⟨_,Et,aa (be _) λi=>aa (be e) λj=>.refl _⟩
 |Gt=>exact⟨_,Ew,aa (be d) λi=>aa (be e) λj=>.refl _⟩|Is=>
  refine⟨_,B7,?_⟩;cases d<;>first|exact .fail|(cases e<;>first|exact .refl _|exact .fail)
 |LtE=>exact⟨_,Eu,aa (be d) λi=>aa (be e) λj=>.refl _⟩|IsNot=>
  refine⟨_,yG,?_⟩;cases d<;>first|exact .fail|(cases e<;>first|exact .refl _|exact .fail)
 |In=>
  by_cases hd:∃ks a,e=.aQ ks a
  .obtain⟨ks,a,rfl⟩:=hd;exact⟨_,BP b hP hw,aj bK (.refl _)⟩
  by_cases c:∃y,e=.str y
  .obtain⟨y,rfl⟩:=c;exact⟨_,yF,by cases d<;>first|exact .refl _|exact .fail⟩
  exact⟨_,EH hu,v_ KO d e (λks a z=>hd ⟨ks,a,z⟩) λy z=>c ⟨y,z⟩⟩|NotIn=>
  by_cases hd:∃ks a,e=.aQ ks a
  .obtain⟨ks,a,rfl⟩:=hd;exact⟨_,sY b hP hw,aj bK (.refl _)⟩
  by_cases c:∃y,e=.str y
  .obtain⟨y,rfl⟩:=c;exact⟨_,qd,by cases d<;>first|exact .refl _|exact .fail⟩
  exact⟨_,u_ hu,v_ KN d e (λks a z=>hd ⟨ks,a,z⟩) λy z=>c ⟨y,z⟩⟩|_=>exact⟨λ_ _=>M.fail,⟨λg s h H k x y v u d e Q I p n l hK t r q=>q.elim⟩,.fail⟩
theorem Fh(hu:X.A.units+64<L6)(hP:X.prog=F.P)(hw:X.w=F.w):GK X F (λd e=>(e7 d e).aN):=by
 refine⟨λhK a b c s g H x y v u Q I m j h p=>?_⟩;obtain⟨k,d,e,l,o,n,q⟩:=h;by_cases hd:∃ks f,d=.aQ ks f
 .obtain⟨ks,f,rfl⟩:=hd;refine(yo (X:=X) (F:=F) (by omega) hP hw).ix hK a b c s g H x y v u Q I m j ⟨k,_,e,l,o,n,?_⟩ p;have:Ref (e7 (.aQ ks f) e).aN (EW (.aQ ks f) e):=aj bK .get;exact this _ _ _ q
 .refine(xR (X:=X) (F:=F)).ix hK a b c s g H x y v u Q I m j ⟨k,d,e,l,o,n,?_⟩ p;have r:e7 d e=Cc d e:=by cases d<;>first|rfl|exact absurd ⟨_,_,rfl⟩ hd
  have:Ref (e7 d e).aN (JJ d e):=by
   rw[r];exact aa (be e) λi=>by cases d<;>first|exact .fail|exact .get|exact aj of_decide_eq_true .get
  exact this _ _ _ q
end
section
variable{X:Cx}{F:Fx}
theorem bC.stuck{f:KJ}:bC X F f (λ_=>M.fail):=⟨λa s b H k c d g Q I e l hK i q=>q.elim⟩
theorem bC.one{f:KJ}{t:List D->T D}(e:t []=.stuck)(c:∀a b r,t (a::b::r)=.stuck)(h:∀d,∃m,bC X F f m/\Ref (t [d]).aN (m [d])):bC X F f (λds=>(t ds).aN):=.ref λds=>by match ds with
 |[]=>exact⟨_,.stuck,by rw[e];exact .fail⟩|[d]=>exact h d|a::b::r=>exact⟨_,.stuck,by rw[c];exact .fail⟩
noncomputable def wa:BI->KJ|.len=>.builtin "len"|.tuple=>.type "tuple"|.list=>.type "list"|.all=>.builtin "all"|.sorted=>.builtin "sorted"|.str=>.type "str"
theorem Ci(f:BI):Mz (fV f)=KE (wa f):=by cases f<;>(simp only[fV,wa];decide+kernel)
theorem Fj(a:X.calm=KN)(b:X.A.guards=KE [])(hu:X.A.units+64<L6)(hP:X.prog=F.P)(hw:X.w=F.w)(f:BI):bC X F (wa f) (λds=>(kK f ds).aN):=by cases f with
 |len=>
  refine .one rfl (λ_ _ _=>rfl) λd=>?_;cases d with
  |tup _=>exact⟨_,pQ,.refl _⟩|lst _=>exact⟨_,pQ,.refl _⟩|str _=>exact⟨_,pQ,aj of_decide_eq_true (.refl _)⟩|_=>exact⟨_,.stuck,.fail⟩
 |tuple=>exact .one rfl (λ_ _ _=>rfl) λd=>⟨_,uO,aE λ_=>.refl _⟩|list=>exact .one rfl (λ_ _ _=>rfl) λd=>⟨_,xS,aE λ_=>.refl _⟩|all=>
  refine .one rfl (λ_ _ _=>rfl) λd=>⟨_,Bv a,?_⟩;cases d<;>first|exact aE λ_=>.refl _|exact .fail
 |sorted=>
  refine .one rfl (λ_ _ _=>rfl) λd=>⟨_,vE a (by omega),?_⟩;show Ref (rT d).aN (vD d);exact aE λds=>aj (λz=>by rw[KW]at z;exact⟨of_decide_eq_true z.1,z.2⟩) (.refl _)|str=>
  refine .one rfl (λ_ _ _=>rfl) λd=>⟨_,yH b (by omega),?_⟩;show Ref (Cd d).aN (E8 d);cases d<;>first|exact aj (λz=>z) (.refl _)|exact .refl _|exact .fail
end
theorem fx{o:K7}{n:Lf}{env:Q4}{w:Pu KJ}(h:gJ o=KO):Om o n env w=w:=by
 unfold Om;split;.cases h
 .rfl
theorem iq{e:K7}(h:br e=KO)(env:Q4)(x:KJ):Nu e env x=pure x:=by cases e<;>first|rfl|cases h
theorem kh{e:K7}(h:br e=KO)(o:Oj):NY o e=KO:=by cases e<;>first|rfl|cases h
theorem gM{b c:K7}(h:br c=KO)(o o':Oj):Ro [o,o'] [b,c]=KO:=kh h o'
theorem ki{b:K7}(h:gL b=KO):je b:=by intro o i;cases b<;>first|rfl|cases h
theorem qj{e:K7}(h:mN e=KN)(env:Q4)(whole:Pu KJ):RF e env whole=(do let v<-whole;Rm e.pos;Qj [v] (truthy v)):=by cases e with
 |UnaryOp o a p=>cases o<;>first|rfl|cases h
 |BoolOp _ _ _=>cases h|IfExp _ _ _ _=>cases h|Compare _ _ _ _=>cases h|_=>rfl
theorem fG:∀{l:List Lf},DK l=KN->l.Nodup
 |[],_=>.nil|x::r,h=>by
  simp only[DK,KW,Me,M1]at h;exact List.nodup_cons.mpr ⟨(λz=>by have:=h.1 x z;rw[oN]at this;exact nomatch this),fG h.2⟩
theorem lS:∀{l:List Nat},tF l=KN->l.Nodup
 |[],_=>.nil|x::r,h=>by
  simp only[tF,KW,Me,M1]at h;exact List.nodup_cons.mpr ⟨(λz=>by have:=h.1 x z;rw[Nat.beq_refl]at this;exact nomatch this),lS h.2⟩
section
variable{g:dE}{v:Ev}{m:MC}{X:Cx}{F:Fx}
theorem XC.eP(h:XC g v m X F){own:List Lf}{b:List Nat}{sc:MQ}(q:oO m own b sc=KN)(a:List (KS×L_))(c:List (Lf×KS))(C:KS)(fp:List KS)(s:KR)(H:Hp):XC g v (e_ m own (cc m b) sc) (eP X a sc (own++cc m b) c C fp s H) F where
 hK:=h.hK;hP:=h.hP;hw:=h.hw;hN:=rfl;nd:=by
  simp only[oO,KW]at q;exact fG q.2
 sc:=by
  show SO sc X.env=v9 m.sc sc;unfold SO v9 SG;rw[h.sc]
 calm:=h.calm;un:=h.un;fn:=λz=>nomatch z;fo:=λx e=>by
  show(sc.names.lookup x==KE .cell)=KN;have e:pB x sc.names=KE .cell:=e;rw[<-kf,e];rfl
 JO:=h.JO;bl:=h.bl;df:=h.df;gd:=h.gd;co:=h.co
theorem wb(h:XC g v m X F){own:List Lf}{a:List Nat}{sc:MQ}(q:oO m own a sc=KN):lA X.env.scope sc=KN/\a.map (λj=>X.N[j]?)=(cc m a).map KE/\(∀x∈cc m a,sc.names.lookup x=KE .free)/\a.Nodup:=by
 simp only[oO,KW,Me,decide_eq_true_eq]at q;obtain⟨⟨⟨⟨e,d⟩,c⟩,b⟩,k⟩:=q;refine⟨by rw[h.sc];exact e,?_,λx f=>?_,lS b⟩
 .unfold cc;rw[LA];refine LV λj i=>?_;rw[h.hN];have:=d j i;simp[this]
 .have:=c x f;rw[<-kf];exact beq_iff_eq.mp this
inductive Ch(P:Prop)where|y(h:P)|n
noncomputable def Ch.b{P Q:Prop}:Ch P->(P->Ch Q)->Ch Q
 |.y h,f=>f h|.n,_=>.n
noncomputable def Ch.ok{P:Prop}:Ch P->Bool
 |.y _=>KN|.n=>KO
theorem Ch.of{P:Prop}:∀{c:Ch P},c.ok=KN->P
 |.y h,_=>h|.n,q=>nomatch q
noncomputable def cb:(b:Bool)->Ch (b=KN)
 |true=>.y rfl|false=>.n
noncomputable def cn:(b:Bool)->Ch (b=KO)
 |false=>.y rfl|true=>.n
noncomputable def cd(p:Prop):[d:Decidable p]->Ch p
 |.isTrue h=>.y h|.isFalse _=>.n
noncomputable abbrev QG(g:dE)(m:MC)(t:Tg)(e:K7):Prop:=∀v X F,XC g v m X F->DG X F e (λd a=>(gf t d a).aN)
noncomputable abbrev Fk(g:dE)(m:MC)(t:Tg)(b:List K7):Prop:=∀v X F,XC g v m X F->xV X F b (λd a=>(ie t d a).aN)
theorem rV{env:Q4}{e:K7}{a:List K7}(h:ax e=KO):L8 (e::a) env=(KO,PR e env)::L8 a env:=by cases e<;>first|rfl|(cases h)
theorem as_none{env:Q4}:∀{a:List K7},(a.all λe=>!ax e)=KN->(L8 a env).length=a.length/\(L8 a env).findIdx? (·.1)=KL
 |[],_=>⟨rfl,rfl⟩|e::a,z=>by
  rw[NC,KW,M1]at z;rw[rV z.1];obtain⟨c,b⟩:=as_none (env:=env) z.2;exact⟨by simp[c],by simp[List.findIdx?_cons,b]⟩
end
section
variable{g:dE}{m:MC}
theorem IB{i:Nat}{x:Lf}{p:My}(q:eh m i x=KN):QG g m (.nm i) (.Name x p):=λv X F h=>by
 obtain⟨c,b,a⟩:=h.loc q;exact(xW i (by rw[h.hN];exact h.nd) c b a h.hK).ref λd e=>.refl _
theorem IC{n k:Nat}{r:Tg}{c:List K7}{p:My}(i:c.length=n)(f:(c.all λe=>!ax e)=KN)(j:Fk g m r c):QG g m (.tup n r) (.Tuple c k p):=λv X F h=>by
 obtain⟨a1,l⟩:=as_none (env:=X.env) f;refine(E_ (n:=n) h.calm (j v X F h) (a1.trans i) l).ref λd b=>?_;cases d with
 |tup a=>
  show Ref (if a.length=n then ie r a b else .stuck:T ah).aN (do M.need (a.length=n);(ie r a b).aN);by_cases e:a.length=n;.rw[if_pos e];exactλk Q E z=>⟨e,z⟩
  .rw[if_neg e];exact .fail|lst a=>
  show Ref (if a.length=n then ie r a b else .stuck:T ah).aN (do M.need (a.length=n);(ie r a b).aN);by_cases e:a.length=n;.rw[if_pos e];exactλk Q E z=>⟨e,z⟩
  .rw[if_neg e];exact .fail|_=>exact .fail
theorem ID:Fk g m .nil []:=λv X F h=>(xX h.hK).ref λd a=>by cases d<;>first|exact .refl _|exact .fail
theorem IE{t r:Tg}{e:K7}{a:List K7}(b:ax e=KO)(c:QG g m t e)(f:Fk g m r a):Fk g m (.cons t r) (e::a):=λv X F h=>(uS (c v X F h) (f v X F h) (by rw[rV b];rfl)).ref λd i=>by cases d with
 |nil=>exact .fail|cons d j=>exact aa (.refl _) λ_=>.refl _
variable(g m)
mutual
noncomputable def cG:(t:Tg)->(e:K7)->Ch (QG g m t e)
 |.nm i,e=>match e with
  |.Name x _=>(cb (eh m i x)).b λq=>.y (IB q)|_=>.n
 |.tup n r,e=>match e with
  |.Tuple a _ _=>(cd (a.length=n)).b λq=>(cb (a.all λe=>!ax e)).b λc=>(JP r a).b λh=>.y (IC q c h)|_=>.n
 |.nil,_=>.n|.cons _ _,_=>.n
noncomputable def JP:(t:Tg)->(a:List K7)->Ch (Fk g m t a)
 |.nil,a=>match a with
  |[]=>.y ID|_=>.n
 |.cons t r,a=>match a with
  |e::a=>(cn (ax e)).b λq=>(cG t e).b λh=>(JP r a).b λc=>.y (IE q h c)|[]=>.n
 |.nm _,_=>.n|.tup _ _,_=>.n
end
end
section
variable{g:D->ah->T ah}{tc:ah->T Bool}{te:ah->T D}
theorem kj:∀(ds:List D)(ρ:ah),Ref (dR g tc te ds ρ).aN (lB (λd ρ=>(g d ρ).aN) (λρ=>(tc ρ).aN) (λρ=>(te ρ).aN) ds ρ)
 |[],ρ=>.refl _|d::ds,ρ=>aa (.refl _) λa=>aa (.refl _) λb=>by cases b with
  |true=>exact aa (.refl _) λx=>aa (kj ds a) λr=>.refl _|false=>exact kj ds a
theorem rW(ρ:ah)(i:Nat)(a:List Nat):∀(ds rest:List D),Ref (tE te ρ i a ds rest).aN (vN (λρ=>(te ρ).aN) ρ i a ds rest)
 |[],_=>.refl _|d::ds,rest=>aa (.refl _) λx=>aa (be x) λn=>aj (λz=>by
   simp only[KW,decide_eq_true_eq]at z;exact z) (aE λy=>aa (rW ρ i a ds _) λr=>.refl _)
end
section
variable{g:dE}{v:Ev}{m:MC}{X:Cx}{F:Fx}
theorem DO.ref{o:Option K7}{t m:ah->M (Option Int)}(h:DO X F o m)(r:∀ρ,Ref (t ρ) (m ρ)):DO X F o t:=⟨h.hK,h.po.imp λa H Q⟨ρ,k,S,z⟩=>⟨ρ,k,S,r ρ _ _ _ z⟩⟩
theorem lT{ρ:ah}{i:Nat}(h:fT ρ i=KN):ρ[i]?=KE (KE .feed):=by
 unfold fT at h;split at h;.assumption
 .cases h
theorem wc{Ty:String}(d:D):Ref (gH Ty d).aN (uQ Ty d):=aE λ_=>aE λ_=>.refl _
theorem yX{x:Lf}(h:cV.contains x=KN):x∈cV:=List.contains_iff_mem.mp h
theorem Cj(f:BI):fV f∈cV:=by cases f<;>exact yX rfl
theorem yY(h:XC g v m X F){f:BI}{a:K7}{b:List K7}{p q:My}{c:ah->M (List A)}(ha:DA X F (a::b) c)(s:bX m (fV f)=KN)(r:ax a=KO)(j:(b.all λe=>!ax e)=KN):DE X F (.Call (.Name (fV f) p) (a::b) [] q) (λρ=>do(kK f (<-gu (<-c ρ))).aN):=by
 obtain⟨o,n,l⟩:=h.gl s;have hb:=Ci f;have k:=h.bl _ (Cj f);have hd:=Fj (X:=X) (F:=F) h.calm h.gd h.un h.hP h.hw f;have d:Ld (a::b) X.env=(KO,MT a X.env)::Ld b X.env:=aL r;have i:(NN q (Ld b X.env)).any (·.1)=KO:=fF j;cases f<;>first|exact uN hd k hb ha o l n d i|exact sS hd k hb ha o l n d i
end
noncomputable abbrev QE(g:dE)(m:MC)(ex:Ex)(e:K7):Prop:=∀v X F,XC g v m X F->DE X F e (λa=>(ao v ex a).aN)
noncomputable abbrev QU(g:dE)(m:MC)(ex:Ex)(e:K7):Prop:=∀v X F,XC g v m X F->DU X F e (λa=>(ao v ex a).aN)
noncomputable abbrev QT(g:dE)(m:MC)(ex:Ex)(e:K7):Prop:=∀v X F,XC g v m X F->DT X F e (λa=>(bg v ex a).aN)
noncomputable abbrev QW(g:dE)(m:MC)(ex:Ex)(e:K7):Prop:=∀v X F,XC g v m X F->tV X F e (λa=>(bg v ex a).aN)
noncomputable abbrev QC(g:dE)(m:MC)(ex:Ex)(b:List K7):Prop:=∀v X F,XC g v m X F->pV X F b (λa=>(bg v ex a).aN)
noncomputable abbrev QA(g:dE)(m:MC)(ex:Ex)(b:List K7):Prop:=∀v X F,XC g v m X F->DA X F b (λa=>(fU v ex a).aN)
noncomputable abbrev QO(g:dE)(m:MC)(ex:Ex)(o:Option K7):Prop:=∀v X F,XC g v m X F->DO X F o (λa=>(Cg v ex a).aN)
noncomputable abbrev QI(g:dE)(m:MC)(ex:Ex)(t e:K7):Prop:=∀v X F,XC g v m X F->DI X F t e (λa=>(ni v ex a).aN)
noncomputable abbrev QK(d:D)(c:Const):Prop:=∀X F,X.K=F.K->∀k p,DE X F (.Constant c k p) (λ_=>pure d)
noncomputable def cK:(d:D)->(c:Const)->Ch (QK d c)
 |.int i,c=>match c with
  |.int j=>(cd (j=i)).b λq=>.y (by subst q;exactλX F h k p=>A9 h)|_=>.n
 |.bl a,c=>match c with
  |.bool b=>(cd (b=a)).b λq=>.y (by subst q;exactλX F h k p=>Ep h)|_=>.n
 |.bw,c=>match c with
  |.none=>.y λX F h k p=>A_ h|_=>.n
 |.str x,c=>match c with
  |.str y=>(cb (sEq x y)).b λq=>.y (by rw[aT q];exactλX F h k p=>Ba h)|_=>.n
 |_,_=>.n
section
variable{g:dE}{m:MC}
theorem Fm{i:Nat}{x:Lf}{p:My}(q:b_ m i x=KN):QE g m (.var i) (.Name x p):=λv X F h=>by
 obtain⟨d,c,b,a⟩:=h.tX q;exact(A8 i d c b a h.hK).ref λe=>.get
theorem IF{o o':Q8}{a b:Ex}{x y:K7}{p:My}(q:o'=o)(ha:QE g m a x)(hb:QE g m b y):QE g m (.op o a b) (.BinOp x o' y p):=by
 subst q;exactλv X F h=>(Es (Fg h.un h.hP h.hw o') (ha v X F h) (hb v X F h)).ref λc=>aa (.refl _) λ_=>aa (.refl _) λ_=>.refl _
theorem Fo{a:Ex}{x:K7}{p:My}(ha:QE g m a x):QE g m (.neg a) (.UnaryOp .USub x p):=λv X F h=>(BL (ha v X F h)).ref λb=>aa (.refl _) λd=>aa (be d) λ_=>.refl _
theorem Fp{o o':Oj}{a b:Ex}{x y:K7}{p:My}(q:o'=o)(c:br y=KO)(ha:QE g m a x)(hb:QE g m b y):QE g m (.cmp o a b) (.Compare x [o'] [y] p):=by
 subst q;exactλv X F h=>(Bc (ip h.un h.hP h.hw o') (ha v X F h) (hb v X F h) (kh c o')).ref λd=>aa (.refl _) λ_=>aa (.refl _) λ_=>.refl _
theorem Fq{a b:Ex}{x y:K7}{r:List K7}{p:My}(ha:QE g m a x)(hb:QE g m b (.BoolOp .And (y::r) p)):QE g m (.and a b) (.BoolOp .And (x::y::r) p):=λv X F h=>(Bj (ha v X F h) (hb v X F h)).ref λc=>aa (.refl _) λd=>aa (da d) λb=>by cases b<;>exact .refl _
theorem IG{a b:Ex}{x y:K7}{r:List K7}{p:My}(ha:QE g m a x)(hb:QE g m b (.BoolOp .Or (y::r) p)):QE g m (.or a b) (.BoolOp .Or (x::y::r) p):=λv X F h=>(Ey (ha v X F h) (hb v X F h)).ref λc=>aa (.refl _) λd=>aa (da d) λb=>by cases b<;>exact .refl _
theorem Fs{c a b:Ex}{z x y:K7}{p:My}(d:QT g m c z)(ha:QE g m a x)(hb:QE g m b y):QE g m (.xj c a b) (.IfExp z x y p):=λv X F h=>(EA (d v X F h) (ha v X F h) (hb v X F h)).ref λe=>aa (.refl _) λb=>by cases b<;>exact .refl _
theorem Ft{a:Ex}{x:K7}{n:Lf}{c b:My}(i:sEq n "lower"=KN)(f:(c.endLine==b.line)=KN)(e:gJ x=KO)(ha:QE g m a x):QE g m (.low a) (.Call (.Attribute x n c) [] [] b):=λv X F h=>by
 obtain rfl:=aT i;exact(vJ (ha v X F h) (fx e) f).ref λj=>aa (.refl _) λd=>by cases d<;>first|exact aj of_decide_eq_true (.refl _)|exact .fail
theorem Fu{a:Ex}{x:K7}{n:Lf}{c b:My}(i:sEq n "isalpha"=KN)(f:(c.endLine==b.line)=KN)(e:gJ x=KO)(ha:QE g m a x):QE g m (.Cb a) (.Call (.Attribute x n c) [] [] b):=λv X F h=>by
 obtain rfl:=aT i;exact(vK (ha v X F h) (fx e) f).ref λj=>aa (.refl _) λd=>by cases d<;>first|exact .refl _|exact .fail
theorem we(d:D):Ref (oJ d).aN (qf d):=by
 unfold oJ qf;split<;>first|exact .refl _|exact .fail
theorem Fv{a st:Ex}{x z:K7}{p b:My}(ha:QE g m a x)(c:QE g m st z):QE g m (.rev a st) (.Subscript x (.Slice KL KL (KE z) b) p):=λv X F h=>(yM (ha v X F h) (c v X F h)).ref λe=>aa (.refl _) λd=>aa (.refl _) λy=>aa (be y) λn=>aj of_decide_eq_true (we d)
theorem Ck(ds:List D):Ref (Ff ds).aN (GV ds):=by
 unfold Ff GV;split<;>first|exact aE λ_=>.refl _|exact .fail
theorem Cn{r:Ex}{f h:Lf}{a b:K7}{p pos l pos0:My}(k:sEq f "dict"=KN)(j:sEq h "zip"=KN)(i:bX m f=KN)(e:bX m h=KN)(d:ax a=KO)(c:ax b=KO)(n:QA g m r [a,b]):QE g m (.vS r) (.Call (.Name f l) [.Call (.Name h p) [a,b] [] pos] [] pos0):=λv X F z=>by
 obtain rfl:=aT k;obtain rfl:=aT j;have hu:=z.un;exact(yT z.calm (by omega) z.hP z.hw (z.bl _ (yX rfl)) (z.bl _ (yX rfl)) (n v X F z) (z.gl i).1 (z.gl e).1 (aL d) (by rw[aL c];rfl)).ref λs=>aa (.refl _) λq=>aa (.of_eq (cX q)) λo=>Ck o
theorem yZ{f i h:Nat}{r:Ex}{x y z:Lf}{e:K7}{b:List K7}{J pg np R j:My}(I:isAt g.dn f x=KN)(H:isAt g.dn h y=KN)(G:bX m x=KN)(D:bX m y=KN)(C:b_ m i z=KN)(B:ax e=KO)(A:(b.all λe=>!ax e)=KN)(N:QA g m r (e::b)):QE g m (.oH f i h r) (.Call (.Name x J) [.Name z np,.Call (.Name y pg) (e::b) [] j] [] R):=λv X F c=>by
 obtain⟨n1,Y,w,P,L⟩:=c.df f x (gI I);obtain⟨n2,W,u,O,K⟩:=c.df h y (gI H);obtain⟨a1,U,a3⟩:=c.gl G;obtain⟨b1,S,Z⟩:=c.gl D;obtain⟨t,s,p,o⟩:=c.tX C;refine(vM i P w O u c.hP c.hw t s p o (N v X F c) a1 b1 U S (aL B) (fF A)).ref λV=>aj lT (aa (.refl _) λbs=>?_);intro k Q E z;rw[T.cz]at z;by_cases l:bs.length=n2
 .by_cases n:n1=2
  .refine⟨⟨l,n⟩,?_⟩;have z:((v.aG h bs).aN>>=λr=>(Fe r).aN).run k (λd a=>(v.call f [.feed,.own d]).aN.run a Q E) E:=by rw[<-T.cz];exact z
   refine T.gz (v.aG h bs) _ (M.mono _ z (λr a y=>?_) λ_ _ y=>y);cases r with
   |d x=>exact y.elim|own d=>
    have y:((v.aG f [.feed,.own d]).aN>>=λr=>(toD r).aN).run a Q E:=by rw[<-T.cz];exact y
    refine T.gz (v.aG f [.feed,.own d]) _ (M.mono _ y (λr a y=>?_) λ_ _ y=>y);cases r with
    |d x=>exact y|own x=>exact y.elim
  .exfalso;have e:∀d,v.call f [.feed,.own d]=.stuck:=λd=>by show v.aG f _>>=toD=_;rw[L [.feed,.own d] (λq=>n q.symm)];rfl
   have:(v.oI h bs).aN.run k (λd a=>False) E:=M.mono _ z (λd a y=>by dsimp only at y;rw[e d]at y;exact y) λ_ _ y=>y;exact T.pX _ this
 .have e:v.oI h bs=.stuck:=by show v.aG h bs>>=Fe=_;rw[K bs l];rfl
  rw[e]at z;exact z.elim
theorem Fw{a:Ex}{o:BoolOp}{x:K7}{p:My}(ha:QE g m a x):QE g m (.one a) (.BoolOp o [x] p):=λv X F h=>(Bi (ha v X F h)).ref λb=>.refl _
theorem Fy{a:Ex}{x:K7}{p:My}(ha:QE g m a x):QE g m (.not a) (.UnaryOp .Not x p):=λv X F h=>(Bk (ha v X F h)).ref λb=>aa (.refl _) λd=>aa (da d) λ_=>.refl _
theorem Fz{r:Ex}{a:List K7}{k:Nat}{p:My}(b:QA g m r a):QE g m (.tup r) (.Tuple a k p):=λv X F h=>(Bq (b v X F h)).ref λd=>aa (.refl _) λc=>aa (.of_eq (cX c)) λe=>aj of_decide_eq_true (.refl _)
theorem FA{r:Ex}{a:List K7}{p:My}(b:QA g m r a):QE g m (.lst r) (.List a p):=λv X F h=>(Bt (b v X F h)).ref λd=>aa (.refl _) λc=>aa (.of_eq (cX c)) λe=>aj of_decide_eq_true (.refl _)
theorem FC{a b:Ex}{x y:K7}{p:My}(q:gL y=KO)(ha:QE g m a x)(hb:QE g m b y):QE g m (.idx a b) (.Subscript x y p):=λv X F h=>(EB (Fh h.un h.hP h.hw) (ha v X F h) (hb v X F h) (ki q)).ref λc=>aa (.refl _) λ_=>aa (.refl _) λ_=>.refl _
theorem IH{f:BI}{r:Ex}{x:Lf}{a:K7}{b:List K7}{p k:My}(j:sEq x (fV f)=KN)(i:bX m x=KN)(d:(b.all λe=>!ax e)=KN)(c:ax a=KO)(l:QA g m r (a::b)):QE g m (.bi f r) (.Call (.Name x p) (a::b) [] k):=λv X F h=>by
 obtain rfl:=aT j;exact(yY h (l v X F h) i c d).ref λo=>aa (.refl _) λn=>aa (.of_eq (cX n)) λq=>.refl _
theorem Co{f:Nat}{r:Ex}{x:Lf}{a:K7}{i:List K7}{p t:My}(s:isAt g.dn f x=KN)(q:bX m x=KN)(o:(i.all λe=>!ax e)=KN)(l:ax a=KO)(u:QA g m r (a::i)):QE g m (.call f r) (.Call (.Name x p) (a::i) [] t):=λv X F h=>by
 obtain⟨n,k,c,hd,w⟩:=h.df f x (gI s);obtain⟨B,A,G⟩:=h.gl q;refine(Bw hd c (u v X F h) B h.hP h.hw A (aL l) (fF o)).ref λC=>aa (.refl _) λb=>?_;by_cases j:b.length=n
 .refineλk Q E z=>⟨j,?_⟩;have z:((v.aG f b).aN>>=λr=>(toD r).aN).run k Q E:=by rw[<-T.cz];exact z
  refine T.gz (v.aG f b) _ (M.mono _ z (λr D y=>?_) λ_ _ y=>y);cases r with
  |d x=>exact y|own x=>exact y.elim
 .have e:v.call f b=.stuck:=by show v.aG f b>>=toD=_;rw[w b j];rfl
  rw[e];exact .fail
theorem FD{Ty:String}{a:Ex}{x t:Lf}{y:K7}{p o n:My}(b1:Mz t=KE (.type Ty))(l:sEq x "isinstance"=KN)(k:cV.contains t=KN)(j:bX m x=KN)(i:bX m t=KN)(f:ax y=KO)(ha:QE g m a y):QE g m (.kJ Ty a) (.Call (.Name x p) [y,.Name t n] [] o):=λv X F h=>by
 obtain rfl:=aT l;obtain⟨q,u,s⟩:=h.gl j;obtain⟨e,c,b⟩:=h.gl i;refine(xU (x:=p) (p1:=p) (ha v X F h) (h.bl _ (yX rfl)) (h.bl _ (yX k)) b1 q e b c (aL f)).ref λr=>aa (.refl _) λd=>?_;exact wc d
theorem FE{e:K7}:QE g m .bad e:=λv X F h=>DE.stuck h.hK
theorem FG{i:Nat}{a:Ex}{e:K7}(ha:QE g m a e):QE g m (.lL i a) e:=λv X F h=>((ha v X F h).lL i).ref λb=>aa (.refl _) λd=>aj (λz=>z) (.refl _)
theorem FH{i:Nat}{x:Lf}{p:My}(e:bX m x=KN)(c:isAt g.gn i x=KN):QE g m (.iQ i) (.Name x p):=λv X F h=>by
 obtain⟨l,k,n⟩:=h.gl e;cases a:v.iQ i with
 |none=>
  refine(DE.stuck h.hK).ref λb=>?_;show Ref (T.get (v.iQ i)).aN _;rw[a];exact .refl _|some d=>
  obtain⟨u,w,f,r,j⟩:=h.co i x d (gI c) a;refine(vR l f r j k h.hK).ref λb=>?_;show Ref (T.get (v.iQ i)).aN _;rw[a];exact .refl _
theorem FI{o o' p1 d:Oj}{a b c:Ex}{x y z:K7}{p:My}(q:p1=o)(f:d=o')(e:br z=KO)(ha:QE g m a x)(hb:QE g m b y)(i:QE g m c z):QE g m (.DF o o' a b c) (.Compare x [p1,d] [y,z] p):=by
 subst q f;refineλv X F h=>(uH (ip h.un h.hP h.hw p1) (ip h.un h.hP h.hw d) (ha v X F h) (hb v X F h) (i v X F h) (gM e p1 d)).ref λj=>aa (.refl _) λ_=>aa (.refl _) λ_=>aa (.refl _) λr=>aa (da r) λb=>?_;cases b with
 |true=>exact aa (.refl _) λ_=>.refl _|false=>exact .refl _
theorem Cp{o o' p1 i:Oj}{a b c:Ex}{x y z:K7}{p:My}(q:p1=o)(l:i=o')(k:br z=KO)(ha:QE g m a x)(hb:QE g m b y)(n:QE g m c z):QT g m (.oG o o' a b c) (.Compare x [p1,i] [y,z] p):=by
 subst q l;refineλv X F h=>(uI (ip h.un h.hP h.hw p1) (ip h.un h.hP h.hw i) (ha v X F h) (hb v X F h) (n v X F h) (gM k p1 i)).ref λj=>?_;show Ref (ao v a j>>=λd=>ao v b j>>=λe=>bz p1 d e>>=λr=>aJ r>>=λy=>if y then(ao v c j>>=λf=>bz i e f>>=λr=>aJ r)else .ok KO:T Bool).aN _;unfold jD;rw[M.bind_assoc];refine aa (.refl _) λd=>?_;rw[M.bind_assoc];refine aa (.refl _) λe=>?_;rw[M.bind_assoc];refine aa (.refl _) λr=>?_;rw[M.bind_assoc];refine aa (da r) λb=>?_;cases b with
 |true=>
  show Ref (ao v c j>>=λf=>bz i e f>>=λr=>aJ r:T Bool).aN (((ao v c j).aN>>=λf=>(bz i e f).aN)>>=λr=>dy r);rw[M.bind_assoc];exact aa (.refl _) λf=>aa (.refl _) λr=>da r|false=>exact .refl _
theorem II:QO g m .nil KL:=λv X F h=>(x8 h.hK).ref λa=>.refl _
theorem IJ{a:Ex}{e:K7}(ha:QE g m a e):QO g m (.one a) (KE e):=λv X F h=>(x9 (ha v X F h)).ref λb=>aa (.refl _) λd=>aa (be d) λ_=>.refl _
theorem FJ{a lo b:Ex}{x:K7}{l u:Option K7}{p c:My}(ha:QE g m a x)(e:QO g m lo l)(f:QO g m b u):QE g m (.cut a lo b) (.Subscript x (.Slice l u KL c) p):=λv X F h=>(vb (ha v X F h) (e v X F h) (f v X F h)).ref λi=>aa (.refl _) λd=>aa (.refl _) λ_=>aa (.refl _) λ_=>by cases d<;>first|exact .refl _|exact .fail|exact aj of_decide_eq_true (.refl _)
variable{own:List Lf}{js:List Nat}{sc:MQ}{tg tg2:Tg}{it c it2 c2 elt ke ve:Ex}{t i t2 i2 x y:K7}{ifs ifs2:List K7}{p:My}
theorem IK(e:oO m own js sc=KN)(f:br i=KO)(j:QI g m it t i)(k:QG g (e_ m own (cc m js) sc) tg t)(n:QC g (e_ m own (cc m js) sc) c ifs)(l:QE g (e_ m own (cc m js) sc) elt x):QU g m (.lc own js tg it c elt) (.ListComp x [⟨t,i,ifs,0⟩] sc p):=λv X F h=>by
 obtain⟨b1,w,u,q⟩:=wb h e;exact(vw own (cc m js) js h.calm b1 w u q (j v X F h) (λa d C b s H=>k _ _ _ (h.eP e a d C b s H)) (λa d C b s H=>n _ _ _ (h.eP e a d C b s H)) (λa d C b s H=>l _ _ _ (h.eP e a d C b s H)) (iq f _)).ref λz=>aa (.refl _) λo=>aa (kj o _) λr=>.refl _
theorem wg{a b:Ex}{x y:K7}{r:List K7}{p:My}(ha:QT g m a x)(hb:QW g m b (.BoolOp .And (y::r) p)):QW g m (.i_ a b) (.BoolOp .And (x::y::r) p):=λv X F h=>(Bm (ha v X F h) (hb v X F h)).ref λd=>aa (.refl _) λb=>by cases b<;>exact .refl _
theorem zW{a b:Ex}{x y:K7}{r:List K7}{p:My}(ha:QT g m a x)(hb:QW g m b (.BoolOp .Or (y::r) p)):QW g m (.fE a b) (.BoolOp .Or (x::y::r) p):=λv X F h=>(Ez (ha v X F h) (hb v X F h)).ref λd=>aa (.refl _) λb=>by cases b<;>exact .refl _
theorem wj{a:Ex}{o:BoolOp}{x:K7}{p:My}(ha:QT g m a x):QW g m (.bh a) (.BoolOp o [x] p):=λv X F h=>by cases o with
 |And=>exact xN (ha v X F h)|Or=>exact Bl (ha v X F h)
theorem Cq{ex:Ex}{e:K7}(h:QW g m ex e):QT g m ex e:=λv X F z=>(h v X F z).dt
theorem FK{a:Ex}{i:Nat}{x:Lf}{e:K7}{p np:My}(q:b_ m i x=KN)(ha:QE g m a e):QT g m (.xk a i) (.Compare e [.In] [.Name x np] p):=λv X F h=>by
 obtain⟨k,j,f,b⟩:=h.tX q;have hu:=h.un;exact(B6 i (by omega) h.hP h.hw (ha v X F h) k j f b).ref λl=>aa (.refl _) λd=>aE λn=>aj bK (.refl _)
theorem Cr{i:Nat}{a:Ex}{e:K7}(ha:QT g m a e):QT g m (.lL i a) e:=λv X F h=>((ha v X F h).lL i).ref λb=>.refl _
theorem Cs{a:Ex}{x:K7}{p:My}(ha:QT g m a x):QT g m (.bx a) (.UnaryOp .Not x p):=λv X F h=>(Bo (ha v X F h)).ref λb=>aa (.refl _) λ_=>.refl _
theorem FL{a:Ex}{e:K7}(q:mN e=KN)(ha:QE g m a e):QT g m (.fN a) e:=λv X F h=>(BW (ha v X F h) λw=>qj q X.env w).ref λb=>aa (.refl _) λd=>.get
theorem Ct{o o':Oj}{a b:Ex}{x y:K7}{p:My}(q:o'=o)(e:br y=KO)(ha:QE g m a x)(hb:QE g m b y):QT g m (.aw o a b) (.Compare x [o'] [y] p):=by
 subst q;exactλv X F h=>(Bd (ip h.un h.hP h.hw o') (ha v X F h) (hb v X F h) (kh e o')).ref λf=>by
  rw[M.bind_assoc];refine aa (.refl _) λ_=>?_;rw[M.bind_assoc];exact aa (.refl _) λ_=>aa (.refl _) λd=>da d
theorem Cu{e:K7}:QT g m .bad e:=λv X F h=>DT.stuck h.hK
theorem Cv{e:K7}:QW g m .bad e:=λv X F h=>⟨h.hK,λw a s b H Q I⟨d,k,S,z⟩=>z.elim⟩
theorem FO:QC g m .yes []:=λv X F h=>(uY h.hK).ref λa=>.refl _
theorem FP{a:Ex}{e:K7}(ha:QT g m a e):QC g m (.bh a) [e]:=λv X F h=>uZ (ha v X F h)
theorem IL:QA g m .nil []:=λv X F h=>(Bp h.hK).ref λa=>.refl _
theorem IM{a r:Ex}{e:K7}{b:List K7}(q:ax e=KO)(ha:QE g m a e)(d:QA g m r b):QA g m (.cons a r) (e::b):=λv X F h=>(xO (ha v X F h) (d v X F h) (aL q)).ref λf=>aa (.refl _) λ_=>aa (.refl _) λ_=>.refl _
theorem IP{i:Nat}{r:Ex}{x:Lf}{p:My}{a:List K7}(q:b_ m i x=KN)(b:QA g m r a):QA g m (.feed i r) (.Name x p::a):=λv X F h=>by
 obtain⟨j,f,e,d⟩:=h.tX q;exact(xP i (b v X F h) j f e d rfl).ref λk=>aj lT (aa (.refl _) λ_=>.refl _)
theorem FQ{r:Ex}{x:Lf}{t a:K7}{p k:My}(f:sEq x "range"=KN)(e:bX m x=KN)(b:ax a=KO)(l:QA g m r [a]):QI g m (.ic r) t (.Call (.Name x p) [a] [] k):=λv X F h=>by
 obtain rfl:=aT f;refine(sW (h.bl _ (yX rfl)) (l v X F h) (h.gl e).1 (aL b)).ref λq=>aa (.refl _) λo=>aa (.of_eq (cX o)) λn=>?_;match n with
 |[]=>exact .fail|[d]=>exact aa (be d) λj=>aj (λz=>by simp only[KW,decide_eq_true_eq]at z;exact z) (.refl _)|_::_::_=>exact .fail
theorem FR{a:Ex}{t e:K7}(ha:QE g m a e):QI g m (.bG a) t e:=λv X F h=>(yv (ha v X F h)).ref λb=>aa (.refl _) λd=>.get
theorem Cw{t e:K7}:QI g m .bad t e:=λv X F h=>DI.stuck h.hK
end
noncomputable def JQ{g:dE}{m:MC}{own:List Lf}{a:List Nat}{tg:Tg}{it c d:Ex}{gs:List RA}{x:K7}{sc:MQ}{p:My}(j:∀t i,Ch (QI g m it t i))(o:∀l,Ch (QC g (e_ m own (cc m a) sc) c l))(k:Ch (QE g (e_ m own (cc m a) sc) d x)):Ch (QU g m (.lc own a tg it c d) (.ListComp x gs sc p)):=match gs with
 |[⟨t,i,e,0⟩]=>(cb (oO m own a sc)).b λh=>(cn (br i)).b λf=>(j t i).b λu=>(cG g (e_ m own (cc m a) sc) tg t).b λs=>(o e).b λr=>k.b λq=>.y (IK h f u s r q)|_=>.n
noncomputable def Ch.ue{g:dE}{m:MC}{ex:Ex}{e:K7}(c:Ch (QU g m ex e)):Ch (QE g m ex e):=c.b λh=>.y λv X F z=>(h v X F z).de
mutual
noncomputable def cE(g:dE):(m:MC)->(ex:Ex)->(e:K7)->Ch (QE g m ex e)
 |m,.var i,e=>match e with
  |.Name x _=>(cb (b_ m i x)).b λq=>.y (Fm q)|_=>.n
 |m,.cst d,e=>match e with
  |.Constant c _ _=>(cK d c).b λh=>.y λv X F z=>(h X F z.hK _ _).ref λT=>.refl _|_=>.n
 |m,.op o a b,e=>match e with
  |.BinOp x D y _=>(cd (D=o)).b λq=>(cE g m a x).b λh=>(cE g m b y).b λk=>.y (IF q h k)|_=>.n
 |m,.neg a,e=>match e with
  |.UnaryOp .USub x _=>(cE g m a x).b λh=>.y (Fo h)|_=>.n
 |m,.cmp o a b,e=>match e with
  |.Compare x [D] [y] _=>(cd (D=o)).b λq=>(cn (br y)).b λj=>(cE g m a x).b λh=>(cE g m b y).b λk=>.y (Fp q j h k)|_=>.n
 |m,.and a b,e=>match e with
  |.BoolOp .And (x::y::r) p=>(cE g m a x).b λh=>(cE g m b (.BoolOp .And (y::r) p)).b λk=>.y (Fq h k)|_=>.n
 |m,.or a b,e=>match e with
  |.BoolOp .Or (x::y::r) p=>(cE g m a x).b λh=>(cE g m b (.BoolOp .Or (y::r) p)).b λk=>.y (IG h k)|_=>.n
 |m,.xj c a b,e=>match e with
  |.IfExp z x y _=>(cT g m c z).b λh=>(cE g m a x).b λS=>(cE g m b y).b λk=>.y (Fs h S k)|_=>.n
 |m,.low a,e=>match e with
  |.Call (.Attribute x n J) [] [] I=>(cb (sEq n "lower")).b λj=>(cb (J.endLine==I.line)).b λs=>(cn (gJ x)).b λw=>(cE g m a x).b λh=>.y (Ft j s w h)|_=>.n
 |m,.Cb a,e=>match e with
  |.Call (.Attribute x n J) [] [] I=>(cb (sEq n "isalpha")).b λj=>(cb (J.endLine==I.line)).b λs=>(cn (gJ x)).b λw=>(cE g m a x).b λh=>.y (Fu j s w h)|_=>.n
 |m,.rev a st,e=>match e with
  |.Subscript x (.Slice KL KL (KE z) _) _=>(cE g m a x).b λh=>(cE g m st z).b λk=>.y (Fv h k)|_=>.n
 |m,.vS r,e=>match e with
  |.Call (.Name f _) [.Call (.Name h _) [a,b] [] _] [] _=>(cb (sEq f "dict")).b λj=>(cb (sEq h "zip")).b λs=>(cb (bX m f)).b λw=>(cb (bX m h)).b λB=>(cn (ax a)).b λC=>(cn (ax b)).b λE=>(cA g m r [a,b]).b λh=>.y (Cn j s w B C E h)|_=>.n
 |m,.oH f i h r,e=>match e with
  |.Call (.Name x _) [.Name z _,.Call (.Name y _) (e::A) [] _] [] _=>(cb (isAt g.dn f x)).b λj=>(cb (isAt g.dn h y)).b λs=>(cb (bX m x)).b λw=>(cb (bX m y)).b λB=>(cb (b_ m i z)).b λC=>(cn (ax e)).b λE=>(cb (A.all λe=>!ax e)).b λL=>(cA g m r (e::A)).b λR=>.y (yZ j s w B C E L R)|_=>.n
 |m,.one a,e=>match e with
  |.BoolOp _ [x] _=>(cE g m a x).b λh=>.y (Fw h)|_=>.n
 |m,.not a,e=>match e with
  |.UnaryOp .Not x _=>(cE g m a x).b λh=>.y (Fy h)|_=>.n
 |m,.tup r,e=>match e with
  |.Tuple A _ _=>(cA g m r A).b λh=>.y (Fz h)|_=>.n
 |m,.lst r,e=>match e with
  |.List A _=>(cA g m r A).b λh=>.y (FA h)|_=>.n
 |m,.idx a b,e=>match e with
  |.Subscript x y _=>(cn (gL y)).b λq=>(cE g m a x).b λh=>(cE g m b y).b λk=>.y (FC q h k)|_=>.n
 |m,.bi f r,e=>match e with
  |.Call (.Name x _) (a::A) [] _=>(cb (sEq x (fV f))).b λj=>(cb (bX m x)).b λs=>(cb (A.all λe=>!ax e)).b λw=>(cn (ax a)).b λB=>(cA g m r (a::A)).b λh=>.y (IH j s w B h)|_=>.n
 |m,.call f r,e=>match e with
  |.Call (.Name x _) (a::A) [] _=>(cb (isAt g.dn f x)).b λj=>(cb (bX m x)).b λs=>(cb (A.all λe=>!ax e)).b λw=>(cn (ax a)).b λB=>(cA g m r (a::A)).b λh=>.y (Co j s w B h)|_=>.n
 |m,.kJ Ty a,e=>match e with
  |.Call (.Name x _) [y,.Name t _] [] _=>(cd (Mz t=KE (.type Ty))).b λM=>(cb (sEq x "isinstance")).b λj=>(cb (cV.contains t)).b λs=>(cb (bX m x)).b λw=>(cb (bX m t)).b λB=>(cn (ax y)).b λC=>(cE g m a y).b λh=>.y (FD M j s w B C h)|_=>.n
 |m,.lc own K tg P c H,e=>match e with
  |.ListComp x gs sc p=>(JQ (tg:=tg) (gs:=gs) (p:=p) (λt i=>cI g m P t i) (λl=>cC g (e_ m own (cc m K) sc) c l) (cE g (e_ m own (cc m K) sc) H x)).ue|_=>.n
 |m,.iQ i,e=>match e with
  |.Name x _=>(cb (bX m x)).b λq=>(cb (isAt g.gn i x)).b λs=>.y (FH q s)|_=>.n
 |m,.DF o D a b c,e=>match e with
  |.Compare x [p,O] [y,z] _=>(cd (p=o)).b λq=>(cd (O=D)).b λN=>(cn (br z)).b λj=>(cE g m a x).b λh=>(cE g m b y).b λk=>(cE g m c z).b λG=>.y (FI q N j h k G)|_=>.n
 |m,.cut a lo Q,e=>match e with
  |.Subscript x (.Slice l u KL _) _=>(cE g m a x).b λh=>(cO g m lo l).b λk=>(cO g m Q u).b λG=>.y (FJ h k G)|_=>.n
 |_,.bad,_=>.y FE|m,.lL i a,e=>(cE g m a e).b λh=>.y (FG h)|_,_,_=>.n
noncomputable def cW(g:dE):(m:MC)->(ex:Ex)->(e:K7)->Ch (QW g m ex e)
 |m,.i_ a b,e=>match e with
  |.BoolOp .And (x::y::r) p=>(cT g m a x).b λh=>(cW g m b (.BoolOp .And (y::r) p)).b λc=>.y (wg h c)|_=>.n
 |m,.fE a b,e=>match e with
  |.BoolOp .Or (x::y::r) p=>(cT g m a x).b λh=>(cW g m b (.BoolOp .Or (y::r) p)).b λc=>.y (zW h c)|_=>.n
 |m,.bh a,e=>match e with
  |.BoolOp _ [x] _=>(cT g m a x).b λh=>.y (wj h)|_=>.n
 |_,.bad,_=>.y Cv|_,_,_=>.n
noncomputable def cT(g:dE):(m:MC)->(ex:Ex)->(e:K7)->Ch (QT g m ex e)
 |m,.i_ a b,e=>match e with
  |.BoolOp .And (x::y::r) p=>(cT g m a x).b λh=>(cW g m b (.BoolOp .And (y::r) p)).b λd=>.y (Cq (wg h d))|_=>.n
 |m,.fE a b,e=>match e with
  |.BoolOp .Or (x::y::r) p=>(cT g m a x).b λh=>(cW g m b (.BoolOp .Or (y::r) p)).b λd=>.y (Cq (zW h d))|_=>.n
 |m,.bh a,e=>match e with
  |.BoolOp _ [x] _=>(cT g m a x).b λh=>.y (Cq (wj h))|_=>.n
 |m,.bx a,e=>match e with
  |.UnaryOp .Not x _=>(cT g m a x).b λh=>.y (Cs h)|_=>.n
 |m,.xk a i,e=>match e with
  |.Compare x [.In] [.Name y _] _=>(cb (b_ m i y)).b λq=>(cE g m a x).b λh=>.y (FK q h)|_=>.n
 |m,.lL _ a,e=>(cT g m a e).b λh=>.y (Cr h)|m,.fN a,e=>(cb (mN e)).b λq=>(cE g m a e).b λh=>.y (FL q h)|m,.aw o a b,e=>match e with
  |.Compare x [j] [y] _=>(cd (j=o)).b λq=>(cn (br y)).b λf=>(cE g m a x).b λh=>(cE g m b y).b λd=>.y (Ct q f h d)|_=>.n
 |m,.oG o j a b c,e=>match e with
  |.Compare x [p,l] [y,z] _=>(cd (p=o)).b λq=>(cd (l=j)).b λk=>(cn (br z)).b λf=>(cE g m a x).b λh=>(cE g m b y).b λd=>(cE g m c z).b λs=>.y (Cp q k f h d s)|_=>.n
 |_,.bad,_=>.y Cu|_,_,_=>.n
noncomputable def cC(g:dE):(m:MC)->(ex:Ex)->(c:List K7)->Ch (QC g m ex c)
 |_,.yes,c=>match c with
  |[]=>.y FO|_=>.n
 |m,.bh a,c=>match c with
  |[e]=>(cT g m a e).b λh=>.y (FP h)|_=>.n
 |_,_,_=>.n
noncomputable def cA(g:dE):(m:MC)->(ex:Ex)->(c:List K7)->Ch (QA g m ex c)
 |_,.nil,c=>match c with
  |[]=>.y IL|_=>.n
 |m,.cons a r,c=>match c with
  |e::c=>(cn (ax e)).b λq=>(cE g m a e).b λh=>(cA g m r c).b λd=>.y (IM q h d)|[]=>.n
 |m,.feed i r,c=>match c with
  |.Name x _::c=>(cb (b_ m i x)).b λq=>(cA g m r c).b λh=>.y (IP q h)|_=>.n
 |_,_,_=>.n
noncomputable def cO(g:dE):(m:MC)->(ex:Ex)->(o:Option K7)->Ch (QO g m ex o)
 |_,.nil,o=>match o with
  |none=>.y II|_=>.n
 |m,.one a,o=>match o with
  |some e=>(cE g m a e).b λh=>.y (IJ h)|_=>.n
 |_,_,_=>.n
noncomputable def cI(g:dE):(m:MC)->(ex:Ex)->(t e:K7)->Ch (QI g m ex t e)
 |m,.ic r,_,e=>match e with
  |.Call (.Name x _) [a] [] _=>(cb (sEq x "range")).b λf=>(cb (bX m x)).b λd=>(cn (ax a)).b λc=>(cA g m r [a]).b λh=>.y (FQ f d c h)|_=>.n
 |m,.bG a,_,e=>(cE g m a e).b λh=>.y (FR h)|_,.bad,_,_=>.y Cw|_,_,_,_=>.n
end
noncomputable def wm(sc:MQ):ScopeKind:=if sc.kind.isAnnotationScope then .function else sc.kind
noncomputable def Cy:K7->Option MQ
 |.ListComp _ _ s _=>KE s|.SetComp _ _ s _=>KE s|.DictComp _ _ _ s _=>KE s|_=>KL
noncomputable def oP(m:MC)(x:Lf)(a:My)(e:K7):Bool:=match Cy e with
 |none=>KO|some sc=>wm m.sc==.function&&m.sc.names.lookup x==KE .local&&a.line==e.pos.line&&!(sc.names.any λ(n,k)=>n==x&&(k==.local||k==.cell))
theorem swap_eq{m:MC}{env:Q4}(h:env.scope=m.sc)(x:Lf)(a:My)(l:Nat)(e:K7):NX e (KE (.Name x a)) l env=pure (oP m x a e):=by
 unfold NX oP Env.blockKind SG wm;rw[h];cases e<;>rfl
theorem oQ{a:List K7}{k:Nat}{p:My}{env:Q4}(l:Nat)(e:K7):PV [.Tuple a k p] e l env=pure KO:=by
 show NX e (KE (.Tuple a k p)) l env=pure KO;unfold NX;cases e<;>rfl
noncomputable def sI(sc:MQ):Q4:={scope:=sc,locals:=0,globals:=0,cells:=[]}
theorem oR{env c:Q4}(h:env.scope=c.scope)(a:List K7)(b:K7):MW a b env=MW a b c:=by
 unfold MW Env.blockKind SG;rw[h]
noncomputable def cN:(t:Pu (Option (List Lf)))->Ch (t=pure KL)
 |.pure KL=>.y rfl|_=>.n
noncomputable def Kn(x y:Lf):(t:Pu (Option (List Lf)))->Ch (t=pure (KE [x,y]))
 |.pure (KE [a,b])=>(cb (sEq a x)).b λd=>(cb (sEq b y)).b λc=>.y (by rw[aT d,aT c];rfl)|_=>.n
noncomputable def JR(x:Lf)(k:Nj)(l:List (Lf×Nj)):Ch (pB x l=KE k):=match pB x l with
 |some j=>(cd (j=k)).b λq=>.y (by rw[q])|none=>.n
section
variable{g:dE}{v:Ev}{m:MC}{X:Cx}{F:Fx}
theorem mO{b:D->ah->T ah}{body:ah->T Fl}:∀(ds:List D)(ρ:ah),Ref (e9 b body ds ρ).aN (sV (λd ρ=>(b d ρ).aN) (λρ=>(body ρ).aN) ds ρ)
 |[],ρ=>.refl _|d::ds,ρ=>aa (.refl _) λc=>aa (.refl _) λe=>by cases e with
  |nx a=>exact mO ds a|ct a=>exact mO ds a|bk a=>exact .refl _|rt r=>exact .refl _|ro r=>exact .fail
theorem ir{c:ah->T Bool}{body:ah->T Fl}:∀(n:Nat)(ρ:ah),Ref (mK c body n ρ).aN (d_ (λρ=>(c ρ).aN) (λρ=>(body ρ).aN) n ρ)
 |0,ρ=>.refl _|n+1,ρ=>aa (.refl _) λb=>by cases b with
  |true=>
   refine aa (.refl _) λd=>?_;cases d with
   |nx a=>exact ir n a|ct a=>exact ir n a|bk a=>exact .refl _|rt r=>exact .refl _|ro r=>exact .fail
  |false=>exact .refl _
theorem dS(d:D):Ref (c_ d).aN (jV d):=by cases d<;>first|exact .refl _|exact .fail
theorem tG(d:D):Ref (oK d).aN (rC d):=by cases d<;>first|exact .refl _|exact .fail
end
noncomputable abbrev QS(g:dE)(m:MC)(s:aY)(st:MR):Prop:=∀v X F,P1 (K4 X.prog X.w) X.A X.env X.xe->XC g v m X F->DS X F st (λa=>(au v s a).aN)
noncomputable abbrev xl(g:dE)(m:MC)(s:aY)(a:List MR):Prop:=∀v X F,P1 (K4 X.prog X.w) X.A X.env X.xe->XC g v m X F->tU X F a (λb=>(au v s b).aN)
section
variable{g:dE}{m:MC}
theorem XC.tF{v:Ev}{X:Cx}{F:Fx}(h:XC g v m X F):X.N.Nodup:=by rw[h.hN];exact h.nd
theorem FT{tg:Tg}{e:Ex}{a:List K7}{k:Nat}{p b:My}{x:K7}(c:QG g m tg (.Tuple a k b))(f:QE g m e x)(q:MW [.Tuple a k b] x (sI m.sc)=pure KL):QS g m (.asg tg e) (.Assign [.Tuple a k b] x p):=λv X F _ h=>(BA (f v X F h) (c v X F h) (oQ _ _) ((oR (by rw[h.sc];rfl) _ _).trans q) rfl).ref λi=>aa (.refl _) λd=>aa (.refl _) λ_=>.refl _
theorem Cz{i:Nat}{e:Ex}{n:Lf}{p b:My}{x:K7}(c:eh m i n=KN)(j:QU g m e x)(f:oP m n b x=KN):QS g m (.set i e) (.Assign [.Name n b] x p):=λv X F _ h=>by
 obtain⟨o,l,k⟩:=h.loc c;have a:=swap_eq (m:=m) h.sc n b p.line x;rw[f]at a;exact(yp i h.tF (j v X F h) o l a k).ref λq=>aa (.refl _) λd=>.refl _
theorem FU{i:Nat}{e:Ex}{n:Lf}{p b:My}{x:K7}(c:eh m i n=KN)(j:QE g m e x)(f:oP m n b x=KO):QS g m (.set i e) (.Assign [.Name n b] x p):=λv X F _ h=>by
 obtain⟨o,l,k⟩:=h.loc c;have a:=swap_eq (m:=m) h.sc n b p.line x;rw[f]at a;exact(BB i h.tF (j v X F h) o l a k).ref λq=>aa (.refl _) λd=>.refl _
theorem FV{e:Ex}{x:K7}{p:My}(a:QE g m e x):QS g m (.ret e) (.Return (KE x) p):=λv X F _ h=>(BD (a v X F h)).ref λb=>aa (.refl _) λd=>.refl _
theorem FW{c:Ex}{a b:aY}{x:K7}{xs ys:List MR}{p:My}(e:QT g m c x)(ha:xl g m a xs)(hb:xl g m b ys):QS g m (.iff c a b) (.If x xs ys p):=λv X F d h=>(EE (e v X F h) (ha v X F d h) (hb v X F d h)).ref λf=>aa (.refl _) λz=>by cases z<;>exact .refl _
theorem FX{tg:Tg}{it:Ex}{b:aY}{t i:K7}{xs:List MR}{p:My}(d:br i=KO)(e:QI g m it t i)(f:QG g m tg t)(hb:xl g m b xs):QS g m (.e8 tg it b) (.For t i xs [] p):=λv X F a h=>(BE a h.calm (e v X F h) (f v X F h) (hb v X F a h) (iq d _)).ref λc=>aa (.refl _) λj=>mO j c
theorem FY{c:Ex}{b:aY}{x:K7}{xs:List MR}{p:My}(e:QT g m c x)(hb:xl g m b xs):QS g m (.IA c b) (.While x xs [] p):=λv X F a h=>(uU a (e v X F h) (hb v X F a h)).ref λd k Q E z=>⟨ig,ir ig d k Q E z⟩
theorem FZ{i j:Nat}{r:Ex}{x y:Lf}{a b:K7}{l k pt c p:My}{n o:Nat}(w:isAt m.N i x=KN)(u:isAt m.N j y=KN)(t:pB x m.sc.names=KE .local)(s:pB y m.sc.names=KE .local)(f:i≠j)(z:QA g m r [a,b])(q:MW [.Tuple [.Name x l,.Name y k] n pt] (.Tuple [a,b] o c) (sI m.sc)=pure (KE [x,y])):QS g m (.par i j r) (.Assign [.Tuple [.Name x l,.Name y k] n pt] (.Tuple [a,b] o c) p):=λv X F _ h=>(BC i j h.calm h.tF (z v X F h) f (λpa=>Az h.calm h.tF (h.at_ w) (h.at_ u) f (by rw[<-h.lk];exact t) (by rw[<-h.lk];exact s) pa ((oR (by rw[h.sc];rfl) _ _).trans q) (oQ _ _))).ref λC=>aa (.refl _) λB=>aa (.of_eq (cX B)) λA=>by match A with
  |[]=>exact .fail|[_]=>exact .fail|[d,e]=>exact .refl _|_::_::_::_=>exact .fail
theorem F0{st:MR}:QS g m .bad st:=λv X F _ h=>(DS.stuck h.hK).ref λa=>.fail
theorem CA{i:Nat}{r:Ex}{n:Lf}{a:List K7}{p b c:My}(q:eh m i n=KN)(d:QA g m r a):QS g m (.qi i r) (.Assign [.Name n b] (.List a c) p):=λv X F _ h=>by
 obtain⟨j,f,e⟩:=h.loc q;exact(yr i h.tF (d v X F h) j f e).ref λl=>aj (λz=>z)<|aa (.refl _) λk=>aa (.of_eq (cX k)) λo=>aj of_decide_eq_true (.refl _)
theorem CB{i:Nat}{n:Lf}{p a b:My}(q:eh m i n=KN):QS g m (.g9 i) (.Assign [.Name n a] (.Dict [] [] b) p):=λv X F _ h=>by
 obtain⟨e,d,c⟩:=h.loc q;exact(yt i h.tF h.hK e d c).ref λf=>aj (λz=>z) (.refl _)
theorem F1{i:Nat}{e:Ex}{x f:Lf}{a:K7}{np c b p:My}(n:sEq f "append"=KN)(l:b_ m i x=KN)(k:(c.endLine==b.line)=KN)(j:ax a=KO)(o:QE g m e a):QS g m (.app i e) (.Expr (.Call (.Attribute (.Name x np) f c) [a] [] b) p):=λv X F _ h=>by
 obtain rfl:=aT n;obtain⟨t,s,r,q⟩:=h.tX l;exact(BR i t s r q (o v X F h) k (aL j)).ref λu=>aE λd=>aa (dS d) λw=>aa (.refl _) λy=>aj of_decide_eq_true (.refl _)
theorem F2{i:Nat}{k e:Ex}{x:Lf}{b a:K7}{np sp p:My}(c:b_ m i x=KN)(f:QE g m k b)(j:QE g m e a):QS g m (.put i k e) (.Assign [.Subscript (.Name x np) b sp] a p):=λv X F _ h=>by
 obtain⟨r,q,n,l⟩:=h.tX c;have hu:X.A.units+2<L6:=by have:=h.un;omega
 exact(BS i hu h.hP h.hw r q n l (f v X F h) (j v X F h) (by unfold NX;cases a<;>rfl)).ref λs=>aa (.refl _) λd=>aE λo=>aa (tG o) λu=>aa (.refl _) λt=>aj (λz=>by
  rw[KW]at z;exact⟨of_decide_eq_true z.1,bK z.2⟩) (.refl _)
theorem F3{i:Nat}{e:Ex}{x f:Lf}{a:K7}{np c b p:My}(n:sEq f "extend"=KN)(l:b_ m i x=KN)(k:(c.endLine==b.line)=KN)(j:ax a=KO)(o:QE g m e a):QS g m (.ext i e) (.Expr (.Call (.Attribute (.Name x np) f c) [a] [] b) p):=λv X F _ h=>by
 obtain rfl:=aT n;obtain⟨t,s,r,q⟩:=h.tX l;exact(BU i t s r q (o v X F h) k (aL j)).ref λw=>aE λd=>aa (dS d) λz=>aa (.refl _) λu=>aa (dS u) λy=>aj of_decide_eq_true (.refl _)
theorem CC{i:Nat}{r:Ex}{n f b:Lf}{a:K7}{p x w u t s:My}(o:sEq f "list"=KN)(l:sEq b "range"=KN)(k:bX m f=KN)(e:bX m b=KN)(c:ax a=KO)(q:eh m i n=KN)(y:QA g m r [a]):QS g m (.vV i r) (.Assign [.Name n x] (.Call (.Name f w) [.Call (.Name b u) [a] [] t] [] s) p):=λv X F _ h=>by
 obtain rfl:=aT o;obtain rfl:=aT l;obtain⟨C,B,A⟩:=h.loc q;refine(yO i h.calm h.tF (y v X F h) (h.gl k).1 (h.bl _ (yX rfl)) (h.gl e).1 (h.bl _ (yX rfl)) (aL c) C B A).ref λG=>aj (λz=>z) (aa (.refl _) λE=>aa (.of_eq (cX E)) λD=>?_);match D with
 |[]=>exact .fail|[d]=>exact aa (be d) λj=>aj (λz=>by simp only[KW,decide_eq_true_eq]at z;exact z) (.refl _)|_::_::_=>exact .fail
theorem wo{ρ:ah}{i:Nat}(h:vZ i ρ=KN)(j:Nat)(w:W)(e:ρ[j]?=KE (KE w))(o:w.eQ=KN):j=i:=by
 by_cases a:i=j;.exact a.symm
 .have:=List.all_eq_true.mp h (KE w) (LR (i:=j) (by rw[MY a];exact e));simp only[o]at this;cases this
theorem CD{i:Nat}{n:Lf}{p a b:My}(q:eh m i n=KN):QS g m (.vW i) (.Assign [.Name n a] (.Dict [] [] b) p):=λv X F _ h=>by
 obtain⟨e,d,c⟩:=h.loc q;exact(yJ i h.tF h.hK e d c).ref λf=>aj (λz j w=>wo z j w) (.refl _)
theorem CF{i:Nat}{k:Ex}{x:Lf}{a:K7}{np sp b p:My}(q:b_ m i x=KN)(c:QE g m k a):QS g m (.putN i k) (.Assign [.Subscript (.Name x np) a sp] (.List [] b) p):=λv X F _ h=>by
 obtain⟨j,f,e,d⟩:=h.tX q;have hu:=h.un;exact(yK i (by omega) h.hP h.hw j f e d (c v X F h)).ref λl=>aE λn=>aa (.refl _) λq=>aj (λz=>by
  simp only[KW,decide_eq_true_eq,M1]at z;exact⟨z.1,bK z.2.1,z.2.2⟩) (.refl _)
theorem CG{i:Nat}{k e:Ex}{x f:Lf}{b a:K7}{np sp j c p:My}(s:sEq f "append"=KN)(r:b_ m i x=KN)(o:(j.endLine==c.line)=KN)(n:ax a=KO)(l:gL b=KO)(t:QE g m k b)(u:QE g m e a):QS g m (.ja i k e) (.Expr (.Call (.Attribute (.Subscript (.Name x np) b sp) f j) [a] [] c) p):=λv X F _ h=>by
 obtain rfl:=aT s;obtain⟨A,z,y,w⟩:=h.tX r;have hu:=h.un;exact(yL i (by omega) h.hP h.hw A z y w (t v X F h) (ki l) (u v X F h) o (aL n) (fx rfl)).ref λB=>aE λD=>aa (.refl _) λq=>aj bK (aE λd=>aa (dS d) λC=>aa (.refl _) λE=>aj of_decide_eq_true (.refl _))
theorem CH{i:Nat}{x:Lf}{np p:My}(q:b_ m i x=KN):QS g m (.vX i) (.Return (KE (.Name x np)) p):=λv X F _ h=>by
 obtain⟨d,c,b,a⟩:=h.tX q;exact(yP i h.hK d c b a).ref λe=>aE λf=>.refl _
theorem CI{i l:Nat}{b:List Nat}{k x f:Lf}{it e:Ex}{iter q:K7}{sc:MQ}{np w u kp p I:My}(n:oO m [k] b sc=KN)(G:br iter=KO)(E:sEq f "pop"=KN)(D:eh (e_ m [k] (cc m b) sc) 0 k=KN)(o:b_ (e_ m [k] (cc m b) sc) (1+l) x=KN)(B:(w.endLine==u.line)=KN)(A:ax q=KO)(z:b[l]?=KE i)(O:QI g m it (.Name k kp) iter)(P:QE g (e_ m [k] (cc m b) sc) e q):QS g m (.vY i l b k it e) (.Return (KE (.ListComp (.Call (.Attribute (.Name x np) f w) [q] [] u) [⟨.Name k kp,iter,[],0⟩] sc I)) p):=λv X F _ h=>by
 obtain rfl:=aT E;obtain⟨b1,T,S,R⟩:=wb h n;have t:∀a j C c s H,(eP X a sc ([k]++cc m b) j C c s H).N[1+l]?=KE x/\m_ (eP X a sc ([k]++cc m b) j C c s H).env.scope x/\(x==("__debug__":Lf))=KO/\(x==("__classdict__":Lf))=KO:=λa j C c s H=>(h.eP n a j C c s H).tX o;have pn:=ij (x:=x) (by simp only[b_,KW]at o;exact o.1.2);refine(yQ i l (cc m b) b h.calm b1 T S R z (O v X F h) (λa j C c s H=>?_) (λa j C c s H=>⟨(t a j C c s H).1,(t a j C c s H).2.1⟩) pn.1 pn.2.1 (λa j C c s H=>P _ _ _ (h.eP n a j C c s H)) B (λenv=>aL A) (iq G _)).ref λy=>aE λd=>aa (dS d) λJ=>aa (.refl _) λQ=>aa (rW y i b Q J) λr=>.refl _;have hb:=h.eP n a j C c s H;obtain⟨M,L,K⟩:=hb.loc D;exact ma (i:=0) (by rw[hb.hN];exact hb.nd) M L K
theorem IQ{i:Nat}{s:aY}{st:MR}(a:QS g m s st):QS g m (.fz i s) st:=λv X F b h=>((a v X F b h).fz i).ref λc=>.refl _
theorem Ko:xl g m .nil []:=λv X F _ h=>(xY h.hK).ref λa=>.refl _
theorem Kq{s r:aY}{x:MR}{xs:List MR}(b:QS g m s x)(c:xl g m r xs):xl g m (.cons s r) (x::xs):=λv X F a h=>(uT (b v X F a h) (c v X F a h)).ref λe=>aa (.refl _) λd=>by cases d<;>exact .refl _
end
noncomputable def cU(g:dE)(m:MC):(ex:Ex)->(e:K7)->Ch (QU g m ex e)
 |.lc own d l i c a,e=>match e with
  |.ListComp x r sc p=>JQ (cI g m i) (cC g (e_ m own (cc m d) sc) c) (cE g (e_ m own (cc m d) sc) a x)|_=>.n
 |.bad,_=>.y λv X F h=>⟨h.hK,λb s j H I=>⟨λQ⟨f,k,S,z⟩=>z.elim,λx q o gt D _ _⟨f,k,S,z⟩=>z.elim⟩⟩|_,_=>.n
noncomputable def IS(g:dE)(m:MC)(i:Nat)(e:Ex)(n:Lf)(c p:My)(x:K7):Ch (QS g m (.set i e) (.Assign [.Name n c] x p)):=(cb (eh m i n)).b λq=>match h:oP m n c x with
  |true=>(cU g m e x).b λa=>.y (Cz q a h)|false=>(cE g m e x).b λa=>.y (FU q a h)
mutual
noncomputable def cS(g:dE)(m:MC):(s:aY)->(st:MR)->Ch (QS g m s st)
 |.asg H e,st=>match st with
  |.Assign [.Tuple K k G] x _=>(cG g m H (.Tuple K k G)).b λh=>(cE g m e x).b λu=>(cN (MW [.Tuple K k G] x (sI m.sc))).b λq=>.y (FT h u q)|_=>.n
 |.set i e,st=>match st with
  |.Assign [.Name n G] x p=>IS g m i e n G p x|_=>.n
 |.ret e,st=>match st with
  |.Return (KE x) _=>(cE g m e x).b λh=>.y (FV h)|_=>.n
 |.iff c a b,st=>match st with
  |.If x C P _=>(cT g m c x).b λh=>(CJ g m a C).b λF=>(CJ g m b P).b λu=>.y (FW h F u)|_=>.n
 |.e8 H J b,st=>match st with
  |.For t i C [] _=>(cn (br i)).b λq=>(cI g m J t i).b λh=>(cG g m H t).b λF=>(CJ g m b C).b λu=>.y (FX q h F u)|_=>.n
 |.IA c b,st=>match st with
  |.While x C [] _=>(cT g m c x).b λh=>(CJ g m b C).b λF=>.y (FY h F)|_=>.n
 |.par i j r,st=>match st with
  |.Assign [.Tuple [.Name x W,.Name y V] X pt] (.Tuple [a,b] Y I) _=>(cb (isAt m.N i x)).b λD=>(cb (isAt m.N j y)).b λo=>(JR x .local m.sc.names).b λl=>(JR y .local m.sc.names).b λd=>(cd (i≠j)).b λv=>(cA g m r [a,b]).b λh=>(Kn x y (MW [.Tuple [.Name x W,.Name y V] X pt] (.Tuple [a,b] Y I) (sI m.sc))).b λq=>.y (FZ D o l d v h q)|_=>.n
 |.bad,_=>.y F0|.qi i r,st=>match st with
  |.Assign [.Name n _] (.List Z _) _=>(cb (eh m i n)).b λq=>(cA g m r Z).b λh=>.y (CA q h)|_=>.n
 |.g9 i,st=>match st with
  |.Assign [.Name n _] (.Dict [] [] _) _=>(cb (eh m i n)).b λq=>.y (CB q)|_=>.n
 |.app i e,st=>match st with
  |.Expr (.Call (.Attribute (.Name x _) f A) [a] [] z) _=>(cb (sEq f "append")).b λq=>(cb (b_ m i x)).b λo=>(cb (A.endLine==z.line)).b λl=>(cn (ax a)).b λd=>(cE g m e a).b λh=>.y (F1 q o l d h)|_=>.n
 |.put i k e,st=>match st with
  |.Assign [.Subscript (.Name x _) B _] Q _=>(cb (b_ m i x)).b λq=>(cE g m k B).b λh=>(cE g m e Q).b λu=>.y (F2 q h u)|_=>.n
 |.fz _ s,st=>(cS g m s st).b λh=>.y (IQ h)|.ext i e,st=>match st with
  |.Expr (.Call (.Attribute (.Name x _) f A) [a] [] z) _=>(cb (sEq f "extend")).b λq=>(cb (b_ m i x)).b λo=>(cb (A.endLine==z.line)).b λl=>(cn (ax a)).b λd=>(cE g m e a).b λh=>.y (F3 q o l d h)|_=>.n
 |.vV i r,st=>match st with
  |.Assign [.Name n _] (.Call (.Name f _) [.Call (.Name M _) [a] [] _] [] _) _=>(cb (sEq f "list")).b λD=>(cb (sEq M "range")).b λo=>(cb (bX m f)).b λl=>(cb (bX m M)).b λd=>(cn (ax a)).b λv=>(cb (eh m i n)).b λq=>(cA g m r [a]).b λh=>.y (CC D o l d v q h)|_=>.n
 |.vW i,st=>match st with
  |.Assign [.Name n _] (.Dict [] [] _) _=>(cb (eh m i n)).b λq=>.y (CD q)|_=>.n
 |.putN i k,st=>match st with
  |.Assign [.Subscript (.Name x _) B _] (.List [] _) _=>(cb (b_ m i x)).b λq=>(cE g m k B).b λh=>.y (CF q h)|_=>.n
 |.ja i k e,st=>match st with
  |.Expr (.Call (.Attribute (.Subscript (.Name x _) B _) f A) [a] [] z) _=>(cb (sEq f "append")).b λq=>(cb (b_ m i x)).b λo=>(cb (A.endLine==z.line)).b λl=>(cn (ax a)).b λd=>(cn (gL B)).b λv=>(cE g m k B).b λh=>(cE g m e a).b λu=>.y (CG q o l d v h u)|_=>.n
 |.vX i,st=>match st with
  |.Return (KE (.Name x _)) _=>(cb (b_ m i x)).b λq=>.y (CH q)|_=>.n
 |.vY i L E k J e,st=>match st with
  |.Return (KE (.ListComp (.Call (.Attribute (.Name x _) f A) [O] [] z) [⟨.Name w kp,iter,[],0⟩] sc _)) _=>(cb (sEq w k)).b λU=>(cb (oO m [w] E sc)).b λD=>(cn (br iter)).b λo=>(cb (sEq f "pop")).b λl=>(cb (eh (e_ m [w] (cc m E) sc) 0 w)).b λd=>(cb (b_ (e_ m [w] (cc m E) sc) (1+L) x)).b λv=>(cb (A.endLine==z.line)).b λT=>(cn (ax O)).b λS=>(cd (E[L]?=KE i)).b λR=>(cI g m J (.Name w kp) iter).b λh=>(cE g (e_ m [w] (cc m E) sc) e O).b λu=>.y (by rw[<-aT U];exact CI D o l d v T S R h u)|_=>.n
 |_,_=>.n
noncomputable def CJ(g:dE)(m:MC):(s:aY)->(a:List MR)->Ch (xl g m s a)
 |.nil,c=>match c with
  |[]=>.y Ko|_=>.n
 |.cons s r,c=>match c with
  |x::d=>(cS g m s x).b λh=>(CJ g m r d).b λe=>.y (Kq h e)|[]=>.n
 |_,_=>.n
end
structure CK(P:Lb)(K:KZ)(mg:Lf->Option KJ)(g:dE)(x:Lf)(d:Df):Prop where ex:∃(y qual:Lf)(st:MR)(f:KS)(fd:Ml)(N ps:List Lf),uA K y qual st f fd/\cg N ps (ak st)/\Binds K fd ps []/\mg x=KE (.ref f)/\ps.length=d.np/\N.length=d.nn/\xl g ⟨N,ak st,KN,[]⟩ d.body (bR st)
structure DL(P:Lb)(w:Lv)(K:KZ)(mg:Lf->Option KJ)(base:Lu)(x:Lf)(np:Nat)(t:List A->T Rs):Prop where
 ok:mo P w K mg base x np 1 (λas=>(t as).aN)len:∀as,as.length≠np->t as=.stuck
inductive Dk where|df(d:Df)|wit(t:List A->T Rs)
structure Gv where iQ:Nat->Option D
noncomputable def Gv.ev(b:Gv)(call:Nat->List A->T Rs):Ev:=⟨call,b.iQ⟩
noncomputable def aG(defs:List Dk)(b:Gv):Nat->Nat->List A->T Rs
 |0,_,_=>.stuck|n+1,f,a=>match defs[f]? with
  |none=>.stuck|some (.wit t)=>t a|some (.df d)=>if a.length=d.np then do DJ (<-au (b.ev (aG defs b n)) d.body (bW d.nn a))else .stuck
noncomputable def aV(defs:List Dk)(b:Gv)(n f:Nat)(as:List A):T D:=aG defs b n f as>>=toD
noncomputable def rX(defs:List Dk)(b:Gv)(n f:Nat)(as:List A):T D:=aG defs b n f as>>=Fe
structure iR(P:Lb)(w:Lv)(K:KZ)(mg:Lf->Option KJ)(base:Lu)(g:dE)(defs:List Dk)(b:Gv):Prop where
 bl:∀x∈cV,mg x=KL
 df:∀(f:Nat)(x:Lf),g.dn[f]?=KE x->(∃d,defs[f]?=KE (Dk.df d)/\CK P K mg g x d)\/(∃t np,defs[f]?=KE (Dk.wit t)/\DL P w K mg base x np t)co:∀(i:Nat)(x:Lf)(d:D),g.gn[i]?=KE x->b.iQ i=KE d->∃u v,mg x=KE u/\RelV v u/\∀(p:KS)(H:Hp),H p≠KL->K.lookup p=KL->Is ⟨K,p,P,w⟩ H v d
section
variable{P:Lb}{w:Lv}{K:KZ}{mg:Lf->Option KJ}{base:Lu}{g:dE}{defs:List Dk}{b:Gv}
theorem mark_none{A:Lz}(h:A.handled=KL):A.mark KL=A:=by
 cases A;simp only[Around.mark]at*;simp_all
theorem iR.all(h:iR P w K mg base g defs b):∀(n f:Nat)(x:Lf),g.dn[f]?=KE x->∃np,mo P w K mg base x np n (λas=>(aG defs b n f as).aN)/\∀as,as.length≠np->aG defs b n f as=.stuck
 |0,f,x,C=>by
  rcases h.df f x C with⟨d,hd,⟨y,a,st,l,fd,N,ps,F,S,B,G,D,Z,Y⟩⟩|⟨t,np,hd,W⟩
  .refine⟨ps.length,⟨ps,rfl,l,fd,⟨λL H Q E z=>?_,λA outer s H J q L Q E c e0 hb r z=>?_⟩,G,F.kp,B⟩,λ_ _=>rfl⟩;.obtain⟨p,k,as,H0,q,bs,_,_,_,_,_,z⟩:=z;exact z.elim
   .obtain⟨p,k,as,H0,q,bs,_,_,_,_,_,z⟩:=z;exact z.elim
  .obtain⟨ps,j,l,fd,FN,G,hk,hb⟩:=W.ok;refine⟨ps.length,⟨ps,rfl,l,fd,⟨λL H Q E z=>?_,λA outer s H J q L Q E c e0 hb r z=>?_⟩,G,hk,hb⟩,λ_ _=>rfl⟩;.obtain⟨p,k,as,H0,q,bs,_,_,_,_,_,z⟩:=z;exact z.elim
   .obtain⟨p,k,as,H0,q,bs,_,_,_,_,_,z⟩:=z;exact z.elim|n+1,f,x,C=>by
  rcases h.df f x C with⟨d,hd,⟨y,a,st,l,fd,N,ps,F,S,B,G,D,Z,Y⟩⟩|⟨t,np,hd,W⟩
  .have I:∀as,aG defs b (n+1) f as=if as.length=d.np then do DJ (<-au (b.ev (aG defs b n)) d.body (bW d.nn as))else .stuck:=λas=>by
    show(match defs[f]? with
     |none=>T.stuck|some (.wit t)=>t as|some (.df d)=>if as.length=d.np then do DJ (<-au (b.ev (aG defs b n)) d.body (bW d.nn as))else .stuck)=_;rw[hd]
   refine⟨d.np,⟨ps,D,l,fd,?_,G,F.kp,B⟩,λas j=>by rw[I,if_neg j]⟩;refine F.Kg (k:=n) S D λV A' outer s H H0 p k0 c=>?_;have xc:XC g (b.ev (aG defs b n)) ⟨N,ak st,KN,[]⟩ (kM pj P w K mg base N a (ak st) l V A' outer s H E0).Dw ⟨⟨K,p,P,w⟩,H0,k0,λ_ _=>False,H0,k0⟩:=⟨rfl,rfl,rfl,rfl,S.nd,rfl,rfl,c.units,λ_ _=>rfl,(λ_ z=>nomatch z),mark_none c.hd,h.bl,λf' x' O=>by
     obtain⟨np,U,R⟩:=iR.all h n f' x' O;exact⟨np,n,c,U,R⟩,c.gd,λi x d C hd=>let⟨u,v,U,R,h3⟩:=h.co i x d C hd;⟨u,v,U,R,λH hH D=>h3 p H hH D⟩⟩;refine⟨_,Y _ _ _ PassesOwn.never xc,λas Q j z=>?_⟩;rw[I,if_pos j,T.cz]at z;have e:d9 N as=bW d.nn as:=by unfold d9 bW;rw[Z]
   rw[e];refine M.wk (m:=(au (b.ev (aG defs b n)) d.body (bW d.nn as)).aN) z λfl k' o=>?_;cases fl with
   |rt d=>exact o|ro d=>exact o|nx X=>exact o|bk X=>exact o|ct X=>exact o
  .have I:∀as,aG defs b (n+1) f as=t as:=λas=>by
    show(match defs[f]? with
     |none=>T.stuck|some (.wit t)=>t as|some (.df d)=>if as.length=d.np then do DJ (<-au (b.ev (aG defs b n)) d.body (bW d.nn as))else .stuck)=_;rw[hd]
   refine⟨np,?_,λas j=>by rw[I];exact W.len as j⟩;have:(λas=>(aG defs b (n+1) f as).aN)=λas=>(t as).aN:=by funext as;rw[I]
   rw[this];exact W.ok.mono (by omega)
end
end L2
end
section
namespace K40d
open PySem L2
noncomputable def CL(i:Nat):MR:=PySem.Challenge.pw_wallplan_k40_openings_made.main.body.getD i (.Pass ⟨0,0,0,0⟩)
noncomputable abbrev oS:MR:=CL 16
noncomputable abbrev wq:MR:=CL 15
noncomputable abbrev oT:MR:=CL 29
noncomputable def DM(p:KS)(H H':Hp):Prop:=∀b,b≠p->H' b=H b
theorem DM.upd{p:KS}{H:Hp}{o:HO}:DM p H (upd H p o):=λ_ h=>af h
noncomputable def CM:Sp:=λb H Q _=>∃(p q:KS)(n:Int)(k:Nat),b=[.ref p,.int n]/\jB H p q k/\k<1000000/\0<n/\n<1073741824/\∀(z:Int)(a:Hp),0<=z->z<n->jB a p q (k+1)->DM p H a->Q (.int z) a
section
variable{P:Lb}{w:Lv}{K:KZ}{mg:Lf->Option KJ}{base:Lu}
theorem CN:cg ["_law_script"] ["_law_script"] (ak wq):=⟨rfl,rfl,rfl,by decide+kernel,rfl,by decide+kernel,by decide+kernel⟩
theorem fW:cg ["_law_feed_here","_law_many","_law_got","_law_at","_law_cell","_law_number"] ["_law_feed_here","_law_many"] (ak oS):=⟨rfl,rfl,rfl,by decide+kernel,rfl,by decide+kernel,by decide+kernel⟩
theorem GW{a b c:V}:fw [a,b,c] 0=KE a:=dk (j:=0) rfl
theorem Kr{a b c:V}:fw [a,b,c] 1=KE b:=dk (j:=1) rfl
theorem at2{a b c:V}:fw [a,b,c] 2=KE c:=dk (j:=2) rfl
theorem bS.CO{H:Hp}{p q:KS}{ns:List Int}{i r:Int}(F:bS H p q ns i r){i' a:Int}(d:0<=i')(b:0<=a):bS (upd H p (.lst [.ref q,.int i',.int a])) p q ns i' a:=let⟨o,c⟩:=F.cs;⟨ai,⟨o,by rw[af F.ne];exact c⟩,F.ne,d,b,F.ln⟩
theorem bS.sq{K:KZ}{H:Hp}{p q:KS}{ns:List Int}{i r:Int}(F:bS H p q ns i r):dF K H q (ns.map V.int):=.inl (.inr F.cs)
theorem y7{ns:List Int}{i:Int}(a:(0:Int)<((ns.map V.int).length:Int)):∃c,fw (ns.map V.int) (i%((ns.map V.int).length:Int))=KE (.int c):=by
 have f:=Oz i a;have d:=Pa i (show((ns.map V.int).length:Int)≠0 by omega);have e:((i%((ns.map V.int).length:Int)).toNat:Int)=i%((ns.map V.int).length:Int):=by omega
 have b:(ns.map V.int).length=ns.length:=Lq ..;have hlt:(i%((ns.map V.int).length:Int)).toNat<ns.length:=by omega
 rw[<-e];refine⟨ns[(i%((ns.map V.int).length:Int)).toNat]'hlt,dk ?_⟩;rw[Lr,Lk hlt];rfl
theorem y8{f:KS}{fd:Ml}(F:uA K "_law_draw" "_law_draw" oS f fd)(e:mg "len"=KL):dI P w K mg base pj 1 f fd ["_law_feed_here","_law_many"] CM:=by
 refine F.ok fW (λC H Q E h=>?_) (λM A outer s H C Q E D h=>?_)
 .obtain⟨p,q,n,k,rfl,_⟩:=h;rfl
 .obtain⟨p,q,n,k,rfl,⟨ns,i,r,G,I⟩,N,d,m,u⟩:=h;have hu:=El D;refine⟨_,aZ (qP (fu uf (eO cq (pv 0) aA (λ_ _=>rfl)) aA (gW _)) (aZ (cD (i:=2) fW.nd rfl (OL rfl) (bf dw (eO cq (pv 0) aA (λ_ _=>rfl)) (pv 1))) (aZ (md (bf me (eO cq (pv 0) aA (λ_ _=>rfl)) (pv 1)) (pC (pv 0) aA set_list)) (gm (fO (pv 2))))) jd) (aZ (cD (i:=3) fW.nd rfl (OL rfl) (eO cq (pv 0) aA (λ_ _=>rfl))) (aZ (md (bf jo (pv 3) aA) (pC (pv 0) aA set_list)) (aZ (cD (i:=4) fW.nd rfl (OL rfl) (pv 3)) (aZ (qP (fu uf (eN d5 (by rfl) e Rk (aP (eO cq (pv 0) aA (λ_ _=>rfl)) bQ)) aA (gW _)) (gm (cD (i:=4) fW.nd rfl (OL rfl) (eO cq (eO cq (pv 0) aA (λ_ _=>rfl)) (bf dw (pv 3) (eN d5 (by rfl) e Rk (aP (eO cq (pv 0) aA (λ_ _=>rfl)) bQ))) (λ_ _=>rfl)))) jd) (aZ (qP (t8 (fu Ed (pv 4) (bf ud aA aA) (gW _)) (qO (fu zF (pv 3) (eN d5 (by rfl) e Rk (aP (eO cq (pv 0) aA (λ_ _=>rfl)) bQ)) (gW _)))).pt (aZ (md (bf me (pv 4) (pv 1)) (pC (pv 0) aA set_list)) (gm (fO (bf dw (pv 4) (pv 1))))) jd) (aZ (cD (i:=5) fW.nd rfl (OL rfl) (bf dw (bf fP (bf jo (bf jo (bf dw (pv 4) aA) (bf fP (bf fP aA (pv 3)) (pv 3))) aA) aA) aA)) (aZ (cD (i:=5) fW.nd rfl (OL rfl) (bf dw (bf jo (bf fP (pv 5) (pv 5)) (bf fP aA (pv 3))) aA)) (gm (fO (bf dw (bf me (bf dw (bf fP (pv 5) (bf jo (bf dw (pv 5) aA) aA)) aA) aA) (pv 1))))))))))),?_⟩;refine⟨_,rfl,p,_,_,_,rfl,rfl,dF.of G.ob,at2,_,_,rfl,rfl,_,rfl,?_⟩;refine xG (λL=>?_) (λL=>?_)
  .refine⟨_,rfl,p,_,_,_,rfl,rfl,dF.of G.ob,at2,_,rfl,_,_,rfl,rfl,d,?_⟩;refine⟨_,rfl,p,_,_,_,rfl,rfl,dF.of G.ob,at2,_,rfl,_,_,rfl,rfl,⟨d,m⟩,_,rfl,p,_,_,2,rfl,rfl,G.ob,rfl,?_⟩;refine⟨_,rfl,?_⟩;exact u _ _ (Pa _ (by omega)) (Oz _ d) ⟨ns,i,_,bS.CO G G.i0 (Int.ediv_nonneg G.r0 (by omega)),by omega⟩ DM.upd
  .have i0:=G.i0;refine⟨_,rfl,p,_,_,_,rfl,rfl,dF.of G.ob,Kr,?_⟩;refine⟨_,rfl,_,_,rfl,rfl,_,rfl,p,_,_,1,rfl,rfl,G.ob,rfl,?_⟩;have g:bS (upd H p (.lst [.ref q,.int (i+1),.int r])) p q ns (i+1) r:=bS.CO G (by omega) G.r0;refine⟨_,rfl,?_⟩;refine⟨_,rfl,p,_,_,_,rfl,rfl,dF.of g.ob,GW,q,_,rfl,.inl ((bS.sq g)),_,_,rfl,rfl,_,rfl,?_⟩;refine xG (λB=>?a) (λB=>?b);case' a=>
    have l:(0:Int)<((ns.map V.int).length:Int):=of_decide_eq_true B;obtain⟨c,o⟩:=y7 (i:=i) l;refine⟨_,rfl,p,_,_,_,rfl,rfl,dF.of g.ob,GW,_,rfl,_,rfl,p,_,_,_,rfl,rfl,dF.of g.ob,GW,q,_,rfl,.inl ((bS.sq g)),_,_,rfl,rfl,l,q,_,_,_,rfl,rfl,(bS.sq g),o,?_⟩;clear o
   all_goals
    refine⟨_,rfl,_,_,rfl,rfl,⟨by decide,by decide,by decide⟩,_,_,rfl,rfl,_,rfl,?_⟩;refine(λj=>xG (λz=>?x) (λz=>HP j)) ?y;case x=>
     refine⟨_,rfl,_,rfl,p,_,_,_,rfl,rfl,dF.of g.ob,GW,q,_,rfl,.inl ((bS.sq g)),_,_,rfl,rfl,_,rfl,?_⟩;refine xG (λJ=>?_) (λJ=>j);refine⟨_,rfl,_,rfl,_,_,rfl,rfl,⟨d,m⟩,_,rfl,p,_,_,2,rfl,rfl,g.ob,rfl,?_⟩;refine⟨_,rfl,_,rfl,_,_,rfl,rfl,d,?_⟩;have v:=of_decide_eq_true z;have t:(0:Int)<=10^(Int.toNat 18):=by decide
     refine u _ _ (Pa _ (by omega)) (Oz _ d) ⟨ns,i+1,_,(by rw[cf];exact bS.CO G (by omega) (Int.ediv_nonneg (Int.le_trans t v) (by omega))),by omega⟩ (by rw[cf];exact DM.upd)
    case y=>
     refine⟨_,rfl,_,_,rfl,rfl,(by show(0:Int)<2147483647;decide),_,rfl,_,_,rfl,rfl,.inl ⟨by decide,by decide⟩,_,rfl,_,_,rfl,rfl,.inr ⟨by omega,by omega⟩,_,_,rfl,rfl,_,_,rfl,rfl,_,_,rfl,rfl,.inr ⟨by decide,by decide⟩,_,_,rfl,rfl,(by show(0:Int)<2147483647;decide),?_⟩;refine⟨_,rfl,_,rfl,_,_,rfl,rfl,.inl ⟨by omega,by omega⟩,_,rfl,_,_,rfl,rfl,.inl ⟨by decide,by decide⟩,_,_,rfl,rfl,_,_,rfl,rfl,(by show(0:Int)<2147483629;decide),?_⟩;refine⟨_,rfl,_,rfl,_,_,rfl,rfl,(by show(0:Int)<65521;decide),_,_,rfl,rfl,_,_,rfl,rfl,.inl ⟨by omega,by omega⟩,_,_,rfl,rfl,(by show(0:Int)<2147483587;decide),_,_,rfl,rfl,⟨by decide,by decide⟩,_,rfl,_,_,rfl,rfl,d,?_⟩;exact u _ _ (Pa _ (by omega)) (Oz _ d) ⟨ns,i+1,r,g,by omega⟩ DM.upd
noncomputable def rY:List A->T Rs
 |[.feed,.d (.int n)]=>.draw n λi=>.ok (.d (.int i))|_=>.stuck
theorem iS{d c:Type}{R:d->c->Prop}{l:List d}{y:c}{ys:List c}(h:Paired R l (y::ys)):∃x xs,l=x::xs/\R x y/\Paired R xs ys:=by cases h with|cons a b=>exact⟨_,_,rfl,a,b⟩
theorem qk{b a:Type}{R:b->a->Prop}{l:List b}(h:Paired R l ([]:List a)):l=[]:=by cases h;rfl
theorem wt{f:KS}{fd:Ml}(F:uA K "_law_draw" "_law_draw" oS f fd)(j:mg "len"=KL)(M:mg "_law_draw"=KE (.ref f))(Z:Binds K fd ["_law_feed_here","_law_many"] []):DL P w K mg base "_law_draw" 2 rY:=by
 refine⟨⟨["_law_feed_here","_law_many"],rfl,f,fd,(y8 F j).imp λvs H Q E z=>?_,M,F.kp,Z⟩,λm c=>?_⟩
 .obtain⟨p,k,m,H0,us,bs,ev,hp,v,I,c,z⟩:=z;rcases I with⟨rfl,rfl,V⟩|⟨a,d,rfl,rfl,_⟩;rotate_left
  .exfalso;match m,z with
   |[],z=>exact absurd c (by simp)|[a1],z=>cases a1<;>exact z.elim|_::_::_,z=>exact absurd c (by simp)
  subst V;rw[LB]at ev c z;rw[<-ev]at v;clear ev;rcases m with _|⟨a1,_|⟨X,_|⟨a3,r⟩⟩⟩;.exact absurd c (by simp)
  .exact absurd c (by simp)
  rotate_left;.exact absurd c (by simp)
  cases a1 with
  |d y=>exact MJ z|own y=>exact MJ z|feed=>cases X with
  |feed=>exact MJ z|own y=>exact MJ z|d y=>cases y with
  |int n=>
   obtain⟨v1,D,rfl,L,s⟩:=iS v;obtain⟨v2,C,rfl,l,J⟩:=iS s;obtain rfl:=qk J;obtain⟨rfl,q,x⟩:=L;have l:Is ⟨K,p,P,w⟩ H0 _ (.int n):=l;simp only[Is]at l;subst l;obtain⟨⟨u,t⟩,hk,z⟩:=z;refine⟨p,q,n,k,rfl,x,by omega,u,t,λi Y O N B W=>?_⟩;refine z (k+1) (by omega) (by omega) i ⟨O,N⟩ (.int i) Y ⟨λb o hb e=>by rw[W b hb];exact e,λ_=>?_,by omega,λG T=>?_⟩ (by simp only[Is])
   .obtain⟨ns,i',r',g,_⟩:=B;exactλe=>by rw[g.ob]at e;cases e
   .have:G=q:=by
     obtain⟨_,_,_,S,_⟩:=T;obtain⟨_,_,_,R,_⟩:=x;have U:=S.ob;have h:=R.ob;rw[U]at h;injection h with h;injection h with h;injection h with h _;injection h
    rw[this];exact B|_=>exact MJ z
 .match m with
  |[]=>rfl|[_]=>cases‹A›<;>rfl|[_,_]=>exact absurd rfl c|.d _::_::_::_=>rfl|.feed::.feed::_::_=>rfl|.feed::.own _::_::_=>rfl|.own _::_::_::_=>rfl|.feed::.d y::_::_=>cases y<;>rfl
end
end K40d
end
section
namespace L2
open PySem PySem.Spec PyProof.Rows
noncomputable def CP(fd:Ml):Option (List MR):=match fd.body,fd.closure,fd.defaults with
 |.stmts b,[],.none=>if So fd.globals LQ&&So fd.builtins Qi then KE b else KL|_,_,_=>KL
theorem wu{fd:Ml}{b:List MR}(h:CP fd=KE b):fd=Qo fd.name fd.qualname fd.params b fd.scope .none fd.kwdefaults fd.doc fd.pyModule fd.annotations fd.code fd.closureTuple:=by
 obtain⟨a1,v,u,t,s,r,q,p,o,n,m,l,k,j,i⟩:=fd;unfold CP at h;split at h
 .rename_i e d c;dsimp only at e d c h;split at h
  .rename_i a;rw[KW]at a;cases h;subst e d c;have g:=Np a.1;have f:=Np a.2;subst g f;rfl
  .cases h
 .cases h
noncomputable def wx(fd:Ml)(b:List MR):MR:=.FunctionDef fd.name fd.params b [] KL [] fd.scope KL fd.name ⟨0,0,0,0⟩
theorem wy{K:KZ}{f:KS}{d:KJ}{c:Option KS}{fd:Ml}{a:Array (Option KJ)}{b:List MR}(l:K.lookup f=KE ⟨d,c,.func fd,a⟩)(h:CP fd=KE b)(e:OI K fd.code fd.qualname=KN):uA K fd.name fd.qualname (wx fd b) f fd:=by
 refine⟨⟨d,c,_,_,_,_,_,_,a,wu h,l,e⟩,?_⟩;unfold N6;dsimp only;rw[l]
noncomputable def wz:List Lf->List Lf->Bool
 |[],[]=>KN|x::b,y::a=>sEq x y&&wz b a|_,_=>KO
theorem mP:∀{xs ys:List Lf},wz xs ys=KN->xs=ys
 |[],[],_=>rfl|[],_::_,h=>by cases h|_::_,[],h=>by cases h|x::xs,y::ys,h=>by
  simp only[wz,KW]at h;rw[aT h.1,mP h.2]
noncomputable def F4:ScopeKind->Bool
 |.function=>KN|_=>KO
noncomputable def GX(N ps:List Lf)(sc:MQ):Bool:=F4 sc.kind&&!sc.isCoroutine&&!sc.isGenerator&&DK N&&wz (N.take ps.length) ps&&(ps.all λx=>match pB x sc.names with|some .local=>KN|some .cell=>KN|_=>KO)&&sc.names.all λy=>match y.2 with|.free=>KO|_=>KN
theorem wA{N ps:List Lf}{sc:MQ}(h:GX N ps sc=KN):cg N ps sc:=by
 simp only[GX,KW,M1,Me]at h;obtain⟨⟨⟨⟨⟨⟨a,k⟩,j⟩,i⟩,g⟩,f⟩,d⟩:=h;refine⟨?_,k,j,fG i,mP g,λx c=>?_,λy b z=>?_⟩;.cases e:sc.kind<;>rw[e]at a<;>first|rfl|cases a
 .have:=f x c;rw[kf]at this;split at this;.rename_i e;exact .inl e
  .rename_i e;exact .inr e
  .cases this
 .have:=d y b;rw[z]at this;cases this
noncomputable def oU(p:P4)(ps:List Lf):Bool:=p.posonlyargs.isEmpty&&wz (p.args.map (·.arg)) ps&&p.vararg.isNone&&p.kwonlyargs.isEmpty&&p.kwarg.isNone&&DK ps
theorem ko:∀{ps:List Lf}{us:List KJ},ps.Nodup->us.length=ps.length->(ps.filterMap λn=>((ps.zip us).lookup n).map (n,·))=ps.zip us
 |[],[],_,_=>rfl|[],_::_,_,h=>by simp at h|_::_,[],_,h=>by simp at h|p::ps,u::us,nd,h=>by
  obtain⟨n1,n2⟩:=List.nodup_cons.mp nd;have d:=ko n2 (us:=us) (by simpa using h);rw[MF,M7];simp only[List.lookup_cons_self,Mq];congr 1;refine Eq.trans ?_ d;have a:∀(l:List Lf),(∀n∈l,n≠p)->l.filterMap (λn=>(((p,u)::ps.zip us).lookup n).map (n,·))=l.filterMap λn=>((ps.zip us).lookup n).map (n,·):=by
   intro l;induction l with
   |nil=>intro _;rfl|cons n l b=>
    intro c;have e:((p,u)::ps.zip us).lookup n=(ps.zip us).lookup n:=by
     rw[LD];have:(n==p)=KO:=by
      rw[beq_eq_false_iff_ne];exact c n K2
     rw[this]
    rw[M7,M7,e,b λm g=>c m (K1 _ g)]
  exact a ps λn f e=>n1 (e▸f)
theorem lookup_some:∀{ps:List Lf}{us:List KJ}{n:Lf},us.length=ps.length->n∈ps->((ps.zip us).lookup n).isNone=KO
 |[],_,_,_,h=>nomatch h|_::_,[],_,h,_=>by simp at h|p::ps,u::us,n,h,a=>by
  rw[MF,LD];cases e:n==p with
  |true=>rfl|false=>
   have:n∈ps:=by
    rcases List.mem_cons.mp a with rfl|h;.simp at e
    .exact h
   exact lookup_some (by simpa using h) this
theorem bind_eq{fd:Ml}{b:List MR}{ps:List Lf}(h:CP fd=KE b)(k:oU fd.params ps=KN)(us:List KJ)(j:us.length=ps.length):RX fd ⟨us,[]⟩=pure (ps.zip us):=by
 simp only[oU,KW]at k;obtain⟨⟨⟨⟨⟨i,g⟩,f⟩,d⟩,c⟩,q⟩:=k;have e:=wu h;have hd:fd.defaults=.none:=by rw[e]
 obtain⟨⟨x,w,v,u,t,s,r⟩,a⟩:∃p:P4,fd.params=p:=⟨_,rfl⟩;rw[a]at i g f d c;dsimp only at i g f d c;have i:=List.isEmpty_iff.mp i;have f:=Option.isNone_iff_eq_none.mp f;have d:=List.isEmpty_iff.mp d;have c:=Option.isNone_iff_eq_none.mp c;have g:=mP g;subst i f d c;have nd:=fG q;unfold RX;rw[a,hd];dsimp only;rw[g];simp only[Nd,List.nil_append,LB];have l:seqItems? ME=pure KL:=rfl;have o:((ps.take ps.length).filter λn=>((ps.zip us).lookup n).isNone)=[]:=by
  rw[List.take_length];refine List.filter_eq_nil_iff.mpr λn m=>?_;rw[lookup_some j m];exact La
 rw[NJ,pure_bind,l,pure_bind];dsimp only;simp only[P7,Ma,Nat.zero_sub,Nat.sub_zero,List.drop_nil,o];rw[if_neg (by rw[j];simp)];simp only[List.isEmpty_nil,LS,K_,if_false,RI,NJ,pure_bind];rw[ko nd j]
theorem wB{K:KZ}{fd:Ml}{b:List MR}{ps:List Lf}(h:CP fd=KE b)(a:oU fd.params ps=KN):Binds K fd ps []:=.all (bind_eq h a)
noncomputable def IT(K:KZ)(g:dE)(x:Lf)(N ps:List Lf)(d:Df):Bool:=match Od K LQ x with
 |some (KE (.ref f))=>(match K.lookup f with
  |some ⟨_,_,.func fd,_⟩=>(match CP fd with
   |some b=>OI K fd.code fd.qualname&&GX N ps fd.scope&&oU fd.params ps&&So ps.length d.np&&So N.length d.nn&&(CJ g ⟨N,fd.scope,KN,[]⟩ d.body b).ok|none=>KO)|_=>KO)|_=>KO
theorem CQ{P:Lb}{K:KZ}{mg:Lf->Option KJ}{h:Lu}{g:dE}{x:Lf}{N ps:List Lf}{d:Df}(X:K.In h)(G:h.Ns LQ mg)(q:IT K g x N ps d=KN):CK P K mg g x d:=by
 unfold IT at q;split at q
 .rename_i f e;split at q
  .rename_i p o fd n lk;split at q
   .rename_i b a;simp only[KW]at q;obtain⟨⟨⟨⟨⟨m,l⟩,k⟩,j⟩,i⟩,c⟩:=q;exact⟨fd.name,fd.qualname,wx fd b,f,fd,N,ps,wy lk a m,wA l,wB a k,O0 X G e,Np j,Np i,Ch.of c⟩
   .cases q
  .cases q
 .cases q
structure En where
 x:Lf
 N:List Lf
 ps:List Lf
 k:Dk
noncomputable def CS(K:KZ)(g:dE)(a:List En):Bool:=a.all λe=>match e.k with
 |.df d=>IT K g e.x e.N e.ps d|.wit _=>KN
theorem y9{P:Lb}{w:Lv}{K:KZ}{mg:Lf->Option KJ}{base h:Lu}{g:dE}{b:List En}(X:K.In h)(G:h.Ns LQ mg)(q:CS K g b=KN)(m:g.dn=b.map (·.x))(hw:∀e∈b,∀t,e.k=.wit t->∃np,DL P w K mg base e.x np t):∀(f:Nat)(x:Lf),g.dn[f]?=KE x->(∃d,(b.map (·.k))[f]?=KE (Dk.df d)/\CK P K mg g x d)\/(∃t np,(b.map (·.k))[f]?=KE (Dk.wit t)/\DL P w K mg base x np t):=λf x a=>by
 rw[m,Lr]at a;cases i:b[f]? with
 |none=>rw[i]at a;cases a|some e=>
  rw[i]at a;have a:e.x=x:=KY a;subst a;have l:e∈b:=LR i;have j:=List.all_eq_true.mp q e l;rw[Lr,i];cases c:e.k with
  |df d=>
   rw[c]at j;exact .inl ⟨d,by rw[Mq,c],CQ X G j⟩|wit t=>
   obtain⟨np,W⟩:=hw e l t c;exact .inr ⟨t,np,by rw[Mq,c],W⟩
noncomputable abbrev QD(K:KZ)(u:KJ)(d:D):Prop:=∀P w,∃v,RelV v u/\∀(p:KS)(H:Hp),H p≠KL->K.lookup p=KL->Is ⟨K,p,P,w⟩ H v d
noncomputable abbrev GY(K:KZ)(us:List KJ)(ds:List D):Prop:=∀P w,∃a,aq a us/\∀(p:KS)(H:Hp),H p≠KL->K.lookup p=KL->ab ⟨K,p,P,w⟩ H a ds
theorem F5{K:KZ}{a:KS}{T:String}{k:Option KS}{b:Array KJ}{n:Nat}{e:Array (Option KJ)}{ds:List D}(lk:K.lookup a=KE ⟨.type T,k,.seq b n,e⟩)(g:T="tuple")(f:b.size<=KU)(h:GY K b.toList ds):QD K (.ref a) (.tup ds):=λP w=>by
 subst g;obtain⟨d,r,i⟩:=h P w;refine⟨.ref a,rfl,λp H j c=>?_⟩;simp only[Is];refine⟨a,d,rfl,⟨λz=>?_,.inr ⟨_,b,n,lk,rfl,rfl,f,r⟩⟩,i p H j c⟩;have z:a=p:=z;rw[z,c]at lk;cases lk
theorem CT{K:KZ}{u:KJ}{us:List KJ}{d:D}{ds:List D}(h:QD K u d)(f:GY K us ds):GY K (u::us) (d::ds):=λP w=>by
 obtain⟨v,r,i⟩:=h P w;obtain⟨c,e,is⟩:=f P w;exact⟨v::c,.cons r e,λp H a b=>.cons (i p H a b) (is p H a b)⟩
mutual
noncomputable def JS(K:KZ):(d:D)->(u:KJ)->Ch (QD K u d)
 |.bw,u=>match u with
  |.none=>.y λP w=>⟨.bw,rfl,λp H _ _=>by simp only[Is]⟩|_=>.n
 |.bl b,u=>match u with
  |.bool c=>(cd (c=b)).b λq=>.y (by subst q;exactλP w=>⟨.bl _,rfl,λp H _ _=>by simp only[Is]⟩)|_=>.n
 |.int i,u=>match u with
  |.int j _=>(cd (j=i)).b λq=>.y (by subst q;exactλP w=>⟨.int _,⟨_,rfl⟩,λp H _ _=>by simp only[Is]⟩)|_=>.n
 |.str x,u=>match u with
  |.str y _=>(cb (sEq x y)).b λq=>.y (by rw[aT q];exactλP w=>⟨.str _,⟨_,rfl⟩,λp H _ _=>by simp only[Is]⟩)|_=>.n
 |.tup k,u=>match u with
  |.ref a=>match lk:K.lookup a with
   |some ⟨.type _,_,.seq e _,_⟩=>(cd (_="tuple")).b λg=>(cd (e.size<=KU)).b λf=>(F6 K k e.toList).b λh=>.y (F5 lk g f h)|_=>.n
  |_=>.n
 |_,_=>.n
noncomputable def F6(K:KZ):(ds:List D)->(us:List KJ)->Ch (GY K us ds)
 |[],us=>match us with
  |[]=>.y λP w=>⟨[],.nil,λp H _ _=>.nil⟩|_=>.n
 |d::ds,us=>match us with
  |u::us=>(JS K d u).b λh=>(F6 K ds us).b λa=>.y (CT h a)|_=>.n
end
noncomputable def JT(K:KZ)(x:Lf)(d:D):Bool:=match Od K LQ x with
 |some (KE u)=>(JS K d u).ok|_=>KO
noncomputable def CU(K:KZ)(gn:List Lf)(ds:List (Option D)):Bool:=(gn.zip ds).all λe=>match e.2 with
 |some d=>JT K e.1 d|none=>KN
theorem y_{K:KZ}{gn:List Lf}{ds:List (Option D)}(q:CU K gn ds=KN){i:Nat}{x:Lf}{d:D}(a:gn[i]?=KE x)(hd:ds[i]?=KE (KE d)):∃u,Od K LQ x=KE (KE u)/\QD K u d:=by
 have b:(x,KE d)∈gn.zip ds:=LR (i:=i) (by rw[List.getElem?_zip_eq_some];exact⟨a,hd⟩);have:=List.all_eq_true.mp q _ b;dsimp only at this;unfold JT at this;split at this;.rename_i u e;exact⟨u,e,Ch.of this⟩
 .cases this
noncomputable def JU(K:KZ):Bool:=cV.all λx=>match Od K LQ x with
 |some KL=>KN|_=>KO
noncomputable def F7(ds:List (Option D))(i:Nat):Option D:=(ds[i]?).join
theorem CV{P:Lb}{w:Lv}{K:KZ}{mg:Lf->Option KJ}{base h:Lu}{gn:List Lf}{a:List En}{ds:List (Option D)}(X:K.In h)(G:h.Ns LQ mg){dn:List Lf}(rG:dn=a.map (·.x))(j:CS K ⟨dn,gn⟩ a=KN)(g:CU K gn ds=KN)(f:JU K=KN)(hw:∀e∈a,∀t,e.k=.wit t->∃np,DL P w K mg base e.x np t):iR P w K mg base ⟨dn,gn⟩ (a.map (·.k)) ⟨F7 ds⟩where
 bl:=λx c=>by
  have:=List.all_eq_true.mp f x c;split at this;.rename_i e;exact RT X G e
  .cases this
 df:=y9 X G j rG hw;co:=λi x d c hd=>by
  obtain⟨u,e,b⟩:=y_ g c (Option.join_eq_some_iff.mp hd);obtain⟨v,r,is⟩:=b P w;exact⟨u,v,O0 X G e,r,is⟩
noncomputable def ql(K:KZ):Sp:=λc H Q _=>∃(a:KS)(ns:List Int),c=[.ref a]/\dF K H a (ns.map V.int)/\ns.length<=63/\∀(p q:KS)(b:Hp),jB b p q 0->nA H b->H p=KL->Q (.ref p) b
theorem F8{ns:List Int}(h:ns.length<=63):mi (ns.map V.int) KL (KE 63)=ns.map V.int:=by
 unfold mi;have e:HT.bI (ns.map V.int).length (ns.map V.int).length (KE 63)=ns.length:=by
  have:=HT.xB (ns.map V.int).length (ns.map V.int).length 63;rw[show((63:Nat):Int)=63 from rfl]at this;rw[this,Lq];omega
 rw[e,HT.uq,List.drop_zero,Nat.sub_zero,L9 (by simp)]
section
variable{P:Lb}{w:Lv}{K:KZ}{mg:Lf->Option KJ}{base:Lu}
theorem za{x d:Lf}{st:MR}{f:KS}{fd:Ml}{N M L:Nat}{p1 I G D C B z y v l:My}(F:uA K x d st f fd)(S:cg ["_law_script"] ["_law_script"] (ak st))(c:mg "list"=KL)(hb:bR st=[.Return (KE (.List [.Call (.Name "list" p1) [.Subscript (.Name "_law_script" I) (.Slice KL (KE (.Constant (.int 63) N G)) KL D) C] [] B,.Constant (.int 0) M z,.Constant (.int 0) L y] v)) l])(T:(ak st).names.lookup (KI "list")=KE NameKind.globalImplicit):dI P w K mg base pj 1 f fd ["_law_script"] (ql K):=by
 refine F.ok S (λu H Q E h=>?_) (λW A outer s H u Q E X h=>?_)
 .obtain⟨a,ns,rfl,_⟩:=h;rfl
 .obtain⟨a,ns,rfl,U,t,J⟩:=h;have O:m_ (ak st) "_law_script":=by
   rcases S.par _ K2 with e|e;.exact .inl e
   .exact .inr (.inl e)
  rw[hb];refine⟨_,gm (fO (mh (aP (pP (lg gr T c Qu (aP (nu qY (bP (i:=0) rfl O) qU (qV aA)) bQ))) (aP aA (aP aA bQ))))),?_⟩;refine⟨_,rfl,63,rfl,a,_,rfl,U,λg m=>?_⟩;rw[F8 t];refine⟨g,_,rfl,.inl (dF.of ai),λq R=>⟨q,_,rfl,ai,λo=>?_⟩⟩;refine⟨by show 3<=KU;decide,λp k=>?_⟩;rw[cf]at k⊢;have s1:nA H (upd H g (.lst (ns.map V.int))):=λb o e=>by rw[af (ay e m)];exact e
  have s2:nA (upd H g (.lst (ns.map V.int))) (upd (upd H g (.lst (ns.map V.int))) q (.b6 o (.lst (ns.map V.int)))):=λb o e=>by rw[af (ay e R)];exact e
  have j:q≠p:=ay (ai (H:=upd H g (.lst (ns.map V.int))) (a:=q) (o:=.b6 o (.lst (ns.map V.int)))) k;have n:H p=KL:=by cases e:H p with
   |none=>rfl|some r=>rw[s2 p r (s1 p r e)]at k;cases k
  refine J p q _ ⟨ns,0,0,⟨ai,⟨o,by rw[af j];exact ai⟩,j,PL _,PL _,t⟩,PL _⟩ (λb o e=>?_) n;rw[af (ay (s2 b o (s1 b o e)) k)];exact s2 b o (s1 b o e)
end
inductive T.kS{α:Type}:Nat->(α->Prop)->T α->Prop where|ok{m:Nat}{P:α->Prop}{a:α}(h:P a):T.kS m P (.ok a)|draw{m:Nat}{P:α->Prop}{n:Int}{k:Int->T α}(h1:0<n)(h2:n<1073741824)(h3:∀i,0<=i->i<n->T.kS m P (k i)):T.kS (m+1) P (.draw n k)|perm{m:Nat}{P:α->Prop}{l:List D}{k:List D->T α}(h:∀l',l'.Perm l->T.kS m P (k l')):T.kS m P (.perm l k)
theorem T.wC{e:Type}{P:e->Prop}{E:Xc->Nat->Prop}{t:T e}{m:Nat}(h:t.kS m P):∀k,k+m<=1000000->t.aN.run k (λa _=>P a) E:=by induction h with
 |ok h=>intro k _;exact h|draw l j n d=>
  intro k f;exact⟨⟨l,j⟩,by omega,λg a b i c=>d i c.1 c.2 g (by omega)⟩|perm h d=>
  intro k f;exactλi c=>d i c k f
noncomputable def wD(K:KZ):Sp:=λb H Q _=>∃(a:KS)(ns:List Int),b=[.ref a]/\dF K H a (ns.map V.int)/\ns.length<=63/\∀c,Q (.bl KN) c
section
variable{P:Lb}{w:Lv}{K:KZ}{mg:Lf->Option KJ}{base:Lu}{g:dE}{defs:List Dk}{b:Gv}
theorem CW{x c:Lf}{st:MR}{f:KS}{fd:Ml}{N:List Lf}{r:aY}{rest:List MR}{n m:Nat}{xn zn:Lf}{p1 p2 p3 p4 p5:My}(T:iR P w K mg base g defs b)(F:uA K x c st f fd)(S:cg N ["_law_script"] (ak st))(feed:∃f fd,dI P w K mg base pj 1 f fd ["_law_script"] (ql K)/\mg "_law_feed"=KE (.ref f)/\N6 K (.ref f)=KN/\Binds K fd ["_law_script"] [])(hb:bR st=.Assign [.Name xn p1] (.Call (.Name "_law_feed" p2) [.Name zn p3] [] p4) p5::rest)(q1:eh ⟨N,ak st,KN,[]⟩ 1 xn=KN)(q2:b_ ⟨N,ak st,KN,[]⟩ 0 zn=KN)(q3:bX ⟨N,ak st,KN,[]⟩ "_law_feed"=KN)(q4:xl g ⟨N,ak st,KN,[]⟩ r rest)(hm:m<=1000000)(ev:(au (b.ev (aG defs b (n+1))) r (KL::KE .feed::Mm (N.length-2) KL)).kS m (λfl=>fl=.rt (.bl KN))):dI P w K mg base pj (n+2) f fd ["_law_script"] (wD K):=by
 obtain⟨oc,od,kV,a6,pm,an,C,ct,a0,rfl,lk,V⟩:=F.ex;refine zI lk V S (λvs H Q E h=>?_) λA' outer s H vs Q E A h=>?_
 .obtain⟨a,ns,rfl,_⟩:=h;rfl
 .obtain⟨a,ns,rfl,hS,hn,hQ⟩:=h;have J:∀(p:KS)(k:Hp),XC g (b.ev (aG defs b (n+1))) ⟨N,ak st,KN,[]⟩ (kM pj P w K mg base N c (ak st) f C A' outer s H E) ⟨⟨K,p,P,w⟩,k,0,λ_ _=>False,k,0⟩:=λp k=>⟨rfl,rfl,rfl,rfl,S.nd,rfl,rfl,A.units,λ_ _=>rfl,(λ_ z=>nomatch z),mark_none A.hd,T.bl,λf' x' O=>by
    obtain⟨np,l,B⟩:=iR.all T (n+1) f' x' O;exact⟨np,n+1,A,l,B⟩,A.gd,λi x d hx hd=>let⟨u,v,l,B,Y⟩:=T.co i x d hx hd;⟨u,v,l,B,λH hH hp=>Y p H hH hp⟩⟩;obtain⟨l,B,Y⟩:=(J 0 H).loc q1;obtain⟨v1,v2,v3,v4⟩:=(J 0 H).tX q2;obtain⟨g1,g2,g3⟩:=(J 0 H).gl q3;obtain⟨ff,a5,FF,R,U,X⟩:=feed;rw[hb];have rs:nc (kM pj P w K mg base N c (ak st) f C A' outer s H E) rest (λZ L t=>∃p k,HS ⟨⟨K,p,P,w⟩,k,0,λ_ _=>False,k,0⟩ (λρ=>(au (b.ev (aG defs b (n+1))) r ρ).aN) Z L t):=λy s L t D I⟨p,k,z⟩=>(q4 _ _ _ PassesOwn.leaving (J p k)).ps y s L t D I z;refine⟨_,aZ (cD (i:=1) S.nd l B (qQ (FF.mono (by omega:1<=n+1)) A g1 R U X .nil zK (aP (bP (i:=0) v1 v2 v3 v4) bQ) g2) rfl Y) rs,?_⟩;refine⟨_,rfl,a,ns,rfl,hS,hn,λp q t fq sm hp=>?_⟩;have lv:t p≠KL:=by obtain⟨_,_,_,G,_⟩:=fq;rw[G.ob];intro z;cases z
  refine⟨p,t,KL::KE .feed::Mm (N.length-2) KL,0,?_,?_⟩
  .have a4:2<=N.length:=by have:=(List.getElem?_eq_some_iff.mp l).1;exact this
   have only:∀(i:Nat)(d:W),(KL::KE W.feed::Mm (N.length-2) KL:ah)[i]?=KE (KE d)->i=1/\d=.feed:=λi d e=>by match i,e with
    |0,e=>cases e|1,e=>exact⟨rfl,by cases e;rfl⟩|i+2,e=>
     simp only[List.getElem?_cons_succ]at e;have:=LR e;rw[List.mem_replicate]at this;cases this.2
   refine⟨?_,λi d e=>?_,λi j d e v a3 a1 a2 o1 o2=>?_,λi j ks ds w a1 a2 o=>?_,lv,.refl,.refl⟩
   .simp only[start,LM,MS,List.length_set,LZ,Lq,Ma];omega
   .obtain⟨rfl,rfl⟩:=only i d e;refine⟨.ref p,?_,rfl,q,fq⟩;rw[Na];simp only[start,LM,MS,LZ,Lq,Ma];omega
   .obtain⟨_,rfl⟩:=only i d a1;cases o1
   .obtain⟨_,z⟩:=only i _ a1;cases z
  .refine M.wk (L2.T.wC ev 0 (by omega)) λfl k' e=>?_;subst e;intro v H2 e1 i;simp only[Is]at i;subst i;exact hQ H2
end
noncomputable def tH(K:KZ)(x:Lf):Option (KS×Ml×List MR):=match Od K LQ x with
 |some (KE (.ref f))=>(match K.lookup f with
  |some ⟨_,_,.func fd,_⟩=>(match CP fd with
   |some b=>if OI K fd.code fd.qualname then KE (f,fd,b)else KL|none=>KL)|_=>KL)|_=>KL
noncomputable def gO(t:KS×Ml×List MR):Lf×Lf×P4×List MR×MQ:=(t.2.1.name,t.2.1.qualname,t.2.1.params,t.2.2,t.2.1.scope)
theorem kq{K:KZ}{x y q:Lf}{st:MR}{ps:List Lf}(h:(tH K x).map gO=KE (y,q,cP st,bR st,ak st))(p:oU (cP st) ps=KN):∃f fd,uA K y q st f fd/\Od K LQ x=KE (KE (.ref f))/\∀us:List KJ,us.length=ps.length->RX fd ⟨us,[]⟩=pure (ps.zip us):=by cases e:tH K x with
 |none=>rw[e]at h;cases h|some t=>
  obtain⟨f,fd,b⟩:=t;rw[e]at h;simp only[Mq,gO,N3,OZ]at h;obtain⟨v,k,j,u,s⟩:=h;unfold tH at e;split at e
  .rename_i B en;split at e
   .rename_i i g w a lk;split at e
    .rename_i C l;split at e
     .rename_i r;cases e;have F:=wy lk l r;refine⟨f,fd,⟨?_,F.kp⟩,en,?_⟩
      .obtain⟨i,g,kV,c,o,A,d,ct,a,n,z,m⟩:=F.ex;rw[v,k,show cP (wx fd b)=cP st from j,show bR (wx fd b)=bR st from u,show ak (wx fd b)=ak st from s]at n;rw[k]at m;exact⟨i,g,kV,c,o,A,d,ct,a,n,z,m⟩
      .exact bind_eq l (by rw[j];exact p)
     .cases e
    .cases e
   .cases e
  .cases e
end L2
end
section
namespace K40
open PySem L2 K40d
noncomputable def ei:Ex:=(.call 1 (.cons (.var 0) (.cons (.cst (.int 0)) (.cons (.iQ 0) .nil))))
noncomputable def ek:Ex:=(.cmp .In (.var 0) (.iQ 2))
noncomputable def kr:aY:=(.cons (.ret (.and (.call 1 (.cons (.var 6) (.cons (.cst (.int 0)) (.cons (.iQ 1) .nil)))) (.one (.call 1 (.cons (.var 7) (.cons (.cst (.int 1)) (.cons (.iQ 1) .nil))))))) .nil)
noncomputable def ku:aY:=(.cons (.iff (.fE (.bx (.fN (.call 0 (.cons (.var 5) .nil)))) (.bh (.aw .NotIn (.var 5) (.var 4)))) (.cons (.ret (.cst (.bl KO))) .nil) .nil) kr)
noncomputable def ky:aY:=(.cons (.asg (.tup 6 (.cons (.nm 2) (.cons (.nm 3) (.cons (.nm 4) (.cons (.nm 5) (.cons (.nm 6) (.cons (.nm 7) .nil))))))) (.var 1)) (.cons (.iff (.fE (.bx (.fN (.call 4 (.cons (.var 2) .nil)))) (.fE (.aw .NotIn (.var 3) (.iQ 4)) (.fE (.bx (.fN (.call 3 (.cons (.var 4) .nil)))) (.bh (.aw .NotIn (.var 4) (.idx (.var 0) (.cst (.int 1)))))))) (.cons (.ret (.cst (.bl KO))) .nil) .nil) ku))
noncomputable def jj:aY:=(.cons (.fz 4 (.ret (.var 4))) .nil)
noncomputable def mQ:Ex:=(.op .Sub (.op .Add (.var 0) (.op .Pow (.cst (.int 10)) (.cst (.int 6)))) (.var 1))
noncomputable def rZ:aY:=(.cons (.iff (.i_ (.aw .Gt (.var 2) (.cst (.int 1))) (.bh (.aw .Eq (.call 6 (.feed 0 (.cons (.cst (.int 4)) .nil))) (.cst (.int 0))))) (.cons (.fz 4 (.set 4 (.lc ["_law_number"] [3] (.nm 0) (.bG (.var 4)) .yes mQ))) .nil) .nil) jj)
noncomputable def r6:aY:=(.cons (.set 3 (.op .Add (.var 3) (.op .Mult (.op .Add (.cst (.int 1)) (.call 6 (.feed 0 (.cons (.cst (.int 6)) .nil)))) (.var 2)))) (.cons (.app 4 (.var 3)) .nil))
noncomputable def oV:aY:=(.cons (.vX 3) .nil)
noncomputable def kz:aY:=(.cons (.set 9 (.or (.and (.cmp .Eq (.var 5) (.idx (.var 8) (.cst (.int 0)))) (.one (.cmp .In (.var 5) (.tup (.cons (.cst (.int 0)) (.cons (.op .Sub (.var 1) (.cst (.int 1))) .nil)))))) (.one (.and (.cmp .Eq (.var 4) (.idx (.var 8) (.cst (.int 1)))) (.one (.cmp .In (.var 4) (.tup (.cons (.cst (.int 0)) (.cons (.op .Sub (.var 2) (.cst (.int 1))) .nil))))))))) (.cons (.iff (.i_ (.xk (.var 8) 3) (.i_ (.aw .Lt (.var 7) (.cst (.int 90))) (.bh (.fE (.i_ (.fN (.var 6)) (.bh (.fN (.var 9)))) (.bh (.aw .Gt (.call 6 (.feed 0 (.cons (.cst (.int 7)) .nil))) (.cst (.int 1)))))))) (.cons (.ja 3 (.tup (.cons (.var 5) (.cons (.var 4) .nil))) (.var 8)) (.cons (.ja 3 (.var 8) (.tup (.cons (.var 5) (.cons (.var 4) .nil)))) (.cons (.set 7 (.op .Add (.var 7) (.cst (.int 1)))) .nil))) .nil) .nil))
noncomputable def oW:aY:=(.cons (.e8 (.nm 8) (.bG (.lst (.cons (.tup (.cons (.op .Add (.var 5) (.cst (.int 1))) (.cons (.var 4) .nil))) (.cons (.tup (.cons (.var 5) (.cons (.op .Add (.var 4) (.cst (.int 1))) .nil))) .nil)))) kz) .nil)
noncomputable def oX:aY:=(.cons (.e8 (.nm 5) (.ic (.cons (.var 1) .nil)) oW) .nil)
noncomputable def oY:aY:=(.cons (.set 6 (.cmp .Gt (.call 6 (.feed 0 (.cons (.cst (.int 3)) .nil))) (.cst (.int 0)))) (.cons (.set 7 (.cst (.int 0))) (.cons (.e8 (.nm 4) (.ic (.cons (.var 2) .nil)) oX) oV)))
noncomputable def oZ:aY:=(.cons (.putN 3 (.tup (.cons (.var 5) (.cons (.var 4) .nil)))) .nil)
noncomputable def kA:aY:=(.cons (.e8 (.nm 5) (.ic (.cons (.var 1) .nil)) oZ) .nil)
noncomputable def lU:aY:=(.cons (.fz 1 (.ret (.var 1))) .nil)
noncomputable def lV:Ex:=(.xj (.aw .NotEq (.var 0) (.var 1)) (.var 0) (.var 2))
noncomputable def lW:Ex:=(.xj (.aw .NotEq (.var 0) (.var 1)) (.var 0) (.var 2))
noncomputable def iA:aY:=(.cons (.set 3 (.lL 1 (.idx (.var 1) (.var 2)))) (.cons (.iff (.i_ (.aw .Eq (.bi .len (.cons (.var 3) .nil)) (.cst (.int 2))) (.bh (.aw .Gt (.call 6 (.feed 0 (.cons (.cst (.int 3)) .nil))) (.cst (.int 0))))) (.cons (.asg (.tup 2 (.cons (.nm 4) (.cons (.nm 5) .nil))) (.var 3)) (.cons (.iff (.fE (.aw .Eq (.idx (.var 4) (.cst (.int 0))) (.idx (.var 5) (.cst (.int 0)))) (.bh (.aw .Eq (.idx (.var 4) (.cst (.int 1))) (.idx (.var 5) (.cst (.int 1)))))) (.cons (.put 1 (.var 4) (.lL 1 (.lc ["_law_there"] [2,5] (.nm 0) (.bG (.idx (.var 1) (.var 4))) .yes lW))) (.cons (.put 1 (.var 5) (.lL 1 (.lc ["_law_there"] [2,4] (.nm 0) (.bG (.idx (.var 1) (.var 5))) .yes lV))) (.cons (.put 1 (.var 2) (.lst .nil)) .nil))) .nil) .nil)) .nil) .nil))
noncomputable def fX:Ex:=(.lL 2 (.call 6 (.feed 1 (.cons (.bi .len (.cons (.var 2) .nil)) .nil))))
noncomputable def kB:aY:=(.cons (.vV 4 (.cons (.var 1) .nil)) (.cons (.vY 4 1 [0,4] "_law_k" (.ic (.cons (.var 1) .nil)) fX) .nil))
noncomputable def fY:Ex:=(.op .Mod (.op .Add (.var 2) (.op .Mult (.var 1) (.var 0))) (.cst (.int 1000)))
noncomputable def qm:aY:=(.cons (.fz 11 (.ret (.tup (.cons (.bi .tuple (.cons (.bi .sorted (.cons (.var 10) .nil)) .nil)) (.cons (.bi .tuple (.cons (.bi .sorted (.cons (.var 11) .nil)) .nil)) .nil))))) .nil)
noncomputable def fZ:Ex:=(.bh (.aw .Lt (.var 2) (.var 0)))
noncomputable def f6:Ex:=(.tup (.cons (.idx (.var 1) (.var 2)) (.cons (.idx (.var 1) (.var 0)) .nil)))
noncomputable def qo:aY:=(.cons (.ext 11 (.lc ["_law_there"] [9,12] (.nm 0) (.bG (.idx (.var 5) (.var 12))) fZ f6)) .nil)
noncomputable def kC:Ex:=(.tup (.cons (.idx (.var 4) (.tup (.cons (.var 0) (.cons (.var 1) .nil)))) (.cons (.idx (.var 2) (.var 0)) (.cons (.idx (.var 3) (.var 1)) .nil))))
noncomputable def qp:aY:=(.cons (.set 10 (.lc ["_law_i","_law_j"] [6,7,9] (.tup 2 (.cons (.nm 0) (.cons (.nm 1) .nil))) (.bG (.var 8)) .yes kC)) (.cons (.qi 11 .nil) (.cons (.e8 (.nm 12) (.bG (.var 8)) qo) qm)))
noncomputable def qr:aY:=(.cons (.set 9 (.vS (.cons (.var 8) (.cons (.call 10 (.feed 0 (.cons (.bi .len (.cons (.var 8) .nil)) .nil))) .nil)))) qp)
noncomputable def mR:Ex:=(.bh (.aw .NotEq (.idx (.var 1) (.var 0)) (.lst .nil)))
noncomputable def qt:Ex:=(.var 0)
noncomputable def qu:aY:=(.cons (.set 8 (.lc ["_law_knot"] [5] (.nm 0) (.bG (.bi .sorted (.cons (.var 5) .nil))) mR qt)) qr)
noncomputable def r8:aY:=(.cons (.asg (.tup 2 (.cons (.nm 6) (.cons (.nm 7) .nil))) (.tup (.cons (.call 7 (.feed 0 (.cons (.var 3) (.cons (.var 2) .nil)))) (.cons (.call 7 (.feed 0 (.cons (.var 4) (.cons (.var 2) .nil)))) .nil)))) qu)
noncomputable def iT:aY:=(.cons (.fz 1 (.ret (.var 1))) .nil)
noncomputable def iU:aY:=(.cons (.put 1 (.var 2) (.tup (.cons (.var 3) (.cons (.var 4) .nil)))) .nil)
noncomputable def lX:aY:=(.cons (.asg (.tup 2 (.cons (.nm 3) (.cons (.nm 4) .nil))) (.idx (.var 2) (.idx (.var 1) (.cst (.int 0))))) (.cons (.asg (.tup 2 (.cons (.nm 5) (.cons (.nm 6) .nil))) (.idx (.var 2) (.idx (.var 1) (.cst (.int 1))))) (.cons (.ret (.op .Sub (.op .Add (.op .Sub (.var 5) (.var 3)) (.var 6)) (.var 4))) .nil)))
noncomputable def mS:aY:=(.cons (.set 4 (.idx (.lst (.cons (.cst (.int 0)) (.cons (.call 6 (.feed 0 (.cons (.op .Add (.var 3) (.cst (.int 1))) .nil))) (.cons (.var 3) (.cons (.op .Pow (.cst (.int 10)) (.cst (.int 6))) .nil))))) (.call 6 (.feed 0 (.cons (.cst (.int 4)) .nil))))) (.cons (.set 5 (.idx (.lst (.cons (.cst (.int 1)) (.cons (.op .Add (.cst (.int 1)) (.call 6 (.feed 0 (.cons (.var 3) .nil)))) (.cons (.var 3) (.cons (.op .Pow (.cst (.int 10)) (.cst (.int 6))) .nil))))) (.call 6 (.feed 0 (.cons (.cst (.int 4)) .nil))))) (.cons (.set 6 (.idx (.lst (.cons (.cst (.str "a")) (.cons (.cst (.str "zz")) (.cons (.cst (.str "abcdefgh")) (.cons (.cst (.str "q")) (.cons (.cst (.str "window")) .nil)))))) (.call 6 (.feed 0 (.cons (.cst (.int 5)) .nil))))) (.cons (.ret (.tup (.cons (.var 6) (.cons (.idx (.lst (.cons (.cst (.str "door")) (.cons (.cst (.str "window")) .nil))) (.call 6 (.feed 0 (.cons (.cst (.int 2)) .nil)))) (.cons (.var 2) (.cons (.idx (.var 2) (.call 6 (.feed 0 (.cons (.cst (.int 2)) .nil)))) (.cons (.var 4) (.cons (.var 5) .nil)))))))) .nil))))
noncomputable def f7:aY:=(.cons (.ret (.tup (.cons (.var 3) (.cons (.var 4) (.cons (.var 5) (.cons (.var 6) (.cons (.var 7) (.cons (.var 8) .nil)))))))) .nil)
noncomputable def o_:aY:=(.cons (.ret (.and (.call 17 (.cons (.var 6) (.cons (.cst (.int 0)) (.cons (.op .Pow (.cst (.int 10)) (.cst (.int 6))) .nil)))) (.one (.call 17 (.cons (.var 7) (.cons (.cst (.int 1)) (.cons (.op .Pow (.cst (.int 10)) (.cst (.int 6))) .nil))))))) .nil)
noncomputable def pb:aY:=(.cons (.iff (.fE (.bx (.fN (.call 17 (.cons (.var 5) (.cons (.cst (.int 0)) (.cons (.cst (.int 999)) .nil)))))) (.bh (.aw .NotIn (.var 5) (.var 4)))) (.cons (.ret (.cst (.bl KO))) .nil) .nil) o_)
noncomputable def qv:aY:=(.cons (.ret (.cst (.bl KN))) .nil)
noncomputable def mT:aY:=(.cons (.iff (.aw .IsNot (.call 5 (.cons (.tup (.cons (.tup .nil) (.cons (.tup .nil) .nil))) (.cons (.var 4) .nil))) (.cst (.bl KO))) (.cons (.ret (.cst (.bl KO))) .nil) .nil) .nil)
noncomputable def qw:aY:=(.cons (.iff (.fE (.bx (.fN (.kJ "bool" (.var 7)))) (.bh (.aw .NotEq (.var 7) (.call 18 (.cons (.var 2) (.cons (.var 6) .nil)))))) (.cons (.ret (.cst (.bl KO))) .nil) .nil) .nil)
noncomputable def iB:aY:=(.cons (.set 7 (.call 5 (.cons (.var 2) (.cons (.var 6) .nil)))) qw)
noncomputable def qx:aY:=(.cons (.e8 (.nm 6) (.bG (.lst (.cons (.var 4) (.cons (.var 5) (.cons (.var 4) .nil))))) iB) mT)
noncomputable def qy:aY:=(.cons (.set 5 (.call 16 (.feed 1 (.cons (.var 2) (.cons (.var 4) .nil))))) qx)
noncomputable def mU:aY:=(.cons (.set 4 (.call 14 (.feed 1 (.cons (.var 2) .nil)))) qy)
noncomputable def qz:aY:=(.cons (.e8 (.nm 3) (.ic (.cons (.cst (.int 8)) .nil)) mU) qv)
noncomputable def qB:aY:=(.cons (.iff (.aw .Eq (.idx (.var 2) (.cst (.int 1))) (.tup .nil)) (.cons (.ret (.cmp .Is (.call 5 (.cons (.var 2) (.cons (.tup (.cons (.cst (.str "a")) (.cons (.cst (.str "door")) (.cons (.tup (.cons (.cst (.int 0)) (.cons (.cst (.int 1)) .nil))) (.cons (.cst (.int 0)) (.cons (.cst (.int 0)) (.cons (.cst (.int 1)) .nil))))))) .nil))) (.cst (.bl KO)))) .nil) .nil) qz)
noncomputable def fb:Df:=⟨1,1,(.cons (.ret (.and (.kJ "int" (.var 0)) (.one (.not (.kJ "bool" (.var 0)))))) .nil)⟩
noncomputable def f9:Df:=⟨3,3,(.cons (.ret (.and (.call 0 (.cons (.var 0) .nil)) (.one (.DF .LtE .LtE (.var 1) (.var 0) (.var 2))))) .nil)⟩
noncomputable def kE:Df:=⟨2,2,(.cons (.ret (.and (.kJ "tuple" (.var 0)) (.one (.cmp .Eq (.bi .len (.cons (.var 0) .nil)) (.var 1))))) .nil)⟩
noncomputable def iC:Df:=⟨1,1,(.cons (.ret (.and (.call 2 (.cons (.var 0) (.cons (.cst (.int 2)) .nil))) (.one (.bi .all (.cons (.lc ["end"] [] (.nm 0) (.bG (.var 0)) .yes ei) .nil))))) .nil)⟩
noncomputable def iD:Df:=⟨1,1,(.cons (.iff (.fE (.bx (.fN (.kJ "str" (.var 0)))) (.bh (.bx (.oG .LtE .LtE (.cst (.int 1)) (.bi .len (.cons (.var 0) .nil)) (.iQ 3))))) (.cons (.ret (.cst (.bl KO))) .nil) .nil) (.cons (.ret (.bi .all (.cons (.lc ["sign"] [] (.nm 0) (.bG (.var 0)) .yes ek) .nil))) .nil))⟩
noncomputable def iE:Df:=⟨2,8,(.cons (.iff (.bx (.fN (.call 2 (.cons (.var 1) (.cons (.cst (.int 6)) .nil))))) (.cons (.ret (.cst (.bl KO))) .nil) .nil) ky)⟩
noncomputable def fc:Df:=⟨3,6,(.cons (.set 3 (.op .Mult (.call 6 (.feed 0 (.cons (.cst (.int 3)) .nil))) (.var 2))) (.cons (.qi 4 (.cons (.var 3) .nil)) (.cons (.e8 (.nm 5) (.ic (.cons (.op .Sub (.var 1) (.cst (.int 1))) .nil)) r6) rZ)))⟩
noncomputable def el:Df:=⟨3,10,(.cons (.vW 3) (.cons (.e8 (.nm 4) (.ic (.cons (.var 2) .nil)) kA) oY))⟩
noncomputable def dA:Df:=⟨2,6,(.cons (.e8 (.nm 2) (.bG (.lL 1 (.bi .sorted (.cons (.var 1) .nil)))) iA) lU)⟩
noncomputable def dg:Df:=⟨2,5,(.cons (.iff (.aw .Eq (.call 6 (.feed 0 (.cons (.cst (.int 2)) .nil))) (.cst (.int 0))) (.cons (.set 2 (.idx (.lst (.cons (.cst (.int 7)) (.cons (.cst (.int 303)) (.cons (.cst (.int 617)) (.cons (.cst (.int 999)) .nil))))) (.call 6 (.feed 0 (.cons (.cst (.int 4)) .nil))))) (.cons (.set 3 (.call 6 (.feed 0 (.cons (.cst (.int 1000)) .nil)))) (.cons (.ret (.lc ["_law_k"] [2,3] (.nm 0) (.ic (.cons (.var 1) .nil)) .yes fY)) .nil))) .nil) kB)⟩
noncomputable def f_:Df:=⟨3,13,(.cons (.par 3 4 (.cons (.op .Add (.cst (.int 2)) (.call 6 (.feed 0 (.cons (.op .Sub (.var 1) (.cst (.int 1))) .nil)))) (.cons (.op .Add (.cst (.int 2)) (.call 6 (.feed 0 (.cons (.op .Sub (.var 1) (.cst (.int 1))) .nil)))) .nil))) (.cons (.set 5 (.oH 9 0 8 (.feed 0 (.cons (.var 3) (.cons (.var 4) .nil))))) r8))⟩
noncomputable def cJ:Df:=⟨1,5,(.cons (.g9 1) (.cons (.e8 (.tup 3 (.cons (.nm 2) (.cons (.nm 3) (.cons (.nm 4) .nil)))) (.bG (.idx (.var 0) (.cst (.int 0)))) iU) iT))⟩
noncomputable def dB:Df:=⟨2,7,(.cons (.set 2 (.call 12 (.cons (.var 0) .nil))) lX)⟩
noncomputable def fe:Df:=⟨2,7,(.cons (.set 2 (.idx (.idx (.var 1) (.cst (.int 1))) (.call 6 (.feed 0 (.cons (.bi .len (.cons (.idx (.var 1) (.cst (.int 1))) .nil)) .nil))))) (.cons (.set 3 (.call 13 (.cons (.var 1) (.cons (.var 2) .nil)))) mS))⟩
noncomputable def fg:Df:=⟨1,2,(.cons (.set 1 (.cst (.str " !\"#$&'()*+,-./0123456789:;<=>?@ABCDEFGHIJKLMNOPQRSTUVWXYZ[\\]^_`abcdefghijklmnopqrstuvwxyz{|}~\n\t"))) (.cons (.ret (.idx (.var 1) (.call 6 (.feed 0 (.cons (.bi .len (.cons (.var 1) .nil)) .nil))))) .nil))⟩
noncomputable def dh:Df:=⟨3,14,(.cons (.asg (.tup 6 (.cons (.nm 3) (.cons (.nm 4) (.cons (.nm 5) (.cons (.nm 6) (.cons (.nm 7) (.cons (.nm 8) .nil))))))) (.var 2)) (.cons (.set 9 (.call 6 (.feed 0 (.cons (.cst (.int 7)) .nil)))) (.cons (.set 10 (.call 6 (.feed 0 (.cons (.cst (.int 8)) .nil)))) (.cons (.set 11 (.idx (.idx (.var 1) (.cst (.int 1))) (.call 6 (.feed 0 (.cons (.bi .len (.cons (.idx (.var 1) (.cst (.int 1))) .nil)) .nil))))) (.cons (.iff (.i_ (.aw .Eq (.var 9) (.cst (.int 0))) (.bh (.aw .Eq (.call 6 (.feed 0 (.cons (.cst (.int 2)) .nil))) (.cst (.int 0))))) (.cons (.set 12 (.call 6 (.feed 0 (.cons (.bi .len (.cons (.var 3) .nil)) .nil)))) (.cons (.set 3 (.op .Add (.op .Add (.cut (.var 3) .nil (.one (.var 12))) (.call 15 (.feed 0 .nil))) (.cut (.var 3) (.one (.op .Add (.var 12) (.cst (.int 1)))) .nil))) .nil)) (.cons (.iff (.aw .Eq (.var 9) (.cst (.int 0))) (.cons (.set 3 (.idx (.lst (.cons (.cst (.str "")) (.cons (.cst (.str "A")) (.cons (.cst (.str "abcdefghi")) (.cons (.cst (.str "a b")) (.cons (.cst (.str "a1")) (.cons (.cst (.int 5)) (.cons (.cst (.bw)) (.cons (.tup (.cons (.cst (.str "a")) .nil)) .nil))))))))) (.var 10))) .nil) (.cons (.iff (.aw .Eq (.var 9) (.cst (.int 1))) (.cons (.set 4 (.idx (.lst (.cons (.cst (.str "Door")) (.cons (.cst (.str "doors")) (.cons (.cst (.str "")) (.cons (.cst (.bw)) (.cons (.cst (.bl KN)) (.cons (.tup (.cons (.cst (.str "door")) .nil)) (.cons (.cst (.str "wall")) (.cons (.cst (.str "gate")) .nil))))))))) (.var 10))) .nil) (.cons (.iff (.aw .Eq (.var 9) (.cst (.int 2))) (.cons (.set 13 (.lst (.cons (.tup (.cons (.idx (.var 5) (.cst (.int 1))) (.cons (.idx (.var 5) (.cst (.int 0))) .nil))) (.cons (.var 11) (.cons (.bi .list (.cons (.var 5) .nil)) (.cons (.op .Add (.var 5) (.cut (.var 5) .nil (.one (.cst (.int 1))))) (.cons (.cut (.var 5) .nil (.one (.cst (.int 1)))) (.cons (.tup (.cons (.idx (.var 5) (.cst (.int 0))) (.cons (.idx (.var 5) (.cst (.int 0))) .nil))) (.cons (.cst (.bw)) .nil))))))))) (.cons (.set 5 (.idx (.op .Add (.var 13) (.lst (.cons (.idx (.lst (.cons (.tup (.cons (.cmp .Eq (.idx (.var 5) (.cst (.int 0))) (.cst (.int 1))) (.cons (.idx (.var 5) (.cst (.int 1))) .nil))) (.cons (.tup (.cons (.idx (.var 5) (.cst (.int 0))) (.cons (.cmp .Eq (.idx (.var 5) (.cst (.int 1))) (.cst (.int 1))) .nil))) .nil))) (.call 6 (.feed 0 (.cons (.cst (.int 2)) .nil)))) .nil))) (.var 10))) .nil)) (.cons (.iff (.aw .Eq (.var 9) (.cst (.int 3))) (.cons (.set 6 (.idx (.lst (.cons (.idx (.var 11) (.cst (.int 0))) (.cons (.idx (.var 11) (.cst (.int 1))) (.cons (.neg (.cst (.int 1))) (.cons (.cst (.int 1000)) (.cons (.cst (.bw)) (.cons (.bi .str (.cons (.var 6) .nil)) (.cons (.tup (.cons (.var 6) .nil)) (.cons (.cst (.bl KN)) .nil))))))))) (.var 10))) .nil) (.cons (.iff (.aw .Eq (.var 9) (.cst (.int 4))) (.cons (.set 7 (.idx (.lst (.cons (.neg (.cst (.int 1))) (.cons (.op .Add (.op .Pow (.cst (.int 10)) (.cst (.int 6))) (.cst (.int 1))) (.cons (.cst (.bl KN)) (.cons (.cst (.bw)) (.cons (.cst (.str "0")) (.cons (.tup (.cons (.cst (.int 0)) .nil)) (.cons (.op .Pow (.cst (.int 10)) (.cst (.int 6))) (.cons (.op .Pow (.cst (.int 10)) (.cst (.int 30))) .nil))))))))) (.var 10))) .nil) (.cons (.iff (.aw .Eq (.var 9) (.cst (.int 5))) (.cons (.set 8 (.idx (.lst (.cons (.cst (.int 0)) (.cons (.neg (.cst (.int 1))) (.cons (.op .Add (.op .Pow (.cst (.int 10)) (.cst (.int 6))) (.cst (.int 1))) (.cons (.cst (.bl KN)) (.cons (.cst (.bw)) (.cons (.cst (.str "1")) (.cons (.tup (.cons (.cst (.int 1)) .nil)) (.cons (.op .Pow (.cst (.int 10)) (.cst (.int 6))) .nil))))))))) (.var 10))) .nil) (.cons (.set 13 (.lst (.cons (.cut (.var 2) .nil (.one (.cst (.int 5)))) (.cons (.op .Add (.var 2) (.tup (.cons (.cst (.int 1)) .nil))) (.cons (.bi .list (.cons (.var 2) .nil)) (.cons (.cst (.bw)) (.cons (.cst (.str "door")) (.cons (.tup .nil) (.cons (.tup (.cons (.var 2) .nil)) (.cons (.rev (.var 2) (.neg (.cst (.int 1)))) .nil)))))))))) (.cons (.ret (.idx (.var 13) (.var 10))) .nil))) .nil)) .nil)) .nil)) .nil)) .nil)) .nil)) f7)))))⟩
noncomputable def et:Df:=⟨3,3,(.cons (.ret (.and (.kJ "int" (.var 0)) (.and (.not (.kJ "bool" (.var 0))) (.one (.DF .LtE .LtE (.var 1) (.var 0) (.var 2)))))) .nil)⟩
noncomputable def eA:Df:=⟨2,8,(.cons (.iff (.fE (.bx (.fN (.kJ "tuple" (.var 1)))) (.bh (.aw .NotEq (.bi .len (.cons (.var 1) .nil)) (.cst (.int 6))))) (.cons (.ret (.cst (.bl KO))) .nil) .nil) (.cons (.asg (.tup 6 (.cons (.nm 2) (.cons (.nm 3) (.cons (.nm 4) (.cons (.nm 5) (.cons (.nm 6) (.cons (.nm 7) .nil))))))) (.var 1)) (.cons (.iff (.fE (.bx (.fN (.kJ "str" (.var 2)))) (.fE (.bx (.oG .LtE .LtE (.cst (.int 1)) (.bi .len (.cons (.var 2) .nil)) (.cst (.int 8)))) (.fE (.aw .NotEq (.low (.var 2)) (.var 2)) (.bh (.bx (.fN (.Cb (.var 2)))))))) (.cons (.ret (.cst (.bl KO))) .nil) .nil) (.cons (.iff (.fE (.bx (.fN (.kJ "str" (.var 3)))) (.fE (.aw .NotIn (.var 3) (.lst (.cons (.cst (.str "door")) (.cons (.cst (.str "window")) .nil)))) (.fE (.bx (.fN (.kJ "tuple" (.var 4)))) (.bh (.aw .NotEq (.bi .len (.cons (.var 4) .nil)) (.cst (.int 2))))))) (.cons (.ret (.cst (.bl KO))) .nil) .nil) (.cons (.iff (.fE (.bx (.fN (.call 17 (.cons (.idx (.var 4) (.cst (.int 0))) (.cons (.cst (.int 0)) (.cons (.cst (.int 999)) .nil)))))) (.fE (.bx (.fN (.call 17 (.cons (.idx (.var 4) (.cst (.int 1))) (.cons (.cst (.int 0)) (.cons (.cst (.int 999)) .nil)))))) (.bh (.aw .NotIn (.var 4) (.idx (.var 0) (.cst (.int 1))))))) (.cons (.ret (.cst (.bl KO))) .nil) .nil) pb)))))⟩
noncomputable def dn:List Lf:=[KI "is_number",KI "is_whole",KI "is_row",KI "is_wall",KI "is_name",KI "is_made",KI "_law_draw",KI "_law_line",KI "_law_links",KI "_law_merged",KI "_law_numbers",KI "_law_net",KI "_law_spots_of",KI "_law_length",KI "_law_good",KI "_law_sign",KI "_law_changed",KI "_law_whole",KI "_law_right"]
noncomputable def gn:List Lf:=[KI "GREATEST_NUMBER",KI "GREATEST_PLACE",KI "LETTERS",KI "LONGEST_NAME",KI "KINDS"]
noncomputable def GZ:dE:=⟨dn,gn⟩
noncomputable def IU:List (Option D):=[KE (D.int 999),KE (D.int 1000000),KE (D.str "abcdefghijklmnopqrstuvwxyz"),KE (D.int 8),KE (D.tup [(D.str "door"),(D.str "window")])]
noncomputable def ents:List En:=[⟨KI "is_number",[KI "thing"],[KI "thing"],.df fb⟩,⟨KI "is_whole",[KI "thing",KI "least",KI "most"],[KI "thing",KI "least",KI "most"],.df f9⟩,⟨KI "is_row",[KI "thing",KI "length"],[KI "thing",KI "length"],.df kE⟩,⟨KI "is_wall",[KI "thing"],[KI "thing"],.df iC⟩,⟨KI "is_name",[KI "thing"],[KI "thing"],.df iD⟩,⟨KI "is_made",[KI "net",KI "thing",KI "name",KI "kind",KI "wall",KI "end",KI "at",KI "width"],[KI "net",KI "thing"],.df iE⟩,⟨KI "_law_draw",[KI "_law_feed_here",KI "_law_many",KI "_law_got",KI "_law_at",KI "_law_cell",KI "_law_number"],[KI "_law_feed_here",KI "_law_many"],.wit rY⟩,⟨KI "_law_line",[KI "_law_feed_here",KI "_law_many",KI "_law_scale",KI "_law_here",KI "_law_found",KI "_law_k"],[KI "_law_feed_here",KI "_law_many",KI "_law_scale"],.df fc⟩,⟨KI "_law_links",[KI "_law_feed_here",KI "_law_columns",KI "_law_rows",KI "_law_links_here",KI "_law_j",KI "_law_i",KI "_law_framed",KI "_law_many",KI "_law_there",KI "_law_rim"],[KI "_law_feed_here",KI "_law_columns",KI "_law_rows"],.df el⟩,⟨KI "_law_merged",[KI "_law_feed_here",KI "_law_links_here",KI "_law_knot",KI "_law_beside_it",KI "_law_one",KI "_law_other"],[KI "_law_feed_here",KI "_law_links_here"],.df dA⟩,⟨KI "_law_numbers",[KI "_law_feed_here",KI "_law_many",KI "_law_step",KI "_law_first",KI "_law_left"],[KI "_law_feed_here",KI "_law_many"],.df dg⟩,⟨KI "_law_net",[KI "_law_feed_here",KI "_law_most",KI "_law_scale",KI "_law_columns",KI "_law_rows",KI "_law_links_here",KI "_law_xs",KI "_law_ys",KI "_law_knots",KI "_law_numbers_here",KI "_law_corners",KI "_law_shuts",KI "_law_knot"],[KI "_law_feed_here",KI "_law_most",KI "_law_scale"],.df f_⟩,⟨KI "_law_spots_of",[KI "_law_net_here",KI "_law_found",KI "_law_c",KI "_law_x",KI "_law_y"],[KI "_law_net_here"],.df cJ⟩,⟨KI "_law_length",[KI "_law_net_here",KI "_law_shut",KI "_law_spots",KI "_law_x",KI "_law_y",KI "_law_u",KI "_law_v"],[KI "_law_net_here",KI "_law_shut"],.df dB⟩,⟨KI "_law_good",[KI "_law_feed_here",KI "_law_net_here",KI "_law_shut",KI "_law_length_here",KI "_law_at",KI "_law_width",KI "_law_name"],[KI "_law_feed_here",KI "_law_net_here"],.df fe⟩,⟨KI "_law_sign",[KI "_law_feed_here",KI "_law_signs"],[KI "_law_feed_here"],.df fg⟩,⟨KI "_law_changed",[KI "_law_feed_here",KI "_law_net_here",KI "_law_opening",KI "_law_name",KI "_law_kind",KI "_law_shut",KI "_law_end",KI "_law_at",KI "_law_width",KI "_law_at_k",KI "_law_k",KI "_law_other",KI "_law_at_sign",KI "_law_some"],[KI "_law_feed_here",KI "_law_net_here",KI "_law_opening"],.df dh⟩,⟨KI "_law_whole",[KI "_law_thing",KI "_law_least",KI "_law_greatest"],[KI "_law_thing",KI "_law_least",KI "_law_greatest"],.df et⟩,⟨KI "_law_right",[KI "_law_net_here",KI "_law_thing",KI "_law_name",KI "_law_kind",KI "_law_shut",KI "_law_end",KI "_law_at",KI "_law_width"],[KI "_law_net_here",KI "_law_thing"],.df eA⟩]
noncomputable def qC:List Lf:=[KI "_law_script",KI "_law_feed_here",KI "_law_net_here",KI "_law_turn",KI "_law_good_here",KI "_law_bad",KI "_law_thing",KI "_law_found"]
noncomputable def rest:aY:=(.cons (.set 2 (.call 11 (.feed 1 (.cons (.cst (.int 5)) (.cons (.idx (.lst (.cons (.cst (.int 1)) (.cons (.cst (.int 10000)) .nil))) (.call 6 (.feed 1 (.cons (.cst (.int 2)) .nil)))) .nil))))) qB)
noncomputable def defs:List Dk:=ents.map (·.k)
noncomputable def gv:Gv:=⟨F7 IU⟩
end K40
end
section
namespace K40
open PySem L2
theorem JV(p:PX):JU (head.heap_39 p)=KN:=by kernel_rfl
theorem Ks(p:PX):CU (head.heap_39 p) gn IU=KN:=by kernel_rfl
theorem Ku(p:PX):CS (head.heap_39 p) GZ ents=KN:=by kernel_rfl
end K40
end
section
namespace K40
open PySem L2
noncomputable abbrev parts(s:Lf)(st:MR):Option (Lf×Lf×P4×List MR×MQ):=KE (s,s,cP st,bR st,ak st)
theorem Kv(p:PX):(tH (head.heap_39 p) "_law_feed").map gO=parts "_law_feed" K40d.wq:=by kernel_rfl
theorem IV:oU (cP K40d.wq) ["_law_script"]=KN:=by kernel_rfl
theorem Kw(p:PX):(tH (head.heap_39 p) "law").map gO=parts "law" K40d.oT:=by kernel_rfl
theorem IW:oU (cP K40d.oT) ["_law_script"]=KN:=by kernel_rfl
theorem IX:(CJ GZ ⟨qC,ak K40d.oT,KN,[]⟩ rest (bR K40d.oT).tail).ok=KN:=by kernel_rfl
theorem IY:GX qC ["_law_script"] (ak K40d.oT)=KN:=by kernel_rfl
theorem IZ:eh ⟨qC,ak K40d.oT,KN,[]⟩ 1 "_law_feed_here"=KN:=by kernel_rfl
theorem I9:b_ ⟨qC,ak K40d.oT,KN,[]⟩ 0 "_law_script"=KN:=by kernel_rfl
theorem I_:bX ⟨qC,ak K40d.oT,KN,[]⟩ "_law_feed"=KN:=by kernel_rfl
theorem Kx:dn=ents.map (·.x):=by kernel_rfl
theorem Ky(p:PX):(tH (head.heap_39 p) "_law_draw").map gO=parts "_law_draw" K40d.oS:=by kernel_rfl
theorem Ja:oU (cP K40d.oS) ["_law_feed_here","_law_many"]=KN:=by kernel_rfl
section
variable{P:Lb}{w:Lv}{mg:Lf->Option KJ}{base h:Lu}{p:PX}
theorem wF(X:Pb (head.heap_39 p) h)(G:h.Ns LQ mg)(a:mg "len"=KL):DL P w (head.heap_39 p) mg base "_law_draw" 2 K40d.rY:=by
 obtain⟨f,fd,F,e,B⟩:=kq (Ky p) Ja;exact K40d.wt F a (O0 X G e) (.all B)
theorem zb(X:Pb (head.heap_39 p) h)(G:h.Ns LQ mg)(a:mg "list"=KL):∃f fd,dI P w (head.heap_39 p) mg base pj 1 f fd ["_law_script"] (ql (head.heap_39 p))/\mg "_law_feed"=KE (.ref f)/\N6 (head.heap_39 p) (.ref f)=KN/\Binds (head.heap_39 p) fd ["_law_script"] []:=by
 obtain⟨f,fd,F,e,B⟩:=kq (Kv p) IV;exact⟨f,fd,za F K40d.CN a rfl rfl,O0 X G e,F.kp,.all B⟩
end
end K40
end
section
namespace K40
open PySem L2
noncomputable def r9(e:En):Bool:=match e.k with
 |.wit _=>KN|.df _=>KO
theorem Jb:(ents.filter r9).map (λe=>(e.x,e.k))=[(KI "_law_draw",.wit K40d.rY)]:=by kernel_rfl
theorem txt{P:Lb}{w:Lv}{mg:Lf->Option KJ}{base h:Lu}(X:Pb (head.heap_39 w.params) h)(G:h.Ns LQ mg):iR P w (head.heap_39 w.params) mg base GZ defs gv:=by
 have b:mg "len"=KL:=by
  have:=List.all_eq_true.mp (JV w.params) (KI "len") (by simp[cV]);split at this;.rename_i e;exact RT X G e
  .cases this
 refine CV (ds:=IU) X G Kx (Ku w.params) (Ks w.params) (JV w.params) λe j t g=>?_;have i:e∈ents.filter r9:=List.mem_filter.mpr ⟨j,by unfold r9;rw[g]⟩;have a:(e.x,e.k)∈(ents.filter r9).map λe=>(e.x,e.k):=Rv (f:=λe:En=>(e.x,e.k)) i;rw[Jb]at a;have d:=List.mem_singleton.mp a;injection d with l c;rw[g]at c;injection c with c;subst c;rw[l];exact⟨2,wF X G b⟩
theorem F9(whole:(au (gv.ev (aG defs gv 39)) rest (KL::KE .feed::Mm (qC.length-2) KL)).kS 1000000 (λd=>d=.rt (.bl KN)))(p:PX):∃f fd,Od (head.heap_39 p) LQ "law"=KE (KE (.ref f))/\(∀us:List KJ,us.length=1->RX fd ⟨us,[]⟩=pure ([KI "_law_script"].zip us))/\∀{P:Lb}{w:Lv}{mg:Lf->Option KJ}{base:Lu},w.params=p->Pb (head.heap_39 p) base->base.Ns LQ mg->dI P w (head.heap_39 p) mg base pj 40 f fd ["_law_script"] (wD (head.heap_39 p)):=by
 obtain⟨f,fd,F,c,b⟩:=kq (Kw p) IW;refine⟨f,fd,c,b,λ{P w mg base}a X G=>?_⟩;subst a;have T:iR P w (head.heap_39 w.params) mg base GZ defs gv:=txt X G;exact CW (n:=38) (m:=1000000) T F (wA IY) (zb X G (T.bl _ (yX rfl))) rfl IZ I9 I_ (Ch.of IX) (by decide) whole
end K40
end
section
namespace L2
namespace T
variable{α β:Type}
noncomputable def wp:T α->Nat->(α->Nat->Prop)->Prop
 |.ok a,m,Q=>Q a m|.stuck,_,_=>False|.draw n k,m,Q=>0<n/\n<1073741824/\0<m/\∀i,0<=i->i<n->(k i).wp (m-1) Q|.perm l k,m,Q=>∀b,b.Perm l->(k b).wp m Q
theorem mV{P:α->Prop}:∀{t:T α}{m:Nat},t.wp m (λa _=>P a)->t.kS m P
 |.ok a,m,h=>.ok h|.stuck,_,h=>h.elim|.draw n k,m,h=>by
  obtain⟨f,e,g,d⟩:=h;cases m with
  |zero=>omega|succ m=>exact .draw f e λi a b=>mV (d i a b)
 |.perm l k,m,h=>.perm λc p=>mV (h c p)
theorem wp_mono{Q Q':α->Nat->Prop}(q:∀a m,Q a m->Q' a m):∀{t:T α}{m:Nat},t.wp m Q->t.wp m Q'
 |.ok a,m,h=>q _ _ h|.stuck,_,h=>h.elim|.draw n k,m,h=>⟨h.1,h.2.1,h.2.2.1,λi a b=>wp_mono q (h.2.2.2 i a b)⟩|.perm l k,m,h=>λc p=>wp_mono q (h c p)
theorem bA(a:α)(m:Nat)(Q:α->Nat->Prop):(T.ok a).wp m Q=Q a m:=rfl
theorem wp_pure(a:α)(m:Nat)(Q:α->Nat->Prop):(pure a:T α).wp m Q=Q a m:=rfl
theorem wp_bind(f:α->T β):∀(t:T α)(m:Nat)(Q:β->Nat->Prop),(t>>=f).wp m Q=t.wp m (λa b=>(f a).wp b Q)
 |.ok a,m,Q=>rfl|.stuck,_,_=>rfl|.draw n k,m,Q=>by
  show(0<n/\n<1073741824/\0<m/\∀i,0<=i->i<n->(k i>>=f).wp (m-1) Q)=(0<n/\n<1073741824/\0<m/\∀i,0<=i->i<n->(k i).wp (m-1) λa b=>(f a).wp b Q);simp only[wp_bind f]|.perm l k,m,Q=>by
  show(∀c,c.Perm l->(k c>>=f).wp m Q)=(∀c,c.Perm l->(k c).wp m λa b=>(f a).wp b Q);simp only[wp_bind f]
theorem bE(b:Bool)(m:Nat)(Q:Unit->Nat->Prop):(T.need b).wp m Q=(b=KN/\Q () m):=by
 unfold T.need;cases b with
 |true=>simp[wp]|false=>simp[wp]
theorem gP(a:α)(m:Nat)(Q:α->Nat->Prop):(T.get (KE a)).wp m Q=Q a m:=rfl
theorem zc(n:Int)(k:Int->T α)(m:Nat)(Q:α->Nat->Prop):(T.draw n k).wp m Q=(0<n/\n<1073741824/\0<m/\∀i,0<=i->i<n->(k i).wp (m-1) Q):=rfl
theorem zd(l:List D)(k:List D->T α)(m:Nat)(Q:α->Nat->Prop):(T.perm l k).wp m Q=∀l',l'.Perm l->(k l').wp m Q:=rfl
theorem ze(b:Bool)(x y:T α)(m:Nat)(Q:α->Nat->Prop):(if b=KN then x else y).wp m Q=if b=KN then x.wp m Q else y.wp m Q:=by split<;>rfl
end T
theorem eB{g:D->ah->T ah}{body:ah->T Fl}{Q:Fl->Nat->Prop}(I:List D->ah->Nat->Prop)(step:∀d ds ρ m,I (d::ds) ρ m->(g d ρ).wp m λc j=>(body c).wp j λi e=>match i with
   |.nx a=>I ds a e|.ct a=>I ds a e|.bk a=>Q (.nx a) e|.rt r=>Q (.rt r) e|.ro _=>False)(b:∀ρ m,I [] ρ m->Q (.nx ρ) m):∀{ds:List D}{ρ:ah}{m:Nat},I ds ρ m->(e9 g body ds ρ).wp m Q
 |[],ρ,m,h=>b ρ m h|d::ds,ρ,m,h=>by
  unfold e9;rw[T.wp_bind];refine T.wp_mono (λc j k=>?_) (step d ds ρ m h);rw[T.wp_bind];refine T.wp_mono (λi e f=>?_) k;cases i with
  |nx a=>exact eB I step b f|ct a=>exact eB I step b f|bk a=>exact f|rt r=>exact f|ro r=>exact f.elim
theorem ag{b c:Type}(a:b)(f:b->T c):(T.ok a>>=f)=f a:=rfl
theorem tY(v:Ev):(∀i ρ,ao v (.var i) ρ=T.get (cH ρ i))/\(∀d ρ,ao v (.cst d) ρ=.ok d)/\(∀i ρ,ao v (.iQ i) ρ=T.get (v.iQ i))/\(∀o a b ρ,ao v (.op o a b) ρ=do let d<-ao v a ρ;let e<-ao v b ρ;vT o d e)/\(∀a ρ,ao v (.neg a) ρ=do let i<-bO (<-ao v a ρ);.ok (.int (-i)))/\(∀o a b ρ,ao v (.cmp o a b) ρ=do let d<-ao v a ρ;let e<-ao v b ρ;bz o d e)/\(∀a b ρ,ao v (.and a b) ρ=do let c<-aJ (<-ao v a ρ);if c then ao v b ρ else .ok (.bl KO))/\(∀a b ρ,ao v (.or a b) ρ=do let c<-aJ (<-ao v a ρ);if c then .ok (.bl KN)else ao v b ρ)/\(∀c a b ρ,ao v (.xj c a b) ρ=do let x<-bg v c ρ;if x then ao v a ρ else ao v b ρ)/\(∀a ρ,ao v (.one a) ρ=ao v a ρ)/\(∀a ρ,ao v (.not a) ρ=do let c<-aJ (<-ao v a ρ);.ok (.bl (!c)))/\(∀o o' a b c ρ,ao v (.DF o o' a b c) ρ=do let d<-ao v a ρ;let e<-ao v b ρ;let y<-aJ (<-bz o d e);if y then do let f<-ao v c ρ;bz o' e f else .ok (.bl KO))/\(∀r ρ,ao v (.tup r) ρ=do let ds<-fS (<-fU v r ρ);T.need (decide (ds.length<=M0));.ok (.tup ds))/\(∀r ρ,ao v (.lst r) ρ=do let ds<-fS (<-fU v r ρ);T.need (decide (ds.length<=M0));.ok (.lst ds))/\(∀a b ρ,ao v (.idx a b) ρ=do let d<-ao v a ρ;let e<-ao v b ρ;e7 d e)/\(∀a lo k ρ,ao v (.cut a lo k) ρ=do let d<-ao v a ρ;let l<-Cg v lo ρ;let u<-Cg v k ρ;vU l u d)/\(∀f r ρ,ao v (.bi f r) ρ=do kK f (<-fS (<-fU v r ρ)))/\(∀f r ρ,ao v (.call f r) ρ=do let as<-fU v r ρ;v.call f as)/\(∀y a ρ,ao v (.kJ y a) ρ=do gH y (<-ao v a ρ))/\(∀own j tg it c g ρ,ao v (.lc own j tg it c g) ρ=do let ds<-ni v it ρ;let r<-dR (gf tg) (λρ=>bg v c ρ) (λρ=>ao v g ρ) ds (cQ ρ own.length j);.ok (.lst r))/\(∀i e ρ,ao v (.lL i e) ρ=do let d<-ao v e (pA i ρ);T.need (flat (g9 ρ i) d);.ok d)/\(∀a ρ,ao v (.low a) ρ=do Ce (<-ao v a ρ))/\(∀a ρ,ao v (.Cb a) ρ=do Cf (<-ao v a ρ))/\(∀a st ρ,ao v (.rev a st) ρ=do let d<-ao v a ρ;let z<-bO (<-ao v st ρ);T.need (decide (z=-1));oJ d)/\(∀r ρ,ao v (.vS r) ρ=do Ff (<-fS (<-fU v r ρ)))/\(∀f i h r ρ,ao v (.oH f i h r) ρ=do T.need (fT ρ i);let bs<-fU v r ρ;let d<-v.oI h bs;v.call f [.feed,.own d]):=⟨λ_ _=>rfl,λ_ _=>rfl,λ_ _=>rfl,λ_ _ _ _=>rfl,λ_ _=>rfl,λ_ _ _ _=>rfl,λ_ _ _=>rfl,λ_ _ _=>rfl,λ_ _ _ _=>rfl,λ_ _=>rfl,λ_ _=>rfl,λ_ _ _ _ _ _=>rfl,λ_ _=>rfl,λ_ _=>rfl,λ_ _ _=>rfl,λ_ _ _ _=>rfl,λ_ _ _=>rfl,λ_ _ _=>rfl,λ_ _ _=>rfl,λ_ _ _ _ _ _ _=>rfl,λ_ _ _=>rfl,λ_ _=>rfl,λ_ _=>rfl,λ_ _ _=>rfl,λ_ _=>rfl,λ_ _ _ _ _=>rfl⟩
theorem G5(v:Ev):(∀ρ,bg v .yes ρ=.ok KN)/\(∀a b ρ,bg v (.i_ a b) ρ=do let c<-bg v a ρ;if c then bg v b ρ else .ok KO)/\(∀a b ρ,bg v (.fE a b) ρ=do let c<-bg v a ρ;if c then .ok KN else bg v b ρ)/\(∀a ρ,bg v (.bh a) ρ=bg v a ρ)/\(∀a ρ,bg v (.bx a) ρ=do let c<-bg v a ρ;.ok (!c))/\(∀a ρ,bg v (.fN a) ρ=do yV (<-ao v a ρ))/\(∀o a b ρ,bg v (.aw o a b) ρ=do let d<-ao v a ρ;let e<-ao v b ρ;aJ (<-bz o d e))/\(∀o o' a b c ρ,bg v (.oG o o' a b c) ρ=do let d<-ao v a ρ;let e<-ao v b ρ;let y<-aJ (<-bz o d e);if y then do let f<-ao v c ρ;aJ (<-bz o' e f)else .ok KO)/\(∀a i ρ,bg v (.xk a i) ρ=do let d<-ao v a ρ;let g<-T.get (eZ ρ i);T.need (aD g.1 d);.ok (bN g.1 d))/\(∀i e ρ,bg v (.lL i e) ρ=bg v e (pA i ρ)):=⟨λ_=>rfl,λ_ _ _=>rfl,λ_ _ _=>rfl,λ_ _=>rfl,λ_ _=>rfl,λ_ _=>rfl,λ_ _ _ _=>rfl,λ_ _ _ _ _ _=>rfl,λ_ _ _=>rfl,λ_ _ _=>rfl⟩
theorem zf(v:Ev):(∀ρ,fU v .nil ρ=.ok [])/\(∀a r ρ,fU v (.cons a r) ρ=do let d<-ao v a ρ;let xs<-fU v r ρ;.ok (.d d::xs))/\(∀i r ρ,fU v (.feed i r) ρ=do T.need (fT ρ i);let xs<-fU v r ρ;.ok (.feed::xs))/\(∀ρ,Cg v .nil ρ=.ok KL)/\(∀a ρ,Cg v (.one a) ρ=do let i<-bO (<-ao v a ρ);.ok (KE i)):=⟨λ_=>rfl,λ_ _ _=>rfl,λ_ _ _=>rfl,λ_=>rfl,λ_ _=>rfl⟩
theorem Jc(v:Ev):(∀r ρ,ni v (.ic r) ρ=do match<-fS (<-fU v r ρ)with|[d]=>yW d|_=>.stuck)/\(∀a ρ,ni v (.bG a) ρ=do T.get (cB (<-ao v a ρ))):=⟨λ_ _=>rfl,λ_ _=>rfl⟩
theorem tJ:(∀i d ρ,gf (.nm i) d ρ=.ok (ρ.set i (KE (.d d))))/\(∀n r ds ρ,gf (.tup n r) (.tup ds) ρ=if ds.length=n then ie r ds ρ else .stuck)/\(∀n r ds ρ,gf (.tup n r) (.lst ds) ρ=if ds.length=n then ie r ds ρ else .stuck)/\(∀ρ,ie .nil [] ρ=.ok ρ)/\(∀t r d ds ρ,ie (.cons t r) (d::ds) ρ=do let ρ'<-gf t d ρ;ie r ds ρ'):=⟨λ_ _ _=>rfl,λ_ _ _ _=>rfl,λ_ _ _ _=>rfl,λ_=>rfl,λ_ _ _ _ _=>rfl⟩
theorem di(v:Ev)(s r:aY)(ρ:ah):au v (.cons s r) ρ=(do match<-au v s ρ with|.nx a=>au v r a|b=>.ok b):=rfl
theorem r_(v:Ev)(i:Nat)(e:Ex)(ρ:ah):au v (.set i e) ρ=(do let d<-ao v e ρ;.ok (.nx (ρ.set i (KE (.d d))))):=rfl
theorem F_(v:Ev):(∀tg e ρ,au v (.asg tg e) ρ=do let d<-ao v e ρ;let g<-gf tg d ρ;.ok (.nx g))/\(∀i e ρ,au v (.set i e) ρ=do let d<-ao v e ρ;.ok (.nx (ρ.set i (KE (.d d)))))/\(∀i j r ρ,au v (.par i j r) ρ=do match<-fS (<-fU v r ρ)with|[d,e]=>.ok (.nx ((ρ.set i (KE (.d d))).set j (KE (.d e))))|_=>.stuck)/\(∀e ρ,au v (.ret e) ρ=do let d<-ao v e ρ;.ok (.rt d))/\(∀ρ,au v .nil ρ=.ok (.nx ρ))/\(∀s r ρ,au v (.cons s r) ρ=do match<-au v s ρ with|.nx g=>au v r g|o=>.ok o)/\(∀c a b ρ,au v (.iff c a b) ρ=do let x<-bg v c ρ;if x then au v a ρ else au v b ρ)/\(∀tg it b ρ,au v (.e8 tg it b) ρ=do e9 (gf tg) (au v b) (<-ni v it ρ) ρ)/\(∀i r ρ,au v (.qi i r) ρ=do T.need (vx ρ);let ds<-fS (<-fU v r ρ);T.need (decide (ds.length<=M0));.ok (.nx (ρ.set i (KE (.own (.lst ds))))))/\(∀i ρ,au v (.g9 i) ρ=do T.need (vx ρ);.ok (.nx (ρ.set i (KE (.own (.aQ [] []))))))/\(∀i e ρ,au v (.app i e) ρ=do let ds<-c_ (<-T.get (eW ρ i));let d<-ao v e ρ;T.need (decide (ds.length<M0));.ok (.nx (ρ.set i (KE (.own (.lst (ds++[d])))))))/\(∀i k e ρ,au v (.put i k e) ρ=do let d<-ao v e ρ;let f<-oK (<-T.get (eW ρ i));let q<-ao v k ρ;T.need (decide (f.1.length<M0)&&aD f.1 q);.ok (.nx (ρ.set i (KE (.own (.aQ (putD f.1 f.2 q d).1 (putD f.1 f.2 q d).2))))))/\(∀i s ρ,au v (.fz i s) ρ=au v s (pA i ρ))/\(∀i e ρ,au v (.ext i e) ρ=do let ds<-c_ (<-T.get (eW ρ i));let l<-c_ (<-ao v e ρ);T.need (decide (ds.length+l.length<=M0));.ok (.nx (ρ.set i (KE (.own (.lst (ds++l)))))))/\(∀i r ρ,au v (.vV i r) ρ=do T.need (vx ρ);match<-fS (<-fU v r ρ)with|[d]=>(do let j<-bO d;T.need (decide (0<=j)&&decide (j<=1000000));.ok (.nx (ρ.set i (KE (.own (.lst (aB j.toNat)))))))|_=>.stuck)/\(∀i ρ,au v (.vW i) ρ=do T.need (vZ i ρ);.ok (.nx (ρ.set i (KE (.fI [] [])))))/\(∀i k ρ,au v (.putN i k) ρ=do let f<-T.get (eZ ρ i);let q<-ao v k ρ;T.need (decide (f.1.length<M0)&&(aD f.1 q&&!bN f.1 q));.ok (.nx (ρ.set i (KE (.fI (f.1++[q]) (f.2++[.lst []]))))))/\(∀i k e ρ,au v (.ja i k e) ρ=do let f<-T.get (eZ ρ i);let q<-ao v k ρ;T.need (aD f.1 q);let ys<-c_ (<-T.get (aF f.1 f.2 q));let d<-ao v e ρ;T.need (decide (ys.length<M0));.ok (.nx (ρ.set i (KE (.fI f.1 (vI (λ_=>.lst (ys++[d])) q f.1 f.2))))))/\(∀i ρ,au v (.vX i) ρ=do let f<-T.get (eZ ρ i);.ok (.ro (.aQ f.1 f.2)))/\(∀i n h k it e ρ,au v (.vY i n h k it e) ρ=do let m<-c_ (<-T.get (eW ρ i));let ds<-ni v it ρ;let r<-tE (λρ=>ao v e ρ) ρ i h ds m;.ok (.rt (.lst r))):=⟨λ_ _ _=>rfl,λ_ _ _=>rfl,λ_ _ _ _=>rfl,λ_ _=>rfl,λ_=>rfl,λ_ _ _=>rfl,λ_ _ _ _=>rfl,λ_ _ _ _=>rfl,λ_ _ _=>rfl,λ_ _=>rfl,λ_ _ _=>rfl,λ_ _ _ _=>rfl,λ_ _ _=>rfl,λ_ _ _=>rfl,λ_ _ _=>rfl,λ_ _=>rfl,λ_ _ _=>rfl,λ_ _ _ _=>rfl,λ_ _=>rfl,λ_ _ _ _ _ _ _=>rfl⟩
theorem bY{g:D->ah->T ah}{tc:ah->T Bool}{te:ah->T D}{c:D->Bool}{e:D->D}(S:ah->Prop):∀{ds:List D}{ρ:ah},(∀ρ,S ρ->∀d∈ds,∃b,g d ρ=.ok b/\S b/\tc b=.ok (c d)/\(c d=KN->te b=.ok (e d)))->S ρ->dR g tc te ds ρ=.ok ((ds.filter c).map e)
 |[],ρ,_,_=>rfl|d::ds,ρ,h,o=>by
  obtain⟨b,n,m,l,k⟩:=h ρ o d K2;have i:=bY S (ds:=ds) (ρ:=b) (λρ a x j=>h ρ a x (K1 _ j)) m;unfold dR;rw[n,ag,l,ag];cases f:c d with
  |true=>rw[if_pos rfl,k f,ag,i,ag,List.filter_cons_of_pos f];rfl|false=>rw[if_neg (by simp),i,List.filter_cons_of_neg (by simp[f])]
end L2
namespace K40
open PySem L2 K40d
noncomputable abbrev V(n:Nat):Ev:=gv.ev (aG defs gv n)
theorem wG(n f:Nat)(as:List A):(V n).call f as=aV defs gv n f as:=rfl
theorem CY(n f:Nat)(as:List A):(V n).oI f as=rX defs gv n f as:=rfl
noncomputable def tZ:Fl->T D
 |.rt d=>.ok d|.nx _=>.ok .bw|_=>.stuck
noncomputable def JW:Fl->T D
 |.ro d=>.ok d|_=>.stuck
theorem T.jk{d c e:Type}(f:d->T c)(b:c->T e):∀(t:T d),((t>>=f)>>=b)=(t>>=λa=>f a>>=b)
 |.ok a=>rfl|.stuck=>rfl|.draw n k=>by
  show T.draw n (λi=>((k i>>=f)>>=b))=T.draw n (λi=>(k i>>=λa=>f a>>=b));congr 1;funext i;exact T.jk f b (k i)|.perm l k=>by
  show T.perm l (λi=>((k i>>=f)>>=b))=T.perm l (λi=>(k i>>=λa=>f a>>=b));congr 1;funext i;exact T.jk f b (k i)
theorem wH{n f:Nat}{as:List A}{d:Df}(h:defs[f]?=KE (.df d))(a:as.length=d.np):aG defs gv (n+1) f as=(au (V n) d.body (bW d.nn as)>>=DJ):=by
 show(match defs[f]? with
  |none=>T.stuck|some (.wit t)=>t as|some (.df d)=>if as.length=d.np then do DJ (<-au (V n) d.body (bW d.nn as))else .stuck)=_;rw[h];show(if as.length=d.np then _ else _)=_;rw[if_pos a]
theorem aS{n f:Nat}{as:List A}{d:Df}(h:defs[f]?=KE (.df d))(a:as.length=d.np):aV defs gv (n+1) f as=(au (V n) d.body (bW d.nn as)>>=tZ):=by
 show aG defs gv (n+1) f as>>=toD=_;rw[wH h a,T.jk];congr 1;funext b;cases b<;>rfl
theorem zg{n f:Nat}{as:List A}{d:Df}(h:defs[f]?=KE (.df d))(a:as.length=d.np):rX defs gv (n+1) f as=(au (V n) d.body (bW d.nn as)>>=JW):=by
 show aG defs gv (n+1) f as>>=Fe=_;rw[wH h a,T.jk];congr 1;funext b;cases b<;>rfl
theorem tK(n:Nat)(k:Int):aV defs gv (n+1) 6 [.feed,.d (.int k)]=.draw k λi=>.ok (.int i):=rfl
theorem gU:1000000<=KU:=by decide
theorem sd{k:Nat}(h:k<=1000000):decide (k<=KU)=KN:=decide_eq_true (L7 h gU)
theorem Jd{a:D}{r:List D}:fw (a::r) 0=KE a:=dk (j:=0) rfl
theorem Je{a b:D}{r:List D}:fw (a::b::r) 1=KE b:=dk (j:=1) rfl
theorem Ga{xs:List D}{i:Int}{d:D}(a:0<=i)(h:xs[i.toNat]?=KE d):fw xs i=KE d:=by
 have:=dk h;rwa[show((i.toNat:Nat):Int)=i by omega]at this
theorem Wp{c:Type}:(∀(a:c)(m:Nat)(Q:c->Nat->Prop),(T.ok a).wp m Q=Q a m)/\(∀(a:c)(m:Nat)(Q:c->Nat->Prop),(pure a:T c).wp m Q=Q a m)/\(∀(a:c)(m:Nat)(Q:c->Nat->Prop),(T.get (KE a)).wp m Q=Q a m)/\(∀(n:Int)(k:Int->T c)(m:Nat)(Q:c->Nat->Prop),(T.draw n k).wp m Q=(0<n/\n<1073741824/\0<m/\∀i,0<=i->i<n->(k i).wp (m-1) Q))/\(∀(l:List D)(k:List D->T c)(m:Nat)(Q:c->Nat->Prop),(T.perm l k).wp m Q=∀l',l'.Perm l->(k l').wp m Q)/\∀(b:Bool)(x y:T c)(m:Nat)(Q:c->Nat->Prop),(if b=KN then x else y).wp m Q=if b=KN then x.wp m Q else y.wp m Q:=⟨T.bA,T.wp_pure,T.gP,T.zc,T.zd,T.ze⟩
theorem Lm{b c:Type}(f:b->c):(∀(a:b)(l:List b),(a::l).map f=f a::l.map f)/\([]:List b).map f=[]:=⟨λ_ _=>rfl,rfl⟩
theorem Ls{c:Type}:(∀(a:c)(l r:List c),(a::l)++r=a::(l++r))/\(∀l:List c,[]++l=l)/\(∀(a:c)(l:List c),(a::l).length=l.length+1)/\([]:List c).length=0/\(∀(a b:c)(l:List c),(a::l).set 0 b=b::l)/\(∀(a b:c)(l:List c)(n:Nat),(a::l).set (n+1) b=a::l.set n b)/\(∀(a:c)(l:List c),(a::l)[0]?=KE a)/\∀(a:c)(l:List c)(n:Nat),(a::l)[n+1]?=l[n]?:=⟨λ_ _ _=>rfl,λ_=>rfl,λ_ _=>rfl,rfl,λ_ _ _=>rfl,λ_ _ _ _=>rfl,λ_ _=>rfl,λ_ _ _=>rfl⟩
theorem Ix:(∀(xs:List D)(i:Int),e7 (.lst xs) (.int i)=T.get (fw xs i))/\(∀(xs:List D)(i:Int),e7 (.tup xs) (.int i)=T.get (fw xs i))/\(∀(a:D)(r:List D),fw (a::r) 0=KE a)/\(∀(a b:D)(r:List D),fw (a::b::r) 1=KE b)/\(∀i j:Int,bz .Lt (.int i) (.int j)=.ok (.bl (decide (i<j))))/\(∀i j:Int,bz .Gt (.int i) (.int j)=.ok (.bl (decide (j<i))))/\(∀i j:Int,bz .LtE (.int i) (.int j)=.ok (.bl (decide (i<=j))))/\(∀i j:Int,bz .Eq (.int i) (.int j)=.ok (.bl (i==j)))/\(∀i j:Int,vT .Add (.int i) (.int j)=.ok (.int (i+j)))/\(∀i j:Int,vT .Sub (.int i) (.int j)=.ok (.int (i-j)))/\(vT .Pow (.int 10) (.int 6)=.ok (.int 1000000))/\(vT .Pow (.int 10) (.int 30)=.ok (.int 1000000000000000000000000000000))/\(∀i j:Int,vT .Mult (.int i) (.int j)=(do T.need (c8 i||c8 j);.ok (.int (i*j))))/\(∀b,yV (.bl b)=.ok b):=⟨λ_ _=>rfl,λ_ _=>rfl,λ_ _=>Jd,λ_ _ _=>Je,λ_ _=>rfl,λ_ _=>rfl,λ_ _=>rfl,λ_ _=>rfl,λ_ _=>rfl,λ_ _=>rfl,rfl,rfl,λ_ _=>rfl,λ_=>rfl⟩
local macro_rules|`(tactic|subst_eqs)=>`(tactic|simp only[F_,tY,G5,zf,Jc,tJ,fS,bO,aJ,Wp,T.wp_bind,T.bE,ag,wG,CY,tK,cH,eW,eZ,pA,fT,c_,oK,bW,A.w,yW,Lm,Ls,Mm,O1,Nat.reduceSub,true_and,and_true,tZ,JW,Ix,if_true])
theorem G6:decide (0<=KU)=KN:=sd (by decide)
theorem zh:decide (1<=KU)=KN:=sd (by decide)
theorem wI:decide (2<=KU)=KN:=sd (by decide)
theorem JX:decide (3<=KU)=KN:=sd (by decide)
theorem Cl{b:Type}(a:b):T.get (KE a)=.ok a/\(pure a:T b)=.ok a:=⟨rfl,rfl⟩
theorem Sd:T.need KN=.ok ()/\decide (0<=KU)=KN/\decide (1<=KU)=KN/\decide (2<=KU)=KN/\decide (3<=KU)=KN:=⟨rfl,G6,zh,wI,JX⟩
local macro_rules|`(tactic|bv_omega)=>`(tactic|simp only[tY,G5,zf,tJ,fS,bO,aJ,ag,cH,Cl,Sd,Ix,Lm,Ls,O1,if_true])
theorem se{g:T ah}{body:ah->T Fl}{m:Nat}{c:Fl->Nat->Prop}(h:∀Q:Fl->Nat->Prop,(∀d m,c d m->Q d m)->g.wp m λa b=>(body a).wp b Q):g.wp m λa b=>(body a).wp b c:=h c λ_ _ z=>z
theorem dC{b:Type}{t:T b}{m:Nat}{c:b->Nat->Prop}(h:∀Q:b->Nat->Prop,(∀a m,c a m->Q a m)->t.wp m Q):t.wp m c:=h c λ_ _ z=>z
theorem bq{v:Ev}{s r:aY}{ρ a:ah}(h:au v s ρ=.ok (.nx a)):au v (.cons s r) ρ=au v r a:=by rw[di,h];rfl
theorem mW{v:Ev}{i:Nat}{e:Ex}{r:aY}{d:D}{ρ:ah}(h:ao v e ρ=.ok d):au v (.cons (.set i e) r) ρ=au v r (ρ.set i (KE (.d d))):=bq (by rw[r_,h];rfl)
theorem bZ{v:Ev}{i:Nat}{e:Ex}{r:aY}{ρ:ah}{m:Nat}{Q:Fl->Nat->Prop}(h:(ao v e ρ).wp m λd a=>(au v r (ρ.set i (KE (.d d)))).wp a Q):(au v (.cons (.set i e) r) ρ).wp m Q:=by
 rw[di,r_,T.wp_bind,T.wp_bind];exact h
theorem kF{i j:Int}(h:0<=i/\i<1000):(c8 i||c8 j)=KN:=by
 have:c8 i=KN:=by simp[c8];omega
 rw[this];rfl
inductive LI(k s:Int)(m:Nat)(ds:List D)(ρ:ah)(m':Nat):Prop|mk(xs:List Int)(x:Int)(o:Option W)(eρ:ρ=[KE .feed,KE (.d (.int k)),KE (.d (.int s)),KE (.d (.int x)),KE (.own (.lst ((xs++[x]).map D.int))),o])(g1:m<=m'+xs.length+1)(g3:xs.length+1+ds.length=k)(g4:∀y∈xs++[x],0<=y/\y<=260000)(g6:x<=60000*xs.length+20000)(g7:(xs++[x]).Pairwise (·<·))
theorem zi{n:Nat}{k s:Int}{m:Nat}(Y:2<=k/\k<=5)(B:s=1\/s=10000)(X:10<=m):(aV defs gv (n+2) 7 [.feed,.d (.int k),.d (.int s)]).wp m (λd t=>m<=t+7/\∃xs:List Int,d=.lst (xs.map D.int)/\(xs.length:Int)=k/\(∀x∈xs,0<=x/\x<=1000000)/\xs.Pairwise (·<·)):=by
 have z:=gU;rw[aS (d:=fc) rfl rfl];unfold fc;refine dC λQ C=>?_;rw[T.wp_bind];have S:1<=s/\s<=10000:=by omega
 subst_eqs;refine⟨by omega,by omega,by omega,λi M Z=>⟨kF ⟨M,by omega⟩,rfl,sd (by decide),by simp;omega,?_⟩⟩;refine eB (LI k s m) ?_ ?_ ⟨[],i*s,KL,by simp,by simp;omega,by simp[aB];omega,?_,?_,by simp⟩
 .rintro d ds ρ I⟨xs,x,o,rfl,E,r,j,H,g7⟩;simp only[LM]at r;refine se λQ C=>?_;unfold r6;subst_eqs;refine⟨by omega,by omega,by omega,λw R P=>⟨kF ⟨by omega,by omega⟩,by simp;omega,C _ _ ?_⟩⟩;have J:=j x (by simp);have hw:1<=(1+w)*s/\(1+w)*s<=60000:=by rcases B with rfl|rfl<;>omega
  refine LI.mk (xs++[x]) (x+(1+w)*s) (KE (.d d)) (by simp) (by simp;omega) (by simp;omega) (λy f=>?_) (by simp;omega) ?_
  .rcases List.mem_append.mp f with h|h;.exact j y h
   .rw[List.mem_singleton.mp h];constructor;.omega
    .simp at H r⊢;omega
  .rw[List.pairwise_append];refine⟨g7,by simp,λa ha b hb=>?_⟩;rw[List.mem_singleton.mp hb];rcases List.mem_append.mp ha with z|z
   .have:=(List.pairwise_append.mp g7).2.2 a z x (by simp);omega
   .rw[List.mem_singleton.mp z];omega
 .rintro ρ I⟨xs,x,o,rfl,E,r,j,H,g7⟩;simp only[Ma]at r;unfold rZ;have A:∀(q:List Int)(w:W)(p:Nat),w=.own (.lst (q.map D.int))\/w=.d (.lst (q.map D.int))->m<=p+7->(q.length:Int)=k->(∀x∈q,0<=x/\x<=1000000)->q.Pairwise (·<·)->(au (V (n+1)) jj [KE .feed,KE (.d (.int k)),KE (.d (.int s)),KE (.d (.int x)),KE w,o]).wp p (λF t=>(tZ F).wp t Q):=λq w p hw E N r j=>by
   unfold jj;rcases hw with rfl|rfl<;>(subst_eqs;exact C _ _ ⟨E,q,rfl,N,r,j⟩)
  have l:∀p,m<=p+7->(au (V (n+1)) jj [KE .feed,KE (.d (.int k)),KE (.d (.int s)),KE (.d (.int x)),KE (.own (.lst ((xs++[x]).map D.int))),o]).wp p (λF t=>(tZ F).wp t Q):=λp L=>A (xs++[x]) _ p (.inl rfl) L (by simp;omega) (λy f=>⟨(j y f).1,by have:=(j y f).2;omega⟩) g7;subst_eqs;by_cases v:1<s
  .rw[decide_eq_true v,if_pos rfl];refine⟨by omega,by omega,by omega,λi i0 U=>?_⟩;by_cases G:i=0
   .subst G;rw[if_pos (by simp)];have O:=bY (g:=gf (.nm 0)) (tc:=λρ=>T.ok KN) (te:=λρ=>ao (V (n+1)) mQ ρ) (c:=λ_=>KN) (e:=λd=>match d with|.int y=>.int (y+1000000-x)|d=>d) (λρ=>∃o,ρ=[o,KE (.d (.int x))]) (ds:=(xs++[x]).map D.int) (ρ:=cQ [KE .feed,KE (.d (.int k)),KE (.d (.int s)),KE (.d (.int x)),KE (.d (.lst ((xs++[x]).map D.int))),o] 1 [3]) (by
     rintro ρ⟨o,rfl⟩d hd;obtain⟨y,f,rfl⟩:=List.mem_map.mp hd;refine⟨_,rfl,⟨_,rfl⟩,rfl,λ_=>?_⟩;unfold mQ;bv_omega) ⟨KL,rfl⟩;simp only[cB,T.gP];rw[O,T.bA];have em:(List.filter (λ_=>KN) ((xs++[x]).map D.int)).map (λd=>match d with|.int y=>.int (y+1000000-x)|d=>d)=((xs++[x]).map λy=>y+1000000-x).map D.int:=by rw[List.filter_eq_self.mpr (λ_ _=>rfl),LA,LA];rfl
    rw[em];have J:=j x (by simp);refine A _ _ _ (.inr rfl) (by omega) (by simp;omega) (λy f=>?_) ?_
    .obtain⟨u,hu,rfl⟩:=List.mem_map.mp f;have K:=j u hu;have:u<=x:=by
      rcases List.mem_append.mp hu with z|z;.have:=(List.pairwise_append.mp g7).2.2 u z x (by simp);omega
      .rw[List.mem_singleton.mp z];exact PL _
     omega
    .rw[R9];exact g7.imp λ{a b}h=>by omega
   .rw[if_neg (by simpa using G)];exact l _ (by omega)
  .rw[decide_eq_false v,if_neg (by simp)];exact l _ (by omega)
 .intro y f;have:y=i*s:=by simpa using f
  rw[this];rcases B with rfl|rfl<;>omega
 .rcases B with rfl|rfl<;>simp<;>omega
abbrev Kt:=Int×Int
noncomputable def kn(p:Kt):D:=.tup [.int p.1,.int p.2]
abbrev Gr:=List (Kt×List Kt)
noncomputable def bt(G:Gr):List D:=G.map λp=>kn p.1
noncomputable def dj(G:Gr):List D:=G.map λp=>.lst (p.2.map kn)
noncomputable def gt:Gr->Kt->Option (List Kt)
 |[],_=>KL|(k,l)::r,q=>if k=q then KE l else gt r q
theorem fH(p q:Kt):eG (kn p) (kn q)=decide (p=q):=by
 show(decide (p.1=q.1)&&(decide (p.2=q.2)&&KN))=_;rw[MB];simp[Pf]
theorem gc(q:Kt):∀(G:Gr),aF (bt G) (dj G) (kn q)=(gt G q).map λl=>.lst (l.map kn)
 |[]=>rfl|(k,l)::r=>by
  have a:=gc q r;unfold bt dj at a⊢;simp only[Li,aF,fH,gt,a,decide_eq_true_eq];split<;>rfl
theorem sf(q:Kt):∀(G:Gr),bN (bt G) (kn q)=(gt G q).isSome
 |[]=>rfl|(k,l)::r=>by
  have a:=sf q r;unfold bN bt at a⊢;simp only[Li,NA,fH,gt,a];by_cases h:k=q<;>simp[h]
theorem b5(G:Gr)(q:Kt):aD (bt G) (kn q)=KN:=by
 unfold aD;rw[Mc];right;rw[KW];refine⟨List.all_eq_true.mpr λx a=>?_,rfl⟩;obtain⟨p,_,rfl⟩:=List.mem_map.mp a;rfl
noncomputable def sg(G:Gr)(q:Kt)(l:List Kt):Gr:=G.map λp=>if p.1=q then(p.1,l)else p
theorem kG{G:Gr}{q:Kt}{l:List Kt}(k:Kt):gt (sg G q l) k=if k=q then(gt G k).map λ_=>l else gt G k:=by induction G with
 |nil=>simp[sg,gt]|cons p r d=>
  obtain⟨a,b⟩:=p;unfold sg at d⊢;simp only[Li];by_cases e:a=q
  .subst e;rw[if_pos rfl];simp only[gt];by_cases c:a=k;.subst c;simp
   .rw[if_neg c,if_neg c,d]
  .rw[if_neg e];simp only[gt];by_cases c:a=k;.subst c;simp[e]
   .rw[if_neg c,if_neg c,d]
theorem fh(G:Gr)(q:Kt)(l:List Kt):(sg G q l).map (·.1)=G.map (·.1):=by
 unfold sg;rw[LA];refine LV λp _=>?_;simp only[NG];split<;>rfl
theorem qD(G:Gr)(q:Kt)(l:List Kt):bt (sg G q l)=bt G:=by
 have:=congrArg (List.map kn) (fh G q l);simpa[bt,LA,R_]using this
theorem wJ(q:Kt)(l:List Kt):∀(G:Gr),gB (bt G) (dj G) (kn q) (.lst (l.map kn))=dj (sg G q l)
 |[]=>rfl|(a,b)::r=>by
  have c:=wJ q l r;unfold bt dj sg at c⊢;simp only[Li,gB,fH,c,decide_eq_true_eq];by_cases h:a=q<;>simp[h]
theorem zX{G:Gr}{q:Kt}(l:List Kt)(h:(gt G q).isSome=KN):putD (bt G) (dj G) (kn q) (.lst (l.map kn))=(bt (sg G q l),dj (sg G q l)):=by
 unfold putD;rw[sf,if_pos h,wJ,qD]
theorem fi{G:Gr}{k:Kt}:(gt G k).isSome=KN↔k∈G.map (·.1):=by induction G with
 |nil=>simp[gt]|cons p r c=>
  obtain⟨a,b⟩:=p;simp only[gt,Li,Mx];by_cases h:a=k;.simp[h]
  .rw[if_neg h,c];constructor;.exact .inr
   .rintro(rfl|z);.exact absurd rfl h
    .exact z
theorem CZ{f:D->D}{q:Kt}{l l':List Kt}(g:f (.lst (l.map kn))=.lst (l'.map kn)):∀{G:Gr},(G.map (·.1)).Nodup->gt G q=KE l->vI f (kn q) (bt G) (dj G)=dj (sg G q l')
 |[],_,h=>by simp[gt]at h|(a,b)::r,nd,h=>by
  simp only[Li,M6]at nd;have d:=CZ (q:=q) g (G:=r) nd.2;unfold bt dj sg at d⊢;simp only[Li,vI,fH,decide_eq_true_eq];simp only[gt]at h;by_cases e:a=q
  .subst e;rw[if_pos rfl]at h;cases h;rw[if_pos rfl,if_pos rfl,g];have:∀p∈r,(if p.1=a then(p.1,l')else p)=p:=λp c=>if_neg λ(z:p.1=a)=>nd.1 (by rw[<-z];exact Rv (f:=λx:Kt×List Kt=>x.1) c);congr 1;rw[LA];refine LV λp c=>?_;simp only[NG,this p c]
  .rw[if_neg e]at h;rw[if_neg e,if_neg e,d h]
noncomputable def jb(k t:Kt):Prop:=(t.1=k.1/\t.2≠k.2)\/(t.2=k.2/\t.1≠k.1)
noncomputable def dD(k t u:Kt):Prop:=(t.1=k.1/\u.1=k.1/\(k.2<t.2↔k.2<u.2))\/(t.2=k.2/\u.2=k.2/\(k.1<t.1↔k.1<u.1))
structure Jf(G:Gr)(k:Kt)(l:List Kt):Prop where
 nd:l.Nodup
 ln:∀t∈l,jb k t
 sy:∀t∈l,∃l',gt G t=KE l'/\k∈l'
 on:∀t∈l,∀u∈l,t≠u->¬dD k t u
noncomputable def Joins(G:Gr):Prop:=∀k l,gt G k=KE l->Jf G k l
noncomputable def to(k b t:Kt):Kt:=if t≠k then t else b
theorem Joins.merge{G:Gr}{k a b:Kt}{d m:List Kt}(J:Joins G)(X:gt G k=KE [a,b])(ha:gt G a=KE d)(hb:gt G b=KE m)(hl:a.1=b.1\/a.2=b.2):a≠b/\Joins (sg (sg (sg G a (d.map (to k b))) b (m.map (to k a))) k []):=by
 have ok:=J k _ X;have f:a≠b:=λz=>by have:=ok.nd;simp[z]at this
 refine⟨f,?_⟩;have L:=ok.ln a (by simp);have K:=ok.ln b (by simp);have ns:=ok.on a (by simp) b (by simp) f;have c:=J a _ ha;have H:=J b _ hb;have p:k∈d:=by obtain⟨M,e,h⟩:=ok.sy a (by simp);rw[ha]at e;cases e;exact h
 have v:k∈m:=by obtain⟨M,e,h⟩:=ok.sy b (by simp);rw[hb]at e;cases e;exact h
 have a0:a.1≠b.1\/a.2≠b.2:=by
  by_cases h:a.1=b.1;.right;intro z;exact f (Prod.ext h z)
  .exact .inl h
 unfold jb at L K;unfold dD at ns;have a4:(a.1=k.1/\b.1=k.1/\(a.2<k.2/\k.2<b.2\/b.2<k.2/\k.2<a.2))\/(a.2=k.2/\b.2=k.2/\(a.1<k.1/\k.1<b.1\/b.1<k.1/\k.1<a.1)):=by omega
 have o:k≠a:=λz=>by rw[z]at L;omega
 have n:k≠b:=λz=>by rw[z]at K;omega
 have D:∀u:Kt,dD a b u↔dD a k u:=λu=>by unfold dD;omega
 have Q:∀u:Kt,dD b a u↔dD b k u:=λu=>by unfold dD;omega
 have C:∀u:Kt,dD a u b↔dD a u k:=λu=>by unfold dD;omega
 have P:∀u:Kt,dD b u a↔dD b u k:=λu=>by unfold dD;omega
 have w:b∉d:=λh=>by
  have:=c.on k p b h n;apply this;unfold dD;omega
 have Z:a∉m:=λh=>by
  have:=H.on k v a h o;apply this;unfold dD;omega
 have E:jb a b:=by unfold jb;omega
 have U:jb b a:=by unfold jb;omega
 have g:∀x,gt (sg (sg (sg G a (d.map (to k b))) b (m.map (to k a))) k []) x=if x=k then KE []else if x=b then KE (m.map (to k a))else if x=a then KE (d.map (to k b))else gt G x:=λx=>by
  rw[kG,kG,kG];by_cases i:x=k;.subst i;simp[o,n,X]
  .rw[if_neg i,if_neg i];by_cases q:x=b;.subst q;simp[LP f,hb]
   .rw[if_neg q,if_neg q];by_cases j:x=a;.subst j;simp[ha]
    .rw[if_neg j,if_neg j]
 have one:∀(a b:Kt)(d m:List Kt)(r:Gr),gt r k=KE []->gt r a=KE (d.map (to k b))->gt r b=KE (m.map (to k a))->(∀x,x≠k->x≠a->x≠b->gt r x=gt G x)->Jf G a d->k∈d->k∈m->b∉d->jb a b->(∀u,dD a b u↔dD a k u)->(∀u,dD a u b↔dD a u k)->k≠a->a≠b->k≠b->Jf r a (d.map (to k b)):=by
  intro a b d m r g1 g2 g3 g4 c p v w E D C o f n;have mem:∀t∈d.map (to k b),t=b\/t∈d/\t≠k:=λt B=>by
   obtain⟨u,hu,rfl⟩:=List.mem_map.mp B;unfold to;by_cases h:u=k;.left;simp[h]
   .right;rw[if_pos h];exact⟨hu,h⟩
  refine⟨?_,λt B=>?_,λt B=>?_,λt B u hu I=>?_⟩
  .refine PN (R:=λx y=>x≠y/\x∈d/\y∈d) _ (λx y h=>?_) (Ot (λ{x y}s V h=>⟨h,s,V⟩) c.nd);unfold to;obtain⟨i,q,j⟩:=h;split
   .split;.exact i
    .intro z;exact w (z▸q)
   .rename_i s;split;.intro z;exact w (z▸j)
    .rename_i V;exact absurd ((Decidable.not_not.mp s).trans (Decidable.not_not.mp V).symm) i
  .rcases mem t B with rfl|⟨h,_⟩;.exact E
   .exact c.ln t h
  .rcases mem t B with rfl|⟨h,W⟩;.exact⟨_,g3,List.mem_map.mpr ⟨k,v,by unfold to;rw[if_neg (by simp)]⟩⟩
   .obtain⟨M,e,F⟩:=c.sy t h;have T:t≠a:=λz=>by have:=c.ln t h;rw[z]at this;unfold jb at this;omega
    have S:t≠b:=λz=>w (z▸h);exact⟨M,by rw[g4 t W T S];exact e,F⟩
  .rcases mem t B with rfl|⟨i,q⟩
   .rcases mem u hu with rfl|⟨j,h4⟩;.exact absurd rfl I
    .rw[D];exact c.on k p u j (LP h4)
   .rcases mem u hu with rfl|⟨j,h4⟩;.rw[C];exact c.on t i k p q
    .exact c.on t i u j I
 generalize sg (sg (sg G a (d.map (to k b))) b (m.map (to k a))) k []=r at g⊢;have Y:gt r k=KE []:=by rw[g,if_pos rfl]
 have N:gt r b=KE (m.map (to k a)):=by rw[g,if_neg (LP n),if_pos rfl]
 have O:gt r a=KE (d.map (to k b)):=by rw[g,if_neg (LP o),if_neg f,if_pos rfl]
 have go:∀x,x≠k->x≠a->x≠b->gt r x=gt G x:=λx i q j=>by rw[g,if_neg i,if_neg j,if_neg q]
 intro x l s;by_cases i:x=k
 .subst i;rw[Y]at s;cases s;exact⟨by simp,by simp,by simp,by simp⟩
 by_cases q:x=a
 .subst q;rw[O]at s;cases s;exact one x b d m r Y O N go c p v w E D C o f n
 by_cases j:x=b
 .subst j;rw[N]at s;cases s;exact one x a m d r Y N O (λy a1 a2 a3=>go y a1 a3 a2) H v p Z U Q P n (LP f) o
 rw[go x i q j]at s;have A:=J x l s;refine⟨A.nd,A.ln,λt B=>?_,A.on⟩;obtain⟨M,e,F⟩:=A.sy t B;by_cases t1:t=k
 .subst t1;rw[X]at e;cases e;simp at F;rcases F with z|z;.exact absurd z q
  .exact absurd z j
 by_cases t2:t=a
 .subst t2;rw[ha]at e;cases e;exact⟨_,O,List.mem_map.mpr ⟨x,F,by unfold to;rw[if_pos i]⟩⟩
 by_cases t3:t=b
 .subst t3;rw[hb]at e;cases e;exact⟨_,N,List.mem_map.mpr ⟨x,F,by unfold to;rw[if_pos i]⟩⟩
 exact⟨M,by rw[go t t1 t2 t3];exact e,F⟩
theorem wK{n j:Nat}(h:j<n):(aB n).drop j=.int (j:Int)::(aB n).drop (j+1):=by
 have a:j<(aB n).length:=by simpa[aB]using h
 rw[Nq a];congr 1;simp[aB]
theorem mX{g:D->ah->T ah}{body:ah->T Fl}{Q:Fl->Nat->Prop}{n:Nat}(I:Nat->ah->Nat->Prop)(step:∀j ρ m,j<n->I j ρ m->(g (.int (j:Int)) ρ).wp m λc p=>(body c).wp p λl i=>match l with
   |.nx b=>I (j+1) b i|.rt r=>Q (.rt r) i|_=>False)(o:∀ρ m,I n ρ m->Q (.nx ρ) m){ρ:ah}{m:Nat}(h:I 0 ρ m):(e9 g body (aB n) ρ).wp m Q:=by
 refine eB (λq ρ m=>∃j,j<=n/\q=(aB n).drop j/\I j ρ m) (λd q ρ m k=>?_) (λρ m k=>?_) ⟨0,Mo _,by simp,h⟩
 .obtain⟨j,s,e,h⟩:=k;have a:j<n:=by
   by_cases a:j<n;.exact a
   .rw[List.drop_of_length_le (by simp[aB];omega)]at e;cases e
  rw[wK a]at e;cases e;refine T.wp_mono (λc p t=>T.wp_mono (λl i f=>?_) t) (step j ρ m a h);cases l with
  |nx b=>exact⟨j+1,a,rfl,f⟩|rt r=>exact f|bk _=>exact f.elim|ct _=>exact f.elim|ro _=>exact f
 .obtain⟨j,s,e,h⟩:=k;have:j=n:=by
   have:=congrArg OA e;simp[aB]at this;omega
  subst this;exact o ρ m h
structure KG(c:Int)(G:Gr)(j i:Int):Prop where
 nd:(G.map (·.1)).Nodup
 km:∀k:Kt,k∈G.map (·.1)↔(0<=k.1/\k.1<c/\0<=k.2/\(k.2<j\/k.2=j/\k.1<i))em:∀k l,gt G k=KE l->l=[]ln:G.length<=j*c+i
noncomputable abbrev yx(c r:Int)(G:Gr)(o4 o5:Option W):ah:=[KE .feed,KE (.d (.int c)),KE (.d (.int r)),KE (.fI (bt G) (dj G)),o4,o5,KL,KL,KL,KL]
theorem C0{G:Gr}{q:Kt}{l:List Kt}(k:Kt)(h:gt G q=KL):gt (G++[(q,l)]) k=if k=q then KE l else gt G k:=by induction G with
 |nil=>
  by_cases e:k=q;.simp[gt,e]
  .have g:¬q=k:=λz=>e z.symm;simp[gt,e,g]|cons p r f=>
  obtain⟨a,b⟩:=p;simp only[gt]at h;by_cases c:a=q;.rw[if_pos c]at h;cases h
  .rw[if_neg c]at h;simp only[List.cons_append,gt];rw[f h];by_cases d:a=k;.subst d;simp[c]
   .simp[d]
theorem C1{n:Nat}{c r:Int}{m:Nat}(D:2<=c/\c<=5)(y:2<=r/\r<=5){Q:Fl->Nat->Prop}(w:∀G o4 o5,KG c G r 0->Q (.nx (yx c r G o4 o5)) m):(e9 (gf (.nm 4)) (au (V n) kA) (aB r.toNat) (yx c r [] KL KL)).wp m Q:=by
 have z:=gU;refine mX (λj f o=>o=m/\∃G o4 o5,f=yx c r G o4 o5/\KG c G j 0) ?_ ?_ ⟨rfl,[],KL,KL,rfl,⟨by simp,λk=>⟨λh=>(by simp at h),λh=>by omega⟩,λk l h=>(by simp[gt]at h),by simp⟩⟩
 .rintro j f s B⟨rfl,G,o4,o5,rfl,K⟩;rw[tJ.1,T.bA];refine dC λH q=>?_;unfold kA;subst_eqs;refine⟨by simp;omega,?_⟩;refine mX (λi f o=>o=s/\∃G o5,f=yx c r G (KE (.d (.int j))) o5/\KG c G j i) ?_ ?_ ⟨rfl,G,o5,rfl,K⟩
  .rintro i f t C⟨rfl,G,o5,rfl,K⟩;rw[tJ.1,T.bA];refine dC λF p=>?_;unfold oZ;have g:gt G ((i:Int),(j:Int))=KL:=by
    have:¬(gt G ((i:Int),(j:Int))).isSome=KN:=λh=>by
     have:=(K.km _).mp (fi.mp h);simp at this
    simpa using this
   have A:=K.ln;have u:aD (bt G) (.tup [.int (i:Int),.int (j:Int)])=KN:=b5 G ((i:Int),(j:Int));have v:bN (bt G) (.tup [.int (i:Int),.int (j:Int)])=KO:=by
    have:=sf ((i:Int),(j:Int)) G;rw[g]at this;exact this
   subst_eqs;refine⟨sd (by decide),?_,p _ _ ⟨rfl,G++[(((i:Int),(j:Int)),[])],KE (.d (.int i)),?_,?_⟩⟩
   .rw[u,v];have:(bt G).length<KU:=by
     have e:(bt G).length=G.length:=by simp[bt]
     have:(j:Int)*c<=4*5:=by
      have a1:(j:Int)<=4:=by omega
      have E:0<=(j:Int):=by omega
      rcases(by omega:(j:Int)=0\/(j:Int)=1\/(j:Int)=2\/(j:Int)=3\/(j:Int)=4)with h|h|h|h|h<;>rw[h]<;>omega
     omega
    simp[this]
   .show _=yx c r (G++[(((i:Int),(j:Int)),[])]) _ _;unfold yx bt dj;simp[kn]
   .refine⟨?_,λk=>?_,λk l h=>?_,by simp;omega⟩
    .rw[M4,PQ];refine⟨K.nd,by simp,λa ha b hb e=>?_⟩;simp at hb;subst hb;rw[<-fi,e,g]at ha;cases ha
    .rw[M4,List.mem_append,K.km];simp only[Li,Nd,List.mem_singleton,Pf];omega
    .rw[C0 _ g]at h;split at h;.cases h;rfl
     .exact K.em k l h
  .rintro f t⟨rfl,G,o5,rfl,K⟩;subst_eqs;refine q _ _ ⟨rfl,G,_,_,rfl,⟨K.nd,λk=>?_,K.em,?_⟩⟩
   .rw[K.km];omega
   .have:=K.ln;have e:((c.toNat:Nat):Int)=c:=by omega
    rw[e]at this;have x:(((j+1:Nat):Int))*c+0=(j:Int)*c+c:=by rw[Int.natCast_add];simp[Int.add_mul]
    rw[x];exact this
 .rintro f s⟨rfl,G,o4,o5,rfl,K⟩;refine w G o4 o5 ?_;have e:((r.toNat:Nat):Int)=r:=by omega
  rw[e]at K;exact K
noncomputable def Bf(j i d:Int)(p:Kt)(e:Int):Prop:=p.2<j\/p.2=j/\(p.1<i\/p.1=i/\e<d)
noncomputable def Nb(j i d:Int)(k t:Kt):Prop:=(t.1=k.1+1/\t.2=k.2/\Bf j i d k 0)\/(t.1=k.1/\t.2=k.2+1/\Bf j i d k 1)\/(k.1=t.1+1/\k.2=t.2/\Bf j i d t 0)\/(k.1=t.1/\k.2=t.2+1/\Bf j i d t 1)
structure LG(c r:Int)(G:Gr)(j i d many:Int):Prop where
 nd:(G.map (·.1)).Nodup
 km:∀k:Kt,k∈G.map (·.1)↔(0<=k.1/\k.1<c/\0<=k.2/\k.2<r)ok:∀k l,gt G k=KE l->l.Nodup/\(l.length:Int)<=many/\∀t∈l,Nb j i d k t/\∃l',gt G t=KE l'/\k∈l'
 mn:0<=many/\many<=90
 sz:G.length<=25
theorem LG.go{c r:Int}{G:Gr}{j i d j' i' d' many:Int}(h:LG c r G j i d many)(q:∀p e,(e=0\/e=1)->Bf j i d p e->Bf j' i' d' p e):LG c r G j' i' d' many:=⟨h.nd,h.km,λk l e=>by
  obtain⟨n,m,g⟩:=h.ok k l e;refine⟨n,m,λt f=>⟨?_,(g t f).2⟩⟩;rcases(g t f).1 with⟨a,b,c⟩|⟨a,b,c⟩|⟨a,b,c⟩|⟨a,b,c⟩;.exact .inl ⟨a,b,q _ _ (.inl rfl) c⟩
  .exact .inr (.inl ⟨a,b,q _ _ (.inr rfl) c⟩)
  .exact .inr (.inr (.inl ⟨a,b,q _ _ (.inl rfl) c⟩))
  .exact .inr (.inr (.inr ⟨a,b,q _ _ (.inr rfl) c⟩)),h.mn,h.sz⟩
theorem LG.join{c r:Int}{G:Gr}{j i d many:Int}{t:Kt}{n m:List Kt}(h:LG c r G j i d many)(hd:d=0/\t=(i+1,j)\/d=1/\t=(i,j+1))(ha:gt G (i,j)=KE n)(hb:gt G t=KE m)(O:many<90):(i,j)≠t/\LG c r (sg (sg G (i,j) (n++[t])) t (m++[(i,j)])) j i (d+1) (many+1):=by
 have nt:(i,j)≠t:=by rcases hd with⟨_,rfl⟩|⟨_,rfl⟩<;>(intro z;simp[Pf]at z;omega)
 refine⟨nt,?_⟩;have M:=h.go (j':=j) (i':=i) (d':=d+1) λp e _ b=>by unfold Bf at*;omega
 have K:¬Nb j i d (i,j) t:=by
  unfold Nb Bf;rcases hd with⟨rfl,rfl⟩|⟨rfl,rfl⟩<;>simp<;>omega
 have C:¬Nb j i d t (i,j):=by
  unfold Nb Bf;rcases hd with⟨rfl,rfl⟩|⟨rfl,rfl⟩<;>simp<;>omega
 have yes:Nb j i (d+1) (i,j) t:=by
  unfold Nb Bf;rcases hd with⟨rfl,rfl⟩|⟨rfl,rfl⟩<;>simp
 have A:Nb j i (d+1) t (i,j):=by
  unfold Nb Bf;rcases hd with⟨rfl,rfl⟩|⟨rfl,rfl⟩<;>simp
 have J:t∉n:=λz=>K ((h.ok _ _ ha).2.2 t z).1;have D:(i,j)∉m:=λz=>C ((h.ok _ _ hb).2.2 _ z).1;have g:∀x,gt (sg (sg G (i,j) (n++[t])) t (m++[(i,j)])) x=if x=t then KE (m++[(i,j)])else if x=(i,j)then KE (n++[t])else gt G x:=λx=>by
  rw[kG,kG];by_cases q:x=t;.subst q;simp[LP nt,hb]
  .rw[if_neg q,if_neg q];by_cases o:x=(i,j);.subst o;simp[ha]
   .rw[if_neg o,if_neg o]
 have E:gt (sg (sg G (i,j) (n++[t])) t (m++[(i,j)])) t=KE (m++[(i,j)]):=by rw[g,if_pos rfl]
 have F:gt (sg (sg G (i,j) (n++[t])) t (m++[(i,j)])) (i,j)=KE (n++[t]):=by rw[g,if_neg nt,if_pos rfl]
 have keep:∀x l y,gt G x=KE l->y∈l->∃v,gt (sg (sg G (i,j) (n++[t])) t (m++[(i,j)])) x=KE v/\y∈v:=λx l y e L=>by
  by_cases q:x=t;.subst q;rw[hb]at e;cases e;exact⟨_,E,MX _ L⟩
  .by_cases o:x=(i,j);.subst o;rw[ha]at e;cases e;exact⟨_,F,MX _ L⟩
   .exact⟨l,by rw[g,if_neg q,if_neg o];exact e,L⟩
 refine⟨by rw[fh,fh];exact h.nd,λk=>by rw[fh,fh];exact h.km k,λk l e=>?_,by have:=h.mn;omega,by unfold sg;rw[Lq,Lq];exact h.sz⟩;rw[g]at e;by_cases q:k=t
 .subst q;rw[if_pos rfl]at e;cases e;obtain⟨B,N,s⟩:=M.ok _ _ hb;refine⟨?_,by simp;omega,λu hu=>?_⟩
  .rw[PQ];exact⟨B,by simp,λa w b f z=>by simp at f;subst f;exact D (z▸w)⟩
  .rcases List.mem_append.mp hu with hu|hu
   .obtain⟨v,I,H⟩:=(s u hu).2;exact⟨(s u hu).1,keep u v _ I H⟩
   .rw[List.mem_singleton.mp hu];exact⟨A,_,F,by simp⟩
 .rw[if_neg q]at e;by_cases o:k=(i,j)
  .subst o;rw[if_pos rfl]at e;cases e;obtain⟨B,N,s⟩:=M.ok _ _ ha;refine⟨?_,by simp;omega,λu hu=>?_⟩
   .rw[PQ];exact⟨B,by simp,λa w b f z=>by simp at f;subst f;exact J (z▸w)⟩
   .rcases List.mem_append.mp hu with hu|hu
    .obtain⟨v,I,H⟩:=(s u hu).2;exact⟨(s u hu).1,keep u v _ I H⟩
    .rw[List.mem_singleton.mp hu];exact⟨yes,_,E,by simp⟩
  .rw[if_neg o]at e;obtain⟨B,N,s⟩:=M.ok _ _ e;refine⟨B,by omega,λu hu=>?_⟩;obtain⟨v,I,H⟩:=(s u hu).2;exact⟨(s u hu).1,keep u v _ I H⟩
noncomputable abbrev ee(c r:Int)(G:Gr)(j i:Int)(f:Bool)(many:Int)(a o9:Option W):ah:=[KE .feed,KE (.d (.int c)),KE (.d (.int r)),KE (.fI (bt G) (dj G)),KE (.d (.int j)),KE (.d (.int i)),KE (.d (.bl f)),KE (.d (.int many)),a,o9]
theorem Kz(a b c:Int):bz .In (.int a) (.tup [.int b,.int c])=.ok (.bl (b==a||(c==a||KO))):=rfl
theorem C2{n:Nat}{c r j i many:Int}{G:Gr}{f:Bool}{t:Kt}{o9:Option W}:∃b,ao (V n) (.or (.and (.cmp .Eq (.var 5) (.idx (.var 8) (.cst (.int 0)))) (.one (.cmp .In (.var 5) (.tup (.cons (.cst (.int 0)) (.cons (.op .Sub (.var 1) (.cst (.int 1))) .nil)))))) (.one (.and (.cmp .Eq (.var 4) (.idx (.var 8) (.cst (.int 1)))) (.one (.cmp .In (.var 4) (.tup (.cons (.cst (.int 0)) (.cons (.op .Sub (.var 2) (.cst (.int 1))) .nil)))))))) (ee c r G j i f many (KE (.d (kn t))) o9)=.ok (.bl b):=by
 unfold kn;bv_omega;simp only[Kz,ag];cases(i==t.1)<;>cases(0==i||(c-1==i||KO))<;>cases(j==t.2)<;>exact⟨_,rfl⟩
theorem sh{n:Nat}{c r j i d many:Int}{G:Gr}{f:Bool}{t:Kt}{o9:Option W}{m:Nat}(L:LG c r G j i d many)(F:0<=i/\i<c/\0<=j/\j<r)(hd:d=0/\t=(i+1,j)\/d=1/\t=(i,j+1))(hm:1<=m){Q:Fl->Nat->Prop}(K:∀O o C g,m<=g+1->LG c r O j i (d+1) o->Q (.nx (ee c r O j i f o (KE (.d (kn t))) C)) g):(au (V (n+1)) kz (ee c r G j i f many (KE (.d (kn t))) o9)).wp m Q:=by
 have z:=gU;unfold kz;obtain⟨b,hb⟩:=C2 (n:=n+1) (c:=c) (r:=r) (j:=j) (i:=i) (many:=many) (G:=G) (f:=f) (t:=t) (o9:=o9);rw[mW hb];have es:(ee c r G j i f many (KE (.d (kn t))) o9).set 9 (KE (.d (.bl b)))=ee c r G j i f many (KE (.d (kn t))) (KE (.d (.bl b))):=rfl;rw[es];have dW:∀g,m<=g+1->Q (.nx (ee c r G j i f many (KE (.d (kn t))) (KE (.d (.bl b))))) g:=λg h=>K G many _ g h (L.go λp e _ q=>by unfold Bf at*;omega);have P:=b5 G t;have E:aD (bt G) (.tup [.int i,.int j])=KN:=b5 G (i,j);obtain⟨k,ha⟩:∃k,gt G (i,j)=KE k:=Option.isSome_iff_exists.mp (fi.mpr ((L.km (i,j)).mpr F));have D:aF (bt G) (dj G) (.tup [.int i,.int j])=KE (.lst (k.map kn)):=by
  have:=gc (i,j) G;rw[ha]at this;exact this
 have U:=(L.ok _ _ ha).2.1;have mn:=L.mn;have yes:∀g,m<=g+1->(gt G t).isSome=KN->many<90->(au (V (n+1)) (.cons (.ja 3 (.tup (.cons (.var 5) (.cons (.var 4) .nil))) (.var 8)) (.cons (.ja 3 (.var 8) (.tup (.cons (.var 5) (.cons (.var 4) .nil)))) (.cons (.set 7 (.op .Add (.var 7) (.cst (.int 1)))) .nil))) (ee c r G j i f many (KE (.d (kn t))) (KE (.d (.bl b))))).wp g Q:=λg h R H=>by
  obtain⟨s,hb⟩:=Option.isSome_iff_exists.mp R;obtain⟨nt,L'⟩:=L.join hd ha hb H;have S:=(L.ok _ _ hb).2.1;have e1:au (V (n+1)) (.ja 3 (.tup (.cons (.var 5) (.cons (.var 4) .nil))) (.var 8)) (ee c r G j i f many (KE (.d (kn t))) (KE (.d (.bl b))))=.ok (.nx (ee c r (sg G (i,j) (k++[t])) j i f many (KE (.d (kn t))) (KE (.d (.bl b))))):=by
   have v:vI (λ_=>.lst (k.map kn++[kn t])) (.tup [.int i,.int j]) (bt G) (dj G)=dj (sg G (i,j) (k++[t])):=CZ (q:=(i,j)) (l:=k) (l':=k++[t]) (by simp) L.nd ha;simp only[F_,eZ,Ls,Cl,ag];try bv_omega
   rw[E];simp only[Sd,ag,D,Cl,c_];try bv_omega
   rw[show(decide ((k.map kn).length<KU))=KN from by simp;omega];simp only[Sd,ag,v];rw[<-qD G (i,j) (k++[t])]
  have x:gt (sg G (i,j) (k++[t])) t=KE s:=by rw[kG,if_neg (LP nt)];exact hb
  have e2:au (V (n+1)) (.ja 3 (.var 8) (.tup (.cons (.var 5) (.cons (.var 4) .nil)))) (ee c r (sg G (i,j) (k++[t])) j i f many (KE (.d (kn t))) (KE (.d (.bl b))))=.ok (.nx (ee c r (sg (sg G (i,j) (k++[t])) t (s++[(i,j)])) j i f many (KE (.d (kn t))) (KE (.d (.bl b))))):=by
   have v:vI (λ_=>.lst (s.map kn++[.tup [.int i,.int j]])) (kn t) (bt (sg G (i,j) (k++[t]))) (dj (sg G (i,j) (k++[t])))=dj (sg (sg G (i,j) (k++[t])) t (s++[(i,j)])):=CZ (q:=t) (l:=s) (l':=s++[(i,j)]) (by simp[kn]) (by rw[fh];exact L.nd) x;simp only[F_,eZ,Ls,Cl,ag];try bv_omega
   rw[b5];simp only[Sd,ag,gc,x,Mq,Cl,c_];try bv_omega
   rw[show(decide ((s.map kn).length<KU))=KN from by simp;omega];simp only[Sd,ag,v];rw[<-qD (sg G (i,j) (k++[t])) t (s++[(i,j)])]
  rw[bq e1,bq e2];subst_eqs;exact K _ _ _ g h L'
 have X:bN (bt G) (kn t)=(gt G t).isSome:=sf t G;generalize Z:(aY.cons (.ja 3 (.tup (.cons (.var 5) (.cons (.var 4) .nil))) (.var 8)) (.cons (.ja 3 (.var 8) (.tup (.cons (.var 5) (.cons (.var 4) .nil)))) (.cons (.set 7 (.op .Add (.var 7) (.cst (.int 1)))) .nil)))=B at yes⊢;clear Z;subst_eqs;refine⟨P,?_⟩;rw[X];by_cases J:(gt G t).isSome=KN
 .rw[if_pos J];by_cases I:many<90
  .rw[decide_eq_true I,if_pos rfl];have y:=λg h=>T.wp_mono (Q':=λa g=>(match a with|Fl.nx u=>T.ok (Fl.nx u)|A=>T.ok A:T Fl).wp g Q) (λA m2 Y=>by cases A<;>exact Y) (yes g h J I);have N:0<(7:Int)/\(7:Int)<1073741824/\0<m/\∀w:Int,0<=w->w<7->if decide (1<w)=KN then(au (V (n+1)) B (ee c r G j i f many (KE (.d (kn t))) (KE (.d (.bl b))))).wp (m-1) (λa g=>(match a with|Fl.nx u=>T.ok (Fl.nx u)|A=>T.ok A:T Fl).wp g Q)else Q (.nx (ee c r G j i f many (KE (.d (kn t))) (KE (.d (.bl b))))) (m-1):=by
    refine⟨by omega,by omega,by omega,λw w0 w1=>?_⟩;by_cases M:1<w;.rw[decide_eq_true M,if_pos rfl];exact y _ (by omega)
    .rw[decide_eq_false M,if_neg (by simp)];exact dW _ (by omega)
   cases f with
   |true=>cases b with
    |true=>exact y m (by omega)|false=>exact N
   |false=>exact N
  .rw[decide_eq_false I];simp only[K_,if_false];exact dW m (by omega)
 .rw[if_neg J];exact dW m (by omega)
theorem wL{n:Nat}{c r:Int}{m:Nat}(X:2<=c/\c<=5)(U:2<=r/\r<=5)(hm:200<=m):(rX defs gv (n+2) 8 [.feed,.d (.int c),.d (.int r)]).wp m (λd x=>m<=x+100/\∃G:Gr,d=.aQ (bt G) (dj G)/\(G.map (·.1)).Nodup/\(∀k∈G.map (·.1),0<=k.1/\k.1<c/\0<=k.2/\k.2<r)/\G.length<=25/\Joins G):=by
 have z:=gU;rw[zg (d:=el) rfl rfl];unfold el;refine dC λQ Y=>?_;rw[T.wp_bind];subst_eqs;refine⟨rfl,by simp;omega,?_⟩;refine C1 X U λG P b K=>?_;unfold oY;subst_eqs;refine⟨by omega,by omega,by omega,λw w0 w1=>⟨by simp;omega,?_⟩⟩;have N:=K.ln;have o:G.length<=25:=by
  have:r*c<=25:=by rcases(by omega:r=2\/r=3\/r=4\/r=5)with h|h|h|h<;>rw[h]<;>omega
  omega
 have L0:LG c r G 0 0 0 0:=⟨K.nd,λk=>by rw[K.km];omega,λk l e=>by rw[K.em k l e];exact⟨by simp,by simp,by simp⟩,by omega,o⟩;refine mX (λj s x=>m<=x+1+10*j/\∃G a b g f,s=[KE .feed,KE (.d (.int c)),KE (.d (.int r)),KE (.fI (bt G) (dj G)),(if j=0 then P else KE (.d (.int ((j:Int)-1)))),b,KE (.d (.bl (decide (0<w)))),KE (.d (.int a)),g,f]/\G.length<=25/\LG c r G j 0 0 a) ?_ ?_ ⟨by omega,G,0,b,KL,KL,rfl,o,L0⟩
 .rintro j s M hj⟨Z,G,a,b,g,f,rfl,I,L⟩;rw[tJ.1,T.bA];refine dC λQ' F=>?_;unfold oX;subst_eqs;refine⟨by simp;omega,?_⟩;refine mX (λi s x=>M<=x+2*i/\∃G a b g f,s=[KE .feed,KE (.d (.int c)),KE (.d (.int r)),KE (.fI (bt G) (dj G)),KE (.d (.int j)),b,KE (.d (.bl (decide (0<w)))),KE (.d (.int a)),g,f]/\G.length<=25/\LG c r G j i 0 a) ?_ ?_ ⟨by omega,G,a,b,g,f,rfl,I,L⟩
  .rintro i s S hi⟨H,G,a,b,g,f,rfl,B,L⟩;rw[tJ.1,T.bA];refine dC λQ2 E=>?_;unfold oW;subst_eqs;refine⟨sd (by decide),sd (by decide),sd (by decide),?_⟩;simp only[cB,Wp];unfold e9;rw[T.wp_bind,tJ.1,T.bA,T.wp_bind];have b1:0<=(i:Int)/\(i:Int)<c/\0<=(j:Int)/\(j:Int)<r:=by omega
   refine sh (t:=((i:Int)+1,(j:Int))) (d:=0) L b1 (.inl ⟨rfl,rfl⟩) (by omega) λG1 D O m3 q1 L1=>?_;dsimp only;unfold e9;rw[T.wp_bind,tJ.1,T.bA,T.wp_bind];refine sh (t:=((i:Int),(j:Int)+1)) (d:=1) L1 b1 (.inr ⟨rfl,rfl⟩) (by omega) λG2 v J m4 q2 L2=>?_;dsimp only;unfold e9;rw[T.bA];refine E _ _ ⟨by omega,G2,v,_,_,_,rfl,?_,L2.go λp e W q=>?_⟩;.exact L2.sz
   .unfold Bf at*;omega
  .rintro s S⟨H,G,a,b,g,f,rfl,B,L⟩;subst_eqs;refine F _ _ ⟨by omega,G,a,b,g,f,by simp,B,L.go λp e W q=>?_⟩;unfold Bf at*;omega
 .rintro s M⟨Z,G,a,b,g,f,rfl,I,L⟩;unfold oV;subst_eqs;refine Y _ _ ⟨by omega,G,rfl,L.nd,λk V=>(L.km k).mp V,I,λk l e=>?_⟩;obtain⟨R,o2,A⟩:=L.ok k l e;refine⟨R,λt y=>?_,λt y=>(A t y).2,λt y u hu C=>?_⟩
  .have:=(A t y).1;unfold Nb at this;unfold jb;omega
  .have H:=(A t y).1;have B:=(A u hu).1;have h3:t.1≠u.1\/t.2≠u.2:=by
    by_cases h:t.1=u.1;.right;intro z;exact C (Prod.ext h z)
    .exact .inl h
   unfold Nb at H B;unfold dD;omega
theorem Gb(p q:Kt):cw b8 (kn p) (kn q)=KE (decide (p=q)):=by
 have h:cw b8 (kn p) (kn q)=KE (((p.1==q.1)&&((p.2==q.2)&&KN))&&KN):=by
  unfold b8 kn;simp only[cw,ba,Mq,LM,Ma,BEq.rfl]
 rw[h];congr 1;rw[MB];simp[Pf]
theorem Gc(p q:Kt):bz .NotEq (kn p) (kn q)=.ok (.bl (!decide (p=q))):=by
 simp only[bz,Gb];rfl
theorem wM(l:List Kt):jS KN (l.map kn)=KN:=by induction l with
 |nil=>rfl|cons a l b=>
  simp only[Li,jS,b,Bool.and_true];rfl
theorem mY(l:List Kt):flat KN (.lst (l.map kn))=KN:=by
 simp only[flat,ND];exact wM l
theorem zj{l:List D}{ks:List Kt}(h:l.Perm (ks.map kn)):∃l':List Kt,l=l'.map kn/\l'.Perm ks:=by
 refine⟨l.map λd=>match d with|.tup [.int a,.int b]=>(a,b)|_=>(0,0),?_,?_⟩
 .rw[LA];refine(Qx l).symm.trans (LV λd hd=>?_);obtain⟨p,_,rfl⟩:=List.mem_map.mp (h.subset hd);rfl
 .have:=h.map λd=>match d with|.tup [.int a,.int b]=>(a,b)|_=>((0:Int),(0:Int));rw[LA]at this;refine this.trans (Nt ?_);refine(LV λp _=>?_).trans (Qx ks);rfl
theorem C4(l:List Kt):ou (l.map kn)=KN:=by
 unfold ou;have:(l.map kn).all vC=KN:=List.all_eq_true.mpr λx a=>by
  obtain⟨p,_,rfl⟩:=List.mem_map.mp a;rfl
 rw[this];simp
noncomputable abbrev aW(G:Gr)(o2 o3 o4 o5:Option W):ah:=[KE .feed,KE (.own (.aQ (bt G) (dj G))),o2,o3,o4,o5]
theorem si(G:Gr):(bt G).length=G.length:=by simp[bt]
theorem qF(G:Gr):bt G=(G.map (·.1)).map kn:=by simp[bt]
theorem zk(v:Ev)(i:Nat)(k e:Ex)(ρ:ah):au v (.put i k e) ρ=(do let d<-ao v e ρ;let a<-oK (<-T.get (eW ρ i));let q<-ao v k ρ;T.need (decide (a.1.length<M0)&&aD a.1 q);.ok (.nx (ρ.set i (KE (.own (.aQ (putD a.1 a.2 q d).1 (putD a.1 a.2 q d).2)))))):=rfl
theorem sj{n:Nat}{G:Gr}{e:Ex}{i j:Nat}{q k b:Kt}{l:List Kt}{o2 o3 o4 o5:Option W}(m:gt G q=KE l)(B:G.length<=25)(p:(aW G o2 o3 o4 o5)[i]?=KE (KE (.d (kn q))))(tW:i≠1)(t:cQ ((aW G o2 o3 o4 o5).set 1 (KE (.d (.aQ (bt G) (dj G))))) 1 [2,j]=[KL,KE (.d (kn k)),KE (.d (kn b))])(v:e=(.xj (.aw .NotEq (.var 0) (.var 1)) (.var 0) (.var 2))):au (V n) (.put 1 (.var i) (.lL 1 (.lc ["_law_there"] [2,j] (.nm 0) (.bG (.idx (.var 1) (.var i))) .yes e))) (aW G o2 o3 o4 o5)=.ok (.nx (aW (sg G q (l.map (to k b))) o2 o3 o4 o5)):=by
 subst v;have z:=gU;have u:ao (V n) (.var i) (aW G o2 o3 o4 o5)=.ok (kn q):=by
  show T.get (cH (aW G o2 o3 o4 o5) i)=_;unfold cH;rw[p];rfl
 have a:ao (V n) (.var i) ((aW G o2 o3 o4 o5).set 1 (KE (.d (.aQ (bt G) (dj G)))))=.ok (kn q):=by
  show T.get (cH _ i)=_;unfold cH;rw[MY (LP tW),p];rfl
 have f:ni (V n) (.bG (.idx (.var 1) (.var i))) ((aW G o2 o3 o4 o5).set 1 (KE (.d (.aQ (bt G) (dj G)))))=.ok (l.map kn):=by
  show(T.get (cH ((aW G o2 o3 o4 o5).set 1 (KE (.d (.aQ (bt G) (dj G))))) 1)>>=λd=>ao (V n) (.var i) _>>=λe=>e7 d e)>>=(λx=>T.get (cB x))=_;rw[a];show(T.need (aD (bt G) (kn q))>>=λ_=>T.get (aF (bt G) (dj G) (kn q)))>>=(λx=>T.get (cB x))=_;rw[b5,gc,m];rfl
 have w:=bY (g:=gf (.nm 0)) (tc:=λρ=>bg (V n) .yes ρ) (te:=λρ=>ao (V n) (.xj (.aw .NotEq (.var 0) (.var 1)) (.var 0) (.var 2)) ρ) (c:=λ_=>KN) (e:=λd=>match d with|.tup [.int x,.int y]=>kn (to k b (x,y))|d=>d) (λρ=>∃o,ρ=[o,KE (.d (kn k)),KE (.d (kn b))]) (ds:=l.map kn) (ρ:=cQ ((aW G o2 o3 o4 o5).set 1 (KE (.d (.aQ (bt G) (dj G))))) 1 [2,j]) (by
  rintro ρ⟨o,rfl⟩d hd;obtain⟨y,A,rfl⟩:=List.mem_map.mp hd;refine⟨_,rfl,⟨_,rfl⟩,rfl,λ_=>?_⟩;bv_omega;rw[Gc];simp only[ag];show(if(!decide (y=k))=KN then T.ok (kn y)else T.ok (kn b))=.ok (kn (to k b (y.1,y.2)));unfold to;by_cases h:y=k;.simp[h]
  .simp[h]) ⟨KL,t⟩;have em:((l.map kn).filter (λ_=>KN)).map (λd=>match d with|.tup [.int x,.int y]=>kn (to k b (x,y))|d=>d)=(l.map (to k b)).map kn:=by rw[List.filter_eq_self.mpr (λ_ _=>rfl),LA,LA];rfl
 have s:ao (V n) (.lL 1 (.lc ["_law_there"] [2,j] (.nm 0) (.bG (.idx (.var 1) (.var i))) .yes (.xj (.aw .NotEq (.var 0) (.var 1)) (.var 0) (.var 2)))) (aW G o2 o3 o4 o5)=.ok (.lst ((l.map (to k b)).map kn)):=by
  show((ni (V n) (.bG (.idx (.var 1) (.var i))) ((aW G o2 o3 o4 o5).set 1 (KE (.d (.aQ (bt G) (dj G)))))>>=λds=>dR (gf (.nm 0)) (λρ=>bg (V n) .yes ρ) (λρ=>ao (V n) (.xj (.aw .NotEq (.var 0) (.var 1)) (.var 0) (.var 2)) ρ) ds (cQ ((aW G o2 o3 o4 o5).set 1 (KE (.d (.aQ (bt G) (dj G))))) 1 [2,j])>>=λr=>T.ok (.lst r))>>=λd=>T.need (flat KN d)>>=λ_=>T.ok d)=_;rw[f,ag,w,ag,ag,em,mY];rfl
 rw[zk,s,u];show(T.need (decide ((bt G).length<KU)&&aD (bt G) (kn q))>>=λ_=>T.ok (Fl.nx ((aW G o2 o3 o4 o5).set 1 (KE (.own (.aQ (putD (bt G) (dj G) (kn q) (.lst ((l.map (to k b)).map kn))).1 (putD (bt G) (dj G) (kn q) (.lst ((l.map (to k b)).map kn))).2))))))=_;rw[b5,zX _ (by rw[m];rfl),show decide ((bt G).length<KU)=KN from decide_eq_true (by rw[si];omega)];rfl
theorem tL{n:Nat}{G:Gr}{m:Nat}(nd:(G.map (·.1)).Nodup)(hG:G.length<=25)(J:Joins G)(hm:60<=m):(aV defs gv (n+2) 9 [.feed,.own (.aQ (bt G) (dj G))]).wp m (λd f=>m<=f+30/\∃c:Gr,d=.aQ (bt c) (dj c)/\c.map (·.1)=G.map (·.1)/\Joins c):=by
 have z:=gU;rw[aS (d:=dA) rfl rfl];unfold dA;refine dC λQ hQ=>?_;rw[T.wp_bind];subst_eqs;simp only[kK,rT,ox,T.wp_bind,Wp,T.bE,qF,C4];refine⟨by simp;omega,λl u=>?_⟩;obtain⟨l',rfl,pl⟩:=zj u;refine⟨mY l',?_⟩;rw[<-qF];simp only[cB,T.gP];refine eB (λx N f=>m<=f+25-x.length/\x.length<=25/\(∀d∈x,∃k∈G.map (·.1),d=kn k)/\∃c t r p o,N=aW c t r p o/\c.map (·.1)=G.map (·.1)/\Joins c) ?_ ?_ ⟨by have:=pl.length_eq;simp at this⊢;omega,by have:=pl.length_eq;simp at this⊢;omega,λd hd=>?_,G,KL,KL,KL,KL,rfl,rfl,J⟩
 .rintro d x N y⟨g1,g2,Z,c,t,r,p,o,rfl,s,A⟩;simp only[LM]at g1 g2;obtain⟨k,M,rfl⟩:=Z _ K2;have dW:∀f c t r p o,y<=f+1->c.map (·.1)=G.map (·.1)->Joins c->(m<=f+25-x.length/\x.length<=25/\(∀d∈x,∃k∈G.map (·.1),d=kn k)/\∃G1 p2 p3 p4 p5,aW c t r p o=aW G1 p2 p3 p4 p5/\G1.map (·.1)=G.map (·.1)/\Joins G1):=λf c t r p o h e j=>⟨by omega,by omega,λd hd=>Z d (K1 _ hd),c,t,r,p,o,rfl,e,j⟩;rw[tJ.1,T.bA];refine dC λI v=>?_;obtain⟨l,u⟩:∃l,gt c k=KE l:=Option.isSome_iff_exists.mp (fi.mpr (by rw[s];exact M));have X:c.length<=25:=by
   have:=congrArg OA s;simp at this;omega
  show(au (V (n+1)) iA (aW c (KE (.d (kn k))) r p o)).wp y I;unfold iA;have e1:ao (V (n+1)) (.lL 1 (.idx (.var 1) (.var 2))) (aW c (KE (.d (kn k))) r p o)=.ok (.lst (l.map kn)):=by
   show((T.need (aD (bt c) (kn k))>>=λ_=>T.get (aF (bt c) (dj c) (kn k)))>>=λd=>T.need (flat KN d)>>=λ_=>T.ok d)=_;rw[b5,gc,u];show(T.need (flat KN (D.lst (l.map kn)))>>=λ_=>T.ok (D.lst (l.map kn)))=_;rw[mY];rfl
  rw[mW e1];show(au (V (n+1)) _ (aW c (KE (.d (kn k))) (KE (.d (.lst (l.map kn)))) p o)).wp y I;generalize hB:(aY.cons (.asg (.tup 2 (.cons (.nm 4) (.cons (.nm 5) .nil))) (.var 3)) _)=B;have nx:∀f,y<=f+1->I (.nx (aW c (KE (.d (kn k))) (KE (.d (.lst (l.map kn)))) p o)) f:=λf h=>v _ _ (dW f _ _ _ _ _ h s A);have yes:∀f,y<=f+1->l.length=2->(au (V (n+1)) B (aW c (KE (.d (kn k))) (KE (.d (.lst (l.map kn)))) p o)).wp f I:=λf h Y=>by match l,Y,u with
   |[a,b],_,u=>
    subst hB;have C:=A k _ u;obtain⟨L,ha,_⟩:=C.sy a (by simp);obtain⟨K,hb,_⟩:=C.sy b (by simp);have e2:au (V (n+1)) (.asg (.tup 2 (.cons (.nm 4) (.cons (.nm 5) .nil))) (.var 3)) (aW c (KE (.d (kn k))) (KE (.d (.lst ([a,b].map kn)))) p o)=.ok (.nx (aW c (KE (.d (kn k))) (KE (.d (.lst ([a,b].map kn)))) (KE (.d (kn a))) (KE (.d (kn b))))):=rfl;rw[bq e2];generalize hP:(aY.cons (.put 1 (.var 4) _) _)=P;have go:(a.1=b.1\/a.2=b.2)->(au (V (n+1)) P (aW c (KE (.d (kn k))) (KE (.d (.lst ([a,b].map kn)))) (KE (.d (kn a))) (KE (.d (kn b))))).wp f I:=λU=>by
     subst hP;obtain⟨O,J2⟩:=A.merge u ha hb U;rw[bq (sj (e:=lW) (i:=4) (j:=5) (q:=a) (k:=k) (b:=b) ha X rfl (by decide) rfl rfl)];have S:gt (sg c a (L.map (to k b))) b=KE K:=by rw[kG,if_neg (LP O)];exact hb
     rw[bq (sj (e:=lV) (i:=5) (j:=4) (q:=b) (k:=k) (b:=a) S (by simp[sg];omega) rfl (by decide) rfl rfl)];have R:((sg (sg c a (L.map (to k b))) b (K.map (to k a)))).length<=25:=by simp[sg];omega
     have E:(gt (sg (sg c a (L.map (to k b))) b (K.map (to k a))) k).isSome=KN:=by rw[fi,fh,fh,s];exact M
     generalize W:sg (sg c a (L.map (to k b))) b (K.map (to k a))=g at R E J2;have e3:au (V (n+1)) (.put 1 (.var 2) (.lst .nil)) (aW g (KE (.d (kn k))) (KE (.d (.lst ([a,b].map kn)))) (KE (.d (kn a))) (KE (.d (kn b))))=.ok (.nx (aW (sg g k []) (KE (.d (kn k))) (KE (.d (.lst ([a,b].map kn)))) (KE (.d (kn a))) (KE (.d (kn b))))):=by
      show(T.need (decide (0<=KU))>>=λ_=>T.ok (D.lst []))>>=(λd=>T.need (decide ((bt g).length<KU)&&aD (bt g) (kn k))>>=λ_=>T.ok (Fl.nx ((aW g (KE (.d (kn k))) (KE (.d (.lst ([a,b].map kn)))) (KE (.d (kn a))) (KE (.d (kn b)))).set 1 (KE (.own (.aQ (putD (bt g) (dj g) (kn k) d).1 (putD (bt g) (dj g) (kn k) d).2))))))=_;rw[G6];show(T.need (decide ((bt g).length<KU)&&aD (bt g) (kn k))>>=λ_=>T.ok (Fl.nx ((aW g (KE (.d (kn k))) (KE (.d (.lst ([a,b].map kn)))) (KE (.d (kn a))) (KE (.d (kn b)))).set 1 (KE (.own (.aQ (putD (bt g) (dj g) (kn k) (.lst (([]:List Kt).map kn))).1 (putD (bt g) (dj g) (kn k) (.lst (([]:List Kt).map kn))).2))))))=_;rw[b5,zX _ E,show decide ((bt g).length<KU)=KN from decide_eq_true (by rw[si];omega)];rfl
     rw[bq e3];refine v _ _ (dW f _ _ _ _ _ h ?_ J2);rw[<-W,fh,fh,fh,s]
    clear hP;unfold kn at go⊢;subst_eqs;cases h4:(a.1==b.1)with
    |true=>
     simp only[if_true];exact T.wp_mono (λH m2 F=>by cases H<;>exact F) (go (.inl (by simpa using h4)))|false=>
     simp only[K_,if_false];cases h5:(a.2==b.2)with
     |true=>
      simp only[if_true];exact T.wp_mono (λH m2 F=>by cases H<;>exact F) (go (.inr (by simpa using h5)))|false=>
      simp only[K_,if_false];exact v _ _ (dW f _ _ _ _ _ h s A)
  clear hB;subst_eqs;simp only[kK,Wp,T.wp_bind,Lq];subst_eqs;by_cases Y:l.length=2
  .rw[show(((l.length:Nat):Int)==2)=KN by simp;omega];simp only[if_true];refine⟨by omega,by omega,by omega,λw w0 w1=>?_⟩;by_cases h3:0<w
   .rw[decide_eq_true h3,if_pos rfl];exact T.wp_mono (λH m2 F=>by cases H<;>exact F) (yes _ (by omega) Y)
   .rw[decide_eq_false h3];simp only[K_,if_false];exact nx _ (by omega)
  .rw[show(((l.length:Nat):Int)==2)=KO by simp;omega];simp only[K_,if_false];exact nx _ (by omega)
 .rintro N y⟨g1,g2,Z,c,t,r,p,o,rfl,s,A⟩;unfold lU;subst_eqs;exact hQ _ _ ⟨by simp at g1;omega,c,rfl,s,A⟩
 .obtain⟨k,M,rfl⟩:=List.mem_map.mp hd;exact⟨k,pl.subset M,rfl⟩
theorem wN{a b:Type}{f:a->b}(g:b->a)(c:∀x,g (f x)=x){l:List b}{ks:List a}(h:l.Perm (ks.map f)):∃l':List a,l=l'.map f/\l'.Perm ks:=by
 refine⟨l.map g,?_,?_⟩
 .rw[LA];refine(Qx l).symm.trans (LV λd hd=>?_);obtain⟨p,_,rfl⟩:=List.mem_map.mp (h.subset hd);show f p=f (g (f p));rw[c]
 .have:=h.map g;rw[LA]at this;refine this.trans (Nt ?_);refine(LV λp _=>?_).trans (Qx ks);exact c p
theorem sk(ks:List Kt)(q:Kt):aD (ks.map kn) (kn q)=KN:=by
 have:=b5 (ks.map λk=>(k,[])) q;unfold bt at this;rwa[LA]at this
theorem Gd(ks:List Kt)(q:Kt):bN (ks.map kn) (kn q)=decide (q∈ks):=by induction ks with
 |nil=>rfl|cons k ks a=>
  unfold bN at a⊢;simp only[Li,NA,fH,a];by_cases h:k=q;.simp[h]
  .have:¬q=k:=λe=>h e.symm;simp[h,this]
theorem wO:∀(ks:List Kt)(xs:List Int)(as:List Kt)(bs:List Int),ks.length=xs.length->(as++ks).Nodup->as.length+ks.length<=1000->dQ (kQ (ks.map kn) (xs.map D.int)) (as.map kn,bs.map D.int)=KE ((as++ks).map kn,(bs++xs).map D.int)
 |[],[],as,bs,_,_,_=>by simp[kQ,dQ]|k::ks,x::xs,as,bs,c,nd,a=>by
  have z:=gU;have d:k∉as:=λh=>by
   have:=(List.nodup_append.mp nd).2.2 k h k K2;exact this rfl
  have b:=wO ks xs (as++[k]) (bs++[x]) (by simpa using c) (by simpa using nd) (by simp at a⊢;omega);show dQ (D.tup [kn k,D.int x]::kQ (ks.map kn) (xs.map D.int)) _=_;unfold dQ;rw[if_pos (by rw[sk];simp at a⊢;omega)];have:putD (as.map kn) (bs.map D.int) (kn k) (D.int x)=((as++[k]).map kn,(bs++[x]).map D.int):=by
   unfold putD;rw[Gd,decide_eq_false d];simp
  show dQ _ (putD (as.map kn) (bs.map D.int) (kn k) (D.int x))=_;rw[this,b];simp
theorem wQ:∀{ks:List Kt}{xs:List Int},ks.length=xs.length->ks.Nodup->xs.Nodup->∃N:Kt->Int,(∀q∈ks,aF (ks.map kn) (xs.map D.int) (kn q)=KE (.int (N q))/\N q∈xs)/\∀p∈ks,∀q∈ks,N p=N q->p=q
 |[],[],_,_,_=>⟨λ_=>0,by simp,by simp⟩|k::ks,x::xs,g,nd,nx=>by
  rw[M6]at nd nx;obtain⟨N,d,i⟩:=wQ (ks:=ks) (xs:=xs) (by simpa using g) nd.2 nx.2;refine⟨λq=>if q=k then x else N q,λq c=>?_,λp f q c e=>?_⟩
  .simp only[Li,aF,fH];by_cases h:q=k;.simp[h]
   .have j:¬k=q:=λe=>h e.symm;have:=d q (by simpa[h]using c);simp[h,j,this.1,this.2]
  .simp only at e;by_cases b:p=k<;>by_cases a:q=k;.rw[b,a]
   .rw[if_pos b,if_neg a]at e;have:=(d q (by simpa[a]using c)).2;rw[<-e]at this;exact absurd this nx.1
   .rw[if_neg b,if_pos a]at e;have:=(d p (by simpa[b]using f)).2;rw[e]at this;exact absurd this nx.1
   .rw[if_neg b,if_neg a]at e;exact i p (by simpa[b]using f) q (by simpa[a]using c) e
theorem Ge(p q:Kt):bz .Lt (kn p) (kn q)=.ok (.bl (decide (p.1<q.1\/p.1=q.1/\p.2<q.2))):=by
 show T.ok (D.bl (HT.lexLt [p.1,p.2] [q.1,q.2]))=_;congr 2;rw[HT.d3,HT.d3,HT.fJ];rw[MB];split
 .rename_i h;split;.rename_i a;simp;omega
  .simp;omega
 .simp;omega
noncomputable def c3(p:Int×Int×Int):D:=.tup [.int p.1,.int p.2.1,.int p.2.2]
structure gQ(cs:List (Int×Int×Int))(ws:List Kt):Prop where
 nd:(cs.map (·.1)).Nodup
 lc:cs.length<=25
 lw:ws.length<=625
 rg:∀w∈ws,0<=w.1/\w.1<=999/\0<=w.2/\w.2<=999
 ln:∀w∈ws,∃p∈cs,∃q∈cs,p.1=w.1/\q.1=w.2/\1<=q.2.1-p.2.1+q.2.2-p.2.2/\q.2.1-p.2.1+q.2.2-p.2.2<=2000000
theorem Gf(l:List D):bz .NotEq (.lst l) (.lst [])=.ok (.bl (!l.isEmpty)):=by
 unfold bz b8;simp only[cw];cases l<;>rfl
theorem zl{s a b:Int}(c:s=7\/s=303\/s=617\/s=999)(f:Int)(ha:0<=a/\a<25)(hb:0<=b/\b<25)(h:(f+s*a)%1000=(f+s*b)%1000):a=b:=by rcases c with rfl|rfl|rfl|rfl<;>omega
theorem fj{b:Type}:∀{l:List b}(n:Nat),l.Nodup->(l.eraseIdx n).Nodup
 |[],_,_=>by simp|a::l,0,h=>(List.nodup_cons.mp h).2|a::l,n+1,h=>by
  rw[M6]at h;rw[Qh,M6];exact⟨λz=>h.1 (Ou z),fj n h.2⟩
theorem dU{b:Type}{x:b}:∀{l:List b}(n:Nat),l.Nodup->l[n]?=KE x->x∉l.eraseIdx n
 |[],_,_,h=>by simp at h|a::l,0,h,e=>by simp at e;subst e;exact(List.nodup_cons.mp h).1|a::l,n+1,h,e=>by
  rw[M6]at h;rw[Qh];intro z;rcases List.mem_cons.mp z with rfl|z;.exact h.1 (LR (by simpa using e))
  .exact dU n h.2 (by simpa using e) z
theorem gR{b c:Type}(f:b->c):∀(l:List b)(n:Nat),(l.map f).eraseIdx n=(l.eraseIdx n).map f
 |[],_=>rfl|a::l,0=>rfl|a::l,n+1=>by simp[gR f l n]
theorem wR{n:Nat}{Q:List D->Nat->Prop}{k:Int}{o2 o3:Option W}:∀(ds:List D)(rest:List Int)(m:Nat),ds.length=rest.length->rest.length<=25->rest.length<=m->rest.Nodup->(∀x∈rest,0<=x/\x<=999)->(∀xs:List Int,∀a,m<=a+rest.length->xs.length=rest.length->xs.Nodup->(∀x∈xs,x∈rest)->Q (xs.map D.int) a)->(tE (λρ=>ao (V (n+1)) fX ρ) [KE .feed,KE (.d (.int k)),o2,o3,KE (.own (.lst ((aB k.toNat))))] 4 [0,4] ds (rest.map D.int)).wp m Q
 |[],rest,m,b,_,_,_,_,q=>by
  have e:rest=[]:=List.length_eq_zero_iff.mp b.symm;subst e;exact q [] m (by simp) rfl (by simp) (by simp)|d::ds,rest,m,b,o,r,nd,hb,q=>by
  have z:=gU;simp only[LM]at b;have l:ao (V (n+1)) fX ((cQ ((([KE .feed,KE (.d (.int k)),o2,o3,KE (.own (.lst ((aB k.toNat))))]:ah)).set 4 (KE (.own (.lst (rest.map D.int))))) 1 [0,4]).set 0 (KE (.d d)))=.draw ((rest.map D.int).length:Int) λi=>.ok (.int i):=rfl;unfold tE;rw[l,Lq];simp only[T.wp_bind,Wp,bO,T.bE];refine⟨by omega,by omega,by omega,λi i0 j=>⟨?_,?_⟩⟩
  .simp only[KW,decide_eq_true_eq];exact⟨i0,j,by omega⟩
  have c:i.toNat<rest.length:=by omega
  have f:rest[i.toNat]?=KE rest[i.toNat]:=Lk c;rw[Lr,f];simp only[Mq,Wp];have le:(rest.eraseIdx i.toNat).length=rest.length-1:=by rw[List.length_eraseIdx,if_pos c]
  rw[gR];refine wR ds (rest.eraseIdx i.toNat) (m-1) (by omega) (by omega) (by omega) (fj _ nd) (λx h=>hb x (Ou h)) λxs a t s p g=>?_;rw[show D.int rest[i.toNat]::xs.map D.int=(rest[i.toNat]::xs).map D.int from rfl];refine q _ a (by omega) (by simp;omega) (List.nodup_cons.mpr ⟨λz=>dU _ nd f (g _ z),p⟩) λx h=>?_;rcases List.mem_cons.mp h with rfl|h;.exact OW c
  .exact Ou (g x h)
theorem qG{n:Nat}{k:Int}{m:Nat}(K:0<=k/\k<=25)(J:40<=m):(aV defs gv (n+2) 10 [.feed,.d (.int k)]).wp m (λd p=>m<=p+30/\∃xs:List Int,d=.lst (xs.map D.int)/\(xs.length:Int)=k/\xs.Nodup/\∀x∈xs,0<=x/\x<=999):=by
 have z:=gU;rw[aS (d:=dg) rfl rfl];unfold dg;refine dC λQ u=>?_;rw[T.wp_bind];subst_eqs;refine⟨by omega,by omega,by omega,λi i0 I=>?_⟩;by_cases t:i=0
 .subst t;rw[if_pos (by simp)];refine⟨sd (by decide),by omega,by omega,by omega,λj H G=>?_⟩;have r:∃s:Int,fw [D.int 7,D.int 303,D.int 617,D.int 999] j=KE (.int s)/\(s=7\/s=303\/s=617\/s=999):=by
   rcases(by omega:j=0\/j=1\/j=2\/j=3)with rfl|rfl|rfl|rfl;.exact⟨7,rfl,by omega⟩
   .exact⟨303,rfl,by omega⟩
   .exact⟨617,rfl,by omega⟩
   .exact⟨999,rfl,by omega⟩
  obtain⟨s,C,r⟩:=r;rw[C];subst_eqs;refine⟨by omega,by omega,by omega,λf M L=>⟨by simp;omega,?_⟩⟩;have F:=bY (g:=gf (.nm 0)) (tc:=λρ=>T.ok KN) (te:=λρ=>ao (V (n+1)) fY ρ) (c:=λ_=>KN) (e:=λd=>match d with|.int y=>.int ((f+s*y)%1000)|d=>d) (λρ=>∃o,ρ=[o,KE (.d (.int s)),KE (.d (.int f))]) (ds:=aB k.toNat) (ρ:=cQ [KE .feed,KE (.d (.int k)),KE (.d (.int s)),KE (.d (.int f)),KL] 1 [2,3]) (by
   rintro ρ⟨o,rfl⟩d hd;obtain⟨y,q,rfl⟩:=List.mem_map.mp hd;refine⟨_,rfl,⟨_,rfl⟩,rfl,λ_=>?_⟩;unfold fY;bv_omega;rw[kF (i:=s) ⟨by omega,by omega⟩];rfl) ⟨KL,rfl⟩;rw[F,T.bA];have em:(List.filter (λ_=>KN) (aB k.toNat)).map (λd=>match d with|.int y=>.int ((f+s*y)%1000)|d=>d)=((LY k.toNat).map λ(i:Nat)=>(f+s*(i:Int))%1000).map D.int:=by
   rw[List.filter_eq_self.mpr (λ_ _=>rfl)];unfold aB;rw[LA,LA];rfl
  rw[em];refine u _ _ ⟨by omega,_,rfl,by simp;omega,?_,λx l=>?_⟩
  .refine PN (R:=λa b=>a<b/\b<k.toNat) _ (λa b h=>λe=>?_) ?_
   .have:=zl r f (a:=a) (b:=b) (by omega) (by omega) e;omega
   .have:(LY k.toNat).Pairwise (λa b=>a<b):=Qy;exact Ot (λ{a b}ha hb h=>⟨h,List.mem_range.mp hb⟩) this
  .obtain⟨y,_,rfl⟩:=List.mem_map.mp l;omega
 .rw[if_neg (by simpa using t)];unfold kB;subst_eqs;refine⟨rfl,by simp;omega,by simp;omega,?_⟩;have E:aB k.toNat=((LY k.toNat).map λ(i:Nat)=>(i:Int)).map D.int:=by unfold aB;rw[LA];rfl
  have key:=wR (n:=n) (k:=k) (o2:=KL) (o3:=KL) (Q:=λa p=>Q (.lst a) p) (aB k.toNat) ((LY k.toNat).map λ(i:Nat)=>(i:Int)) (m-1) (by simp[aB]) (by simp;omega) (by simp;omega) ?_ (λx l=>?_) λxs p B A w v=>u _ _ ⟨by simp at B;omega,xs,rfl,by simp at A;omega,w,λx l=>?_⟩
  .rw[<-E]at key;exact key
  .refine PN (R:=λa b=>a<b) _ (λa b h=>λe=>?_) Qy;omega
  .obtain⟨y,q,rfl⟩:=List.mem_map.mp l;have:=List.mem_range.mp q;omega
  .obtain⟨y,q,rfl⟩:=List.mem_map.mp (v x l);have:=List.mem_range.mp q;omega
theorem zm{n:Nat}{c r:Int}{m:Nat}{Q:D->Nat->Prop}(s:2<=c/\c<=5)(o:2<=r/\r<=5)(u:300<=m)(h:∀(G:Gr)b,m<=b+130->(G.map (·.1)).Nodup->(∀k∈G.map (·.1),0<=k.1/\k.1<c/\0<=k.2/\k.2<r)->G.length<=25->Joins G->Q (.aQ (bt G) (dj G)) b):(rX defs gv (n+2) 8 [.feed,.d (.int c),.d (.int r)]).wp m (λd b=>(aV defs gv (n+2) 9 [.feed,.own d]).wp b Q):=by
 have H:=wL (n:=n) s o (m:=m) (by omega);have N:∀(d:D)(b:Nat),(m<=b+100/\∃G:Gr,d=.aQ (bt G) (dj G)/\(G.map (·.1)).Nodup/\(∀k∈G.map (·.1),0<=k.1/\k.1<c/\0<=k.2/\k.2<r)/\G.length<=25/\Joins G)->∃G:Gr,d=.aQ (bt G) (dj G)/\60<=b/\(G.map (·.1)).Nodup/\G.length<=25/\Joins G/\∀(a:D)(g:Nat),(b<=g+30/\∃f:Gr,a=.aQ (bt f) (dj f)/\f.map (·.1)=G.map (·.1)/\Joins f)->Q a g:=by
  rintro d i⟨q,G,rfl,nd,j,e,J⟩;refine⟨G,rfl,by omega,nd,e,J,?_⟩;rintro a l⟨p,f,rfl,ks,t⟩;rw[<-ks]at nd j;exact h f l (by omega) nd j (by have:=congrArg OA ks;simp at this;omega) t
 refine T.wp_mono (λd i hd=>?_) H;refine(N d i hd).elim λG e=>?_;rw[e.1];exact T.wp_mono e.2.2.2.2.2 (tL e.2.2.1 e.2.2.2.1 e.2.2.2.2.1 e.2.1)
theorem wU{n:Nat}{k s:Int}{m:Nat}{Q:D->Nat->Prop}(f:2<=k/\k<=5)(c:s=1\/s=10000)(e:10<=m)(h:∀(xs:List Int)a,m<=a+7->(xs.length:Int)=k->(∀x∈xs,0<=x/\x<=1000000)->xs.Pairwise (·<·)->Q (.lst (xs.map D.int)) a):(aV defs gv (n+2) 7 [.feed,.d (.int k),.d (.int s)]).wp m Q:=T.wp_mono (by rintro d b⟨l,xs,rfl,j,i,g⟩;exact h xs b l j i g) (zi f c e)
theorem tM{n:Nat}{k:Int}{m:Nat}{Q:D->Nat->Prop}(e:0<=k/\k<=25)(c:40<=m)(h:∀(xs:List Int)a,m<=a+30->(xs.length:Int)=k->xs.Nodup->(∀x∈xs,0<=x/\x<=999)->Q (.lst (xs.map D.int)) a):(aV defs gv (n+2) 10 [.feed,.d (.int k)]).wp m Q:=T.wp_mono (by rintro d b⟨j,xs,rfl,i,g,f⟩;exact h xs b j i g f) (qG e c)
theorem sort_k{a:Type}{f:a->D}(g:D->a)(i:∀x,g (f x)=x)(j:∀x,vC (f x)=KN){d:D}{ks:List a}{m:Nat}{Q:D->Nat->Prop}(hd:ox d=KE (ks.map f))(b:ks.length<=1000)(h:∀l:List a,l.Perm ks->Q (.lst (l.map f)) m):(kK .sorted [d]).wp m Q:=by
 have z:=gU;have:ou (ks.map f)=KN:=by
  unfold ou;have:(ks.map f).all vC=KN:=List.all_eq_true.mpr λx e=>by
   obtain⟨p,_,rfl⟩:=List.mem_map.mp e;exact j p
  rw[this];simp
 simp only[kK,rT,hd,T.wp_bind,Wp,T.bE,this];refine⟨by simp;omega,λl b=>?_⟩;obtain⟨c,rfl,pl⟩:=wN g i b;exact h c pl
noncomputable def eJ:D->Kt
 |.tup [.int a,.int b]=>(a,b)|_=>(0,0)
noncomputable def KC:D->Int×Int×Int
 |.tup [.int a,.int b,.int c]=>(a,b,c)|_=>(0,0,0)
structure Net(c r:Int)(G:Gr)(K:List Kt):Prop where
 nd:K.Nodup
 lK:K.length<=25
 gK:∀q∈K,(0<=q.1/\q.1<c/\0<=q.2/\q.2<r)/\∃t,gt G q=KE t/\t.length<=25/\∀u∈t,u∈K/\jb q u
theorem Net.of{c r:Int}{G:Gr}{l':List Kt}(nd:(G.map (·.1)).Nodup)(i:∀k∈G.map (·.1),0<=k.1/\k.1<c/\0<=k.2/\k.2<r)(l:G.length<=25)(J:Joins G)(pl:l'.Perm (G.map (·.1))):Net c r G (l'.filter λq=>!(((gt G q).getD []).isEmpty)):=by
 have e:l'.Nodup:=pl.symm.nodup nd;have d:l'.length<=25:=by have:=pl.length_eq;simp at this;omega
 have lK:(l'.filter λq=>!(((gt G q).getD []).isEmpty)).length<=25:=L7 (OT _ _) d;refine⟨e.filter _,lK,λq j=>?_⟩;have b:=pl.subset (List.mem_filter.mp j).1;refine⟨i q b,?_⟩;obtain⟨t,g⟩:=Option.isSome_iff_exists.mp (fi.mpr b);have ok:=J q t g;have sub:∀u∈t,u∈l'.filter λq=>!(((gt G q).getD []).isEmpty):=λu hu=>by
  obtain⟨h,a,f⟩:=ok.sy u hu;rw[List.mem_filter];refine⟨pl.symm.subset (fi.mp (by rw[a];rfl)),?_⟩;rw[a];cases h with
  |nil=>cases f|cons _ _=>rfl
 exact⟨t,g,L7 (List.Nodup.length_le_of_subset ok.nd (λu hu=>sub u hu)) lK,λu hu=>⟨sub u hu,ok.ln u hu⟩⟩
noncomputable abbrev jc(c r s:Int)(G:Gr)(xs ys:List Int)(b o9 o10 o11 a:Option W):ah:=[KE .feed,KE (.d (.int 5)),KE (.d (.int s)),KE (.d (.int c)),KE (.d (.int r)),KE (.d (.aQ (bt G) (dj G))),KE (.d (.lst (xs.map D.int))),KE (.d (.lst (ys.map D.int))),b,o9,o10,o11,a]
theorem zo{n:Nat}{c r s:Int}{G:Gr}{xs ys:List Int}{m:Nat}{Q:D->Nat->Prop}(nd:(G.map (·.1)).Nodup)(f:∀k∈G.map (·.1),0<=k.1/\k.1<c/\0<=k.2/\k.2<r)(l:G.length<=25)(J:Joins G)(h:∀K,Net c r G K->Q (.lst (K.map kn)) m):(ao (V (n+3)) (.lc ["_law_knot"] [5] (.nm 0) (.bG (.bi .sorted (.cons (.var 5) .nil))) mR qt) (jc c r s G xs ys KL KL KL KL KL)).wp m Q:=by
 subst_eqs;refine sort_k eJ (λ_=>rfl) (λ_=>rfl) (ks:=G.map (·.1)) (by rw[<-qF];rfl) (by simp;omega) λa pl=>?_;simp only[cB,T.gP];have b:=bY (g:=gf (.nm 0)) (tc:=λρ=>bg (V (n+3)) mR ρ) (te:=λρ=>ao (V (n+3)) qt ρ) (c:=λd=>!(((gt G (eJ d)).getD []).isEmpty)) (e:=id) (λρ=>∃o,ρ=[o,KE (.d (.aQ (bt G) (dj G)))]) (ds:=a.map kn) (ρ:=cQ (jc c r s G xs ys KL KL KL KL KL) 1 [5]) (by
  rintro ρ⟨o,rfl⟩d hd;obtain⟨q,j,rfl⟩:=List.mem_map.mp hd;refine⟨_,rfl,⟨_,rfl⟩,?_,λ_=>rfl⟩;obtain⟨t,i⟩:=Option.isSome_iff_exists.mp (fi.mpr (pl.subset j));show _=T.ok (!((gt G (q.1,q.2)).getD []).isEmpty);unfold mR;bv_omega;simp only[e7,b5,gc,i,Sd,ag,Mq,Cl,Gf,aJ,P_];cases t<;>rfl) ⟨KL,rfl⟩;have em:((a.map kn).filter (λd=>!(((gt G (eJ d)).getD []).isEmpty))).map id=(a.filter λq=>!(((gt G q).getD []).isEmpty)).map kn:=by rw[Rj,List.filter_map];rfl
 rw[em]at b;refine(congrArg (λt=>T.wp t m _) b).mpr ?_;exact h _ (Net.of nd f l J pl)
noncomputable def pl(xs:List Int)(i:Int):Int:=(xs[i.toNat]?).getD 0
theorem zY{xs:List Int}{i:Int}(a:0<=i)(h:i<xs.length):fw (xs.map D.int) i=KE (.int (pl xs i)):=by
 refine Ga a ?_;rw[Lr];unfold pl;rw[Lk (by omega)];rfl
theorem zZ{xs:List Int}{i j:Int}(a:xs.Pairwise (·<·))(c:0<=i)(h:i<j)(b:j<xs.length):pl xs i<pl xs j:=by
 unfold pl;rw[Lk (by omega),Lk (by omega)];exact List.pairwise_iff_getElem.mp a _ _ _ _ (by omega)
theorem so{xs:List Int}{i:Int}(a:∀x∈xs,0<=x/\x<=1000000)(b:0<=i)(h:i<xs.length):0<=pl xs i/\pl xs i<=1000000:=by
 unfold pl;rw[Lk (by omega)];exact a _ (OW _)
structure Nums(K:List Kt)(ns:List Int)(N:Kt->Int):Prop where
 lk:∀q∈K,aF (K.map kn) (ns.map D.int) (kn q)=KE (.int (N q))rg:∀q∈K,0<=N q/\N q<=999
 inj:∀p∈K,∀q∈K,N p=N q->p=q
noncomputable abbrev dN(K:List Kt)(ns:List Int):D:=.aQ (K.map kn) (ns.map D.int)
theorem wV{K:List Kt}{ns:List Int}{N:Kt->Int}(h:Nums K ns N){q:Kt}(a:q∈K):e7 (dN K ns) (kn q)=.ok (.int (N q)):=by simp only[e7,sk,h.lk q a,Sd,ag,Cl]
theorem tN{n:Nat}{c r s:Int}{G:Gr}{K:List Kt}{ns xs ys:List Int}{N:Kt->Int}(H:Net c r G K)(hN:Nums K ns N)(m:(xs.length:Int)=c)(l:(ys.length:Int)=r):ao (V (n+3)) (.lc ["_law_i","_law_j"] [6,7,9] (.tup 2 (.cons (.nm 0) (.cons (.nm 1) .nil))) (.bG (.var 8)) .yes kC) (jc c r s G xs ys (KE (.d (.lst (K.map kn)))) (KE (.d (dN K ns))) KL KL KL)=.ok (.lst ((K.map λq=>(N q,pl xs q.1,pl ys q.2)).map c3)):=by
 have z:=gU;have f:=bY (g:=gf (.tup 2 (.cons (.nm 0) (.cons (.nm 1) .nil)))) (tc:=λρ=>bg (V (n+3)) .yes ρ) (te:=λρ=>ao (V (n+3)) kC ρ) (c:=λ_=>KN) (e:=λd=>c3 (N (eJ d),pl xs (eJ d).1,pl ys (eJ d).2)) (λρ=>∃o a,ρ=[o,a,KE (.d (.lst (xs.map D.int))),KE (.d (.lst (ys.map D.int))),KE (.d (dN K ns))]) (ds:=K.map kn) (ρ:=cQ (jc c r s G xs ys (KE (.d (.lst (K.map kn)))) (KE (.d (dN K ns))) KL KL KL) 2 [6,7,9]) (by
  rintro ρ⟨o,a,rfl⟩d hd;obtain⟨q,b,rfl⟩:=List.mem_map.mp hd;refine⟨[KE (.d (.int q.1)),KE (.d (.int q.2)),KE (.d (.lst (xs.map D.int))),KE (.d (.lst (ys.map D.int))),KE (.d (dN K ns))],rfl,⟨_,_,rfl⟩,rfl,λ_=>?_⟩;obtain⟨p,_⟩:=H.gK q b;have k:=zY (xs:=xs) (i:=q.1) (by omega) (by omega);have j:=zY (xs:=ys) (i:=q.2) (by omega) (by omega);have h:=wV hN b;unfold kn at h;unfold kC;bv_omega;simp only[k,j,h,Sd,ag,Cl,fS];rfl) ⟨KL,KL,rfl⟩;have em:((K.map kn).filter (λ_=>KN)).map (λd=>c3 (N (eJ d),pl xs (eJ d).1,pl ys (eJ d).2))=(K.map λq=>(N q,pl xs q.1,pl ys q.2)).map c3:=by rw[List.filter_eq_self.mpr (λ_ _=>rfl),LA,LA];rfl
 rw[em]at f;show(T.get (cB (.lst (K.map kn)))>>=λds=>dR _ _ _ ds _>>=λr=>T.ok (D.lst r))=_;show(dR (gf (.tup 2 (.cons (.nm 0) (.cons (.nm 1) .nil)))) (λρ=>bg (V (n+3)) .yes ρ) (λρ=>ao (V (n+3)) kC ρ) (K.map kn) (cQ (jc c r s G xs ys (KE (.d (.lst (K.map kn)))) (KE (.d (dN K ns))) KL KL KL) 2 [6,7,9])>>=λr=>T.ok (D.lst r))=_;rw[f];rfl
noncomputable def below(q u:Kt):Bool:=decide (q.1<u.1\/q.1=u.1/\q.2<u.2)
theorem zq{n:Nat}{c r s:Int}{G:Gr}{K t:List Kt}{q:Kt}{ns xs ys:List Int}{N:Kt->Int}{o10 o11:Option W}(hN:Nums K ns N)(h:q∈K)(f:gt G q=KE t)(hu:∀u∈t,u∈K):ao (V (n+3)) (.lc ["_law_there"] [9,12] (.nm 0) (.bG (.idx (.var 5) (.var 12))) fZ f6) (jc c r s G xs ys (KE (.d (.lst (K.map kn)))) (KE (.d (dN K ns))) o10 o11 (KE (.d (kn q))))=.ok (.lst (((t.filter (below q)).map λu=>(N q,N u)).map kn)):=by
 have z:=gU;have b:=bY (g:=gf (.nm 0)) (tc:=λρ=>bg (V (n+3)) fZ ρ) (te:=λρ=>ao (V (n+3)) f6 ρ) (c:=λd=>below q (eJ d)) (e:=λd=>kn (N q,N (eJ d))) (λρ=>∃o,ρ=[o,KE (.d (dN K ns)),KE (.d (kn q))]) (ds:=t.map kn) (ρ:=cQ (jc c r s G xs ys (KE (.d (.lst (K.map kn)))) (KE (.d (dN K ns))) o10 o11 (KE (.d (kn q)))) 1 [9,12]) (by
  rintro ρ⟨o,rfl⟩d hd;obtain⟨u,a,rfl⟩:=List.mem_map.mp hd;refine⟨_,rfl,⟨_,rfl⟩,?_,λ_=>?_⟩
  .unfold fZ;bv_omega;rw[Ge];rfl
  .unfold f6;bv_omega;simp only[wV hN h,wV hN (hu u a),ag,Sd,Cl,fS];rfl) ⟨KL,rfl⟩;have em:((t.map kn).filter (λd=>below q (eJ d))).map (λd=>kn (N q,N (eJ d)))=((t.filter (below q)).map λu=>(N q,N u)).map kn:=by rw[List.filter_map,LA,LA];rfl
 rw[em]at b;have i:ni (V (n+3)) (.bG (.idx (.var 5) (.var 12))) (jc c r s G xs ys (KE (.d (.lst (K.map kn)))) (KE (.d (dN K ns))) o10 o11 (KE (.d (kn q))))=.ok (t.map kn):=by
  show((T.need (aD (bt G) (kn q))>>=λ_=>T.get (aF (bt G) (dj G) (kn q)))>>=λd=>T.get (cB d))=_;rw[b5,gc,f];rfl
 show(ni (V (n+3)) (.bG (.idx (.var 5) (.var 12))) (jc c r s G xs ys (KE (.d (.lst (K.map kn)))) (KE (.d (dN K ns))) o10 o11 (KE (.d (kn q))))>>=λds=>dR (gf (.nm 0)) (λρ=>bg (V (n+3)) fZ ρ) (λρ=>ao (V (n+3)) f6 ρ) ds (cQ (jc c r s G xs ys (KE (.d (.lst (K.map kn)))) (KE (.d (dN K ns))) o10 o11 (KE (.d (kn q)))) 1 [9,12])>>=λr=>T.ok (D.lst r))=_;rw[i,ag,b];rfl
noncomputable def Jg(K:List Kt)(N:Kt->Int)(w:Kt):Prop:=∃q∈K,∃u∈K,w=(N q,N u)/\jb q u/\below q u=KN
inductive WI(c r s:Int)(G:Gr)(K:List Kt)(ns xs ys:List Int)(N:Kt->Int)(cs:D)(m:Nat)(ds:List D)(ρ:ah)(m':Nat):Prop|mk(ws:List Kt)(o12:Option W)(eρ:ρ=jc c r s G xs ys (KE (.d (.lst (K.map kn)))) (KE (.d (dN K ns))) (KE (.d cs)) (KE (.own (.lst (ws.map kn)))) o12)(g1:m'=m)(g2:∀d∈ds,∃q∈K,d=kn q)(g3:ws.length+25*ds.length<=625)(g4:∀w∈ws,Jg K N w)
theorem zr{n:Nat}{c r s:Int}{G:Gr}{K:List Kt}{ns xs ys:List Int}{N:Kt->Int}{cs:D}{m:Nat}{Q:Fl->Nat->Prop}(H:Net c r G K)(hN:Nums K ns N)(h:∀(ws:List Kt)(a:Option W),ws.length<=625->(∀w∈ws,Jg K N w)->Q (.nx (jc c r s G xs ys (KE (.d (.lst (K.map kn)))) (KE (.d (dN K ns))) (KE (.d cs)) (KE (.own (.lst (ws.map kn)))) a)) m):(e9 (gf (.nm 12)) (au (V (n+3)) qo) (K.map kn) (jc c r s G xs ys (KE (.d (.lst (K.map kn)))) (KE (.d (dN K ns))) (KE (.d cs)) (KE (.own (.lst (([]:List Kt).map kn)))) KL)).wp m Q:=by
 have z:=gU;refine eB (WI c r s G K ns xs ys N cs m) ?_ ?_ ⟨[],KL,rfl,rfl,λd hd=>?_,?_,by simp⟩
 .rintro d C x p⟨ws,a,rfl,rfl,o,l,k⟩;simp only[LM]at l;obtain⟨q,f,rfl⟩:=o _ K2;obtain⟨_,t,y,lt,hu⟩:=H.gK q f;rw[tJ.1,T.bA];refine dC λB j=>?_;have e:=zq (n:=n) (c:=c) (r:=r) (s:=s) (xs:=xs) (ys:=ys) (o10:=KE (.d cs)) (o11:=KE (.own (.lst (ws.map kn)))) hN f y (λu h=>(hu u h).1);unfold qo;have A:au (V (n+3)) (.ext 11 (.lc ["_law_there"] [9,12] (.nm 0) (.bG (.idx (.var 5) (.var 12))) fZ f6)) (jc c r s G xs ys (KE (.d (.lst (K.map kn)))) (KE (.d (dN K ns))) (KE (.d cs)) (KE (.own (.lst (ws.map kn)))) (KE (.d (kn q))))=.ok (.nx (jc c r s G xs ys (KE (.d (.lst (K.map kn)))) (KE (.d (dN K ns))) (KE (.d cs)) (KE (.own (.lst ((ws++(t.filter (below q)).map λu=>(N q,N u)).map kn)))) (KE (.d (kn q))))):=by
   show(ao (V (n+3)) (.lc ["_law_there"] [9,12] (.nm 0) (.bG (.idx (.var 5) (.var 12))) fZ f6) (jc c r s G xs ys (KE (.d (.lst (K.map kn)))) (KE (.d (dN K ns))) (KE (.d cs)) (KE (.own (.lst (ws.map kn)))) (KE (.d (kn q))))>>=λd=>c_ d>>=λv=>T.need (decide ((ws.map kn).length+v.length<=KU))>>=λ_=>T.ok (Fl.nx ((jc c r s G xs ys (KE (.d (.lst (K.map kn)))) (KE (.d (dN K ns))) (KE (.d cs)) (KE (.own (.lst (ws.map kn)))) (KE (.d (kn q)))).set 11 (KE (.own (.lst (ws.map kn++v)))))))=_;rw[e];have:=OT (below q) t;show(T.need (decide ((ws.map kn).length+(((t.filter (below q)).map λu=>(N q,N u)).map kn).length<=KU))>>=λ_=>_)=_;rw[decide_eq_true (by simp;omega),M4];rfl
  show(au (V (n+3)) (.cons _ .nil) (jc c r s G xs ys (KE (.d (.lst (K.map kn)))) (KE (.d (dN K ns))) (KE (.d cs)) (KE (.own (.lst (ws.map kn)))) (KE (.d (kn q))))).wp p B;rw[bq A];have:=OT (below q) t;refine j _ _ (WI.mk (ws++(t.filter (below q)).map λu=>(N q,N u)) (KE (.d (kn q))) rfl rfl (λd hd=>o d (K1 _ hd)) (by simp;omega) (λw hw=>?_));rcases List.mem_append.mp hw with hw|hw;.exact k w hw
  .obtain⟨u,i,rfl⟩:=List.mem_map.mp hw;obtain⟨b,g⟩:=List.mem_filter.mp i;exact⟨q,f,u,(hu u b).1,rfl,(hu u b).2,g⟩
 .rintro x p⟨ws,a,rfl,rfl,o,l,k⟩;exact h ws a (by simpa using l) k
 .obtain⟨q,f,rfl⟩:=List.mem_map.mp hd;exact⟨q,f,rfl⟩
 .have:=H.lK;simp;omega
theorem gQ.of{c r:Int}{G:Gr}{K:List Kt}{ns xs ys:List Int}{N:Kt->Int}{cs:List (Int×Int×Int)}{ws d:List Kt}(H:Net c r G K)(hN:Nums K ns N)(A:(xs.length:Int)=c)(z:(ys.length:Int)=r)(o:∀x∈xs,0<=x/\x<=1000000)(n:∀x∈ys,0<=x/\x<=1000000)(v:xs.Pairwise (·<·))(t:ys.Pairwise (·<·))(l:cs.Perm (K.map λq=>(N q,pl xs q.1,pl ys q.2)))(hw:∀w∈d,Jg K N w)(lw:d.length<=625)(pw:ws.Perm d):gQ cs ws:=by
 have g:∀q∈K,(N q,pl xs q.1,pl ys q.2)∈cs:=λq f=>l.symm.subset (List.mem_map.mpr ⟨q,f,rfl⟩);refine⟨?_,?_,by rw[pw.length_eq];exact lw,λw h=>?_,λw h=>?_⟩
 .have p:(cs.map (·.1)).Perm (K.map N):=by
   have:=l.map (·.1);rw[LA]at this;exact this
  refine p.symm.nodup ?_;rw[List.nodup_iff_pairwise_ne,R9];refine Ot (λ{a b}ha hb m e=>?_) (List.nodup_iff_pairwise_ne.mp H.nd);exact m (hN.inj a ha b hb e)
 .have:=l.length_eq;have:=H.lK;simp at*;omega
 .obtain⟨q,f,u,hu,rfl,_⟩:=hw w (pw.subset h);have:=hN.rg q f;have:=hN.rg u hu;simp only;omega
 .obtain⟨q,f,u,hu,rfl,s,hb⟩:=hw w (pw.subset h);refine⟨_,g q f,_,g u hu,rfl,rfl,?_⟩;obtain⟨C,_⟩:=H.gK q f;obtain⟨B,_⟩:=H.gK u hu;simp only;have y:q.1<u.1\/q.1=u.1/\q.2<u.2:=by simpa[below]using hb
  have a1:=so (xs:=xs) o (i:=q.1) (by omega) (by omega);have E:=so (xs:=xs) o (i:=u.1) (by omega) (by omega);have b1:=so (xs:=ys) n (i:=q.2) (by omega) (by omega);have D:=so (xs:=ys) n (i:=u.2) (by omega) (by omega);unfold jb at s;rcases s with⟨e,k⟩|⟨e,k⟩
  .have:=zZ (xs:=ys) t (i:=q.2) (j:=u.2) (by omega) (by omega) (by omega);rw[e];omega
  .have:=zZ (xs:=xs) v (i:=q.1) (j:=u.1) (by omega) (by omega) (by omega);rw[e];omega
theorem C8{n:Nat}{c r s:Int}{G:Gr}{xs ys:List Int}{m:Nat}{Q:Fl->Nat->Prop}(nd:(G.map (·.1)).Nodup)(B:∀k∈G.map (·.1),0<=k.1/\k.1<c/\0<=k.2/\k.2<r)(E:G.length<=25)(J:Joins G)(j:(xs.length:Int)=c)(i:(ys.length:Int)=r)(t:∀x∈xs,0<=x/\x<=1000000)(p:∀x∈ys,0<=x/\x<=1000000)(w:xs.Pairwise (·<·))(v:ys.Pairwise (·<·))(L:100<=m)(h:∀(cs:List (Int×Int×Int))(ws:List Kt)(g:Nat),m<=g+30->gQ cs ws->Q (.rt (.tup [.tup (cs.map c3),.tup (ws.map kn)])) g):(au (V (n+3)) qu (jc c r s G xs ys KL KL KL KL KL)).wp m Q:=by
 have z:=gU;unfold qu;refine bZ ?_;refine zo nd B E J λK H=>?_;show(au (V (n+3)) qr (jc c r s G xs ys (KE (.d (.lst (K.map kn)))) KL KL KL KL)).wp m Q;unfold qr;refine bZ ?_;have hK:=H.lK;subst_eqs;simp only[kK,T.wp_bind,Wp];refine tM (k:=((K.map kn).length:Int)) (by simp;omega) (by omega) λns b C ln nn u=>?_;have a:K.length=ns.length:=by simp at ln;omega
 have o:=wO K ns [] [] a (by simpa using H.nd) (by simp;omega);simp only[List.nil_append,Nd]at o;simp only[Ff,o,T.wp_bind,Wp,ag,Cl];have hN:∃N,Nums K ns N:=by
  obtain⟨N,l,F⟩:=wQ a H.nd nn;exact⟨N,λq f=>(l q f).1,λq f=>u _ (l q f).2,F⟩
 refine hN.elim λN hN=>?_;show(au (V (n+3)) qp (jc c r s G xs ys (KE (.d (.lst (K.map kn)))) (KE (.d (dN K ns))) KL KL KL)).wp b Q;unfold qp;rw[mW (tN H hN j i)];show(au (V (n+3)) _ (jc c r s G xs ys (KE (.d (.lst (K.map kn)))) (KE (.d (dN K ns))) (KE (.d (.lst ((K.map λq=>(N q,pl xs q.1,pl ys q.2)).map c3)))) KL KL)).wp b Q;have I:∀cs:D,au (V (n+3)) (.qi 11 .nil) (jc c r s G xs ys (KE (.d (.lst (K.map kn)))) (KE (.d (dN K ns))) (KE (.d cs)) KL KL)=.ok (.nx (jc c r s G xs ys (KE (.d (.lst (K.map kn)))) (KE (.d (dN K ns))) (KE (.d cs)) (KE (.own (.lst (([]:List Kt).map kn)))) KL)):=λcs=>by
  show(T.need (decide (0<=KU))>>=λ_=>T.ok (Fl.nx (jc c r s G xs ys (KE (.d (.lst (K.map kn)))) (KE (.d (dN K ns))) (KE (.d cs)) (KE (.own (.lst (([]:List Kt).map kn)))) KL)))=_;rw[G6];rfl
 rw[bq (I _),di,T.wp_bind];refine zr H hN λws A lw hw=>?_;show(au (V (n+3)) qm _).wp b Q;unfold qm;subst_eqs;refine sort_k KC (λ_=>rfl) (λ_=>rfl) (ks:=K.map λq=>(N q,pl xs q.1,pl ys q.2)) rfl (by simp;omega) λcs y=>?_;simp only[kK,items,T.wp_bind,Wp];refine sort_k eJ (λ_=>rfl) (λ_=>rfl) (ks:=ws) rfl (by omega) λe pw=>?_;simp only[kK,items,T.wp_bind,Wp];exact⟨wI,h cs e b (by omega) (gQ.of H hN j i t p w v y hw lw pw)⟩
theorem Gg{n:Nat}{s:Int}{m:Nat}{Q:D->Nat->Prop}(b:s=1\/s=10000)(F:1000<=m)(h:∀(cs:List (Int×Int×Int))(ws:List Kt)(a:Nat),m<=a+300->gQ cs ws->Q (.tup [.tup (cs.map c3),.tup (ws.map kn)]) a):(aV defs gv (n+4) 11 [.feed,.d (.int 5),.d (.int s)]).wp m Q:=by
 have z:=gU;rw[aS (d:=f_) rfl rfl];unfold f_;rw[T.wp_bind];subst_eqs;refine⟨by omega,by omega,by omega,λc c0 H=>⟨by omega,by omega,by omega,λr r0 A=>?_⟩⟩;refine zm (n:=n+1) (c:=2+c) (r:=2+r) (by omega) (by omega) (by omega) λG E v nd p w J=>?_;unfold r8;subst_eqs;refine wU (n:=n+1) (k:=2+c) (by omega) b (by omega) λy C u o f i=>?_;refine wU (n:=n+1) (k:=2+r) (by omega) b (by omega) λx B t l e g=>?_;refine⟨wI,?_⟩;refine C8 nd p w J o l f e i g (by omega) λcs ws j q ok=>?_;exact h cs ws j (by omega) ok
open PyProof.Rows
noncomputable def qH(c:Nat):Nat:=if 65<=c&&c<=90 then c+32 else c
noncomputable def az(c:Nat):Bool:=97<=c&&c<=122
theorem Jh:(LY 128).all (λc=>Unicode.lowerOf c==[qH c])=KN:=by decide+kernel
theorem Ji:(LY 128).all (λc=>(qH c==c&&QQ c)==az c)=KN:=by decide+kernel
theorem Jj:(LY 128).all (λc=>Oc "abcdefghijklmnopqrstuvwxyz" ⟨#[c]⟩==az c)=KN:=by decide+kernel
theorem tab{p:Nat->Bool}(h:(LY 128).all p=KN){c:Nat}(a:c<128):p c=KN:=List.all_eq_true.mp h c (List.mem_range.mpr a)
noncomputable def C9(x:Lf):Prop:=∀c∈x.cps.toList,c<128
theorem iF{x:Lf}(h:C9 x):(Mw x).cps.toList=x.cps.toList.map qH:=by
 unfold Mw placed;simp only[Array.toList_flatten,Array.toList_mapIdx];have g:List.map RU (List.mapIdx (λi c=>(Unicode.lowerAt x.cps i).toArray) x.cps.toList)=x.cps.toList.map λc=>[qH c]:=by
  refine R4 λi=>?_;rw[Lr,List.getElem?_mapIdx,Lr];cases d:x.cps.toList[i]? with
  |none=>rfl|some c=>
   have b:=h c (LR d);have e:x.cps[i]?=KE c:=by rw[<-Mg];exact d
   have t:=tab Jh b;simp only[Mq,N3];simp only[Unicode.lowerAt,e];rw[if_neg (by simp;omega)];simpa using t
 rw[g];generalize x.cps.toList=l;induction l with
 |nil=>rfl|cons a l f=>simpa using f
noncomputable def sr(x:Lf):Bool:=(decide (1<=(x.length:Int))&&decide ((x.length:Int)<=8))&&x.cps.toList.all az
theorem wW{x:Lf}(h:C9 x)(g:1<=x.length):((Mw x==x)&&OE x)=x.cps.toList.all az:=by
 have j:(Mw x==x)=x.cps.toList.all λc=>qH c==c:=by
  rw[MB,beq_iff_eq,Me];constructor
  .intro e c d;have:=iF h;rw[e]at this;have m:x.cps.toList.map qH=x.cps.toList.map id:=by rw[Rj,<-this]
   simpa using List.map_inj_left.mp m c d
  .intro e;have:(Mw x).cps.toList=x.cps.toList:=by
    rw[iF h];refine(LV λc d=>?_).trans (Rj _);simpa using e c d
   have a:(Mw x).cps=x.cps:=Array.toList_inj.mp this;cases x;cases f:Mw _ with|mk q=>rw[f]at a;exact congrArg _ a
 have i:OE x=x.cps.toList.all QQ:=by
  unfold OE;rw[decide_eq_true (show x.length>0 from g),ND,Array.all_toList]
 rw[j,i,MB,KW,Me,Me,Me];have k:∀c∈x.cps.toList,(qH c==c&&QQ c)=az c:=λc d=>by simpa using tab Ji (h c d)
 constructor
 .rintro⟨a,b⟩c d;rw[<-k c d,a c d,b c d];rfl
 .intro a;refine⟨λc d=>?_,λc d=>?_⟩
  .have:=a c d;rw[<-k c d,KW]at this;exact this.1
  .have:=a c d;rw[<-k c d,KW]at this;exact this.2
local macro_rules|`(tactic|symm_saturate)=>`(tactic|simp only[F_,tY,G5,zf,Jc,tJ,fS,bO,aJ,ag,cH,bW,A.w,Cl,Sd,Ix,Lm,Ls,Mm,O1,Nat.reduceSub,if_true,wG,tZ])
theorem Jk(n:Nat):(V n).iQ 0=KE (.int 999):=rfl
theorem Jl(n:Nat):(V n).iQ 1=KE (.int 1000000):=rfl
theorem Jm(n:Nat):(V n).iQ 3=KE (.int 8):=rfl
noncomputable def Ty:D->Prop
 |.aQ _ _=>False|_=>True
noncomputable def isInt:D->Bool
 |.int _=>KN|_=>KO
noncomputable def isStr:D->Bool
 |.str _=>KN|_=>KO
noncomputable def isTup:D->Bool
 |.tup _=>KN|_=>KO
noncomputable def C_:D->Bool
 |.bl _=>KN|_=>KO
theorem G7{t u:String}{b:Bool}(h:Ni [] (.type t) (.type u)=KE b):(T.get (Ni [] (.type t) (.type u))>>=λb=>T.ok (D.bl b))=.ok (.bl b):=by rw[h];rfl
theorem wX{d:D}(h:Ty d):gH "int" d=.ok (.bl (isInt d||C_ d)):=by cases d<;>first|exact h.elim|(exact G7 (by kernel_rfl))
theorem jm{d:D}(h:Ty d):gH "bool" d=.ok (.bl (C_ d)):=by cases d<;>first|exact h.elim|(exact G7 (by kernel_rfl))
theorem in_str{d:D}(h:Ty d):gH "str" d=.ok (.bl (isStr d)):=by cases d<;>first|exact h.elim|(exact G7 (by kernel_rfl))
theorem qI{d:D}(h:Ty d):gH "tuple" d=.ok (.bl (isTup d)):=by cases d<;>first|exact h.elim|(exact G7 (by kernel_rfl))
noncomputable def inR(d:D)(lo a:Int):Bool:=match d with
 |.int i=>decide (lo<=i)&&decide (i<=a)|_=>KO
theorem pd{n:Nat}{d:D}(h:Ty d):aV defs gv (n+1) 0 [.d d]=.ok (.bl (isInt d)):=by
 rw[aS (d:=fb) rfl rfl];unfold fb;symm_saturate;rw[wX h,jm h];cases d<;>first|exact h.elim|rfl
theorem mZ{n:Nat}{d:D}{lo a:Int}(h:Ty d):aV defs gv (n+2) 1 [.d d,.d (.int lo),.d (.int a)]=.ok (.bl (inR d lo a)):=by
 rw[aS (d:=f9) rfl rfl];unfold f9;symm_saturate;rw[pd h];cases d<;>first|exact h.elim|rfl|skip
 rename_i i;symm_saturate;simp only[isInt,if_true,Ix,ag,aJ,inR];cases decide (lo<=i)<;>rfl
theorem fk{n:Nat}{d:D}{lo a:Int}(h:Ty d):aV defs gv (n+1) 17 [.d d,.d (.int lo),.d (.int a)]=.ok (.bl (inR d lo a)):=by
 rw[aS (d:=et) rfl rfl];unfold et;symm_saturate;rw[wX h];cases d<;>first|exact h.elim|rfl|(symm_saturate;rw[jm h];rfl)|skip
 rename_i i;symm_saturate;rw[jm (show Ty (.int i)from trivial)];simp only[isInt,C_,if_true,Ix,ag,aJ,inR,Pp,NZ];cases decide (lo<=i)<;>rfl
noncomputable def fm(d:D)(k:Int):Bool:=match d with
 |.tup a=>((a.length:Nat):Int)==k|_=>KO
theorem z0{n:Nat}{d:D}{k:Int}(h:Ty d):aV defs gv (n+1) 2 [.d d,.d (.int k)]=.ok (.bl (fm d k)):=by
 rw[aS (d:=kE) rfl rfl];unfold kE;symm_saturate;rw[qI h];cases d<;>first|exact h.elim|rfl
noncomputable def bH(d:D):Bool:=match d with
 |.tup [a,b]=>inR a 0 999&&inR b 0 999|_=>KO
theorem Dc{n:Nat}{d:D}(h:Ty d)(f:∀a b,d=.tup [a,b]->Ty a/\Ty b):aV defs gv (n+3) 3 [.d d]=.ok (.bl (bH d)):=by
 have z:=gU;rw[aS (d:=iC) rfl rfl];unfold iC;symm_saturate;rw[z0 h];match d,h,f with
 |.tup [a,b],h,f=>
  obtain⟨ha,hb⟩:=f a b rfl;symm_saturate;simp only[fm,LM,Ma,cB,Cl,ag,aJ];rw[if_pos (by decide)];have j:=bY (g:=gf (.nm 0)) (tc:=λρ=>bg (V (n+2)) .yes ρ) (te:=λρ=>ao (V (n+2)) ei ρ) (c:=λ_=>KN) (e:=λd=>.bl (inR d 0 999)) (λρ=>∃o,ρ=[o]) (ds:=[a,b]) (ρ:=cQ [KE (.d (.tup [a,b]))] 1 []) (by
   rintro ρ⟨o,rfl⟩d hd;refine⟨[KE (.d d)],rfl,⟨_,rfl⟩,rfl,λ_=>?_⟩;unfold ei;symm_saturate;rw[Jk];have:Ty d:=by
    rcases List.mem_cons.mp hd with rfl|hd;.exact ha
    .rw[List.mem_singleton.mp hd];exact hb
   symm_saturate;exact mZ this) ⟨KL,rfl⟩;have i:dR (gf (.nm 0)) (λρ=>T.ok KN) (λρ=>ao (V (n+2)) ei ρ) [a,b] (cQ [KE (.d (.tup [a,b]))] 1 [])=.ok [.bl (inR a 0 999),.bl (inR b 0 999)]:=j;rw[i];show T.ok (D.bl ([inR a 0 999,inR b 0 999].all id))=T.ok (D.bl (inR a 0 999&&inR b 0 999));simp|.tup [],_,_=>rfl|.tup [a],_,_=>rfl|.tup (a::b::c::r),_,_=>
  have:fm (.tup (a::b::c::r)) 2=KO:=by simp[fm];omega
  rw[this];rfl|.bw,_,_=>rfl|.bl _,_,_=>rfl|.int _,_,_=>rfl|.str _,_,_=>rfl|.lst _,_,_=>rfl
noncomputable def kT:D->Prop
 |.aQ _ _=>False|.str x=>C9 x/\x.length<=1000|_=>True
theorem kT.ty{d:D}(h:kT d):Ty d:=by cases d<;>first|exact h.elim|trivial
noncomputable def Dd:D->Bool
 |.str x=>sr x|_=>KO
theorem tO(l:List Nat):bools (l.map λc=>D.bl (az c))=KE (l.map az):=by induction l with
 |nil=>rfl|cons a l b=>simp[bools,b]
theorem qJ{v:Ev}{e:Ex}{ρ:ah}{d:D}(h:ao v e ρ=.ok d):(au v (.cons (.ret e) .nil) ρ>>=tZ)=.ok d:=by
 simp only[F_,h,ag];rfl
theorem De{n:Nat}{d:D}(h:kT d):aV defs gv (n+1) 4 [.d d]=.ok (.bl (Dd d)):=by
 have z:=gU;rw[aS (d:=iD) rfl rfl];unfold iD;symm_saturate;rw[in_str h.ty];match d,h with
 |.str x,h=>
  symm_saturate;simp only[isStr,LS,K_,if_false,kK,Jm,ag,Cl,aJ,Ix,decide_eq_true (show x.length<=KU by have:=h.2;omega),Sd,Dd,sr];cases k:decide (1<=(x.length:Int))with
  |false=>simp only[K_,if_false,ag,Pp,if_true,Q6];rfl|true=>
   simp only[if_true,ag,ND];cases j:decide ((x.length:Int)<=8)with
   |false=>simp only[ag,Pp,if_true,Q6];rfl|true=>
    have f:=bY (g:=gf (.nm 0)) (tc:=λρ=>bg (V n) .yes ρ) (te:=λρ=>ao (V n) ek ρ) (c:=λ_=>KN) (e:=λd=>match d with|.str y=>.bl (Oc "abcdefghijklmnopqrstuvwxyz" y)|d=>d) (λρ=>∃o,ρ=[o]) (ds:=xh x) (ρ:=cQ [KE (.d (.str x))] 1 []) (by
     rintro ρ⟨o,rfl⟩d hd;obtain⟨c,b,rfl⟩:=List.mem_map.mp hd;refine⟨_,rfl,⟨_,rfl⟩,rfl,λ_=>?_⟩;rfl) ⟨KL,rfl⟩;have em:((xh x).filter (λ_=>KN)).map (λd=>match d with|.str y=>.bl (Oc "abcdefghijklmnopqrstuvwxyz" y)|d=>d)=x.cps.toList.map λc=>D.bl (az c):=by
     rw[List.filter_eq_self.mpr (λ_ _=>rfl)];unfold xh;rw[LA];refine LV λc b=>?_;have:=tab Jj (h.1 c b);simp only[beq_iff_eq]at this;simp only[NG,this]
    rw[em]at f;have a:dR (gf (.nm 0)) (λρ=>T.ok KN) (λρ=>ao (V n) ek ρ) (xh x) (cQ [KE (.d (.str x))] 1 [])=.ok (x.cps.toList.map λc=>D.bl (az c)):=f;have i:ao (V n) (.bi .all (.cons (.lc ["sign"] [] (.nm 0) (.bG (.var 0)) .yes ek) .nil)) [KE (.d (.str x))]=.ok (.bl (x.cps.toList.all az)):=by
     symm_saturate;simp only[cB,if_pos (show x.length<=KU by have:=h.2;omega),Cl,ag];simp only[a,ag,fS,kK,tO,Cl,List.all_map,R_,id]
    exact qJ i
 |.bw,_=>rfl|.bl _,_=>rfl|.int _,_=>rfl|.tup _,_=>rfl|.lst _,_=>rfl
noncomputable def zt:D->Bool
 |.str x=>(("door":Lf)==x)||((("window":Lf)==x)||KO)|_=>KO
theorem z_{d:D}(h:Ty d):pz d [.str "door",.str "window"]=KE (zt d):=by match d,h with
 |.str x,_=>rfl|.bw,_=>rfl|.bl _,_=>rfl|.int _,_=>rfl|.tup _,_=>rfl|.lst _,_=>rfl
theorem Dh(p q:Kt):cw 50 (kn p) (kn q)=KE (decide (p=q)):=by
 have h:cw 50 (kn p) (kn q)=KE (((p.1==q.1)&&((p.2==q.2)&&KN))&&KN):=by
  unfold kn;simp only[cw,ba,Mq,LM,Ma,BEq.rfl]
 rw[h];congr 1;rw[MB];simp[Pf]
theorem Gh(w:Kt)(ws:List Kt):pz (kn w) (ws.map kn)=KE (decide (w∈ws)):=by induction ws with
 |nil=>rfl|cons a ws c=>
  show(match cw 50 (kn a) (kn w),pz (kn w) (ws.map kn)with|some a,KE b=>KE (a||b)|_,_=>KL)=_;rw[Dh,c];show KE (decide (a=w)||decide (w∈ws))=_;congr 1;rw[MB,Mc,decide_eq_true_eq,decide_eq_true_eq,decide_eq_true_eq,Mx];exact or_congr_left eq_comm
noncomputable def tP(en:D)(w:Kt):Bool:=match en with
 |.int e=>w.1==e||(w.2==e||KO)|_=>KO
theorem Jn(e:Int)(w:Kt):pz (.int e) [.int w.1,.int w.2]=KE (tP (.int e) w):=rfl
noncomputable def R(ws:List Kt):D->Bool
 |.tup [nm,d,c,en,a,b]=>Dd nm&&(zt d&&(bH c&&(decide (eJ c∈ws)&&(tP en (eJ c)&&(inR a 0 1000000&&inR b 1 1000000)))))|_=>KO
inductive Th:D->Prop|six{nm kd wl en a b:D}(h1:kT nm)(h2:Ty kd)(h3:Ty wl)(h4:∀x y,wl=.tup [x,y]->Ty x/\Ty y)(h5:Ty en)(h6:Ty a)(h7:Ty b):Th (.tup [nm,kd,wl,en,a,b])|tup{xs:List D}(h:xs.length≠6):Th (.tup xs)|Gi{d:D}(h:Ty d)(h':∀xs,d≠.tup xs):Th d
theorem m6{d:D}(h:bH d=KN):d=kn (eJ d):=by
 unfold bH at h;split at h
 .rename_i a b;rw[KW]at h;cases a<;>first|(exact absurd h.1 La)|skip
  cases b<;>first|(exact absurd h.2 La)|skip
  rfl
 .cases h
noncomputable abbrev nt(cs:D)(ws:List Kt):D:=.tup [cs,.tup (ws.map kn)]
theorem wY{xs:List D}(h:xs.length≠6):fm (.tup xs) 6=KO:=by simp[fm];omega
theorem xk{ng:Bool}{d:D}{xs:List D}{b:Bool}(h:pz d xs=KE b):DH ng d (.tup xs)=.ok (.bl (if ng then !b else b))/\DH ng d (.lst xs)=.ok (.bl (if ng then !b else b)):=by
 constructor
 .show(T.get (pz d xs)>>=λb=>T.ok (D.bl (if ng then !b else b)))=_;rw[h];rfl
 .show(T.get (pz d xs)>>=λb=>T.ok (D.bl (if ng then !b else b)))=_;rw[h];rfl
theorem guard{v:Ev}{c:Ex}{r:aY}{ρ:ah}(b:Bool)(h:bg v c ρ=.ok b):(au v (.cons (.iff c (.cons (.ret (.cst (.bl KO))) .nil) .nil) r) ρ>>=tZ)=if b then .ok (.bl KO)else(au v r ρ>>=tZ):=by
 have e:au v (.iff c (.cons (.ret (.cst (.bl KO))) .nil) .nil) ρ=if b then .ok (.rt (.bl KO))else .ok (.nx ρ):=by
  show(bg v c ρ>>=λx=>if x then _ else _)=_;rw[h];cases b<;>rfl
 rw[di,e];cases b<;>rfl
theorem cL{v:Ev}{a b:Ex}{ρ:ah}(x y:Bool)(ha:bg v a ρ=.ok x)(hb:x=KO->bg v b ρ=.ok y):bg v (.fE a b) ρ=.ok (x||y):=by
 show(bg v a ρ>>=λc=>if c then T.ok KN else bg v b ρ)=_;rw[ha,ag];cases x with
 |true=>rfl|false=>rw[if_neg (by simp),hb rfl];rfl
theorem dv{v:Ev}{a:Ex}{ρ:ah}{x:Bool}(ha:ao v a ρ=.ok (.bl x)):bg v (.bx (.fN a)) ρ=.ok (!x):=by
 show((ao v a ρ>>=λd=>yV d)>>=λc=>T.ok (!c))=_;rw[ha];rfl
theorem eK{v:Ev}{o:Oj}{a b:Ex}{ρ:ah}{d e:D}{x:Bool}(ha:ao v a ρ=.ok d)(hb:ao v b ρ=.ok e)(h:bz o d e=.ok (.bl x)):bg v (.aw o a b) ρ=.ok x:=by
 show(ao v a ρ>>=λd=>ao v b ρ>>=λe=>bz o d e>>=λy=>aJ y)=_;rw[ha,ag,hb,ag,h];rfl
theorem ft{v:Ev}{a:Ex}{ρ:ah}{x:Bool}(h:bg v a ρ=.ok x):bg v (.bh a) ρ=.ok x:=h
theorem Gj{xs:List D}(ws:List Kt)(h:xs.length≠6):R ws (.tup xs)=KO:=by match xs,h with
 |[],_=>rfl|[_],_=>rfl|[_,_],_=>rfl|[_,_,_],_=>rfl|[_,_,_,_],_=>rfl|[_,_,_,_,_],_=>rfl|[_,_,_,_,_,_],h=>exact absurd rfl h|_::_::_::_::_::_::_::_,_=>rfl
theorem Aa(ws:List Kt)(nm d c en a b:D):R ws (.tup [nm,d,c,en,a,b])=(Dd nm&&(zt d&&(bH c&&(decide (eJ c∈ws)&&(tP en (eJ c)&&(inR a 0 1000000&&inR b 1 1000000)))))):=rfl
noncomputable abbrev s8(cs:D)(ws:List Kt)(nm e c en a b:D):ah:=[KE (.d (nt cs ws)),KE (.d (.tup [nm,e,c,en,a,b])),KE (.d nm),KE (.d e),KE (.d c),KE (.d en),KE (.d a),KE (.d b)]
theorem wZ{ws:List Kt}{a:D}(hw:bH a=KN):bz .NotIn a (.tup (ws.map kn))=.ok (.bl (!decide (eJ a∈ws))):=by
 have b:=m6 hw;generalize eJ a=w at b⊢;subst b;exact(xk (ng:=KN) (Gh w ws)).1
theorem Ab{en a:D}(hw:bH a=KN)(c:isInt en=KN):bz .NotIn en a=.ok (.bl (!tP en (eJ a))):=by
 have b:=m6 hw;generalize eJ a=w at b⊢;subst b;cases en<;>first|exact absurd c La|skip
 exact(xk (ng:=KN) (Jn _ w)).1
theorem zu{en:D}{w:Kt}(h:isInt en=KO):tP en w=KO:=by cases en<;>first|rfl|exact absurd h.symm La
theorem qK{n:Nat}{cs:D}{ws:List Kt}{d:D}(h:Th d):aV defs gv (n+4) 5 [.d (nt cs ws),.d d]=.ok (.bl (R ws d)):=by
 rw[aS (d:=iE) rfl rfl];unfold iE;show(au (V (n+3)) _ [KE (.d (nt cs ws)),KE (.d d),KL,KL,KL,KL,KL,KL]>>=tZ)=_;have ro:Ty d->bg (V (n+3)) (.bx (.fN (.call 2 (.cons (.var 1) (.cons (.cst (.int 6)) .nil))))) [KE (.d (nt cs ws)),KE (.d d),KL,KL,KL,KL,KL,KL]=.ok (!fm d 6):=λh=>dv (z0 h);cases h with
 |tup h=>rw[guard _ (ro trivial),wY h,Gj ws h];rfl|Gi h r=>
  rw[guard _ (ro h)];cases d<;>first|exact absurd rfl (r _)|exact h.elim|rfl
 |six q p m l k j i=>
  rename_i nm e c en a b;rw[guard _ (ro trivial),show fm (.tup [nm,e,c,en,a,b]) 6=KN from rfl,LS,if_neg (by simp)];unfold ky;rw[bq (show au (V (n+3)) (.asg (.tup 6 (.cons (.nm 2) (.cons (.nm 3) (.cons (.nm 4) (.cons (.nm 5) (.cons (.nm 6) (.cons (.nm 7) .nil))))))) (.var 1)) [KE (.d (nt cs ws)),KE (.d (.tup [nm,e,c,en,a,b])),KL,KL,KL,KL,KL,KL]=.ok (.nx (s8 cs ws nm e c en a b))from rfl)];have t:=cL (v:=V (n+3)) (ρ:=s8 cs ws nm e c en a b) _ _ (dv (a:=.call 4 (.cons (.var 2) .nil)) (De q)) λ_=>cL _ _ (eK (a:=.var 3) (b:=.iQ 4) (o:=.NotIn) rfl rfl (xk (ng:=KN) (z_ p)).1) λ_=>cL _ (!decide (eJ c∈ws)) (dv (a:=.call 3 (.cons (.var 4) .nil)) (Dc m l)) λhw=>ft (eK (a:=.var 4) (b:=.idx (.var 0) (.cst (.int 1))) (o:=.NotIn) rfl (by symm_saturate) (wZ (by simpa using hw)));rw[guard _ t];rw[Aa];cases u:Dd nm with
  |false=>rfl|true=>cases w:zt e with
  |false=>rfl|true=>cases hw:bH c with
  |false=>rfl|true=>cases x:decide (eJ c∈ws)with
  |false=>rfl|true=>
   simp only[LS,NZ,if_true,K_,if_false,ND];unfold ku;have s:=cL (v:=V (n+3)) (ρ:=s8 cs ws nm e c en a b) _ (!tP en (eJ c)) (dv (a:=.call 0 (.cons (.var 5) .nil)) (pd k)) λf=>ft (eK (a:=.var 5) (b:=.var 4) (o:=.NotIn) rfl rfl (Ab hw (by simpa using f)));rw[guard _ s];cases f:isInt en with
   |false=>rw[zu f];rfl|true=>cases y:tP en (eJ c)with
   |false=>rfl|true=>
    simp only[LS,NZ,if_true,K_,if_false,ND];unfold kr;have g:ao (V (n+3)) (.and (.call 1 (.cons (.var 6) (.cons (.cst (.int 0)) (.cons (.iQ 1) .nil)))) (.one (.call 1 (.cons (.var 7) (.cons (.cst (.int 1)) (.cons (.iQ 1) .nil)))))) (s8 cs ws nm e c en a b)=.ok (.bl (inR a 0 1000000&&inR b 1 1000000)):=by
     symm_saturate;rw[Jl];symm_saturate;rw[mZ j];simp only[ag,aJ];cases inR a 0 1000000 with
     |false=>rfl|true=>
      rw[if_pos rfl,mZ i];rfl
    rw[qJ g]
theorem lY{v:Ev}{i:Nat}{t:String}{ρ:ah}{d:D}{b:Bool}(hd:cH ρ i=KE d)(h:gH t d=.ok (.bl b)):ao v (.kJ t (.var i)) ρ=.ok (.bl b):=by
 show(T.get (cH ρ i)>>=λd=>gH t d)=_;rw[hd];exact h
theorem zv{x:Lf}(h:C9 x):(Mw x).length=x.length:=by
 have:=congrArg OA (iF h);simpa[Sz]using this
theorem Jo{n:Nat}{nm:D}{ρ:ah}(h:kT nm)(a:cH ρ 2=KE nm):bg (V n) (.fE (.bx (.fN (.kJ "str" (.var 2)))) (.fE (.bx (.oG .LtE .LtE (.cst (.int 1)) (.bi .len (.cons (.var 2) .nil)) (.cst (.int 8)))) (.fE (.aw .NotEq (.low (.var 2)) (.var 2)) (.bh (.bx (.fN (.Cb (.var 2)))))))) ρ=.ok (!Dd nm):=by
 have z:=gU;have c:∀v:Ev,ao v (.var 2) ρ=.ok nm:=λv=>by
  show T.get (cH ρ 2)=_;rw[a];rfl
 cases b:isStr nm with
 |false=>
  rw[cL KN KN (dv (lY a (in_str h.ty))|>.trans (by rw[b];rfl)) (λe=>by cases e)];cases nm<;>first|rfl|exact absurd b.symm La
 |true=>
  cases nm<;>first|exact absurd b La|skip
  rename_i x;have j:x.length<=1000:=h.2;have i:bg (V n) (.bx (.oG .LtE .LtE (.cst (.int 1)) (.bi .len (.cons (.var 2) .nil)) (.cst (.int 8)))) ρ=.ok (!(decide (1<=(x.length:Int))&&decide ((x.length:Int)<=8))):=by
   simp only[G5,tY,zf,a,Cl,ag,fS,kK,decide_eq_true (show x.length<=KU by omega),Sd,Ix,aJ];cases decide (1<=(x.length:Int))<;>rfl
  have g:bg (V n) (.aw .NotEq (.low (.var 2)) (.var 2)) ρ=.ok (!(Mw x==x)):=by
   refine eK (d:=.str (Mw x)) (e:=.str x) ?_ (c _) rfl;simp only[tY,a,Cl,ag,Ce,decide_eq_true (show(Mw x).length<=KU by rw[zv h.1];omega),Sd]
  have f:bg (V n) (.bh (.bx (.fN (.Cb (.var 2))))) ρ=.ok (!Txt.isalpha x):=ft (dv (by simp only[tY,a,Cl,ag,Cf]));rw[cL _ _ (dv (lY a (in_str (show Ty (.str x)from trivial)))) (λ_=>cL _ _ i (λ_=>cL _ _ g (λ_=>f)))];show T.ok (!true||(!(decide (1<=(x.length:Int))&&decide ((x.length:Int)<=8))||((!(Mw x==x))||!Txt.isalpha x)))=.ok (!sr x);unfold sr;cases hd:(decide (1<=(x.length:Int))&&decide ((x.length:Int)<=8))with
  |false=>rfl|true=>
   rw[<-wW h.1 (by rw[KW]at hd;have:=of_decide_eq_true hd.1;omega)];cases Mw x==x<;>cases OE x<;>rfl
noncomputable def iV:D->Bool
 |.tup [_,_]=>KN|_=>KO
theorem Jp{n:Nat}{c a:D}{ρ:ah}(h:Ty c)(h':Ty a)(i:cH ρ 3=KE c)(hw:cH ρ 4=KE a):bg (V n) (.fE (.bx (.fN (.kJ "str" (.var 3)))) (.fE (.aw .NotIn (.var 3) (.lst (.cons (.cst (.str "door")) (.cons (.cst (.str "window")) .nil)))) (.fE (.bx (.fN (.kJ "tuple" (.var 4)))) (.bh (.aw .NotEq (.bi .len (.cons (.var 4) .nil)) (.cst (.int 2))))))) ρ=.ok (!(zt c&&iV a)):=by
 have z:=gU;have m:bg (V n) (.aw .NotIn (.var 3) (.lst (.cons (.cst (.str "door")) (.cons (.cst (.str "window")) .nil)))) ρ=.ok (!zt c):=by
  refine eK (d:=c) (e:=.lst [.str "door",.str "window"]) ?_ ?_ (xk (ng:=KN) (z_ h)).2;.simp only[tY,i,Cl]
  .simp only[tY,zf,Cl,ag,fS,Ls,O1,Sd]
 have l:isTup a=KN->∃b,bg (V n) (.bh (.aw .NotEq (.bi .len (.cons (.var 4) .nil)) (.cst (.int 2)))) ρ=.ok b/\b=!iV a:=λf=>by
  cases a<;>first|exact absurd f La|skip
  rename_i g;refine⟨!(((g.length:Nat):Int)==2),ft (eK (d:=.int g.length) (e:=.int 2) ?_ rfl rfl),?_⟩;.simp only[tY,zf,hw,Cl,ag,fS,kK]
  .congr 1;match g with
   |[]=>rfl|[_]=>rfl|[_,_]=>rfl|_::_::_::r=>simp[iV];omega
 rw[cL _ (!(zt c&&iV a)) (dv (lY i (in_str h))) (λ_=>by
  rw[cL _ (!iV a) m (λ_=>by
   rw[cL _ (!iV a) (dv (lY hw (qI h'))) (λf=>by
    obtain⟨b,k,j⟩:=l (by simpa using f);rw[k,j])];cases f:isTup a with
   |true=>rfl|false=>cases a<;>first|rfl|exact absurd f.symm La)];cases zt c<;>rfl)];cases c<;>rfl
theorem Di{en c:D}(hw:bH c=KN)(h:tP en (eJ c)=KN):inR en 0 999=KN:=by
 unfold bH at hw;split at hw
 .rename_i a b;rw[KW]at hw;cases a<;>first|(exact absurd hw.1 La)|skip
  cases b<;>first|(exact absurd hw.2 La)|skip
  cases en<;>first|(exact absurd h La)|skip
  rename_i i j e;simp only[tP,eJ,NZ,Mc,beq_iff_eq]at h;rcases h with rfl|rfl;.exact hw.1
  .exact hw.2
 .cases hw
theorem zw{en:D}{lo a:Int}(h:inR en lo a=KN):isInt en=KN:=by cases en<;>first|rfl|exact absurd h La
theorem Dj(v:Ev)(i:Nat)(ρ:ah)(xs:List D)(h:cH ρ i=KE (.tup xs)):ao v (.bi .len (.cons (.var i) .nil)) ρ=.ok (.int xs.length):=by simp only[tY,zf,h,Cl,ag,fS,kK]
theorem zx{n:Nat}{cs:D}{ws:List Kt}{d:D}(h:Th d):aV defs gv (n+2) 18 [.d (nt cs ws),.d d]=.ok (.bl (R ws d)):=by
 rw[aS (d:=eA) rfl rfl];unfold eA;show(au (V (n+1)) _ [KE (.d (nt cs ws)),KE (.d d),KL,KL,KL,KL,KL,KL]>>=tZ)=_;have ro:Ty d->bg (V (n+1)) (.fE (.bx (.fN (.kJ "tuple" (.var 1)))) (.bh (.aw .NotEq (.bi .len (.cons (.var 1) .nil)) (.cst (.int 6))))) [KE (.d (nt cs ws)),KE (.d d),KL,KL,KL,KL,KL,KL]=.ok (!fm d 6):=λh=>by
  rw[cL _ (!fm d 6) (dv (lY (d:=d) rfl (qI h))) (λg=>by
   have g:isTup d=KN:=by simpa using g
   clear h;cases d<;>first|exact absurd g La|skip
   rename_i j _;exact ft (eK (d:=.int j.length) (e:=.int 6) (Dj _ _ _ j rfl) rfl rfl))];cases d<;>rfl
 cases h with
 |tup h=>rw[guard _ (ro trivial),wY h,Gj ws h];rfl|Gi h E=>
  rw[guard _ (ro h)];cases d<;>first|exact absurd rfl (E _)|exact h.elim|rfl
 |six C B A z y x w=>
  rename_i nm f c en a b;rw[guard _ (ro trivial),show fm (.tup [nm,f,c,en,a,b]) 6=KN from rfl,LS,if_neg (by simp)];rw[bq (show au (V (n+1)) (.asg (.tup 6 (.cons (.nm 2) (.cons (.nm 3) (.cons (.nm 4) (.cons (.nm 5) (.cons (.nm 6) (.cons (.nm 7) .nil))))))) (.var 1)) [KE (.d (nt cs ws)),KE (.d (.tup [nm,f,c,en,a,b])),KL,KL,KL,KL,KL,KL]=.ok (.nx (s8 cs ws nm f c en a b))from rfl)];rw[guard _ (Jo (ρ:=s8 cs ws nm f c en a b) C rfl),Aa];cases K:Dd nm with
  |false=>rfl|true=>
  rw[LS,if_neg (by simp),guard _ (Jp (ρ:=s8 cs ws nm f c en a b) B A rfl rfl)];cases L:zt f with
  |false=>rfl|true=>cases g:iV c with
  |false=>
   rw[show bH c=KO from by cases hw:bH c with
    |false=>rfl|true=>
     rw[m6 hw]at g;exact absurd g.symm La];rfl|true=>
  obtain⟨p,q,rfl⟩:∃p q,c=.tup [p,q]:=by
   unfold iV at g;split at g;.exact⟨_,_,rfl⟩
   .cases g
  obtain⟨u,t⟩:=z p q rfl;have G:bg (V (n+1)) (.fE (.bx (.fN (.call 17 (.cons (.idx (.var 4) (.cst (.int 0))) (.cons (.cst (.int 0)) (.cons (.cst (.int 999)) .nil)))))) (.fE (.bx (.fN (.call 17 (.cons (.idx (.var 4) (.cst (.int 1))) (.cons (.cst (.int 0)) (.cons (.cst (.int 999)) .nil)))))) (.bh (.aw .NotIn (.var 4) (.idx (.var 0) (.cst (.int 1))))))) (s8 cs ws nm f (.tup [p,q]) en a b)=.ok (!(bH (.tup [p,q])&&decide (eJ (.tup [p,q])∈ws))):=by
   have J:ao (V (n+1)) (.call 17 (.cons (.idx (.var 4) (.cst (.int 0))) (.cons (.cst (.int 0)) (.cons (.cst (.int 999)) .nil)))) (s8 cs ws nm f (.tup [p,q]) en a b)=.ok (.bl (inR p 0 999)):=by
    symm_saturate;exact fk u
   have I:ao (V (n+1)) (.call 17 (.cons (.idx (.var 4) (.cst (.int 1))) (.cons (.cst (.int 0)) (.cons (.cst (.int 999)) .nil)))) (s8 cs ws nm f (.tup [p,q]) en a b)=.ok (.bl (inR q 0 999)):=by
    symm_saturate;exact fk t
   rw[cL _ (!(inR q 0 999&&decide (eJ (.tup [p,q])∈ws))) (dv J) (λl=>by
    rw[cL _ (!decide (eJ (.tup [p,q])∈ws)) (dv I) (λk=>ft (eK (d:=.tup [p,q]) (e:=.tup (ws.map kn)) rfl (by symm_saturate) (wZ (by simp only[Bool.not_eq_false']at l k;simp only[bH,l,k];rfl))))];cases inR q 0 999<;>rfl)];show _=T.ok (!((inR p 0 999&&inR q 0 999)&&decide (eJ (.tup [p,q])∈ws)));cases inR p 0 999<;>rfl
  rw[ND,LS,if_neg (by simp),guard _ G];generalize r:D.tup [p,q]=c at*;cases hw:bH c with
  |false=>rfl|true=>cases M:decide (eJ c∈ws)with
  |false=>rfl|true=>
   simp only[LS,NZ,if_true,K_,if_false,ND];unfold pb;have H:ao (V (n+1)) (.call 17 (.cons (.var 5) (.cons (.cst (.int 0)) (.cons (.cst (.int 999)) .nil)))) (s8 cs ws nm f c en a b)=.ok (.bl (inR en 0 999)):=by
    symm_saturate;exact fk y
   have F:=cL (v:=V (n+1)) (ρ:=s8 cs ws nm f c en a b) _ (!tP en (eJ c)) (dv H) λi=>ft (eK (a:=.var 5) (b:=.var 4) (o:=.NotIn) rfl rfl (Ab hw (zw (by simpa using i))));rw[guard _ F];cases i:inR en 0 999 with
   |false=>
    rw[show tP en (eJ c)=KO from by cases m:tP en (eJ c)with
     |false=>rfl|true=>rw[Di hw m]at i;cases i];rfl|true=>cases m:tP en (eJ c)with
   |false=>rfl|true=>
    simp only[LS,NZ,if_true,K_,if_false,ND];unfold o_;have s:ao (V (n+1)) (.and (.call 17 (.cons (.var 6) (.cons (.cst (.int 0)) (.cons (.op .Pow (.cst (.int 10)) (.cst (.int 6))) .nil)))) (.one (.call 17 (.cons (.var 7) (.cons (.cst (.int 1)) (.cons (.op .Pow (.cst (.int 10)) (.cst (.int 6))) .nil)))))) (s8 cs ws nm f c en a b)=.ok (.bl (inR a 0 1000000&&inR b 1 1000000)):=by
     symm_saturate;rw[fk x];simp only[ag,aJ];cases inR a 0 1000000 with
     |false=>rfl|true=>
      rw[if_pos rfl,fk w];rfl
    rw[qJ s]
abbrev C3:=Int×Int×Int
noncomputable def ik(p:C3):D:=.int p.1
noncomputable def iv(p:C3):D:=.tup [.int p.2.1,.int p.2.2]
theorem m9(cs:List C3)(c:Int):aD (cs.map ik) (.int c)=KN:=by
 unfold aD;rw[Mc];left;rw[KW];refine⟨List.all_eq_true.mpr λx a=>?_,rfl⟩;obtain⟨p,_,rfl⟩:=List.mem_map.mp a;rfl
theorem w9(a b:Int):eG (.int a) (.int b)=decide (a=b):=by
 unfold eG;simp[iL]
theorem Gk(cs:List C3)(c:Int):bN (cs.map ik) (.int c)=decide (c∈cs.map (·.1)):=by induction cs with
 |nil=>rfl|cons k ks a=>
  unfold bN at a⊢;simp only[Li,NA,a];rw[show eG (ik k) (.int c)=decide (k.1=c)from w9 _ _,MB,Mc,decide_eq_true_eq,decide_eq_true_eq,decide_eq_true_eq,Mx];exact or_congr_left eq_comm
theorem qL:∀{cs:List C3}{p:C3},(cs.map (·.1)).Nodup->p∈cs->aF (cs.map ik) (cs.map iv) (.int p.1)=KE (iv p)
 |k::ks,p,nd,a=>by
  simp only[Li,aF];rw[show eG (ik k) (.int p.1)=decide (k.1=p.1)from w9 _ _];rw[Li,M6]at nd;rcases List.mem_cons.mp a with rfl|a;.simp
  .have:k.1≠p.1:=λe=>nd.1 (by rw[e];exact List.mem_map.mpr ⟨p,a,rfl⟩);rw[decide_eq_false this,if_neg (by simp)];exact qL nd.2 a
inductive SI(net:D)(cs:List C3)(m:Nat)(ds:List D)(ρ:ah)(m':Nat):Prop|mk(as bs:List C3)(o2 o3 o4:Option W)(eρ:ρ=[KE (.d net),KE (.own (.aQ (as.map ik) (as.map iv))),o2,o3,o4])(g1:m'=m)(g2:ds=bs.map c3)(g3:as++bs=cs)
theorem zy{n:Nat}{cs:List C3}{ws:D}{m:Nat}{Q:D->Nat->Prop}(nd:(cs.map (·.1)).Nodup)(lc:cs.length<=25)(h:Q (.aQ (cs.map ik) (cs.map iv)) m):(aV defs gv (n+1) 12 [.d (.tup [.tup (cs.map c3),ws])]).wp m Q:=by
 have z:=gU;rw[aS (d:=cJ) rfl rfl];unfold cJ;rw[T.wp_bind];subst_eqs;refine⟨rfl,?_⟩;simp only[cB,T.gP];refine eB (SI (.tup [.tup (cs.map c3),ws]) cs m) ?_ ?_ ⟨[],cs,KL,KL,KL,rfl,rfl,rfl,rfl⟩
 .rintro d p e j⟨c,bs,i,g,f,rfl,rfl,a,rfl⟩;cases bs with
  |nil=>cases a|cons b bs=>
   cases a;refine se λQ l=>?_;unfold iU c3;subst_eqs;try simp only[LM,Ma,if_true]
   try subst_eqs
   have k:¬b.1∈c.map (·.1):=λhb=>by
    rw[M4]at nd;exact(List.nodup_append.mp nd).2.2 _ hb b.1 (by simp) rfl
   have o:c.length<=25:=by simp at lc;omega
   refine⟨wI,?_,?_⟩;.rw[m9];simp;omega
   .refine l _ _ ⟨c++[b],bs,KE (.d (.int b.1)),KE (.d (.int b.2.1)),KE (.d (.int b.2.2)),?_,rfl,rfl,by simp⟩;unfold putD;rw[Gk,decide_eq_false k];simp only[K_,if_false,M4,Li,Nd,ik,iv];rfl
 .rintro e j⟨c,bs,i,g,f,rfl,rfl,a,rfl⟩;cases bs with
  |cons b bs=>cases a|nil=>
   unfold iT;subst_eqs;simpa using h
theorem w_{n:Nat}{cs:List C3}{ws:List Kt}{w:Kt}{m:Nat}{Q:D->Nat->Prop}(H:gQ cs ws)(hw:w∈ws)(h:∀L:Int,1<=L->L<=2000000->Q (.int L) m):(aV defs gv (n+2) 13 [.d (nt (.tup (cs.map c3)) ws),.d (kn w)]).wp m Q:=by
 have z:=gU;rw[aS (d:=dB) rfl rfl];unfold dB;rw[T.wp_bind];refine bZ ?_;subst_eqs;refine zy H.nd H.lc ?_;obtain⟨p,f,q,e,i,g,c,b⟩:=H.ln w hw;have b1:e7 (.aQ (cs.map ik) (cs.map iv)) (.int w.1)=.ok (iv p):=by
  rw[<-i];simp only[e7,m9,qL H.nd f,Sd,ag,Cl]
 have a:e7 (.aQ (cs.map ik) (cs.map iv)) (.int w.2)=.ok (iv q):=by
  rw[<-g];simp only[e7,m9,qL H.nd e,Sd,ag,Cl]
 unfold lX kn;subst_eqs;simp only[b1,a,T.bA,iv];subst_eqs;simp only[b1,a,T.bA,iv];subst_eqs;exact h _ c b
theorem pick{xs:List D}{i:Int}{m:Nat}{Q:D->Nat->Prop}(a:0<=i)(b:i<xs.length)(h:∀x∈xs,Q x m):(T.get (fw xs i)).wp m Q:=by
 have e:xs[i.toNat]?=KE (xs[i.toNat]'(by omega)):=Lk (by omega);rw[Ga a e];exact h _ (OW _)
theorem Ac{a b c d:D}{i:Int}{m:Nat}{Q:D->Nat->Prop}(g:0<=i)(f:i<4)(ha:Q a m)(hb:Q b m)(e:Q c m)(hd:Q d m):(T.get (fw [a,b,c,d] i)).wp m Q:=pick g (by simpa using f) (by simp;exact⟨ha,hb,e,hd⟩)
theorem lZ{a b c d e f g j:D}{i:Int}{m:Nat}{Q:D->Nat->Prop}(q:0<=i)(p:i<8)(ha:Q a m)(hb:Q b m)(o:Q c m)(hd:Q d m)(n:Q e m)(l:Q f m)(k:Q g m)(h:Q j m):(T.get (fw [a,b,c,d,e,f,g,j] i)).wp m Q:=pick q (by simpa using p) (by simp;exact⟨ha,hb,o,hd,n,l,k,h⟩)
theorem Dl:(Sz " !\"#$&'()*+,-./0123456789:;<=>?@ABCDEFGHIJKLMNOPQRSTUVWXYZ[\\]^_`abcdefghijklmnopqrstuvwxyz{|}~\n\t")=96:=by decide+kernel
theorem Dm:(Str.cps " !\"#$&'()*+,-./0123456789:;<=>?@ABCDEFGHIJKLMNOPQRSTUVWXYZ[\\]^_`abcdefghijklmnopqrstuvwxyz{|}~\n\t").toList.all (λc=>c<128)=KN:=by decide+kernel
theorem Dn{n:Nat}{m:Nat}{Q:D->Nat->Prop}(j:10<=m)(h:∀c,c<128->Q (.str ⟨#[c]⟩) (m-1)):(aV defs gv (n+2) 15 [.feed]).wp m Q:=by
 have z:=gU;rw[aS (d:=fg) rfl rfl];unfold fg;rw[T.wp_bind];have a:=Dl;have ha:=Dm;generalize(KI " !\"#$&'()*+,-./0123456789:;<=>?@ABCDEFGHIJKLMNOPQRSTUVWXYZ[\\]^_`abcdefghijklmnopqrstuvwxyz{|}~\n\t")=x at a ha⊢;subst_eqs;simp only[kK,T.wp_bind,T.bE,Wp,a];refine⟨by simp;omega,?_⟩;subst_eqs;refine⟨by decide,by decide,by omega,λi i0 f=>?_⟩;simp only[e7,Cc,bO,T.wp_bind,T.bE,Wp,ag,a];refine⟨by simp;omega,?_⟩;have g:x.cps.toList.length=96:=by rw[<-a];rfl
 unfold xQ;have e:x.cps.toList[i.toNat]?=KE (x.cps.toList[i.toNat]'(by omega)):=Lk (by omega);have b:fw x.cps.toList i=KE (x.cps.toList[i.toNat]'(by omega)):=by
  have:=dk e;rwa[show((i.toNat:Nat):Int)=i by omega]at this
 rw[b];refine h _ ?_;have:=List.all_eq_true.mp ha _ (OW (l:=x.cps.toList) (n:=i.toNat) (by omega));simpa using this
noncomputable def Nm(x:Lf):Prop:=C9 x/\1<=x.length/\x.length<=8
theorem Dp{x:Lf}(h:(x.cps.toList.all (λc=>c<128)&&(decide (1<=x.length)&&decide (x.length<=8)))=KN):Nm x:=by
 simp only[KW,Me,decide_eq_true_eq]at h;exact⟨h.1,h.2⟩
noncomputable abbrev gd(x k:Lf)(w:Kt)(e a b:Int):D:=.tup [.str x,.str k,kn w,.int e,.int a,.int b]
noncomputable abbrev g7(net:D)(w:Kt)(L:Int)(o4 o5 o6:Option W):ah:=[KE .feed,KE (.d net),KE (.d (kn w)),KE (.d (.int L)),o4,o5,o6]
theorem Jq{n m:Nat}{net:D}{w:Kt}{L:Int}{o4 o5 o6:Option W}{Q:D->Nat->Prop}(k:10<=m)(i:1<=L)(g:L<=2000000)(h:∀(a:Int)b,m<=b+2->Q (.int a) b):(ao (V (n+1)) (.idx (.lst (.cons (.cst (.int 0)) (.cons (.call 6 (.feed 0 (.cons (.op .Add (.var 3) (.cst (.int 1))) .nil))) (.cons (.var 3) (.cons (.op .Pow (.cst (.int 10)) (.cst (.int 6))) .nil))))) (.call 6 (.feed 0 (.cons (.cst (.int 4)) .nil)))) (g7 net w L o4 o5 o6)).wp m Q:=by
 subst_eqs;refine⟨by omega,by omega,by omega,λp f e=>⟨sd (by decide),by omega,by omega,by omega,λj d c=>?_⟩⟩;refine Ac d c ?_ ?_ ?_ ?_<;>refine h _ _ ?_<;>omega
theorem Jr{n m:Nat}{net:D}{w:Kt}{L:Int}{o4 o5 o6:Option W}{Q:D->Nat->Prop}(k:10<=m)(i:1<=L)(g:L<=2000000)(h:∀(a:Int)b,m<=b+2->Q (.int a) b):(ao (V (n+1)) (.idx (.lst (.cons (.cst (.int 1)) (.cons (.op .Add (.cst (.int 1)) (.call 6 (.feed 0 (.cons (.var 3) .nil)))) (.cons (.var 3) (.cons (.op .Pow (.cst (.int 10)) (.cst (.int 6))) .nil))))) (.call 6 (.feed 0 (.cons (.cst (.int 4)) .nil)))) (g7 net w L o4 o5 o6)).wp m Q:=by
 subst_eqs;refine⟨by omega,by omega,by omega,λp f e=>⟨sd (by decide),by omega,by omega,by omega,λj d c=>?_⟩⟩;refine Ac d c ?_ ?_ ?_ ?_<;>refine h _ _ ?_<;>omega
theorem Js{n m:Nat}{net:D}{w:Kt}{L:Int}{o4 o5 o6:Option W}{Q:D->Nat->Prop}(f:10<=m)(h:∀(x:Lf)b,m<=b+1->Nm x->Q (.str x) b):(ao (V (n+1)) (.idx (.lst (.cons (.cst (.str "a")) (.cons (.cst (.str "zz")) (.cons (.cst (.str "abcdefgh")) (.cons (.cst (.str "q")) (.cons (.cst (.str "window")) .nil)))))) (.call 6 (.feed 0 (.cons (.cst (.int 5)) .nil)))) (g7 net w L o4 o5 o6)).wp m Q:=by
 subst_eqs;refine⟨sd (by decide),by omega,by omega,by omega,λj e d=>?_⟩;refine pick e (by simpa using d) ?_;intro x c;have a:∃y:Lf,x=.str y/\Nm y:=by
  simp only[Mx,MH,or_false]at c;rcases c with rfl|rfl|rfl|rfl|rfl<;>exact⟨_,rfl,Dp (by decide+kernel)⟩
 obtain⟨y,rfl,a⟩:=a;exact h y _ (by omega) a
theorem Gm{n m:Nat}{net:D}{w:Kt}{L a b:Int}{x:Lf}{Q:D->Nat->Prop}(t:10<=m)(h:∀(k:Lf)(e:Int)i,m<=i+2->(e=w.1\/e=w.2)->Q (gd x k w e a b) i):(ao (V (n+1)) (.tup (.cons (.var 6) (.cons (.idx (.lst (.cons (.cst (.str "door")) (.cons (.cst (.str "window")) .nil))) (.call 6 (.feed 0 (.cons (.cst (.int 2)) .nil)))) (.cons (.var 2) (.cons (.idx (.var 2) (.call 6 (.feed 0 (.cons (.cst (.int 2)) .nil)))) (.cons (.var 4) (.cons (.var 5) .nil))))))) (g7 net w L (KE (.d (.int a))) (KE (.d (.int b))) (KE (.d (.str x))))).wp m Q:=by
 unfold gd at h;unfold kn at*;subst_eqs;refine⟨wI,by omega,by omega,by omega,λj r q=>?_⟩;refine pick r (by simpa using q) λp c=>?_;refine⟨by omega,by omega,by omega,λu o l=>?_⟩;refine pick o (by simpa using l) λen f=>?_;have s:∃k,p=.str k:=by
  rcases List.mem_cons.mp c with rfl|c;.exact⟨_,rfl⟩
  .exact⟨_,List.mem_singleton.mp c⟩
 have g:∃e,en=.int e/\(e=w.1\/e=w.2):=by
  rcases List.mem_cons.mp f with rfl|f;.exact⟨_,rfl,.inl rfl⟩
  .exact⟨_,List.mem_singleton.mp f,.inr rfl⟩
 obtain⟨k,rfl⟩:=s;obtain⟨e,rfl,g⟩:=g;exact⟨sd (by decide),h k e _ (by omega) g⟩
theorem Gn{n m:Nat}{cs:D}{ws:List Kt}{r:ah}{Q:D->Nat->Prop}(j:10<=m)(hw:ws≠[])(f:ws.length<=625)(h:∀w c,m<=c+1->w∈ws->Q (kn w) c):(ao (V (n+1)) (.idx (.idx (.var 1) (.cst (.int 1))) (.call 6 (.feed 0 (.cons (.bi .len (.cons (.idx (.var 1) (.cst (.int 1))) .nil)) .nil)))) (KE .feed::KE (.d (nt cs ws))::r)).wp m Q:=by
 have f:0<ws.length:=List.length_pos_iff.mpr hw;subst_eqs;simp only[kK,T.wp_bind,Wp,Lq];subst_eqs;refine⟨by omega,by omega,by omega,λi i0 e=>?_⟩;refine pick i0 (by simpa using e) λg b=>?_;obtain⟨w,a,rfl⟩:=List.mem_map.mp b;exact h w _ (by omega) a
theorem xa{v:Ev}{e:Ex}{ρ:ah}{m:Nat}{Q:D->Nat->Prop}(h:(ao v e ρ).wp m Q):(au v (.cons (.ret e) .nil) ρ).wp m (λb a=>(tZ b).wp a Q):=by
 rw[di];show(((ao v e ρ>>=λd=>T.ok (Fl.rt d))>>=_).wp m _);rw[T.wp_bind,T.wp_bind];exact h
theorem Dq{n:Nat}{cs:List C3}{ws:List Kt}{m:Nat}{Q:D->Nat->Prop}(H:gQ cs ws)(hw:ws≠[])(C:30<=m)(h:∀x k w e a b f,m<=f+10->Nm x->w∈ws->0<=e/\e<=999->Q (gd x k w e a b) f):(aV defs gv (n+3) 14 [.feed,.d (nt (.tup (cs.map c3)) ws)]).wp m Q:=by
 rw[aS (d:=fe) rfl rfl];unfold fe;rw[T.wp_bind];refine bZ (Gn (by omega) hw H.lw λw l u c=>?_);have v:ao (V (n+2)) (.call 13 (.cons (.var 1) (.cons (.var 2) .nil))) [KE .feed,KE (.d (nt (.tup (cs.map c3)) ws)),KE (.d (kn w)),KL,KL,KL,KL]=aV defs gv (n+2) 13 [.d (nt (.tup (cs.map c3)) ws),.d (kn w)]:=rfl;refine bZ ?_;refine(congrArg (λt=>T.wp t l _) v).mpr ?_;refine w_ H c λL i g=>?_;show(au (V (n+2)) mS (g7 (nt (.tup (cs.map c3)) ws) w L KL KL KL)).wp _ _;unfold mS;refine bZ (Jq (by omega) i g λa A s=>?_);refine bZ (Jr (L:=L) (o4:=KE (.d (.int a))) (o5:=KL) (o6:=KL) (by omega) i g λb z r=>?_);refine bZ (Js (L:=L) (o4:=KE (.d (.int a))) (o5:=KE (.d (.int b))) (o6:=KL) (by omega) λx y q o=>?_);refine xa (Gm (L:=L) (by omega) λk e j p E=>?_);have B:=H.rg w c;exact h x k w e a b j (by omega) o c (by omega)
noncomputable def G8:aY:=(.cons (.set 12 (.call 6 (.feed 0 (.cons (.bi .len (.cons (.var 3) .nil)) .nil)))) (.cons (.set 3 (.op .Add (.op .Add (.cut (.var 3) .nil (.one (.var 12))) (.call 15 (.feed 0 .nil))) (.cut (.var 3) (.one (.op .Add (.var 12) (.cst (.int 1)))) .nil))) .nil))
noncomputable def G9:aY:=(.cons (.set 3 (.idx (.lst (.cons (.cst (.str "")) (.cons (.cst (.str "A")) (.cons (.cst (.str "abcdefghi")) (.cons (.cst (.str "a b")) (.cons (.cst (.str "a1")) (.cons (.cst (.int 5)) (.cons (.cst (.bw)) (.cons (.tup (.cons (.cst (.str "a")) .nil)) .nil))))))))) (.var 10))) .nil)
noncomputable def G_:aY:=(.cons (.set 4 (.idx (.lst (.cons (.cst (.str "Door")) (.cons (.cst (.str "doors")) (.cons (.cst (.str "")) (.cons (.cst (.bw)) (.cons (.cst (.bl KN)) (.cons (.tup (.cons (.cst (.str "door")) .nil)) (.cons (.cst (.str "wall")) (.cons (.cst (.str "gate")) .nil))))))))) (.var 10))) .nil)
noncomputable def Ha:aY:=(.cons (.set 13 (.lst (.cons (.tup (.cons (.idx (.var 5) (.cst (.int 1))) (.cons (.idx (.var 5) (.cst (.int 0))) .nil))) (.cons (.var 11) (.cons (.bi .list (.cons (.var 5) .nil)) (.cons (.op .Add (.var 5) (.cut (.var 5) .nil (.one (.cst (.int 1))))) (.cons (.cut (.var 5) .nil (.one (.cst (.int 1)))) (.cons (.tup (.cons (.idx (.var 5) (.cst (.int 0))) (.cons (.idx (.var 5) (.cst (.int 0))) .nil))) (.cons (.cst (.bw)) .nil))))))))) (.cons (.set 5 (.idx (.op .Add (.var 13) (.lst (.cons (.idx (.lst (.cons (.tup (.cons (.cmp .Eq (.idx (.var 5) (.cst (.int 0))) (.cst (.int 1))) (.cons (.idx (.var 5) (.cst (.int 1))) .nil))) (.cons (.tup (.cons (.idx (.var 5) (.cst (.int 0))) (.cons (.cmp .Eq (.idx (.var 5) (.cst (.int 1))) (.cst (.int 1))) .nil))) .nil))) (.call 6 (.feed 0 (.cons (.cst (.int 2)) .nil)))) .nil))) (.var 10))) .nil))
noncomputable def Hb:aY:=(.cons (.set 6 (.idx (.lst (.cons (.idx (.var 11) (.cst (.int 0))) (.cons (.idx (.var 11) (.cst (.int 1))) (.cons (.neg (.cst (.int 1))) (.cons (.cst (.int 1000)) (.cons (.cst (.bw)) (.cons (.bi .str (.cons (.var 6) .nil)) (.cons (.tup (.cons (.var 6) .nil)) (.cons (.cst (.bl KN)) .nil))))))))) (.var 10))) .nil)
noncomputable def Hc:aY:=(.cons (.set 7 (.idx (.lst (.cons (.neg (.cst (.int 1))) (.cons (.op .Add (.op .Pow (.cst (.int 10)) (.cst (.int 6))) (.cst (.int 1))) (.cons (.cst (.bl KN)) (.cons (.cst (.bw)) (.cons (.cst (.str "0")) (.cons (.tup (.cons (.cst (.int 0)) .nil)) (.cons (.op .Pow (.cst (.int 10)) (.cst (.int 6))) (.cons (.op .Pow (.cst (.int 10)) (.cst (.int 30))) .nil))))))))) (.var 10))) .nil)
noncomputable def Hd:aY:=(.cons (.set 8 (.idx (.lst (.cons (.cst (.int 0)) (.cons (.neg (.cst (.int 1))) (.cons (.op .Add (.op .Pow (.cst (.int 10)) (.cst (.int 6))) (.cst (.int 1))) (.cons (.cst (.bl KN)) (.cons (.cst (.bw)) (.cons (.cst (.str "1")) (.cons (.tup (.cons (.cst (.int 1)) .nil)) (.cons (.op .Pow (.cst (.int 10)) (.cst (.int 6))) .nil))))))))) (.var 10))) .nil)
noncomputable def cE:aY:=(.cons (.set 13 (.lst (.cons (.cut (.var 2) .nil (.one (.cst (.int 5)))) (.cons (.op .Add (.var 2) (.tup (.cons (.cst (.int 1)) .nil))) (.cons (.bi .list (.cons (.var 2) .nil)) (.cons (.cst (.bw)) (.cons (.cst (.str "door")) (.cons (.tup .nil) (.cons (.tup (.cons (.var 2) .nil)) (.cons (.rev (.var 2) (.neg (.cst (.int 1)))) .nil)))))))))) (.cons (.ret (.idx (.var 13) (.var 10))) .nil))
noncomputable def JY:aY:=.iff (.aw .Eq (.var 9) (.cst (.int 5))) Hd cE
noncomputable def JZ:aY:=.iff (.aw .Eq (.var 9) (.cst (.int 4))) Hc (.cons JY .nil)
noncomputable def J3:aY:=.iff (.aw .Eq (.var 9) (.cst (.int 3))) Hb (.cons JZ .nil)
noncomputable def J4:aY:=.iff (.aw .Eq (.var 9) (.cst (.int 2))) Ha (.cons J3 .nil)
noncomputable def J5:aY:=.iff (.aw .Eq (.var 9) (.cst (.int 1))) G_ (.cons J4 .nil)
noncomputable def Gp:aY:=.iff (.aw .Eq (.var 9) (.cst (.int 0))) G9 (.cons J5 .nil)
noncomputable def Jt:aY:=.iff (.i_ (.aw .Eq (.var 9) (.cst (.int 0))) (.bh (.aw .Eq (.call 6 (.feed 0 (.cons (.cst (.int 2)) .nil))) (.cst (.int 0))))) G8 (.cons Gp .nil)
noncomputable abbrev xb(net c nm h g en a b ot:D)(k9 k10:Int)(f e:Option W):ah:=[KE .feed,KE (.d net),KE (.d c),KE (.d nm),KE (.d h),KE (.d g),KE (.d en),KE (.d a),KE (.d b),KE (.d (.int k9)),KE (.d (.int k10)),KE (.d ot),f,e]
theorem ph{x:Lf}(h:(x.cps.toList.all (λc=>c<128)&&decide (x.length<=1000))=KN):kT (.str x):=by
 simp only[KW,Me,decide_eq_true_eq]at h;exact h
noncomputable def xf(d:D):Prop:=Ty d/\∀x y,d=.tup [x,y]->Ty x/\Ty y
theorem Gq{p q:D}(b:Ty p)(a:Ty q):xf (.tup [p,q]):=⟨trivial,λx y e=>by cases e;exact⟨b,a⟩⟩
theorem l4{x:Lf}(h:C9 x)(l u:Option Int):C9 (MG x l u):=by
 intro c a;unfold MG at a;split at a;.exact h c a
 .simp only[List.toList_toArray,List.mem_filterMap]at a;obtain⟨i,_,b⟩:=a;refine h c ?_;rw[N7];exact Array.mem_of_getElem? b
theorem Dr{x:Lf}{c:Nat}(h:Nm x)(f:c<128)(l u l' a:Option Int):kT (.str (MG x l u++(⟨#[c]⟩:Lf)++MG x l' a)):=by
 have a1:=Pe x l u;have g:=Pe x l' a;have e:=h.2.2;refine⟨λd hd=>?_,?_⟩
 .have:d∈((MG x l u).cps++#[c]++(MG x l' a).cps).toList:=hd;simp only[LW,List.mem_append]at this;rcases this with(b|b)|b;.exact l4 h.1 _ _ d b
  .simp at b;omega
  .exact l4 h.1 _ _ d b
 .have:(MG x l u++(⟨#[c]⟩:Lf)++MG x l' a).length=(MG x l u).length+1+(MG x l' a).length:=by
   show((MG x l u).cps++#[c]++(MG x l' a).cps).size=_;simp only[Ny];rfl
  omega
section
variable{n m:Nat}{net ot:D}{x k:Lf}{w v:Kt}{e a b k9 k10:Int}{Q:Fl->Nat->Prop}
noncomputable abbrev c0(net ot:D)(x k:Lf)(w:Kt)(e a b k9 k10:Int):ah:=xb net (gd x k w e a b) (.str x) (.str k) (kn w) (.int e) (.int a) (.int b) ot k9 k10 KL KL
theorem Ju(d:0<=k10)(c:k10<8)(h:∀nm,kT nm->Q (.nx (xb net (gd x k w e a b) nm (.str k) (kn w) (.int e) (.int a) (.int b) ot k9 k10 KL KL)) m):(au (V (n+2)) G9 (c0 net ot x k w e a b k9 k10)).wp m Q:=by
 unfold G9;subst_eqs;refine⟨zh,sd (by decide),?_⟩;refine lZ d c ?_ ?_ ?_ ?_ ?_ ?_ ?_ ?_<;>refine h _ ?_<;>first|exact ph (by decide+kernel)|trivial
theorem Jv(f:0<=k10)(d:k10<8)(h:∀c,Ty c->Q (.nx (xb net (gd x k w e a b) (.str x) c (kn w) (.int e) (.int a) (.int b) ot k9 k10 KL KL)) m):(au (V (n+2)) G_ (c0 net ot x k w e a b k9 k10)).wp m Q:=by
 unfold G_;subst_eqs;refine⟨zh,sd (by decide),?_⟩;refine lZ f d ?_ ?_ ?_ ?_ ?_ ?_ ?_ ?_<;>exact h _ trivial
theorem Jw(f:0<=k10)(c:k10<8)(h:∀d,Ty d->Q (.nx (xb net (gd x k w e a b) (.str x) (.str k) (kn w) (.int e) d (.int b) ot k9 k10 KL KL)) m):(au (V (n+2)) Hc (c0 net ot x k w e a b k9 k10)).wp m Q:=by
 unfold Hc;subst_eqs;refine⟨zh,sd (by decide),?_⟩;refine lZ f c ?_ ?_ ?_ ?_ ?_ ?_ ?_ ?_<;>exact h _ trivial
theorem Jx(f:0<=k10)(c:k10<8)(h:∀d,Ty d->Q (.nx (xb net (gd x k w e a b) (.str x) (.str k) (kn w) (.int e) (.int a) d ot k9 k10 KL KL)) m):(au (V (n+2)) Hd (c0 net ot x k w e a b k9 k10)).wp m Q:=by
 unfold Hd;subst_eqs;refine⟨zh,sd (by decide),?_⟩;refine lZ f c ?_ ?_ ?_ ?_ ?_ ?_ ?_ ?_<;>exact h _ trivial
theorem zA:(LY 1000).all (λe=>tz (.int (e:Nat)))=KN:=by decide+kernel
theorem Gu{e:Int}(h:0<=e/\e<=999):tz (.int e)=KN:=by
 have:=List.all_eq_true.mp zA e.toNat (List.mem_range.mpr (by omega));rwa[show((e.toNat:Nat):Int)=e by omega]at this
theorem Jy(c:0<=e/\e<=999)(g:0<=k10)(f:k10<8)(h:∀d,Ty d->Q (.nx (xb net (gd x k w e a b) (.str x) (.str k) (kn w) d (.int a) (.int b) (kn v) k9 k10 KL KL)) m):(au (V (n+2)) Hb (c0 net (kn v) x k w e a b k9 k10)).wp m Q:=by
 unfold Hb;unfold kn at*;subst_eqs;simp only[kK,Cd,T.wp_bind,T.bE,Wp];refine⟨Gu c,zh,sd (by decide),?_⟩;refine lZ g f ?_ ?_ ?_ ?_ ?_ ?_ ?_ ?_<;>exact h _ trivial
theorem Jz(q:20<=m)(f:Nm x)(h:∀nm g d,m<=g+2->kT nm->Q (.nx (xb net (gd x k w e a b) nm (.str k) (kn w) (.int e) (.int a) (.int b) ot k9 k10 d KL)) g):(au (V (n+2)) G8 (c0 net ot x k w e a b k9 k10)).wp m Q:=by
 have z:=gU;have s:=f.2.1;have r:=f.2.2;unfold G8;subst_eqs;simp only[kK,T.wp_bind,T.bE,Wp];refine⟨by simp;omega,?_⟩;subst_eqs;refine⟨by omega,by omega,by omega,λp l j=>?_⟩;simp only[vU,T.wp_bind,T.bE,Wp];refine⟨by simp;omega,?_⟩;refine Dn (by omega) λc i=>?_;have a1:=Pe x KL (KE p);have t:=Pe x (KE (p+1)) KL;simp only[vT,yU,T.wp_bind,T.bE,Wp,ag];have lc:(⟨#[c]⟩:Lf).length=1:=rfl;have o:(MG x KL (KE p)++(⟨#[c]⟩:Lf)).length=(MG x KL (KE p)).length+1:=by
  show((MG x KL (KE p)).cps++#[c]).size=_;simp only[Ny];rfl
 exact⟨decide_eq_true (by omega),decide_eq_true (by omega),decide_eq_true (by omega),h _ _ _ (by omega) (Dr f i _ _ _ _)⟩
theorem JA(C:20<=m)(u:0<=k10)(E:k10<8)(h:∀p f j,m<=f+2->xf p->Q (.nx (xb net (gd x k w e a b) (.str x) (.str k) p (.int e) (.int a) (.int b) (kn v) k9 k10 KL j)) f):(au (V (n+2)) Ha (c0 net (kn v) x k w e a b k9 k10)).wp m Q:=by
 have z:=gU;have o:∀d:D,Ty d->(∀x y,d≠.tup [x,y])->xf d:=λd h A=>⟨h,λx y e=>absurd e (A x y)⟩;have B:cutD [D.int w.1,D.int w.2] KL (KE 1)=[.int w.1]:=rfl;have key:∀(l:List D)(q:D)(f:Nat),m<=f+1->l.length=7->(∀d∈l,xf d)->xf q->(T.get (fw (l++[q]) k10)).wp f (λd f=>Q (.nx (xb net (gd x k w e a b) (.str x) (.str k) d (.int e) (.int a) (.int b) (kn v) k9 k10 KL (KE (.d (.lst l))))) f):=λl q f s t hd g=>by
  refine pick u (by simp[t];omega) λd c=>?_;refine h d f _ (by omega) ?_;rcases List.mem_append.mp c with c|c;.exact hd d c
  .rw[List.mem_singleton.mp c];exact g
 unfold Ha;subst_eqs;simp only[kn];subst_eqs;simp only[kK,items,vU,B,vT,yU,T.wp_bind,T.bE,Wp];subst_eqs;refine⟨wI,sd (by decide),wI,sd (by decide),wI,wI,wI,by omega,by omega,by omega,λi i0 r=>?_⟩;refine pick i0 (by simpa using r) λq g=>?_;refine⟨zh,sd (by decide),?_⟩;refine key [.tup [.int w.2,.int w.1],kn v,.lst [.int w.1,.int w.2],.tup [.int w.1,.int w.2,.int w.1],.tup [.int w.1],.tup [.int w.1,.int w.1],.bw] q (m-1) (by omega) rfl ?_ ?_
 .intro d hd;simp only[Mx,MH,or_false]at hd;rcases hd with rfl|rfl|rfl|rfl|rfl|rfl|rfl<;>first|exact Gq trivial trivial|exact o _ trivial (λx y e=>by cases e)
 .simp only[Mx,MH,or_false]at g;rcases g with rfl|rfl<;>exact Gq trivial trivial
theorem KD(g:0<=k10)(f:k10<8)(h:∀d,Th d->Q (.rt d) m):(au (V (n+2)) cE (c0 net ot x k w e a b k9 k10)).wp m Q:=by
 have z:=gU;have i:cutD [D.str x,D.str k,kn w,D.int e,D.int a,D.int b] KL (KE 5)=[D.str x,D.str k,kn w,D.int e,D.int a]:=rfl;unfold cE;subst_eqs;simp only[kK,items,vU,i,vT,yU,oJ,T.wp_bind,T.bE,Wp];refine⟨zh,sd (by simp),G6,zh,rfl,sd (by decide),?_⟩;refine lZ g f (h _ (.tup (by simp))) (h _ (.tup (by simp))) (h _ (.Gi trivial (λc e=>by cases e))) (h _ (.Gi trivial (λc e=>by cases e))) (h _ (.Gi trivial (λc e=>by cases e))) (h _ (.tup (by simp))) (h _ (.tup (by simp))) (h _ ?_);exact .six trivial trivial trivial (λx y e=>by cases e) trivial trivial trivial
end
theorem bL{v:Ev}{s:aY}{ρ:ah}{m:Nat}{Q:Fl->Nat->Prop}(h:(au v s ρ).wp m Q):(au v (.cons s .nil) ρ).wp m Q:=by
 rw[di,T.wp_bind];exact T.wp_mono (λb c a=>by cases b<;>exact a) h
theorem DN{v:Ev}{A B:aY}{ρ:ah}{m:Nat}{k9 j:Int}{Q:Fl->Nat->Prop}(a:cH ρ 9=KE (.int k9))(ha:k9=j->(au v A ρ).wp m Q)(hb:k9≠j->(au v B ρ).wp m Q):(au v (.iff (.aw .Eq (.var 9) (.cst (.int j))) A B) ρ).wp m Q:=by
 have e:bg v (.aw .Eq (.var 9) (.cst (.int j))) ρ=.ok (k9==j):=by
  show(T.get (cH ρ 9)>>=λd=>(T.ok (D.int j))>>=λe=>bz .Eq d e>>=λy=>aJ y)=_;rw[a];rfl
 show(bg v (.aw .Eq (.var 9) (.cst (.int j))) ρ>>=λx=>if x then au v A ρ else au v B ρ).wp m Q;rw[e,ag];by_cases h:k9=j;.rw[show(k9==j)=KN by simpa using h,if_pos rfl];exact ha h
 .rw[show(k9==j)=KO by simpa using h,if_neg (by simp)];exact hb h
section
attribute[local irreducible]L2.T.wp
theorem tQ{v:Ev}{ρ:ah}{k9:Int}{m:Nat}{Q:Fl->Nat->Prop}(a:cH ρ 9=KE (.int k9))(A1:(au v G9 ρ).wp m Q)(f:(au v G_ ρ).wp m Q)(e:(au v Ha ρ).wp m Q)(d:(au v Hb ρ).wp m Q)(c:(au v Hc ρ).wp m Q)(b:(au v Hd ρ).wp m Q)(E:(au v cE ρ).wp m Q):(au v (.cons Gp .nil) ρ).wp m Q:=by
 refine bL ?_;unfold Gp;refine DN a (λ_=>A1) λ_=>bL ?_;unfold J5;refine DN a (λ_=>f) λ_=>bL ?_;unfold J4;refine DN a (λ_=>e) λ_=>bL ?_;unfold J3;refine DN a (λ_=>d) λ_=>bL ?_;unfold JZ;refine DN a (λ_=>c) λ_=>bL ?_;unfold JY;exact DN a (λ_=>b) λ_=>E
theorem zB{n m:Nat}{net:D}{x k:Lf}{w v:Kt}{e a b k9 k10:Int}{Q:Fl->Nat->Prop}(hm:30<=m)(u:Nm x)(S:0<=e/\e<=999)(h9:0<=k9)(l:0<=k10)(j:k10<8)(g:∀nm C B en G F s r f,m<=f+4->Th (.tup [nm,C,B,en,G,F])->Q (.nx (xb net (gd x k w e a b) nm C B en G F (kn v) k9 k10 s r)) f)(O:∀d f,m<=f+4->Th d->Q (.rt d) f):(au (V (n+2)) Jt (c0 net (kn v) x k w e a b k9 k10)).wp m Q:=by
 have nx:kT (.str x):=⟨u.1,by have:=u.2.2;omega⟩;have wk:=Gq (p:=.int w.1) (q:=.int w.2) trivial trivial;have rest:∀f,m<=f+1->(au (V (n+2)) (.cons Gp .nil) (c0 net (kn v) x k w e a b k9 k10)).wp f Q:=λf R=>by
  have M:=Ju (n:=n) (m:=f) (net:=net) (ot:=kn v) (x:=x) (k:=k) (w:=w) (e:=e) (a:=a) (b:=b) (k9:=k9) (k10:=k10) (Q:=Q) l j λnm h=>g _ _ _ _ _ _ _ _ _ (by omega) (.six h trivial trivial wk.2 trivial trivial trivial);have L:=Jv (n:=n) (m:=f) (net:=net) (ot:=kn v) (x:=x) (k:=k) (w:=w) (e:=e) (a:=a) (b:=b) (k9:=k9) (k10:=k10) (Q:=Q) l j λnm h=>g _ _ _ _ _ _ _ _ _ (by omega) (.six nx h trivial wk.2 trivial trivial trivial);have K:=JA (n:=n) (m:=f) (net:=net) (v:=v) (x:=x) (k:=k) (w:=w) (e:=e) (a:=a) (b:=b) (k9:=k9) (k10:=k10) (Q:=Q) (by omega) l j λnm Y r h3 h=>g _ _ _ _ _ _ _ _ _ (by omega) (.six nx trivial h.1 h.2 trivial trivial trivial);have J:=Jy (n:=n) (m:=f) (net:=net) (v:=v) (x:=x) (k:=k) (w:=w) (e:=e) (a:=a) (b:=b) (k9:=k9) (k10:=k10) (Q:=Q) S l j λnm h=>g _ _ _ _ _ _ _ _ _ (by omega) (.six nx trivial trivial wk.2 h trivial trivial);have I:=Jw (n:=n) (m:=f) (net:=net) (ot:=kn v) (x:=x) (k:=k) (w:=w) (e:=e) (a:=a) (b:=b) (k9:=k9) (k10:=k10) (Q:=Q) l j λnm h=>g _ _ _ _ _ _ _ _ _ (by omega) (.six nx trivial trivial wk.2 trivial h trivial);have H:=Jx (n:=n) (m:=f) (net:=net) (ot:=kn v) (x:=x) (k:=k) (w:=w) (e:=e) (a:=a) (b:=b) (k9:=k9) (k10:=k10) (Q:=Q) l j λnm h=>g _ _ _ _ _ _ _ _ _ (by omega) (.six nx trivial trivial wk.2 trivial trivial h);have E:=KD (n:=n) (m:=f) (net:=net) (ot:=kn v) (x:=x) (k:=k) (w:=w) (e:=e) (a:=a) (b:=b) (k9:=k9) (k10:=k10) (Q:=Q) l j λd hd=>O d _ (by omega) hd;have t:cH (c0 net (kn v) x k w e a b k9 k10) 9=KE (.int k9):=rfl;generalize c0 net (kn v) x k w e a b k9 k10=X at M L K J I H E t⊢;exact tQ t M L K J I H E
 have W:bg (V (n+2)) (.aw .Eq (.var 9) (.cst (.int 0))) (c0 net (kn v) x k w e a b k9 k10)=.ok (k9==0):=rfl;unfold Jt;show((bg (V (n+2)) (.aw .Eq (.var 9) (.cst (.int 0))) (c0 net (kn v) x k w e a b k9 k10)>>=λc=>if c then bg (V (n+2)) (.bh (.aw .Eq (.call 6 (.feed 0 (.cons (.cst (.int 2)) .nil))) (.cst (.int 0)))) (c0 net (kn v) x k w e a b k9 k10)else .ok KO)>>=λo=>if o then au (V (n+2)) G8 (c0 net (kn v) x k w e a b k9 k10)else au (V (n+2)) (.cons Gp .nil) (c0 net (kn v) x k w e a b k9 k10)).wp m Q;rw[W,ag];by_cases h:k9=0
 .rw[show(k9==0)=KN by simpa using h,if_pos rfl,T.wp_bind];have U:∀A:Bool->Nat->Prop,(∀o f,m<=f+1->A o f)->(bg (V (n+2)) (.bh (.aw .Eq (.call 6 (.feed 0 (.cons (.cst (.int 2)) .nil))) (.cst (.int 0)))) (c0 net (kn v) x k w e a b k9 k10)).wp m A:=λA z=>by
   subst_eqs;exact⟨by omega,by omega,by omega,λi i0 Z=>z _ _ (by omega)⟩
  refine U _ λo N P=>?_;cases o with
  |true=>exact Jz (by omega) u λnm f s h' y=>g _ _ _ _ _ _ _ _ _ (by omega) (.six y trivial trivial wk.2 trivial trivial trivial)|false=>exact rest N (by omega)
 .rw[show(k9==0)=KO by simpa using h,if_neg (by simp),ag,if_neg (by simp)];exact rest m (by omega)
end
theorem gS{v:Ev}{s r:aY}{ρ:ah}{m:Nat}{Q:Fl->Nat->Prop}(h:(au v s ρ).wp m λa c=>match a with|.nx b=>(au v r b).wp c Q|a=>Q a c):(au v (.cons s r) ρ).wp m Q:=by
 rw[di,T.wp_bind];exact T.wp_mono (λa c d=>by cases a<;>exact d) h
theorem zC{n m:Nat}{net c nm g f en a b ot:D}{k9 k10:Int}{e d:Option W}{Q:D->Nat->Prop}(h:Q (.tup [nm,g,f,en,a,b]) m):(au (V n) f7 (xb net c nm g f en a b ot k9 k10 e d)).wp m (λj i=>(tZ j).wp i Q):=by
 have z:=gU;unfold f7;refine xa ?_;subst_eqs;exact⟨sd (by decide),h⟩
theorem Gw{n m:Nat}{j:Int}{r:ah}{Q:D->Nat->Prop}(e:1<=m)(d:0<j)(a:j<1073741824)(h:∀(i:Int)b,m=b+1->0<=i->i<j->Q (.int i) b):(ao (V (n+1)) (.call 6 (.feed 0 (.cons (.cst (.int j)) .nil))) (KE .feed::r)).wp m Q:=by
 subst_eqs;exact⟨d,a,by omega,λi i0 c=>h i _ (by omega) i0 c⟩
section
attribute[local irreducible]L2.T.wp
theorem tR{n:Nat}{cs:D}{ws:List Kt}{x k:Lf}{w:Kt}{e a b:Int}{m:Nat}{Q:D->Nat->Prop}(hw:ws≠[])(B:ws.length<=625)(t:Nm x)(C:0<=e/\e<=999)(L:50<=m)(h:∀d c,m<=c+10->Th d->Q d c):(aV defs gv (n+3) 16 [.feed,.d (nt cs ws),.d (gd x k w e a b)]).wp m Q:=by
 rw[aS (d:=dh) rfl rfl];unfold dh;rw[T.wp_bind];have F:au (V (n+2)) (.asg (.tup 6 (.cons (.nm 3) (.cons (.nm 4) (.cons (.nm 5) (.cons (.nm 6) (.cons (.nm 7) (.cons (.nm 8) .nil))))))) (.var 2)) [KE .feed,KE (.d (nt cs ws)),KE (.d (gd x k w e a b)),KL,KL,KL,KL,KL,KL,KL,KL,KL,KL,KL]=.ok (.nx [KE .feed,KE (.d (nt cs ws)),KE (.d (gd x k w e a b)),KE (.d (.str x)),KE (.d (.str k)),KE (.d (kn w)),KE (.d (.int e)),KE (.d (.int a)),KE (.d (.int b)),KL,KL,KL,KL,KL]):=rfl;rw[show bW 14 [A.feed,.d (nt cs ws),.d (gd x k w e a b)]=[KE .feed,KE (.d (nt cs ws)),KE (.d (gd x k w e a b)),KL,KL,KL,KL,KL,KL,KL,KL,KL,KL,KL]from rfl,bq F];refine bZ (Gw (by omega) (by decide) (by decide) λs I z o E=>?_);refine bZ (Gw (by omega) (by decide) (by decide) λi H y g f=>?_);refine bZ (Gn (by omega) hw B λv r u K=>?_);refine gS ?_;show(au (V (n+2)) Jt (c0 (nt cs ws) (kn v) x k w e a b s i)).wp r _;refine zB (by omega) t C o g f ?_ ?_
 .intro nm J G en N M q p c l j;exact zC (h _ _ (by omega) j)
 .intro d c l j;show(T.ok d).wp c Q;rw[T.bA];exact h d c (by omega) j
end
noncomputable abbrev l8(net:D)(o3 o4 o5 o6 a:Option W):ah:=[KL,KE .feed,KE (.d net),o3,o4,o5,o6,a]
theorem Gx{n m:Nat}{Q:D->Nat->Prop}(f:2000<=m)(h:∀(cs:List C3)(ws:List Kt)a,m<=a+400->gQ cs ws->Q (nt (.tup (cs.map c3)) ws) a):(ao (V (n+4)) (.call 11 (.feed 1 (.cons (.cst (.int 5)) (.cons (.idx (.lst (.cons (.cst (.int 1)) (.cons (.cst (.int 10000)) .nil))) (.call 6 (.feed 1 (.cons (.cst (.int 2)) .nil)))) .nil)))) [KL,KE .feed,KL,KL,KL,KL,KL,KL]).wp m Q:=by
 subst_eqs;refine⟨wI,by omega,by omega,by omega,λi i0 c=>?_⟩;refine pick i0 (by simpa using c) λd hd=>?_;have b:∃s:Int,d=.int s/\(s=1\/s=10000):=by
  simp only[Mx,MH,or_false]at hd;rcases hd with rfl|rfl;.exact⟨_,rfl,.inl rfl⟩
  .exact⟨_,rfl,.inr rfl⟩
 refine b.elim λs b=>?_;rw[b.1];exact Gg b.2 (by omega) λcs ws a g e=>h cs ws a (by omega) e
theorem Ad(d:D):R [] d=KO:=by
 unfold R;split;.simp
 .rfl
section
attribute[local irreducible]L2.T.wp
theorem JB{n:Nat}{cs:D}{ws:List Kt}{d:D}{o3 o4 o5 b:Option W}(h:Th d):au (V (n+4)) iB (l8 (nt cs ws) o3 o4 o5 (KE (.d d)) b)=.ok (.nx (l8 (nt cs ws) o3 o4 o5 (KE (.d d)) (KE (.d (.bl (R ws d)))))):=by
 unfold iB;have f:ao (V (n+4)) (.call 5 (.cons (.var 2) (.cons (.var 6) .nil))) (l8 (nt cs ws) o3 o4 o5 (KE (.d d)) b)=.ok (.bl (R ws d)):=qK h;rw[mW f];show au (V (n+4)) qw (l8 (nt cs ws) o3 o4 o5 (KE (.d d)) (KE (.d (.bl (R ws d)))))=_;unfold qw;have i:bg (V (n+4)) (.bx (.fN (.kJ "bool" (.var 7)))) (l8 (nt cs ws) o3 o4 o5 (KE (.d d)) (KE (.d (.bl (R ws d)))))=.ok KO:=dv (x:=KN) (lY (d:=.bl (R ws d)) rfl (jm (show Ty (.bl (R ws d))from trivial)));have g:bg (V (n+4)) (.bh (.aw .NotEq (.var 7) (.call 18 (.cons (.var 2) (.cons (.var 6) .nil))))) (l8 (nt cs ws) o3 o4 o5 (KE (.d d)) (KE (.d (.bl (R ws d)))))=.ok KO:=ft (eK (d:=.bl (R ws d)) (e:=.bl (R ws d)) rfl (zx h) (by cases R ws d<;>rfl));have c3:=cL KO KO i (λ_=>g);have c:∀a:aY,au (V (n+4)) (.iff (.fE (.bx (.fN (.kJ "bool" (.var 7)))) (.bh (.aw .NotEq (.var 7) (.call 18 (.cons (.var 2) (.cons (.var 6) .nil)))))) a .nil) (l8 (nt cs ws) o3 o4 o5 (KE (.d d)) (KE (.d (.bl (R ws d)))))=.ok (.nx (l8 (nt cs ws) o3 o4 o5 (KE (.d d)) (KE (.d (.bl (R ws d)))))):=λa=>by
  show(bg (V (n+4)) _ _>>=λx=>if x then au (V (n+4)) a _ else T.ok (Fl.nx _))=_;rw[c3];rfl
 rw[bq (c _)];rfl
theorem JC{n:Nat}{cs:D}{ws:List Kt}{g:D}{o3 o5 o6 b:Option W}(h:Th g):au (V (n+4)) mT (l8 (nt cs ws) o3 (KE (.d g)) o5 o6 b)=.ok (.nx (l8 (nt cs ws) o3 (KE (.d g)) o5 o6 b)):=by
 unfold mT;have i:ao (V (n+4)) (.call 5 (.cons (.tup (.cons (.tup .nil) (.cons (.tup .nil) .nil))) (.cons (.var 4) .nil))) (l8 (nt cs ws) o3 (KE (.d g)) o5 o6 b)=.ok (.bl KO):=by
  have:=qK (n:=n) (cs:=.tup []) (ws:=[]) h;rw[Ad]at this;symm_saturate;exact this
 have c:bg (V (n+4)) (.aw .IsNot (.call 5 (.cons (.tup (.cons (.tup .nil) (.cons (.tup .nil) .nil))) (.cons (.var 4) .nil))) (.cst (.bl KO))) (l8 (nt cs ws) o3 (KE (.d g)) o5 o6 b)=.ok KO:=eK (d:=.bl KO) (e:=.bl KO) i rfl rfl;have f:∀a:aY,au (V (n+4)) (.iff (.aw .IsNot (.call 5 (.cons (.tup (.cons (.tup .nil) (.cons (.tup .nil) .nil))) (.cons (.var 4) .nil))) (.cst (.bl KO))) a .nil) (l8 (nt cs ws) o3 (KE (.d g)) o5 o6 b)=.ok (.nx (l8 (nt cs ws) o3 (KE (.d g)) o5 o6 b)):=λa=>by
  show(bg (V (n+4)) _ _>>=λx=>if x then au (V (n+4)) a _ else T.ok (Fl.nx _))=_;rw[c];rfl
 rw[bq (f _)];rfl
end
theorem Gy{x k:Lf}{w:Kt}{e a b:Int}(c:Nm x):Th (gd x k w e a b):=.six ⟨c.1,by have:=c.2.2;omega⟩ trivial trivial (Gq (p:=.int w.1) (q:=.int w.2) trivial trivial).2 trivial trivial trivial
theorem JD{v:Ev}{net g d:D}{o3 o6 a:Option W}:ni v (.bG (.lst (.cons (.var 4) (.cons (.var 5) (.cons (.var 4) .nil))))) (l8 net o3 (KE (.d g)) (KE (.d d)) o6 a)=.ok [g,d,g]:=by
 show((T.need (decide (3<=KU))>>=λ_=>T.ok (D.lst [g,d,g]))>>=λx=>T.get (cB x))=_;rw[JX];rfl
inductive TI(net g d:D)(o3:Option W)(m:Nat)(ds:List D)(ρ:ah)(m':Nat):Prop|mk(o6 o7:Option W)(eρ:ρ=l8 net o3 (KE (.d g)) (KE (.d d)) o6 o7)(g1:m'=m)(g2:∀x∈ds,Th x)
section
attribute[local irreducible]L2.T.wp
theorem Ds{n m:Nat}{cs:List C3}{ws:List Kt}{o3 o4 o5 o6 c:Option W}{Q:Fl->Nat->Prop}(H:gQ cs ws)(hw:ws≠[])(G:100<=m)(h:∀o4 o5 o6 c o,m<=o+20->Q (.nx (l8 (nt (.tup (cs.map c3)) ws) o3 o4 o5 o6 c)) o):(au (V (n+4)) mU (l8 (nt (.tup (cs.map c3)) ws) o3 o4 o5 o6 c)).wp m Q:=by
 unfold mU;have F:ao (V (n+4)) (.call 14 (.feed 1 (.cons (.var 2) .nil))) (l8 (nt (.tup (cs.map c3)) ws) o3 o4 o5 o6 c)=aV defs gv (n+4) 14 [.feed,.d (nt (.tup (cs.map c3)) ws)]:=rfl;refine bZ ?_;rw[F];refine Dq (n:=n+1) H hw (by omega) λx k w e a b t B q v C=>?_;show(au (V (n+4)) qy (l8 (nt (.tup (cs.map c3)) ws) o3 (KE (.d (gd x k w e a b))) o5 o6 c)).wp t Q;unfold qy;have E:ao (V (n+4)) (.call 16 (.feed 1 (.cons (.var 2) (.cons (.var 4) .nil)))) (l8 (nt (.tup (cs.map c3)) ws) o3 (KE (.d (gd x k w e a b))) o5 o6 c)=aV defs gv (n+4) 16 [.feed,.d (nt (.tup (cs.map c3)) ws),.d (gd x k w e a b)]:=rfl;refine bZ ?_;rw[E];refine tR (n:=n+1) hw H.lw q C (by omega) λd l A hd=>?_;show(au (V (n+4)) qx (l8 (nt (.tup (cs.map c3)) ws) o3 (KE (.d (gd x k w e a b))) (KE (.d d)) o6 c)).wp l Q;unfold qx;have f:=Gy (k:=k) (w:=w) (e:=e) (a:=a) (b:=b) q;generalize gd x k w e a b=g at f⊢;refine gS ?_;have D:au (V (n+4)) (.e8 (.nm 6) (.bG (.lst (.cons (.var 4) (.cons (.var 5) (.cons (.var 4) .nil))))) iB) (l8 (nt (.tup (cs.map c3)) ws) o3 (KE (.d g)) (KE (.d d)) o6 c)=e9 (gf (.nm 6)) (au (V (n+4)) iB) [g,d,g] (l8 (nt (.tup (cs.map c3)) ws) o3 (KE (.d g)) (KE (.d d)) o6 c):=by
  show(ni (V (n+4)) _ _>>=λr=>e9 _ _ r _)=_;rw[JD];rfl
 rw[D];refine eB (TI (nt (.tup (cs.map c3)) ws) g d o3 l) ?_ ?_ ⟨o6,c,rfl,rfl,?_⟩
 .rintro y r s i⟨o6,c,rfl,rfl,j⟩;rw[tJ.1,T.bA];show(au (V (n+4)) iB (l8 (nt (.tup (cs.map c3)) ws) o3 (KE (.d g)) (KE (.d d)) (KE (.d y)) c)).wp i _;rw[JB (j y K2),T.bA];exact⟨_,_,rfl,rfl,λz u=>j z (K1 _ u)⟩
 .rintro s i⟨o6,c,rfl,rfl,j⟩;show(au (V (n+4)) mT (l8 (nt (.tup (cs.map c3)) ws) o3 (KE (.d g)) (KE (.d d)) o6 c)).wp i Q;rw[JC f,T.bA];exact h _ _ _ _ _ (by omega)
 .intro y p;simp only[Mx,MH,or_false]at p;rcases p with rfl|rfl|rfl;.exact f
  .exact hd
  .exact f
end
section
attribute[local irreducible]L2.T.wp
theorem Gz{v:Ev}{tg:Tg}{it:Ex}{b:aY}{ρ:ah}{ds:List D}(h:ni v it ρ=.ok ds):au v (.e8 tg it b) ρ=e9 (gf tg) (au v b) ds ρ:=by
 show(ni v it ρ>>=λds=>e9 (gf tg) (au v b) ds ρ)=_;rw[h,ag]
theorem Dt{n f:Nat}{r:Ex}{ρ:ah}{as:List A}{d:D}(ha:fU (V n) r ρ=.ok as)(h:aV defs gv n f as=.ok d):ao (V n) (.call f r) ρ=.ok d:=by
 show(fU (V n) r ρ>>=λas=>aV defs gv n f as)=_;rw[ha,ag,h]
theorem JE{v:Ev}{a:Ex}{ρ:ah}(h:ao v a ρ=.ok (.bl KO)):au v (.ret (.cmp .Is a (.cst (.bl KO)))) ρ=.ok (.rt (.bl KN)):=by
 show((ao v a ρ>>=λd=>T.ok (D.bl KO)>>=λe=>bz .Is d e)>>=λd=>T.ok (Fl.rt d))=_;rw[h];rfl
inductive LL(net:D)(m:Nat)(ds:List D)(ρ:ah)(m':Nat):Prop|mk(o3 o4 o5 o6 o7:Option W)(eρ:ρ=l8 net o3 o4 o5 o6 o7)(g1:m<=m'+20*(8-ds.length))(g2:ds.length<=8)
theorem xg{n m:Nat}(D:3000<=m):(au (V (n+4)) rest [KL,KE .feed,KL,KL,KL,KL,KL,KL]).wp m (λw _=>w=.rt (.bl KN)):=by
 have z:=gU;unfold rest;refine bZ ?_;refine Gx (by omega) λcs ws h v H=>?_;show(au (V (n+4)) qB (l8 (nt (.tup (cs.map c3)) ws) KL KL KL KL KL)).wp h _;unfold qB;have c:bg (V (n+4)) (.aw .Eq (.idx (.var 2) (.cst (.int 1))) (.tup .nil)) (l8 (nt (.tup (cs.map c3)) ws) KL KL KL KL KL)=.ok (ws.isEmpty):=by
  refine eK (d:=.tup (ws.map kn)) (e:=.tup []) (by symm_saturate) (by symm_saturate) ?_;unfold bz b8;simp only[cw];cases ws<;>rfl
 refine gS ?_;show(bg (V (n+4)) _ _>>=λx=>if x then _ else _).wp h _;rw[c,ag];cases ws with
 |nil=>
  have B:fU (V (n+4)) (.cons (.var 2) (.cons (.tup (.cons (.cst (.str "a")) (.cons (.cst (.str "door")) (.cons (.tup (.cons (.cst (.int 0)) (.cons (.cst (.int 1)) .nil))) (.cons (.cst (.int 0)) (.cons (.cst (.int 0)) (.cons (.cst (.int 1)) .nil))))))) .nil)) (l8 (nt (.tup (cs.map c3)) []) KL KL KL KL KL)=.ok [.d (nt (.tup (cs.map c3)) []),.d (.tup [.str "a",.str "door",.tup [.int 0,.int 1],.int 0,.int 0,.int 1])]:=by simp only[zf,tY,cH,Ls,O1,fS,Cl,Sd,ag,show decide (6<=KU)=KN from sd (by decide)]
  have j:=qK (n:=n) (cs:=.tup (cs.map c3)) (ws:=[]) (d:=.tup [.str "a",.str "door",.tup [.int 0,.int 1],.int 0,.int 0,.int 1]) (.six (ph (by decide+kernel)) trivial trivial (Gq (p:=.int 0) (q:=.int 1) trivial trivial).2 trivial trivial trivial);rw[Ad]at j;rw[show([]:List Kt).isEmpty=KN from rfl,if_pos rfl];refine gS ?_;rw[JE (Dt B j),T.bA]|cons t ws=>
  generalize i:t::ws=ws' at H⊢;have hw:ws'≠[]:=by rw[<-i];simp
  rw[show ws'.isEmpty=KO from by rw[<-i];rfl,if_neg (by simp)];show(T.ok (Fl.nx (l8 (nt (.tup (cs.map c3)) ws') KL KL KL KL KL))).wp h _;rw[T.bA];show(au (V (n+4)) qz (l8 (nt (.tup (cs.map c3)) ws') KL KL KL KL KL)).wp h _;unfold qz;refine gS ?_;have A:ni (V (n+4)) (.ic (.cons (.cst (.int 8)) .nil)) (l8 (nt (.tup (cs.map c3)) ws') KL KL KL KL KL)=.ok (aB 8):=by
   simp only[Jc,zf,tY,fS,ag,yW,bO];rw[show(decide (-(2^62)<=(8:Int))&&decide ((8:Int)<=1000000))=KN by decide];rfl
  rw[Gz A];refine eB (LL (nt (.tup (cs.map c3)) ws') h) ?_ ?_ ⟨KL,KL,KL,KL,KL,rfl,by simp[aB],by simp[aB]⟩
  .rintro y E s l⟨k,g,f,b,a,rfl,r,o⟩;simp only[LM]at r o;rw[tJ.1,T.bA];show(au (V (n+4)) mU (l8 (nt (.tup (cs.map c3)) ws') (KE (.d y)) g f b a)).wp l _;exact Ds H hw (by omega) λg f b a C u=>⟨_,_,_,_,_,rfl,by omega,by omega⟩
  .rintro s l⟨k,g,f,b,a,rfl,r,o⟩;show(au (V (n+4)) qv (l8 (nt (.tup (cs.map c3)) ws') k g f b a)).wp l _;rw[show au (V (n+4)) qv (l8 (nt (.tup (cs.map c3)) ws') k g f b a)=.ok (.rt (.bl KN))from rfl,T.bA]
theorem whole:(au (gv.ev (aG defs gv 39)) rest (KL::KE .feed::Mm (qC.length-2) KL)).kS 1000000 (λa=>a=.rt (.bl KN)):=T.mV (xg (n:=35) (m:=1000000) (by decide))
end
end K40
end
open PySem PySem.W PyProof.Rows
theorem PySem.Challenge.cw_wallplan_k40_openings_made_holds : PySem.Challenge.rw_wallplan_k40_openings_made.Holds := by
 refine head (L2.xF (l:=NF) (n:=63) (k:=40) (x:=KI "_law_script") (K:=head.heap_39) (CX:=λ_=>L2.pj) (sp:=λw=>L2.wD (head.heap_39 w.params)) rfl (by decide) rfl ⟨rfl,by decide,by decide,rfl⟩ (λw h Y=>PySem.W.kIn_of Y) ?F ?S ?C)
 case F=>
  intro w mg m h p G b
  obtain ⟨f,fd,j,i,g⟩:=K40.F9 K40.whole w.params
  have e:mg (KI "law")=KE (.ref f):=O0 p G j
  have o:(KE (Lj f):Option KJ)=KE (.ref m):=e.symm.trans b
  cases o
  exact ⟨fd,λs u=>.of_eq (i [u] rfl),λbase X G=>g rfl X G⟩
 case S=>exact λw H a ns c _ d=>⟨a,ns,rfl,d,c,λ_=>rfl⟩
 case C=>exact λ_ _ _ _ _ z=>z
