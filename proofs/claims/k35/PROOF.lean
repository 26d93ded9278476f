import PyProof.Rows.All
import Wide.All
import KE.KNestM
import OpenK.KOwn
import OpenK.KRaise
import KE.KIsAll
import KE.KTypeName
import Wide.FinOn
import Lean
import PyProof.EqAt
import PyProof.EqKinds
import PyProof.TupleCall
import PyProof.Draws
import PyProof.EnumMake
import KE.KLam
import KE.KMinKey
import PyProof.StrCalls2
import PyProof.Rows.StrIndexOr
import PyProof.CollectIter
import PyProof.ListStr
import KE.KDictLaws
import PyProof.P3Eq
import KE.KSortTup
import KE.KDictList
import PyProof.ZipIter
import PyProof.Rows.ZipGen
import KE.KSortKey
import PyProof.SetKind
import PyProof.SetRoads
import PyProof.TupleKey
import PyProof.Rows.SetFrom
import PyProof.SliceStr2
import PyProof.StrBlockI
import PyProof.StrCalls3
import PyProof.StrCalls6
import PyProof.StrCalls5
import KE.KRevIter
import PyProof.FactsAll.range_2
import PyProof.CallStr
import KE.KIntText
import PyProof.DictItems
import PySem.Challenge.RW_glowrow_k35_wishes_of_pictures
set_option Elab.async false
set_option linter.all false
set_option maxRecDepth 100000
set_option maxHeartbeats 4000000
open Option renaming some → Z,none → Y
open PySem renaming wpAny_bind->Le,wpAny_pure->Lf,Value->Lk,Shared->Lm,wpAny->Lp,Addr->LA,model->LD,mainGlobals->LV,sizeLine->LW,wpAny_holding->Mc,Program->Mi,foldedSetIterable->Mj,bootBuiltins->Mp,starEach->Mt,World->My,SetTable->MA,wpAny_field->MC,wpAny_setField_rec->MG,compareOp->MI,intKind->MM,wpAny_callSpecial?_slot->MP,Expr->MT,wpAny_call_entry->MW,Around->MX,wpAny_mono->MY,wpAny_seqItems->MZ,tupleKeyHash->Nb,wpAny_newObj_type->Nt,Heap->Nu,IsTupleKey->Nw,codeAny_builtin->Nz,plainId_quiet->NM,wpAny_setState_of->NT,wpAny_loadPart'->NV,wpAny_askSetting->NZ,assignEach->N9,wpAny_tryCatch->Oc,letOwnedTupleGo->Om,sizeLine_eq->Oo,codeAny->Oq,eval->Ou,wpAny_rule->Oy,wpAny_updateSeq->OH,binaryOp->OL,FuncData->OM,wpAny_pyNext_list_item->OO,wpAny_letGo->OU,rawInt->OZ,Builtin->O2,pyNext->O5,importedModules->Pa,wpAny_truthy_bool->Pc,wpAny_standAt->Pg,relabel->Pm,wpAny_of_eq->Pr,codeAny_mono->Py,wpAny_nextOf_list_item->PL,wpAny_ite_split->PQ,wpAny_attempt->PR,Scope->PY,holding->PZ,standAt->P1,Stmt->P5,backTo->P6,IsPair->Qc,wpAny_forIn_list->Qd,assign->Qh,behindInMarks->Ql,NameKind->Qm,wpAny_passesOwn->Qo,OsState->Qr,wpAny_Call_Name_kw->Qs,cLine->Qv,sliceBounds->Qw,pickOrder->QH,wpAny_pyIter_enum->QQ,newFunctionEnv->QR,wpAny_pyNext_list_end->Q5,wpAny_nextOf_list_end->Q6,builtinsNs->Q9,swapsWith->Ra,cellsFrom->Rb,seqItems?->Rc,IsEnum->Rf,wpAny_isInstance->Rg,wpAny_pyIter_zip->Rl,BindsTo->Rp,pyIter->Rx,codeAny_of_tree->RF,wpAny_setEntries_of->RH,treeTable->RO,wpAny_newFunctionEnv_cells->RS,field->RV,firstArgMember->RW,wpAny_letOwnedTupleGo_enum->RX,wpAny_newTuple->R0,wpAny_pyIter_list->Sd,ofAClassStatement->Sf,Result->Sh,attributeBase->Sk,wpAny_newList->Sq,comprehension->Sr,wpAny_comprehension_free->Sw,codeAmong->SA,updateSeq->SD,wpAny_comp_letGo->SE,ZipApart->SL,isTrue->SM,richCompare_meets_room->SN,wpAny_typeOf->SO,Keyword->SR,wpAny_execs_nil->S3,again->S4,builtinLookup_eq_fast->Ti,wpAny_eqIsQuiet_tuple->Tj,richCompare->Ts,keywordEach->Tu,isSubtype_stop->TH,lookup_relabel_local->TK,isSubtype_type->T3,wpAny_updateSeq_pair->T8,callerA->Uc,swappedStores->Uk,Comprehension->Ur,wpAny_onRaise->Us,bltViewBooted->Uv,IsPart->UD,wpAny_pyIter_tuple->UI,Params->UK,closureFor->UL,setsByText->UT,wpAny_pyHash_tuple->UV,wpAny_assign_Name->UY,bindArgs->U1,seqIndex_neg->U3,slot_list_getitem->U4,setNext->Vf,wpAny_pyIter_slot->Vg,searchCouldBeSeen->Vh,fits_of_scanBound->Vi,wpAny_storeSet_of->Vj,compTurn->Vk,wpAny_eqBool_int->Vo,wpAny_execs_cons->Vq,noFill_tuple_add->Vt,compStart->VE,pushCells->VF,seqIndex_of->VN,wpAny_alloc->VU,loadIfAlive->VX,wpAny_stack_any->V3,typeLookup_type->V8,wpAny_specialOf->Wa,theWindowsPlace->We,getItem->Wh,sysModules->Wm,wpAny_Name->Wn,wpAny_load->Wo,recursionLimit->Wq,wpAny_call->Ws,bindL->Wt,bindC->Wu,backToKw->Wz,wpAny_setField->WB,newTuple->WC,defaultsOf->WD,argsOk->WG,entryFor_alias->WK,wpAny_fieldsOf->WL,carriedByValue->WM,wpAny_runValue->WS,GenState->WT,swapsWithSole->W6,intBits_le_64->W7,seq_tuple_add->W8,evalPart_none->W9,call_list_seq->Xb,wpAny_handled->Xc,sub_enumerate->Xd,signature?_of->Xf,setSearchFrom->Xg,wpAny_notedAt->Xl,Arguments->Xr,TriplesOk->Xs,noteFrame->Xw,IsEnumOut->Xx,concat_meets->XE,callType_new->XH,DefRec->XI,collect->XN,setAddHashed->XU,raiseNew->X7,compPost->X8,entryFor->X9,setField->Yd,pinGoodD->Yi,rule->Yu,newExc->Yy,newSet->YE,spliced->YG,setItem->YH,leaving->YI,newList->YL
open PySem.Heap renaming get?_push_of_some->Lg,lt_size->Lq,get?_push_size->LJ,get?_update_other->Mz,SameBut->Nh,size_push->OC,get?_update_self->O3,get?_update_ne->RG,ExtBut->TC,FlyingW->U5,get?_push_ne->Va,size_update->VB,MadeExcOf->WA
open List renaming getElem?_eq_getElem->Lh,getElem?_eq_some_iff->Lj,length_append->Ll,mem_append_right->Lo,length_map->Lu,getElem?_append_right->Lv,range->Lw,all_eq_true->Lx,mem_cons_self->Lz,append_assoc->LC,mem_cons_of_mem->LH,mem_singleton->LK,getElem?_map->LL,mem_of_getElem?->LU,getElem?_append_left->LY,mem_cons->L1,size_toArray->L5,pairwise_append->Mh,length_range->Mk,mem_append_left->Ml,length_cons->Mm,append_nil->Mo,replicate->Ms,take_append_drop->MH,mem_reverse->MN,mem_append->MR,getD->Nc,length_take->Nd,map_cons->Nf,iter->Ng,flatten_cons->Nm,getElem_of_mem->Ny,getElem?_eq_none->NC,getD_eq_getElem?_getD->NF,length_reverse->NI,length_nil->NK,length_singleton->NO,pairwise_singleton->NP,not_mem_nil->NS,pairwise_iff_getElem->NU,drop_eq_getElem_cons->N7,getElem?_range->Ob,ext_getElem?->Of,flatten_append->Ol,extract_eq_drop_take->Ot,mem_of_mem_drop->OA,mem_of_mem_take->OB,length_drop->OE,mem_range->OJ,pairwise_cons->OK,reverse_append->ON,mem_map->OP,map_map->OT,length_eq_zero_iff->O4,all_cons->Pl,map_congr_left->Pp,lookup_cons->Pw,take_of_length_le->PC,drop_of_length_le->PD,filter_cons_of_pos->PN,filter_cons_of_neg->PP,zip_cons_cons->PU,reverse_reverse->Qa,getElem_mem->Qb,length_pos_iff->Qj,reverse_perm->QX,getElem?_drop->Q3,pairwise_reverse->Q7,mem_filter->Q8,map_append->Rm,mem_filterMap->Ro,getElem_range->Rq,lookup->Rt,getElem?_cons_succ->Rw,mem_iff_getElem->RC,toArray->RK,nodup_cons->RQ,cons_ne_nil->R7,zip_nil_left->Sb,getElem?_zipWith->Sz,pairwise_of_forall->SH,getElem_take->SV,zip_nil_right->Tc,drop_drop->Tf,perm_append_singleton->Tn,filterMap_cons->Tq,cons_append->TJ,drop_zero->TQ,take_zero->TR,take_left->TV,ext_getElem->TZ,take_length->T7,findSome?_cons->T9,take_add_one->Ud,forIn_nil->Ue,getElem?_take_of_lt->Ug,filterMap_cons_some->Uj,set_append_right->Ul,of_mem_zip->UA,getElem?_replicate->UB,zipIdx_cons->UR,perm_middle->US,forIn_cons->UW,getElem?_set_self->UX,all_map->Vb,foldl_append->Vl,foldl_cons->Vn,length_replicate->Vr,countP_mono_left->Vv,reverse_nil->Vx,flatten_nil->VA,getElem?_toArray->VD,length_filter_le->VH,filterMap_map->VM,drop_length->VW,getElem?_set_ne->VY,drop_eq_nil_iff->V4,length_eraseIdx->V9,map_nil->Wi,getElem_drop->Wk,length_set->Wy,range_succ->WJ,toList_toArray->WN,set_cons_succ->Xi,take_sublist->XD,reverse_cons->XF,pairwise_map->XM,length->X3
open Array renaming getElem?_toList->Li,length_toList->Ln,getElem?_eq_getElem->LS,toList_append->Mn,size_push->NB,getD_eq_getD_getElem?->NH,getElem?_eq_some_iff->Od,size_append->Oe,toList_push->OG,getElem?_eq_none->OS,toList_extract->Pe,toList_reverse->P9,size_setIfInBounds->Qn,size_extract->Qt,forIn_toList->Qu,getD->Rj,getElem?_setIfInBounds->RD,toList_setIfInBounds->RZ,getElem?_eq_none_iff->R4,size_map->T1,size_reverse->UP,mk->Vm,replicate->Wb,toList->XC
open Nat renaming le_refl->Lr,lt_of_lt_of_le->LB,le_trans->LG,ne_of_lt->LR,le_add_right->Mu,zero_add->MB,lt_of_le_of_ne->ME,add_le_add_left->MS,zero_le->Ni,le_of_eq->Nj,le_succ_of_le->Nk,le_of_lt->Np,lt_of_le_of_lt->Nv,add_assoc->NN,lt_irrefl->N8,ne_of_gt->Oa,lt_succ_of_lt->Og,add_sub_cancel'->Oj,succ_le_succ->Oz,le_sub_one_of_lt->OD,le_of_succ_le->OF,eq_zero_of_not_pos->OR,lt_succ_self->OX,le_max_right->OY,le_add_left->O9,lt_of_succ_lt->Pf,sub_self->PB,pos_of_ne_zero->PF,pow_succ->PJ,add_lt_of_lt_sub'->PV,sub_le->P8,lt_of_not_ge->Qe,not_lt_of_le->Qf,add_lt_add_left->Qk,min_le_left->Qp,two_pow_pos->Qq,add_sub_cancel_left->Qz,le_of_lt_succ->QV,add_zero->QY,lt_trichotomy->Q0,mod_lt->Rk,one_pos->Ru,pow_le_pow_right->Rv,zero_lt_one->Ry,mul_le_mul->R6,add_mul_mod_self_left->R8,min_le_right->Sy,mul_comm->SW,div_div_eq_div_mul->SX,not_lt_zero->Ta,le_of_sub_eq_zero->Tg,le_of_ble_eq_true->Th,add_le_add_right->TL,lt_sub_of_add_lt->TN,add_mod->T4,mul_mod->T5,mul_assoc->Uo,add_right_comm->UM,sub_lt->UN,sub_pos_of_lt->U7,add_comm->U8,lt_trans->Vd,min_eq_right->Vw,succ_lt_succ->Vy,zero_lt_succ->Vz,mod_eq_of_lt->VC,le_succ->VP,log2_lt->VR,mod_mul->VT,min_eq_left->V5,le_antisymm->V6,le_min->WI,sub_zero->XG,zero_max->XJ,pow_zero->XQ,zero_div->XR,succ_pos->XT,mod_one->Yb,not_lt->YF,log2->YV
open Bool renaming false_ne_true->Ly,and_eq_true->LN,false_eq_true->Ma,and_eq_true_iff->ML,not_eq_true'->QM,not_eq_true->Rh,bne_true->Sl,not_true->Su,bne_false->Tz,and_false->T6,or_eq_true->V1,false_and->Wp,decide_or->W4,and_self->Xh,and_true->Xn
open PyProof.Rows renaming wpS_bind->LM,Keyed->LO,wpS_pure->LP,SortSt->L4,pendingOf->L8,slot_tuple_getitem->Mw,arrOf->Nl,callWith_type1->Nn,seqObj->NX,IntsAre->N5,kindOf->N6,failedOf->Ox,get?_update_seq->O8,envOfC->Pz,SortKind->P7,wpS_forRange->QU,wpS_modify->RY,AllBare->Sa,wpS_get->Se,wpS_lift->SF,wpS_mono->SG,subscriptTail_builtinR->SQ,recsOf->SU,lt_int->Tb,getElem?_mirror_all->Ui,listUpdate_at->Um,callWith_builtin1->Vs,IsTup->VJ,seqEpoch_at->VQ,slicePart_none->Ww,size_push'->WE,expectedOf->WY,plainGoodE->WZ,plainGoodD->W1,subscriptTail->Xa,gt_int->Xp,zipApart_new->XW,drecsOf->XX,Call_->X2
open PySem.W renaming Frag->LX,boot_heap->Pb,tabIn->Pd,nsIn->Po,keepIn->Rr,hideAll_get->Sg,fnOf->Si,cellsFrom_some->Sx,absHeap->SY,findIn->Tr,OpenLaw->Tw,fencedOpening->Uu,codeIn->U2,hideAll->Vp,methodObj->VL,mroIn->V2,mg_of->Wj,SharedT->Wl,namesBound->WV,boot_drawn->WW,looseW->WX,kla_obj->Xu,staticsOk->Xy,boot_toks->Xz,of_hideAll->XB,gensDone->Ye,laidKept->Yg,wideGood->Yh,clsGoodW->Yj,topStub->Yt,tabObj->YB,kat_nil->YJ,topFrom->YM,WalkO->YU
open Option.some renaming inj->LZ,injEq->U6
open Int renaming eq_ofNat_of_zero_le->L3,toNat_natCast->Mq,le_trans->Nq,le_of_lt->NW,emod_lt_of_pos->NY,emod_nonneg->OI,le_refl->Qy,not_lt->Ri,toNat_of_nonneg->RI,zero_add->SZ,lt_of_lt_of_le->UO,lt_of_le_of_lt->UQ,le_of_eq->U9,le_antisymm->V7
open ForInStep renaming yield->L6
open PySem.Builtin.SmallTypes renaming ownedTupleIsFree->L7,nextOf->L9,ownedTupleHandOut->NR
open PySem.SetTable renaming below->MD,runEnd->MQ,turns->Na,Probe->Nr,bits->ND,insertAt->Oh,toList_insertAt->Pj,advance->Pq,fits->Up,fill->Uq,sizeAbove->UU,has->Ve,grown->WO,fresh->WR,slot->Xe
open PySem.Value renaming none->MJ,ref->NJ,type->Px,int->RM,isInt_shape->R9,notImplemented->Tt,bool->Uy,isInt->VI,str->YO
open PySem.Obj renaming mapSeq->MK,putSet->R3,data_mapFields->UH
open PySem.SetTable.layClean renaming free->MU
open PySem.Around renaming under_plainId->MV
open PySem.Str renaming ofString->NG
open Ne renaming symm->NL
open Option renaming map_eq_some_iff->NQ,map_eq_none_iff->Q1,getD_none->Vu,getD_some->VG,map_some->Wc,map->WH
open PySem.SetTable.probe renaming go->Oi
open PySem.F renaming slot_enumerate_next->Ov,slot_tuple_iterator_next->O1,called_set->PK,args_enumerate_next_1->Qx,entry_enumerate_next->QN,args_tuple_iterator_next_1->Rz,entry_tuple_iterator_next->RJ,typeCall_enumerate_1->SS,newCall_enumerate_1->Td,entry_enumerate_new->Te,args_list_append_2->Tv,args_object_init_2->TF,entry_list_append->Uh,slot_list_append->UE,called_enumerate->UJ,slot_set_iter->Wd,plain_set_new->Wf
open List.Perm renaming append_left->Ow,append_right->QZ,trans->RE,refl->TY,nil_eq->YR
open PySem.Builtin.Builtins renaming bindParams->OQ
open Prod.mk renaming inj->OV,injEq->Xm
open False renaming elim->O0
open PySem.Builtin.Slice renaming slicePlaces->O6,sliceAdjust->Qg,sliceApplied->RU,slicePartIndex->VZ,sliceFields->W5
open Classical renaming byContradiction->O7,choose_spec->X1,choose->YS
open PySem.Builtin.Tuple renaming tupleExact->Ph,tupleCompareSizes->Q4,tupleItemsOf->Wx
open List.cons renaming inj->Pi
open PySem.NameKind renaming cell->Pk,free->Ut
open Prod renaming ext->Pn
open PySem.PyData renaming strOk->PH
open PySem.Builtin.List renaming listExtendWith->P4,listLengthHint->RL,listSameRef->Sv
open PySem.Heap.SameBut renaming update->Qi,trans->YD,refl->YK
open PyProof.Rows.F renaming plain_set_update_loop->QJ,entry_set_update_loop->SK
open PySem.W.OpenLaw renaming row->QK
open List.Pairwise renaming nil->QL,imp_of_mem->Ss,sublist->XZ
open PySem.Calls renaming Name_function_global->RP,spliced_cons->Uz,spliced_nil->UZ
open PySem.AutoSeq1 renaming sub_tuple_tuple->Sj
open Or renaming inr->So,inl->TB
open And renaming intro->SJ
open PySem.SetTable.sizeAbove renaming go->To
open PySem.SeqAt renaming compareNe_reads->Tp,EqAt->Wv
open Sum renaming inl->Ua,inr->Ub
open PySem.SeqAt.EqAt renaming int_str->Uw,str_int->Ux,int_int->UC,none_bool->X4,bool_none->X5,bool_bool->X6,none_int->Yk,none_str->Yl,bool_int->Ym,bool_str->Yn,int_none->Yo,int_bool->Yp,str_none->Yq,str_bool->Yr,str_str->Yw,same->YT
open True renaming intro->UG
open PySem.SetTable.below renaming go->Vc
open PySem.Shared renaming heap->VO
open PySem.Builtin.Frozenset renaming updateFrom->Wg,oneOther->WQ,newClass->WU,addrOf->Xj,sizeOf->Xk,slot0->Xv
open PySem.W.OpenRow renaming toRowW->W3
open PySem.Builtin.Range renaming rangeSize->Xo
open PyProof.Rows.IsTup renaming new->Xq
open PySem.pickOrder renaming go->XO
open PySem.W.RowW renaming records->XY
open PySem.Heap.IsTupleIter renaming «at»->Ys
open PySem.Heap.IsSliceOf renaming new->Yv
open PySem.W.WShape renaming has->Yx
open PySem.Heap.IsListIter renaming «at»->Yz
open PySem.Env renaming kindOf->YC
open PySem.PassesOwn renaming leaving->YN
open PySem.W.WData renaming int->YQ
noncomputable section
section
variable{c:Prop}{A B C E F H J L K:Sort _}
def q0x2{p p1:Prop}(h:p/\p1)(k:p->p1->c):c:=by obtain⟨h,h1⟩:=h;exact k h h1
def q0x3{p p1 p2:Prop}(h:p/\p1/\p2)(k:p->p1->p2->c):c:=by obtain⟨h,h1,h2⟩:=h;exact k h h1 h2
def q0x4{p p1 p2 p3:Prop}(h:p/\p1/\p2/\p3)(k:p->p1->p2->p3->c):c:=by obtain⟨h,h1,h2,h3⟩:=h;exact k h h1 h2 h3
def q0x5{p p1 p2 p3 p4:Prop}(h:p/\p1/\p2/\p3/\p4)(k:p->p1->p2->p3->p4->c):c:=by obtain⟨h,h1,h2,h3,h4⟩:=h;exact k h h1 h2 h3 h4
def q0x6{p p1 p2 p3 p4 p5:Prop}(h:p/\p1/\p2/\p3/\p4/\p5)(k:p->p1->p2->p3->p4->p5->c):c:=by obtain⟨h,h1,h2,h3,h4,h5⟩:=h;exact k h h1 h2 h3 h4 h5
def q1x1{p:A->Prop}(h:∃x,p x)(k:∀x,p x->c):c:=by obtain⟨x,h⟩:=h;exact k _ h
def q1x2{p p1:A->Prop}(h:∃x,p x/\p1 x)(k:∀x,p x->p1 x->c):c:=by obtain⟨x,h,h1⟩:=h;exact k _ h h1
def q1x3{p p1 p2:A->Prop}(h:∃x,p x/\p1 x/\p2 x)(k:∀x,p x->p1 x->p2 x->c):c:=by obtain⟨x,h,h1,h2⟩:=h;exact k _ h h1 h2
def q2x1{p:A->B->Prop}(h:∃x y,p x y)(k:∀x y,p x y->c):c:=by obtain⟨x,y,h⟩:=h;exact k _ _ h
def q2x2{p p1:A->B->Prop}(h:∃x y,p x y/\p1 x y)(k:∀x y,p x y->p1 x y->c):c:=by obtain⟨x,y,h,h1⟩:=h;exact k _ _ h h1
def q2x3{p p1 p2:A->B->Prop}(h:∃x y,p x y/\p1 x y/\p2 x y)(k:∀x y,p x y->p1 x y->p2 x y->c):c:=by obtain⟨x,y,h,h1,h2⟩:=h;exact k _ _ h h1 h2
def q2x4{p p1 p2 p3:A->B->Prop}(h:∃x y,p x y/\p1 x y/\p2 x y/\p3 x y)(k:∀x y,p x y->p1 x y->p2 x y->p3 x y->c):c:=by obtain⟨x,y,h,h1,h2,h3⟩:=h;exact k _ _ h h1 h2 h3
def q2x5{p p1 p2 p3 p4:A->B->Prop}(h:∃x y,p x y/\p1 x y/\p2 x y/\p3 x y/\p4 x y)(k:∀x y,p x y->p1 x y->p2 x y->p3 x y->p4 x y->c):c:=by obtain⟨x,y,h,h1,h2,h3,h4⟩:=h;exact k _ _ h h1 h2 h3 h4
def q2x6{p p1 p2 p3 p4 p5:A->B->Prop}(h:∃x y,p x y/\p1 x y/\p2 x y/\p3 x y/\p4 x y/\p5 x y)(k:∀x y,p x y->p1 x y->p2 x y->p3 x y->p4 x y->p5 x y->c):c:=by obtain⟨x,y,h,h1,h2,h3,h4,h5⟩:=h;exact k _ _ h h1 h2 h3 h4 h5
def q3x2{p p1:A->B->C->Prop}(h:∃x y z,p x y z/\p1 x y z)(k:∀x y z,p x y z->p1 x y z->c):c:=by obtain⟨x,y,z,h,h1⟩:=h;exact k _ _ _ h h1
def q3x3{p p1 p2:A->B->C->Prop}(h:∃x y z,p x y z/\p1 x y z/\p2 x y z)(k:∀x y z,p x y z->p1 x y z->p2 x y z->c):c:=by obtain⟨x,y,z,h,h1,h2⟩:=h;exact k _ _ _ h h1 h2
def q3x4{p p1 p2 p3:A->B->C->Prop}(h:∃x y z,p x y z/\p1 x y z/\p2 x y z/\p3 x y z)(k:∀x y z,p x y z->p1 x y z->p2 x y z->p3 x y z->c):c:=by obtain⟨x,y,z,h,h1,h2,h3⟩:=h;exact k _ _ _ h h1 h2 h3
def q4x2{p p1:A->B->C->E->Prop}(h:∃x y z u,p x y z u/\p1 x y z u)(k:∀x y z u,p x y z u->p1 x y z u->c):c:=by obtain⟨x,y,z,u,h,h1⟩:=h;exact k _ _ _ _ h h1
def q4x3{p p1 p2:A->B->C->E->Prop}(h:∃x y z u,p x y z u/\p1 x y z u/\p2 x y z u)(k:∀x y z u,p x y z u->p1 x y z u->p2 x y z u->c):c:=by obtain⟨x,y,z,u,h,h1,h2⟩:=h;exact k _ _ _ _ h h1 h2
def q4x4{p p1 p2 p3:A->B->C->E->Prop}(h:∃x y z u,p x y z u/\p1 x y z u/\p2 x y z u/\p3 x y z u)(k:∀x y z u,p x y z u->p1 x y z u->p2 x y z u->p3 x y z u->c):c:=by obtain⟨x,y,z,u,h,h1,h2,h3⟩:=h;exact k _ _ _ _ h h1 h2 h3
def q4x5{p p1 p2 p3 p4:A->B->C->E->Prop}(h:∃x y z u,p x y z u/\p1 x y z u/\p2 x y z u/\p3 x y z u/\p4 x y z u)(k:∀x y z u,p x y z u->p1 x y z u->p2 x y z u->p3 x y z u->p4 x y z u->c):c:=by obtain⟨x,y,z,u,h,h1,h2,h3,h4⟩:=h;exact k _ _ _ _ h h1 h2 h3 h4
def q9x3{p p1 p2:A->B->C->E->F->H->J->L->K->Prop}(h:∃x y z u v w a b d,p x y z u v w a b d/\p1 x y z u v w a b d/\p2 x y z u v w a b d)(k:∀x y z u v w a b d,p x y z u v w a b d->p1 x y z u v w a b d->p2 x y z u v w a b d->c):c:=by obtain⟨x,y,z,u,v,w,a,b,d,h,h1,h2⟩:=h;exact k _ _ _ _ _ _ _ _ _ h h1 h2
end
namespace L2
open PySem PySem.Spec PyProof.Rows List
abbrev qB:=Sum Int Str
def Dt:qB->Lk->Bool
 | .inl k,v=>VI k v
 | .inr x,v=>Value.isStrOf x v
def KO (w:My):qB->Int
 | .inl k=>hashInt k
 | .inr x=>hashStr w x
theorem cn:∀{k:qB} {v:Lk},Dt k v=true->(∃i t,k=Ua i/\v=RM i t)\/(∃x t,k=Ub x/\v=YO x t)
 | .inl i,v,h=>by
  refine q1x1 (R9 (k:=i) (v:=v) h) λt e=>?_;exact .inl ⟨i,t,rfl,e⟩
 | .inr x,v,h=>by
  refine q1x1 (Value.isStrOf_shape (x:=x) (v:=v) h) λt e=>?_;exact .inr ⟨x,t,rfl,e⟩
def FZ (a b:Int):decide ((Ua a:qB)=Ua b)=(a==b):=by
 by_cases e:a=b
 ·subst e;simp
 ·have h:¬(Ua a:qB)=Ua b:=λq=>e (Sum.inl.inj q)
  rw[decide_eq_false h];exact(beq_eq_false_iff_ne.mpr e).symm
def F5 (a b:Str):decide ((Ub a:qB)=Ub b)=decide (a=b):=by
 by_cases e:a=b
 ·subst e;simp
 ·have h:¬(Ub a:qB)=Ub b:=λq=>e (Sum.inr.inj q)
  rw[decide_eq_false h,decide_eq_false e]
def Es (a:Int)(b:Str):decide ((Ua a:qB)=Ub b)=false:=decide_eq_false (λq=>nomatch q)
def EB (a:Str)(b:Int):decide ((Ub a:qB)=Ua b)=false:=decide_eq_false (λq=>nomatch q)
def rH (prog:Mi)(w:My):PySem.KeyKind prog w qB where
 is:=Dt
 hash:=KO w
 inj:=λv a b ha hb=>by
  rcases cn ha with⟨i,t,rfl,rfl⟩|⟨x,t,rfl,rfl⟩
  ·rcases cn hb with⟨j,u,rfl,e⟩|⟨y,u,rfl,e⟩
   ·injection e with e1 _;rw[e1]
   ·exact nomatch e
  ·rcases cn hb with⟨j,u,rfl,e⟩|⟨y,u,rfl,e⟩
   ·exact nomatch e
   ·injection e with e1 _;rw[e1]
 byValue:=λk v h=>by
  rcases cn h with⟨i,t,rfl,rfl⟩|⟨x,t,rfl,rfl⟩ <;> rfl
 pyHash:=λhv h=>by
  rcases cn hv with⟨i,t,rfl,rfl⟩|⟨x,t,rfl,rfl⟩
  ·exact wpAny_pyHash_int h
  ·exact wpAny_pyHash_str h
 eqBool:=λhu hv h=>by
  rcases cn hu with⟨i,t,rfl,rfl⟩|⟨x,t,rfl,rfl⟩
  ·rcases cn hv with⟨j,u,rfl,rfl⟩|⟨y,u,rfl,rfl⟩
   ·rw[FZ] at h;exact Vo h
   ·rw[Es] at h;exact Uw i t y u _ _ _ _ h
  ·rcases cn hv with⟨j,u,rfl,rfl⟩|⟨y,u,rfl,rfl⟩
   ·rw[EB] at h;exact Ux x t j u _ _ _ _ h
   ·rw[F5] at h;exact wpAny_eqBool_str h
 «strs»:=λk x t v h=>by
  rcases cn h with⟨i,u,rfl,e⟩|⟨y,u,rfl,e⟩
  ·exact nomatch e
  ·injection e with e1 _
   subst e1;cases v <;> rfl
inductive V where
 | non|bl (b:Bool)|int (i:Int)|str (x:Str)|byt (b:Array UInt8)|flt (b:UInt64)|ref (a:LA)|ty (n:String)
 deriving DecidableEq
def bg:V->Lk->Prop
 | .non,u=>u=MJ
 | .bl b,u=>u=Uy b
 | .int i,u=>∃t,u=RM i t
 | .str x,u=>∃t,u=YO x t
 | .byt b,u=>∃t,u=Value.bytes b t
 | .flt b,u=>∃t,u=Value.float b t
 | .ref a,u=>u=NJ a
 | .ty n,u=>u=Px n
abbrev aS:List V->List Lk->Prop:=Paired bg
def aS.length (r:aS xs us):xs.length=us.length:=Paired.length r
theorem aS.get:∀{xs:List V} {us:List Lk} {i:Nat} {x:V},aS xs us->xs[i]?=Z x->∃u,us[i]?=Z u/\bg x u
 | _,_,_,_,.nil,e=>by simp at e
 | _,_,0,_,.cons r _,e=>by simp at e;subst e;exact⟨_,rfl,r⟩
 | _,_,i+1,x,.cons _ t,e=>by
  refine q1x2 (aS.get (i:=i) (x:=x) t (by simpa using e)) λu h1 h2=>?_;exact⟨u,by simpa using h1,h2⟩
theorem aS.set (r:bg x u):∀{xs:List V} {us:List Lk} (i:Nat),aS xs us->aS (xs.set i x) (us.set i u)
 | _,_,_,.nil=>.nil
 | _,_,0,.cons _ t=>.cons r t
 | _,_,i+1,.cons q t=>.cons q (aS.set r i t)
theorem aS.append:∀{xs ys:List V} {us ws:List Lk},aS xs us->aS ys ws->aS (xs++ys) (us++ws)
 | _,_,_,_,.nil,s=>s
 | _,_,_,_,.cons r t,s=>.cons r (aS.append t s)
theorem aS.take:∀{xs:List V} {us:List Lk} (n:Nat),aS xs us->aS (xs.take n) (us.take n)
 | _,_,0,_=>.nil
 | _,_,_+1,.nil=>.nil
 | _,_,n+1,.cons r t=>.cons r (aS.take n t)
theorem aS.drop:∀{xs:List V} {us:List Lk} (n:Nat),aS xs us->aS (xs.drop n) (us.drop n)
 | _,_,0,r=>r
 | _,_,_+1,.nil=>.nil
 | _,_,n+1,.cons _ t=>aS.drop n t
def Gj:Option V->Option Lk->Prop
 | some v,Z u=>bg v u
 | none,Y=>True
 | _,_=>False
def KV {κ:Type}:List (κ×V)->List (κ×Lk)->Prop:=Paired λ(p:κ×V) (q:κ×Lk)=>p.1=q.1/\bg p.2 q.2
def kV:qB->V
 | .inl i=>.int i
 | .inr x=>.str x
inductive HO where
 | lst (xs:List V)
 | tup (xs:List V)
 | dK (kvs:List (qB×V))|dT (kvs:List (List qB×V))
 | set (S:Int->Bool) (n:Nat)
 | ins (C dx:LA) (fs:List (Str×V))
 | own (x:LA)
 | xd (fs:List (Str×V))
 | met (f x:LA)
 | rng (lo hi:Int)
 | frz (o:Obj) (u:HO)
 | tbl (ps:Array Lk)
 | ext (φ:Nu->Prop)
abbrev Hp:=LA->Option HO
def bG (H:Hp)(a:LA)(o:HO):Hp:=λb=>if b=a then Z o else H b
def bZ {a:LA}:bG H a o a=Z o:=by unfold bG;rw[if_pos rfl]
def au {a:LA}(h:b≠a):bG H a o b=H b:=by unfold bG;rw[if_neg h]
def v5 {H:Hp}{a:LA}(h:H a=Z o)(h':H b=Z u)(d:o≠u):a≠b:=by
 intro e;subst e;rw[h] at h';exact d (LZ h')
def bK {H:Hp}{a:LA}(h:H a=Z o)(h':H b=Y):a≠b:=by
 intro e;subst e;rw[h] at h';cases h'
section
variable (P:Mi)(w:My)
def cP (H:Hp)(h:Nu)(a:LA):HO->Prop
 | .lst xs=>xs.length<=LW/\∃(its:List Lk) (n:Nat),aS xs its/\h.get? a=Z {cls:=.type "list",data:=.seq its.toArray n}
 | .tup xs=>xs.length<=LW/\∃its:List Lk,aS xs its/\VJ h a its.toArray
 | .dK kvs=>kvs.length<=LW/\(a==Wm)=false/\∃vs,KV kvs vs/\h.DictOf (rH P w) a vs
 | .dT kvs=>kvs.length<=LW/\(a==Wm)=false/\∃xs:List (List qB×LA×Lk),
   Paired (λ(p:List qB×V) (q:List qB×LA×Lk)=>p.1=q.1/\H q.2.1=Z (.tup (p.1.map kV))/\bg p.2 q.2.2) kvs xs/\
   ∃o es ep,h.get? a=Z o/\o.ExactDict/\o.data=.dict es ep/\es.toList=xs.map (entryOfKey (tupleKind (rH P w)))/\(xs.map (·.1)).Nodup
 | .set S n=>h.SetOf (MM P w) a S n
 | .ins C dx fs=>H dx=Z (.own a)/\fs.length<=1000/\dx≠a/\h.get? a=Z (W.instObj C dx)/\
   ∃mA,h.Ns1 dx mA/\(∀f,Gj (fs.lookup f) (mA f))/\PySem.Within mA (fs.map (·.1))
 | .own _=>∃o,h.get? a=Z o
 | .xd fs=>∃mA,h.Ns1 a mA/\∀f,Gj (fs.lookup f) (mA f)
 | .rng lo hi=>∃t u v,h.get? a=Z {cls:=.type "range",data:=.fields #[.int lo t,.int hi u,.int 1 v]}
 | .frz o u=>h.get? a=Z o/\cP H h a u
 | .tbl ps=>h.get? a=Z {cls:=.none,data:=.fields ps}
 | .met f x=>h.get? a=Z (VL (.ref f) (.ref x))
 | .ext φ=>φ h/\(∃o,h.get? a=Z o)/\∀h1 h2:Nu,φ h1->(∀o,h1.get? a=Z o->h2.get? a=Z o)->φ h2
def jt (H:Hp)(h:Nu):Prop:=∀a o,H a=Z o->cP P w H h a o
end
section
variable {P:Mi}{w:My}{H H':Hp}{h h':Nu}{a:LA}{o:HO}
def cP.lt (x:cP P w H h a o):a<h.objs.size:=by
 cases o with
 | lst xs=>obtain⟨_,_,_,_,e⟩:=x;exact Lq e
 | tup xs=>obtain⟨_,_,_,p⟩:=x;exact p.lt
 | dK kvs=>obtain⟨_,_,_,_,o,_,_,e,_⟩:=x;exact Lq e
 | dT kvs=>obtain⟨_,_,_,_,o,_,_,e,_⟩:=x;exact Lq e
 | set S n=>refine q4x2 x λo _ _ _ e _=>?_;exact Lq e
 | ins C dx fs=>refine q0x5 x λ_ _ _ e _=>?_;exact Lq e
 | own y=>refine q1x1 x λ_ e=>?_;exact Lq e
 | xd fs=>obtain⟨_,⟨_,_,_,e,_⟩,_⟩:=x;exact Lq e
 | rng lo hi=>obtain⟨_,_,_,e⟩:=x;exact Lq e
 | frz ob u=>refine q0x2 x λe _=>?_;exact Lq e
 | tbl ps=>exact Lq (show h.get? a=Z _ from x)
 | met f y=>exact Lq (show h.get? a=Z _ from x)
 | ext φ=>obtain⟨_,⟨_,e⟩,_⟩:=x;exact Lq e
theorem Paired.mapP {F G:α->β->Prop}:∀{l₁:List α} {l₂:List β},Paired F l₁ l₂->(∀a b,F a b->G a b)->Paired G l₁ l₂
 | _,_,.nil,_=>.nil
 | _,_,.cons r t,f=>.cons (f _ _ r) (Paired.mapP t f)
def cP.stay (x:cP P w H h a o)(k:∀b u,(b=a\/H b=Z (.own a))->h.get? b=Z u->h'.get? b=Z u)
  (ho:∀b,H b=Z (.own a)->H' b=Z (.own a)) (ht:∀b xs,H b=Z (.tup xs)->H' b=Z (.tup xs)):cP P w H' h' a o:=by
 induction o with
 | lst xs=>obtain⟨z,its,n,r,e⟩:=x;exact⟨z,its,n,r,k _ _ (.inl rfl) e⟩
 | tup xs=>obtain⟨z,its,r,ob,e,c⟩:=x;exact⟨z,its,r,ob,k _ _ (.inl rfl) e,c⟩
 | dK kvs=>obtain⟨z,y,vs,r,ob,es,ep,e,c⟩:=x;exact⟨z,y,vs,r,ob,es,ep,k _ _ (.inl rfl) e,c⟩
 | dT kvs=>
  obtain⟨z,y,xs,r,ob,es,ep,e,c⟩:=x;exact⟨z,y,xs,Paired.mapP r λp q z=>⟨z.1,ht _ _ z.2.1,z.2.2⟩,ob,es,ep,k _ _ (.inl rfl) e,c⟩
 | set S n=>refine q4x2 x λob es ep t e c=>?_;exact⟨ob,es,ep,t,k _ _ (.inl rfl) e,c⟩
 | ins C dx fs=>
  obtain⟨d,z,ne,e,mA,⟨od,es,ep,e2,c⟩,r⟩:=x;exact⟨ho _ d,z,ne,k _ _ (.inl rfl) e,mA,⟨od,es,ep,k _ _ (.inr d) e2,c⟩,r⟩
 | own y=>refine q1x1 x λob e=>?_;exact⟨ob,k _ _ (.inl rfl) e⟩
 | xd fs=>obtain⟨mA,⟨od,es,ep,e,c⟩,r⟩:=x;exact⟨mA,⟨od,es,ep,k _ _ (.inl rfl) e,c⟩,r⟩
 | rng lo hi=>obtain⟨t,u,v,e⟩:=x;exact⟨t,u,v,k _ _ (.inl rfl) e⟩
 | frz ob u ih=>refine q0x2 x λe q=>?_;exact⟨k _ _ (.inl rfl) e,ih q⟩
 | tbl ps=>
  have e:h.get? a=Z {cls:=.none,data:=.fields ps}:=x;show h'.get? a=Z {cls:=.none,data:=.fields ps};exact k a _ (.inl rfl) e
 | met f y=>
  have e:h.get? a=Z (VL (.ref f) (.ref y)):=x;show h'.get? a=Z (VL (.ref f) (.ref y));exact k a _ (.inl rfl) e
 | ext φ=>obtain⟨p,⟨o,e⟩,st⟩:=x;exact⟨st _ _ p λo q=>k _ _ (.inl rfl) q,⟨o,k _ _ (.inl rfl) e⟩,st⟩
def jt.lt (x:jt P w H h)(e:H a=Z o):a<h.objs.size:=(x a o e).lt
def jt.fresh (x:jt P w H h)(e:h.objs.size<=a):H a=Y:=by
 cases q:H a with
 | none=>rfl
 | some u=>exact absurd (LB (x.lt q) e) (N8 _)
def jt.kept (x:jt P w H h)(k:∀b u,h.get? b=Z u->h'.get? b=Z u):jt P w H h':=λa o e=>
 (x a o e).stay (λb u _ q=>k b u q) (λ_ q=>q) λ_ _ q=>q
def jt.laid (x:jt P w H h)(k:∀b u,h.get? b=Z u->h'.get? b=Z u)(hp:h.objs.size<=a)(new:cP P w (bG H a o) h' a o):jt P w (bG H a o) h':=λb u e=>by
 have hn:=x.fresh hp
 by_cases hb:b=a
 ·subst hb;rw[bZ] at e;cases e;exact new
 ·rw[au hb] at e;exact(x b u e).stay (λc v _ q=>k c v q) (λc q=>by rw[au (bK q hn)];exact q) λc xs q=>by rw[au (bK q hn)];exact q
end
def Rd (H:Hp)(a:LA)(u:HO):Prop:=H a=Z u\/∃o,H a=Z (.frz o u)
def Rd.ok {a:LA}(r:Rd H a u)(x:jt P w H h):cP P w H h a u:=by
 rcases r with r|⟨o,r⟩
 ·exact x a u r
 ·refine q0x2 (x a _ r) λ_ q=>?_;exact q
def Jv:Option HO->Prop
 | some (.lst _)=>True
 | some (.dK _)=>True
 | some (.dT _)=>True
 | some (.set _ _)=>True
 | some (.ins _ _ _)=>True
 | some (.ext _)=>True
 | _=>False
section
variable {P:Mi}{w:My}{H:Hp}{h h':Nu}{x e:LA}{o':HO}
def jt.write (ok:jt P w H h)(mu:Jv (H x))(he:e=x\/H e=Z (.own x))(k:∀b u,b≠e->h.get? b=Z u->h'.get? b=Z u)(heo:∃u,h'.get? e=Z u)
  (new:cP P w (bG H x o') h' x o'):jt P w (bG H x o') h':=λb u q=>by
 have nown:∀c y,H c=Z (.own y)->c≠x:=λc y r z=>by subst z;rw[r] at mu;exact mu
 have ntup:∀c xs,H c=Z (.tup xs)->c≠x:=λc xs r z=>by subst z;rw[r] at mu;exact mu
 by_cases hb:b=x
 ·subst hb;rw[bZ] at q;cases q;exact new
 ·rw[au hb] at q
  by_cases hbe:b=e
  ·have q':H b=Z (.own x):=by
    rcases he with z|z
    ·exact absurd (hbe.trans z) hb
    ·rw[hbe];exact z
   rw[q] at q';cases q';refine q1x1 heo λv hv=>?_;exact⟨v,by rw[hbe];exact hv⟩
  ·refine(ok b u q).stay (λc v hc r=>k c v ?_ r) (λc r=>by rw[au (nown c b r)];exact r) λc xs r=>by rw[au (ntup c xs r)];exact r
   rcases hc with rfl|hc
   ·exact hbe
   ·rintro rfl;rcases he with z|z
    ·exact nown c b hc z
    ·rw[hc] at z;cases z;exact hb rfl
end
structure Un (fs ex:List LA)(H H':Hp)(h h':Nu):Prop where
 keep:∀b o,h.get? b=Z o->H b=Y->b∉fs->b∉ex->h'.get? b=Z o
 slot:∀b o,h.get? b=Z o->H b=Y->b∈fs->b∉ex->∃sl,h'.get? b=Z {o with slots:=sl}
 free:∀b o,h.get? b=Z o->H b=Y->b∉ex->H' b=Y
 there:∀b o,h.get? b=Z o->b∉ex->∃o',h'.get? b=Z o'
 tups:∀b xs,H b=Z (.tup xs)->H' b=Z (.tup xs)
 frzs:∀b o u,H b=Z (.frz o u)->H' b=Z (.frz o u)
 tbls:∀b ps,H b=Z (.tbl ps)->∃more,H' b=Z (.tbl (ps++more))
section
variable {fs fs' ex ex':List LA}{H H1 H2:Hp}{h h1 h2 h':Nu}{a x e:LA}{o:HO}
def Un.any (u:Un fs ex H H1 h h1)(q:h.get? b=Z ob)(n:H b=Y)(hx:b∉ex):∃sl,h1.get? b=Z {ob with slots:=sl}:=by
 by_cases hb:b∈fs
 ·exact u.slot b ob q n hb hx
 ·exact⟨ob.slots,u.keep b ob q n hb hx⟩
def Un.kept (k:∀b u,h.get? b=Z u->h'.get? b=Z u):Un fs ex H H h h':=
 ⟨λb ob q _ _ _=>k b ob q,λb ob q _ _ _=>⟨ob.slots,k b ob q⟩,λ_ _ _ n _=>n,λb ob q _=>⟨ob,k b ob q⟩,λ_ _ q=>q,λ_ _ _ q=>q,λ_ ps q=>⟨#[],by rw[q];simp⟩⟩
def Un.refl:Un fs ex H H h h:=Un.kept λ_ _ q=>q
def Un.laid (k:∀b u,h.get? b=Z u->h'.get? b=Z u)(hp:h.objs.size<=a)(hn:H a=Y):Un fs ex H (bG H a o) h h' where
 keep:=λb u q _ _ _=>k b u q
 slot:=λb u q _ _ _=>⟨u.slots,k b u q⟩
 free:=λb u q n _=>by rw[au (LR (LB (Lq q) hp))];exact n
 there:=λb u q _=>⟨u,k b u q⟩
 tups:=λb xs q=>by rw[au (bK q hn)];exact q
 frzs:=λb u xs q=>by rw[au (bK q hn)];exact q
 tbls:=λb ps q=>⟨#[],by rw[au (bK q hn),q];simp⟩
def Un.write (mu:Jv (H x))(he:e=x\/H e=Z (.own x))(k:∀b u,b≠e->h.get? b=Z u->h'.get? b=Z u)(heo:∃u,h'.get? e=Z u):Un fs ex H (bG H x o) h h':=by
 have hx:∀b,H b=Y->b≠x:=λb n z=>by subst z;rw[n] at mu;exact mu
 have hb:∀b,H b=Y->b≠e:=λb n z=>by
  subst z;rcases he with r|r
  ·exact hx b n r
  ·rw[n] at r;cases r
 have hm:∀b u,H b=Z u->¬Jv (Z u)->b≠x:=λb u q nm z=>by subst z;rw[q] at mu;exact nm mu
 refine⟨λb u q n _ _=>k b u (hb b n) q,λb u q n _ _=>⟨u.slots,k b u (hb b n) q⟩,λb u q n _=>by rw[au (hx b n)];exact n,λb u q _=>?_,
  λb xs q=>by rw[au (hm b _ q λz=>z)];exact q,λb u xs q=>by rw[au (hm b _ q λz=>z)];exact q,λb ps q=>⟨#[],by rw[au (hm b _ q λz=>z),q];simp⟩⟩
 by_cases hbe:b=e
 ·subst hbe;exact heo
 ·exact⟨u,k b u hbe q⟩
end
def trk (h:Nu)(H:Hp):List LA:=(Lw h.objs.size).filter λa=>(H a).isSome
def rG (h:Nu)(H:Hp):Nu:=Vp h (trk h H)
def xb (h:Nu)(H:Hp):(rG h H).objs.size=h.objs.size:=W.hideAll_size _ _
def zN (e:h.get? b=Z o)(n:H b=Y):(rG h H).get? b=Z o:=
 Sg _ e λhm=>by
  have q:(H b).isSome=true:=(Q8.mp hm).2;rw[n] at q;simp at q
def CV (e:(rG h H).get? b=Z o):h.get? b=Z o/\H b=Y:=by
 have e':h.get? b=Z o:=XB (trk h H) e;refine⟨e',?_⟩;cases q:H b with
 | none=>rfl
 | some x=>
  have hm:b∈trk h H:=Q8.mpr ⟨OJ.mpr (Lq e'),by simp[q]⟩;have z:(rG h H).get? b=Y:=W.hideAll_none (trk h H) hm;rw[z] at e;cases e
def Cq (g h:Nu)(L:LA):List (LA×Obj):=(Lw h.objs.size).filterMap λa=>if a=L\/(g.get? a).isSome=true then Y else(h.get? a).map λo=>(a,o)
def rest (g h:Nu)(L d:LA):List (LA×Obj):=(Cq g h L).filter λp=>decide (p.1≠d)
structure Mod (K:LX)(mg:Str->Option Lk)(base:Nu):Prop where
 kin:K.In base
 glob:base.Ns LV mg
 blt:∃mb,base.Ns Q9 mb/\∀x:Str,x≠"__name__"->mb x=Mp x
 nolimit:base.NoLimit
structure Cx where
 prog:Mi
 w:My
 K:LX
 mg:Str->Option Lk
 base:Nu
 A:MX
 N:List Str
 s₀:Lm
 H₀:Hp
 env:Env
 outer:List Env
 stack:List Env
 ex:List LA
 fn:Str->Bool
 calm:Bool
 pn:List (LA×Obj)
 xe:Lk->Lm->Prop
def mI (l:List Env):List LA:=l.filterMap (·.frame)
abbrev Cx.fs (X:Cx):List LA:=mI X.outer
def Gs (sc:PY)(x:Str):Prop:=sc.names.lookup x=Z .local\/sc.names.lookup x=Z .cell\/sc.names.lookup x=Z .free
def zm (sc:PY)(x:Str):Prop:=sc.names.lookup x=Z .local\/sc.names.lookup x=Z .cell
def J9 (env:Env)(h:Nu)(m:Str->Option Lk)(x:Str)(u:Lk):Prop:=
 (env.kindOf x=Z .local/\m x=Z u)\/((env.kindOf x=Z .cell\/env.kindOf x=Z .free)/\∃c,env.cells.lookup x=Z c/\h.IsCell c (Z u))
structure Cx.Ok (X:Cx):Prop where
 mod:Mod X.K X.mg X.base
 kind:X.env.scope.kind=.function
 glob:X.env.globals=LV
 blt:X.env.builtins=Q9
 above:X.s₀.heap.objs.size<=X.env.locals
 inj:∀x y c,X.env.cells.lookup x=Z c->X.env.cells.lookup y=Z c->x=y
 has:∀x,(X.env.kindOf x=Z .cell\/X.env.kindOf x=Z .free)->∃c,X.env.cells.lookup x=Z c
 cab:∀x c,X.fn x=true->X.env.cells.lookup x=Z c->X.s₀.heap.objs.size<=c
 hd:X.calm=true->X.A.handled=Y
 frames:X.A.frames=Z X.stack
 stk:X.stack=X.outer\/(X.stack=X.env::X.outer/\X.env.frame=Z X.env.locals)
 exf:∀b∈X.ex,b≠X.env.locals/\∀x c,X.env.cells.lookup x=Z c->c≠b
 bs:∀b o,X.base.get? b=Z o->X.s₀.heap.get? b=Z o/\X.H₀ b=Y
 bsz:X.base.objs.size<=X.s₀.heap.objs.size
 noex:∀b o,X.base.get? b=Z o->b∉X.ex
 exfs:∀b∈X.ex,b∉X.fs
 funs:X.s₀.heap.FunFrames X.base X.outer
 frf:∀b∈X.fs,X.H₀ b=Y
structure Inv (X:Cx)(af:List (LA×Obj))(σ:List (Option V))(H:Hp)(s:Lm):Prop where
 ok:X.Ok
 os:s.os=X.s₀.os
 bare:Sa s.gens
 base:Un X.fs X.ex X.H₀ H X.s₀.heap s.heap
 loc:∃m,s.heap.Ns X.env.locals m/\∀(i:Nat) (x:Str) (v:V),X.N[i]?=Z x->σ[i]?=Z (Z v)->Gs X.env.scope x->∃u,bg v u/\J9 X.env s.heap m x u
 cell:∀x c,X.env.cells.lookup x=Z c->∃v,s.heap.IsCell c v
 free:H X.env.locals=Y
 freeC:∀x c,X.env.cells.lookup x=Z c->H c=Y
 pin:∀p∈X.pn++af,s.heap.get? p.1=Z p.2/\H p.1=Y/\p.1≠X.env.locals/\p.1∉X.fs/\∀v,p.2.data≠.cell v
 hok:jt X.prog X.w H s.heap
 len:σ.length=X.N.length
section
variable {X:Cx}{af:List (LA×Obj)}{σ:List (Option V)}{H H':Hp}{s:Lm}{h':Nu}
def Cx.Ok.nofr (ok:X.Ok)(e:X.base.get? b=Z o):b∉X.fs:=λhb=>by
 have:=(ok.funs.mem hb).1;rw[e] at this;cases this
def Inv.bs (I:Inv X af σ H s):∀b o,X.base.get? b=Z o->s.heap.get? b=Z o/\H b=Y:=λb o e=>
 ⟨I.base.keep b o (I.ok.bs b o e).1 (I.ok.bs b o e).2 (I.ok.nofr e) (I.ok.noex b o e),I.base.free b o (I.ok.bs b o e).1 (I.ok.bs b o e).2 (I.ok.noex b o e)⟩
def Inv.bk (I:Inv X af σ H s):∀b o,X.base.get? b=Z o->s.heap.get? b=Z o:=λb o e=>(I.bs b o e).1
def Inv.mod (I:Inv X af σ H s):Mod X.K X.mg X.base:=I.ok.mod
def Inv.kIn (I:Inv X af σ H s):X.K.In s.heap:=I.ok.mod.kin.keeps I.bk
def Inv.lt (I:Inv X af σ H s):X.env.locals<s.heap.objs.size:=let ⟨_,hn,_⟩:=I.loc;hn.lt
def Inv.sz (I:Inv X af σ H s):X.s₀.heap.objs.size<=s.heap.objs.size:=LG I.ok.above (Np I.lt)
def Inv.nofs (I:Inv X af σ H s){a:LA}(h:s.heap.objs.size<=a):a∉X.fs:=λhb=>by
 obtain⟨_,o,ho,_⟩:=I.ok.funs.mem hb;exact absurd (LB (Lq ho) (LG I.sz h)) (N8 _)
def Inv.cne (I:Inv X af σ H s):∀x c,X.env.cells.lookup x=Z c->c≠X.env.locals:=λx c e z=>by
 refine q2x2 (I.cell x c e) λv o ho hd=>?_;obtain⟨m,⟨o',es,ep,ho',hd',_⟩,_⟩:=I.loc;rw[z,ho'] at ho;cases ho;rw[hd'] at hd;cases hd
def Inv.funs (I:Inv X af σ H s):s.heap.FunFrames X.base X.outer:=by
 have all:∀(l:List Env),(∀b∈mI l,b∈X.fs)->X.s₀.heap.FunFrames X.base l->s.heap.FunFrames X.base l:=by
  intro l
  induction l with
  | nil=>intro _ _;trivial
  | cons env r ih=>
   intro hs hl;obtain⟨hk,⟨L,o,hf,hn,ho,hd⟩,hr⟩:=hl;have hL:L∈X.fs:=hs L (by unfold mI;rw[Tq,hf];exact Lz);refine q1x1 (I.base.slot L o ho (I.ok.frf L hL) hL λz=>I.ok.exfs L z hL) λsl e=>?_
   exact⟨hk,⟨L,_,hf,hn,e,hd⟩,ih (λb hb=>hs b (by unfold mI;rw[Tq,hf];exact LH _ hb)) hr⟩
 exact all X.outer (λ_ hb=>hb) I.ok.funs
def Inv.stack (I:Inv X af σ H s):s.heap.FunFrames X.base X.stack:=by
 rcases I.ok.stk with e|⟨e,hf⟩
 ·rw[e];exact I.funs
 ·rw[e];refine q1x2 I.loc λm hn _=>?_;refine .cons (by rw[I.ok.kind];decide) hf hn ?_ I.funs;exact Heap.get?_none_of_le (LG I.ok.bsz I.ok.above)
def Inv.stkSub (I:Inv X af σ H s):∀b∈mI X.stack,b∈X.env.locals::X.fs:=λb hb=>by
 rcases I.ok.stk with e|⟨e,hf⟩
 ·rw[e] at hb;exact LH _ hb
 ·rw[e] at hb;unfold mI at hb;rw[Tq,hf] at hb;exact hb
def Inv.stkFree (I:Inv X af σ H s):∀b∈mI X.stack,H b=Y:=λb hb=>by
 rcases L1.mp (I.stkSub b hb) with e|hb
 ·rw[e];exact I.free
 ·obtain⟨_,o,ho,_⟩:=I.ok.funs.mem hb;exact I.base.free b o ho (I.ok.frf b hb) λz=>I.ok.exfs b z hb
def Inv.step {ch:List LA}(I:Inv X af σ H s)
  (hch:∀b∈ch,(b∈X.ex\/X.s₀.heap.objs.size<=b)/\b≠X.env.locals/\(∀x c,X.env.cells.lookup x=Z c->c≠b)/\∀p∈X.pn++af,p.1≠b)
  (keep:∀b o,b≠X.env.locals->b∉X.fs->b∉ch->s.heap.get? b=Z o->H b=Y->h'.get? b=Z o)
  (slot:∀b o,b≠X.env.locals->b∈X.fs->b∉ch->s.heap.get? b=Z o->H b=Y->∃sl,h'.get? b=Z {o with slots:=sl}) (free:∀b o,b∉ch->s.heap.get? b=Z o->H b=Y->H' b=Y)
  (there:∀b o,b∉ch->s.heap.get? b=Z o->∃o',h'.get? b=Z o')
  (tups:∀b xs,H b=Z (.tup xs)->H' b=Z (.tup xs)) (frzs:∀b o u,H b=Z (.frz o u)->H' b=Z (.frz o u)) (tbls:∀b ps,H b=Z (.tbl ps)->∃more,H' b=Z (.tbl (ps++more)))
  (ns:∀m,s.heap.Ns X.env.locals m->h'.Ns X.env.locals m) (hok:jt X.prog X.w H' h') (hg:Sa g') :
  Inv X af σ H' {s with heap:=h',gens:=g',drawn:=d',toks:=t'}:=by
 have neL:∀b o,X.s₀.heap.get? b=Z o->b≠X.env.locals:=λb o e=>LR (LB (Lq e) I.ok.above)
 have neC:∀b o,X.s₀.heap.get? b=Z o->b∉X.ex->b∉ch:=λb o e hx hb=>by
  rcases(hch b hb).1 with z|z
  ·exact hx z
  ·exact absurd (LB (Lq e) z) (N8 _)
 have cellK:∀x c,X.env.cells.lookup x=Z c->∀v,s.heap.IsCell c v->h'.IsCell c v:=λx c e v hxx=>by
  refine q1x2 hxx λo ho hd=>?_;have nch:c∉ch:=λz=>(hch c z).2.2.1 x c e rfl
  by_cases hc:c∈X.fs
  ·refine q1x1 (slot c o (I.cne x c e) hc nch ho (I.freeC x c e)) λsl q=>?_;exact⟨_,q,hd⟩
  ·exact⟨o,keep c o (I.cne x c e) hc nch ho (I.freeC x c e),hd⟩
 refine⟨I.ok,I.os,hg,⟨λb o e n hb hx=>?_,λb o e n hb hx=>?_,λb o e n hx=>?_,λb o e hx=>?_,λb xs e=>tups b xs (I.base.tups b xs e),λb o xs e=>frzs b o xs (I.base.frzs b o xs e),λb ps e=>?_⟩,?_,λx c e=>?_,?_,λx c e=>?_,λp hp=>?_,hok,I.len⟩
 ·exact keep b o (neL b o e) hb (neC b o e hx) (I.base.keep b o e n hb hx) (I.base.free b o e n hx)
 ·refine q1x1 (I.base.slot b o e n hb hx) λsl e1=>?_;refine q1x1 (slot b _ (neL b o e) hb (neC b o e hx) e1 (I.base.free b o e n hx)) λsl' e2=>?_;exact⟨sl',e2⟩
 ·refine q1x1 (I.base.there b o e hx) λo' e1=>?_;exact free b o' (neC b o e hx) e1 (I.base.free b o e n hx)
 ·refine q1x1 (I.base.there b o e hx) λo' e1=>?_;exact there b o' (neC b o e hx) e1
 ·refine q1x1 (I.base.tbls b ps e) λm1 e1=>?_;refine q1x1 (tbls b _ e1) λm2 e2=>?_;exact⟨m1++m2,by rw[e2,Array.append_assoc]⟩
 ·refine q1x2 I.loc λm hn hl=>?_;refine⟨m,ns m hn,λi x v e1 e2 e3=>?_⟩;refine q1x2 (hl i x v e1 e2 e3) λu r l=>?_;refine⟨u,r,?_⟩;rcases l with l|⟨k,c,e,z⟩
  ·exact .inl l
  ·exact .inr ⟨k,c,e,cellK x c e _ z⟩
 ·refine q1x1 (I.cell x c e) λv z=>?_;exact⟨v,cellK x c e v z⟩
 ·obtain⟨m,⟨o,_,_,ho,_⟩,_⟩:=I.loc;exact free _ o (λz=>(hch _ z).2.1 rfl) ho I.free
 ·refine q2x2 (I.cell x c e) λv o ho hd=>?_;exact free c o (λz=>(hch c z).2.2.1 x c e rfl) ho (I.freeC x c e)
 ·refine q0x5 (I.pin p hp) λe n ne nf d=>?_;have nch:p.1∉ch:=λz=>(hch p.1 z).2.2.2 p hp rfl
  exact⟨keep p.1 p.2 ne nf nch e n,free p.1 p.2 nch e n,ne,nf,d⟩
def Inv.un (I:Inv X af σ H s)(u:Un X.fs [] H H' s.heap h')(hok:jt X.prog X.w H' h'):Inv X af σ H' {s with heap:=h',toks:=t'}:=by
 obtain⟨m,⟨o,es,ep,ho,r⟩,_⟩:=id I.loc;refine q1x1 (u.any ho I.free (by simp)) λsl hL=>?_;exact I.step (g':=s.gens) (d':=s.drawn) (ch:=[]) (λ_ z=>nomatch z) (λb o _ hb _ e n=>u.keep b o e n hb (by simp)) (λb o _ hb _ e n=>u.slot b o e n hb (by simp)) (λb o _ e n=>u.free b o e n (by simp)) (λb o _ e=>u.there b o e (by simp)) u.tups u.frzs u.tbls (λm' hm=>by
  refine q3x2 hm λo' es' ep' ho' r'=>?_;rw[ho] at ho';cases ho';exact⟨_,es',ep',hL,r'⟩) hok I.bare
def Inv.call (I:Inv X af σ H s)(u:Un (mI X.stack) ch H H' s.heap h')(hok:jt X.prog X.w H' h')(hg:Sa g')
  (hch:∀b∈ch,(b∈X.ex\/X.s₀.heap.objs.size<=b)/\b≠X.env.locals/\(∀x c,X.env.cells.lookup x=Z c->c≠b)/\∀p∈X.pn++af,p.1≠b) :
  Inv X af σ H' {s with heap:=h',gens:=g',drawn:=d',toks:=t'}:=by
 obtain⟨m,⟨o,es,ep,ho,r⟩,_⟩:=id I.loc;refine q1x1 (u.any ho I.free λz=>(hch _ z).2.1 rfl) λsl hL=>?_
 exact I.step (ch:=ch) hch (λb o hL hb hc e n=>u.keep b o e n (λz=>(L1.mp (I.stkSub b z)).elim hL hb) hc) (λb o _ _ hc e n=>u.any e n hc) (λb o hc e n=>u.free b o e n hc) (λb o hc e=>u.there b o e hc) u.tups u.frzs u.tbls (λm' hm=>by
  refine q3x2 hm λo' es' ep' ho' r'=>?_;rw[ho] at ho';cases ho';exact⟨_,es',ep',hL,r'⟩) hok hg
def Inv.turned (I:Inv X af σ H s)(k:∀b o,b≠it->s.heap.get? b=Z o->h'.get? b=Z o)(hn:H it=Y)(hL:it≠X.env.locals)
  (h1:it∈X.ex\/X.s₀.heap.objs.size<=it) (h2:∀x c,X.env.cells.lookup x=Z c->c≠it) (h3:∀p∈X.pn++af,p.1≠it):Inv X af σ H {s with heap:=h',toks:=t'}:=by
 have nit:∀b u,H b=Z u->b≠it:=λb u e z=>by rw[z,hn] at e;cases e
 refine I.step (g':=s.gens) (d':=s.drawn) (ch:=[it]) (λb hb=>?_) (λb o _ _ hc e _=>k b o (λz=>hc (by simp[z])) e) (λb o _ _ hc e _=>⟨o.slots,k b o (λz=>hc (by simp[z])) e⟩) (λ_ _ _ _ n=>n)
  (λb o hc e=>⟨o,k b o (λz=>hc (by simp[z])) e⟩) (λ_ _ e=>e) (λ_ _ _ e=>e) (λb ps e=>⟨#[],by rw[e];simp⟩) (λm hm=>?_) (λb u e=>?_) I.bare
 ·have e:b=it:=by simpa using hb
  subst e;exact⟨h1,hL,h2,h3⟩
 ·refine q3x2 hm λo es ep ho r=>?_;exact⟨o,es,ep,k _ o (NL hL) ho,r⟩
 ·refine(I.hok b u e).stay (λc v hc q=>k c v ?_ q) (λ_ q=>q) λ_ _ q=>q
  rcases hc with z|z
  ·rw[z];exact nit b u e
  ·exact nit c _ z
def Inv.tok (I:Inv X af σ H s)(t:Nat):Inv X af σ H {s with toks:=t}:=I.un (h':=s.heap) (t':=t) Un.refl I.hok
def Inv.kept (I:Inv X af σ H s)(k:∀b u,s.heap.get? b=Z u->h'.get? b=Z u):Inv X af σ H {s with heap:=h',toks:=t'}:=I.un (Un.kept k) (I.hok.kept k)
def Inv.laid {a:LA}(I:Inv X af σ H s)(k:∀b u,s.heap.get? b=Z u->h'.get? b=Z u)(hp:s.heap.objs.size<=a)(new:cP X.prog X.w (bG H a o) h' a o) :
  Inv X af σ (bG H a o) {s with heap:=h',toks:=t'}:=I.un (Un.laid k hp (I.hok.fresh hp)) (I.hok.laid k hp new)
def Inv.write (I:Inv X af σ H s)(mu:Jv (H x))(he:e=x\/H e=Z (.own x))(k:∀b u,b≠e->s.heap.get? b=Z u->h'.get? b=Z u)(heo:∃u,h'.get? e=Z u)
  (new:cP X.prog X.w (bG H x o) h' x o):Inv X af σ (bG H x o) {s with heap:=h',toks:=t'}:=I.un (Un.write mu he k heo) (I.hok.write mu he k heo new)
def Inv.pins_of (I:Inv X af σ H s)(h:∀p∈pins',s.heap.get? p.1=Z p.2/\H p.1=Y/\p.1≠X.env.locals/\p.1∉X.fs/\∀v,p.2.data≠.cell v):Inv X pins' σ H s:=
 ⟨I.ok,I.os,I.bare,I.base,I.loc,I.cell,I.free,I.freeC,λp hp=>(MR.mp hp).elim (λz=>I.pin p (Ml _ z)) (h p),I.hok,I.len⟩
def sJ {N:List Str}(hN:N.Nodup){i j:Nat}(a:N[i]?=Z x)(b:N[j]?=Z x):i=j:=by
 refine q1x1 (Lj.mp a) λh1 e1=>?_;refine q1x1 (Lj.mp b) λh2 e2=>?_;exact(getElem_inj hN).mp (e1.trans e2.symm)
def mS (I:Inv X af σ H s)(hN:X.N.Nodup)(hi:X.N[i]?=Z x)(hx:zm X.env.scope x)(r:bg v u)
  (h:∀s',Inv X af (σ.set i (Z v)) H s'->(∃a,Nh a s.heap s'.heap/\(a=X.env.locals\/X.env.cells.lookup x=Z a))->Q () s') (hf:X.fn x=true\/X.env.scope.names.lookup x=Z .local:=by first|exact .inl rfl|exact .inr rfl|assumption):Lp M A (storeName X.env x u) Q E s:=by
 refine q1x2 (id I.loc) λm hn hl=>?_;have hcls:(X.env.scope.kind==.class||(X.env.scope.kind==.module&&X.env.locals != X.env.globals))=false:=by rw[I.ok.kind];rfl
 have hiσ:i<σ.length:=by rw[I.len];exact(Lj.mp hi).1
 have cne:=I.cne;have tracked:∀{a:LA} {h':Nu},(∃o,s.heap.get? a=Z o/\H a=Y)->Nh a s.heap h'->jt X.prog X.w H h':=λ{a h'} ha hs b ob e=>by
  refine q1x2 ha λ_ _ hfree=>?_;refine(I.hok b ob e).stay (λc w' hc q=>(hs.2 c ?_).trans q) (λ_ q=>q) λ_ _ q=>q
  rintro rfl;rcases hc with rfl|hc
  ·rw[hfree] at e;cases e
  ·rw[hfree] at hc;cases hc
 rcases hx with hk|hk
 ·refine wpAny_storeName_local hk hn (λh' hn' hs=>?_) hcls;refine q3x2 (id hn) λoL _ _ hoL _=>?_;refine h _ ⟨I.ok,I.os,I.bare,⟨λb o e n hb hx=>?_,λb o e n hb hx=>?_,I.base.free,λb o e hx=>?_,I.base.tups,I.base.frzs,I.base.tbls⟩,⟨_,hn',λj y v' e1 e2 e3=>?_⟩,λy c e=>?_,I.free,I.freeC,λp hp=>?_,tracked ⟨oL,hoL,I.free⟩ hs,by simpa using I.len⟩ ⟨_,hs,.inl rfl⟩
  ·exact(hs.2 b (LR (LB (Lq e) I.ok.above))).trans (I.base.keep b o e n hb hx)
  ·refine q1x1 (I.base.slot b o e n hb hx) λsl e1=>?_;exact⟨sl,(hs.2 b (LR (LB (Lq e) I.ok.above))).trans e1⟩
  ·refine q1x1 (I.base.there b o e hx) λo' e1=>?_;exact⟨o',(hs.2 b (LR (LB (Lq e) I.ok.above))).trans e1⟩
  ·by_cases hj:j=i
   ·subst hj;rw[hi] at e1;cases e1;rw[UX hiσ] at e2;cases e2;exact⟨u,r,.inl ⟨hk,by simp⟩⟩
   ·rw[VY (NL hj)] at e2;refine q1x2 (hl j y v' e1 e2 e3) λu' r' q=>?_;refine⟨u',r',?_⟩;rcases q with⟨k,e⟩|⟨k,c,e,z⟩
    ·refine .inl ⟨k,?_⟩;have:y≠x:=λe=>hj (sJ hN e1 (e▸hi))
     simp[this,e]
    ·exact .inr ⟨k,c,e,z.sameBut hs (cne y c e)⟩
  ·refine q1x1 (I.cell y c e) λw' z=>?_;exact⟨w',z.sameBut hs (cne y c e)⟩
  ·refine q0x5 (I.pin p hp) λe n ne nf d=>?_;exact⟨(hs.2 p.1 ne).trans e,n,ne,nf,d⟩
 ·have hfn:X.fn x=true:=by
   rcases hf with z|z
   ·exact z
   ·rw[z] at hk;cases hk
  refine q1x1 (I.ok.has x (.inl hk)) λc hc=>?_;refine q1x1 (I.cell x c hc) λw' z=>?_;refine wpAny_storeName_cell I.ok.kind hk hc z (λh' hc' hs=>?_);refine q1x2 (id z) λoc hoc hocd=>?_;refine h {s with heap:=h'} ⟨I.ok,I.os,I.bare,⟨λb o e n hb hx=>?_,λb o e n hb hx=>?_,I.base.free,λb o e hx=>?_,I.base.tups,I.base.frzs,I.base.tbls⟩,⟨m,hn.sameBut hs (NL (cne x c hc)),λj y v' e1 e2 e3=>?_⟩,λy c' e=>?_,I.free,I.freeC,λp hp=>?_,tracked ⟨oc,hoc,I.freeC x c hc⟩ hs,by simpa using I.len⟩ ⟨c,hs,.inr hc⟩
  ·exact(hs.2 b (LR (LB (Lq e) (I.ok.cab x c hfn hc)))).trans (I.base.keep b o e n hb hx)
  ·refine q1x1 (I.base.slot b o e n hb hx) λsl e1=>?_;exact⟨sl,(hs.2 b (LR (LB (Lq e) (I.ok.cab x c hfn hc)))).trans e1⟩
  ·refine q1x1 (I.base.there b o e hx) λo' e1=>?_;exact⟨o',(hs.2 b (LR (LB (Lq e) (I.ok.cab x c hfn hc)))).trans e1⟩
  ·by_cases hj:j=i
   ·subst hj;rw[hi] at e1;cases e1;rw[UX hiσ] at e2;cases e2;exact⟨u,r,.inr ⟨.inl hk,c,hc,hc'⟩⟩
   ·rw[VY (NL hj)] at e2;refine q1x2 (hl j y v' e1 e2 e3) λu' r' q=>?_;refine⟨u',r',?_⟩;rcases q with q|⟨k,c',e,z'⟩
    ·exact .inl q
    ·refine .inr ⟨k,c',e,z'.sameBut hs ?_⟩;rintro rfl;exact hj (sJ hN e1 (I.ok.inj _ _ _ e hc▸hi))
  ·by_cases hcc:c'=c
   ·subst hcc;exact⟨_,hc'⟩
   ·refine q1x1 (I.cell y c' e) λw2 z2=>?_;exact⟨w2,z2.sameBut hs hcc⟩
  ·refine q0x5 (I.pin p hp) λe n ne nf d=>?_;refine⟨(hs.2 p.1 ?_).trans e,n,ne,nf,d⟩;intro q;rw[q,hoc] at e;have q':oc=p.2:=LZ e;exact d w' (by rw[<-q'];exact hocd)
def uf (I:Inv X af σ H s)(hN:X.N.Nodup)(hi:X.N[i]?=Z x)(hx:zm X.env.scope x)(r:bg v u)
  (h:∀s',Inv X af (σ.set i (Z v)) H s'->Q () s') (hf:X.fn x=true\/X.env.scope.names.lookup x=Z .local:=by first|exact .inl rfl|exact .inr rfl|assumption):Lp M A (storeName X.env x u) Q E s:=
 mS I hN hi hx r (λs' I' _=>h s' I') hf
def Inv.call' (I:Inv X af σ H s)(ho:s'.os=s.os)(u:Un (mI X.stack) ch H H' s.heap s'.heap)(hok:jt X.prog X.w H' s'.heap)(hg:Sa s'.gens)
  (hch:∀b∈ch,(b∈X.ex\/X.s₀.heap.objs.size<=b)/\b≠X.env.locals/\(∀x c,X.env.cells.lookup x=Z c->c≠b)/\∀p∈X.pn++af,p.1≠b):Inv X af σ H' s':=by
 obtain⟨h',g',d',t',o'⟩:=s';have e:o'=s.os:=ho;subst e;exact I.call (g':=g') (t':=t') (d':=d') u hok hg hch
end
abbrev XK:=Lk->Option LA->Hp->Prop
abbrev St:=List (Option V)
abbrev VK:=V->Hp->Prop
abbrev TE:=St->Hp->VK->Prop
abbrev TT:=St->Hp->(Bool->Hp->Prop)->Prop
abbrev TA:=St->Hp->(List V->Hp->Prop)->Prop
structure xK where
 nx:St->Hp->Prop
 rt:VK
 bk:St->Hp->Prop:=λ_ _=>False
 ct:St->Hp->Prop:=λ_ _=>False
abbrev TS:=xK->St->Hp->Prop
def EP (X:Cx)(af:List (LA×Obj))(σ:St)(Q:VK)(u:Lk)(s':Lm):Prop:=∃v H',Inv X af σ H' s'/\bg v u/\Q v H'
def TP (X:Cx)(af:List (LA×Obj))(σ:St)(Q:Bool->Hp->Prop)(b:Bool)(s':Lm):Prop:=∃H',Inv X af σ H' s'/\Q b H'
def AP (X:Cx)(af:List (LA×Obj))(σ:St)(Q:List V->Hp->Prop)(us:List Lk)(s':Lm):Prop:=∃vs H',Inv X af σ H' s'/\aS vs us/\Q vs H'
def SP (X:Cx)(af:List (LA×Obj))(D:xK)(f:Flow)(s':Lm):Prop:=
 match f with
 | .next=>∃σ' H',Inv X af σ' H' s'/\D.nx σ' H'
 | .brk=>∃σ' H',Inv X af σ' H' s'/\D.bk σ' H'
 | .cont=>∃σ' H',Inv X af σ' H' s'/\D.ct σ' H'
 | .ret u=>∃v σ' H',Inv X af σ' H' s'/\bg v u/\D.rt v H'
def PE (X:Cx)(e:MT)(t:TE):Prop:=
 ∀(af:List (LA×Obj)) (s:Lm) (σ:St) (H:Hp) (Q:VK),Inv X af σ H s->t σ H Q->Lp (LD X.prog X.w) X.A (Ou e X.env) (EP X af σ Q) X.xe s
def PT (X:Cx)(e:MT)(t:TT):Prop:=
 ∀(af:List (LA×Obj)) (s:Lm) (σ:St) (H:Hp) (Q:Bool->Hp->Prop),Inv X af σ H s->t σ H Q->Lp (LD X.prog X.w) X.A (SM e X.env (Ou e X.env)) (TP X af σ Q) X.xe s
def PW (X:Cx)(e:MT)(t:TT):Prop:=
 ∀(whole:Sem Lk) (af:List (LA×Obj)) (s:Lm) (σ:St) (H:Hp) (Q:Bool->Hp->Prop),Inv X af σ H s->t σ H Q->Lp (LD X.prog X.w) X.A (SM e X.env whole) (TP X af σ Q) X.xe s
def PW.pt {t:TT}(h:PW X e t):PT X e t:=h _
def PA (X:Cx)(es:List MT)(t:TA):Prop:=
 ∀(pos:Pos) (af:List (LA×Obj)) (s:Lm) (σ:St) (H:Hp) (Q:List V->Hp->Prop),Inv X af σ H s->t σ H Q->Lp (LD X.prog X.w) X.A (YG (P6 pos (Mt es X.env))) (AP X af σ Q) X.xe s
def PS (X:Cx)(st:P5)(t:TS):Prop:=
 ∀(af:List (LA×Obj)) (s:Lm) (σ:St) (H:Hp) (D:xK),Inv X af σ H s->t D σ H->Lp (LD X.prog X.w) X.A (exec st X.env) (SP X af D) X.xe s
def PSs (X:Cx)(st:List P5)(t:TS):Prop:=
 ∀(af:List (LA×Obj)) (s:Lm) (σ:St) (H:Hp) (D:xK),Inv X af σ H s->t D σ H->Lp (LD X.prog X.w) X.A (execs st X.env) (SP X af D) X.xe s
def bR {t:Sem α}{Q Q':α->Lm->Prop}(h:Lp M A t Q E s)(hQ:∀a s,Q a s->Q' a s):Lp M A t Q' E s:=MY h hQ λ_ _ x=>x
section
variable {X:Cx}
def Jb (i:Nat):TE:=λσ H Q=>∃v,σ[i]?=Z (Z v)/\Q v H
def tC (v:V):TE:=λ_ H Q=>Q v H
def EN (hN:X.N[i]?=Z x)(hv:Gs X.env.scope x)(hd:(x==("__debug__":Str))=false:=by decide)(hcd:(x==("__classdict__":Str))=false:=by decide):PE X (.Name x pos) (Jb i):=by
 intro af s σ H Q I h;refine q1x2 h λv e h=>?_;refine q1x2 I.loc λm hn hl=>?_;refine q1x2 (hl i x v hN e hv) λu r l=>?_;have fin:EP X af σ Q u s:=⟨v,H,I,r,h⟩;rcases l with⟨hk,hm⟩|⟨hk,c,hc,hcell⟩
 ·exact Wn (wpAny_loadName_local I.ok.kind hk hn hm fin) hd
 ·rcases hk with hk|hk
  ·exact Wn (wpAny_loadName_cell I.ok.kind hk hc hcell fin) hd
  ·exact Wn (wpAny_loadName_free I.ok.kind hk hc hcell fin hcd) hd
def AK {i j pos}:PE X (.Constant (.int i) j pos) (tC (.int i)):=λ_ _ _ H _ I h=>wpAny_Constant_int ⟨.int i,H,I.tok _,⟨_,rfl⟩,h⟩
def Ir {b j pos}:PE X (.Constant (.bool b) j pos) (tC (.bl b)):=λ_ _ _ H _ I h=>Constant_bool ⟨.bl b,H,I,rfl,h⟩
def Fu {j pos}:PE X (.Constant .none j pos) (tC .non):=λ_ _ _ H _ I h=>Constant_none ⟨.non,H,I,rfl,h⟩
def E7 {x j pos}:PE X (.Constant (.str x) j pos) (tC (.str x)):=λ_ _ _ H _ I h=>Calls.Constant_str ⟨.str x,H,I.tok _,⟨_,rfl⟩,h⟩
def Gl (X:Cx)(x:Str):Prop:=X.env.kindOf x=Z .globalImplicit
def CO (I:Inv X af σ H s)(hg:Gl X x)(hm:X.mg x=Z u)(h:Q u s)
  (hd:(x==("__debug__":Str))=false:=by decide):Lp (LD X.prog X.w) X.A (Ou (.Name x pos) X.env) Q E s:=
 RP I.ok.kind hg (Calls.loadGlobal_global (by rw[I.ok.glob];exact I.mod.glob.keeps I.bk) hm h) hd
def iI (I:Inv X af σ H s)(hg:Gl X x)(hm:X.mg x=Y)(hv:Mp x=Z u)(h:Q u s)
  (hn:x≠"__name__":=by decide) (hd:(x==("__debug__":Str))=false:=by decide):Lp (LD X.prog X.w) X.A (Ou (.Name x pos) X.env) Q E s:=by
 refine q1x2 I.mod.blt λmb h1 h2=>?_;exact RP I.ok.kind hg (Calls.loadGlobal_builtin (by rw[I.ok.glob];exact I.mod.glob.keeps I.bk) hm (by rw[I.ok.blt];exact h1.keeps I.bk) ((h2 x hn).trans hv) h) hd
def BY (hg:Gl X x)(hm:X.mg x=Y)(hv:Mp x=Z u)(r:bg v u)(hn:x≠"__name__":=by decide)(hd:(x==("__debug__":Str))=false:=by decide):PE X (.Name x pos) (tC v):=
 λ_ _ _ H _ I h=>iI I hg hm hv ⟨v,H,I,r,h⟩ hn hd
variable {a b:MT}{ta tb:TE}{pos:Pos}
variable {tA tB':TT}{rest:List MT}
def JH (t u:TT):TT:=λσ H Q=>t σ H λc H1=>if c=true then u σ H1 Q else Q false H1
def K2 (t u:TT):TT:=λσ H Q=>t σ H λc H1=>if c=true then Q true H1 else u σ H1 Q
def KA (t:TT):TT:=λσ H Q=>t σ H λc H1=>Q (!c) H1
def Cg (ha:PT X a tA):PW X (.BoolOp .And [a] pos) tA:=by
 intro wh af s σ H Q I h;refine isTrue_and (bR (ha af s σ H Q I h) λc s1 e=>?_);cases c with
 | true=>exact isTrue_and_nil e
 | false=>exact e
def E2 (ha:PT X a tA):PW X (.BoolOp .Or [a] pos) tA:=by
 intro wh af s σ H Q I h;refine isTrue_or (bR (ha af s σ H Q I h) λc s1 e=>?_);cases c with
 | false=>exact isTrue_or_nil e
 | true=>exact e
def EY (ha:PT X a tA)(hb:PW X (.BoolOp .And (b::rest) pos) tB'):PW X (.BoolOp .And (a::b::rest) pos) (JH tA tB'):=by
 intro wh af s σ H Q I h;refine isTrue_and (bR (ha af s σ H _ I h) λc s1 hxx=>?_);refine q1x2 hxx λH1 I1 q1=>?_;cases c with
 | true=>exact hb wh af s1 σ H1 Q I1 q1
 | false=>exact⟨H1,I1,q1⟩
def Iu (ha:PT X a tA)(hb:PW X (.BoolOp .Or (b::rest) pos) tB'):PW X (.BoolOp .Or (a::b::rest) pos) (K2 tA tB'):=by
 intro wh af s σ H Q I h;refine isTrue_or (bR (ha af s σ H _ I h) λc s1 hxx=>?_);refine q1x2 hxx λH1 I1 q1=>?_;cases c with
 | true=>exact⟨H1,I1,q1⟩
 | false=>exact hb wh af s1 σ H1 Q I1 q1
def Eo (ha:PT X a tA):PT X (.UnaryOp .Not a pos) (KA tA):=by
 intro af s σ H Q I h;exact isTrue_not (ha af s σ H (λc H1=>Q (!c) H1) I h)
def K5 (t:TT)(ta tb:TE):TE:=λσ H Q=>t σ H λc H1=>if c=true then ta σ H1 Q else tb σ H1 Q
def zK (hc:PT X c tA)(ha:PE X a ta)(hb:PE X b tb):PE X (.IfExp c a b pos) (K5 tA ta tb):=by
 intro af s σ H Q I h;refine wpAny_IfExp (bR (hc af s σ H _ I h) λd s1 hxx=>?_);refine q1x2 hxx λH1 I1 q1=>?_;cases d with
 | true=>exact ha af s1 σ H1 Q I1 q1
 | false=>exact hb af s1 σ H1 Q I1 q1
end
def gG (K:LX)(H:Hp)(a:LA)(xs:List V):Prop:=
 Rd H a (.lst xs)\/
  ∃(o:Obj) (its:Array Lk) (n:Nat),K.lookup a=Z o/\o.cls=.type "list"/\o.dict=Y/\o.data=.seq its n/\its.size<=LW/\aS xs its.toList
def nH (K:LX)(H:Hp)(a:LA)(xs:List V):Prop:=
 Rd H a (.tup xs)\/
  ∃(o:Obj) (its:Array Lk) (n:Nat),K.lookup a=Z o/\o.cls=.type "tuple"/\o.data=.seq its n/\its.size<=LW/\aS xs its.toList
def KU:Lk->Option V
 | .none=>Z .non
 | .bool b=>Z (.bl b)
 | .int i _=>Z (.int i)
 | .str x _=>Z (.str x)
 | .bytes b _=>Z (.byt b)
 | .float b _=>Z (.flt b)
 | .ref a=>Z (.ref a)
 | .type n=>Z (.ty n)
 | _=>Y
def bg.abs (r:bg x u):KU u=Z x:=by
 cases x with
 | non=>cases r;rfl
 | bl _=>cases r;rfl
 | int _=>refine q1x1 r λt zz1=>?_;subst zz1;rfl
 | str _=>refine q1x1 r λt zz1=>?_;subst zz1;rfl
 | byt _=>refine q1x1 r λt zz1=>?_;subst zz1;rfl
 | flt _=>refine q1x1 r λt zz1=>?_;subst zz1;rfl
 | ref _=>cases r;rfl
 | ty _=>cases r;rfl
def bg.inj (r:bg x u)(q:bg y u):x=y:=LZ (r.abs.symm.trans q.abs)
theorem aS.inj:∀{xs ys:List V} {us:List Lk},aS xs us->aS ys us->xs=ys
 | _,_,_,.nil,.nil=>rfl
 | _,_,_,.cons r t,.cons r' t'=>by rw[r.inj r',aS.inj t t']
section
variable {X:Cx}{af:List (LA×Obj)}{σ:St}{H:Hp}{s:Lm}{a:LA}{xs ys:List V}
def Inv.list (I:Inv X af σ H s)(h:gG X.K H a xs):∃its:List Lk,aS xs its/\PlainL s.heap a its.toArray/\xs.length<=LW:=by
 rcases h with h|⟨o,its,n,hk,hc,hd,hs,hz,r⟩
 ·obtain⟨z,its,n,r,e⟩:=h.ok I.hok;exact⟨its,r,⟨_,n,e,rfl,rfl,rfl⟩,z⟩
 ·refine⟨its.toList,r,⟨o,n,I.kIn a o hk,hc,hd,by simpa using hs⟩,?_⟩;have e:=r.length;simp only[Ln] at e;omega
def Inv.tuple (I:Inv X af σ H s)(h:nH X.K H a xs):∃its:List Lk,aS xs its/\VJ s.heap a its.toArray/\xs.length<=LW:=by
 rcases h with h|⟨o,its,n,hk,hc,hs,hz,r⟩
 ·obtain⟨z,its,r,p⟩:=h.ok I.hok;exact⟨its,r,p,z⟩
 ·refine⟨its.toList,r,⟨o,I.kIn a o hk,hc,n,by simpa using hs⟩,?_⟩;have e:=r.length;simp only[Ln] at e;omega
def Inv.list_inj (I:Inv X af σ H s)(h:gG X.K H a xs)(h':gG X.K H a ys):xs=ys:=by
 obtain⟨its,r,⟨o,n,e,_,_,d⟩,_⟩:=I.list h;obtain⟨its',r',⟨o',n',e',_,_,d'⟩,_⟩:=I.list h';rw[e] at e';cases e';rw[d] at d';injection d' with d1 _
 have:its=its':=by simpa using congrArg XC d1
 subst this;exact r.inj r'
def Inv.tuple_inj (I:Inv X af σ H s)(h:nH X.K H a xs)(h':nH X.K H a ys):xs=ys:=by
 obtain⟨its,r,⟨o,e,_,n,d⟩,_⟩:=I.tuple h;obtain⟨its',r',⟨o',e',_,n',d'⟩,_⟩:=I.tuple h';rw[e] at e';cases e';rw[d] at d';injection d' with d1 _
 have:its=its':=by simpa using congrArg XC d1
 subst this;exact r.inj r'
end
section
variable {X:Cx}{st:P5}{rest:List P5}{t u:TS}{e:MT}{te:TE}{pos:Pos}
def HA:TS:=λD σ H=>D.nx σ H
def JU (t u:TS):TS:=λD σ H=>t {D with nx:=u D} σ H
def Bm:PSs X [] HA:=λ_ _ σ H _ I h=>S3 ⟨σ,H,I,h⟩
def yH (h1:PS X st t)(h2:PSs X rest u):PSs X (st::rest) (JU t u):=by
 intro af s σ H D I h;refine Vq (bR (h1 af s σ H {D with nx:=u D} I h) λf s1 q=>?_);cases f with
 | next=>
  refine q2x2 q λσ' H' I' q=>?_;exact h2 af s1 σ' H' D I' q
 | ret v=>exact q
 | brk=>exact q
 | cont=>exact q
def Bj (h1:PS X st t):PSs X [st] t:=by
 intro af s σ H D I h;refine Vq (bR (h1 af s σ H D I h) λf s1 q=>?_);cases f with
 | next=>exact S3 q
 | ret v=>exact q
 | brk=>exact q
 | cont=>exact q
def Inv.quiet (I:Inv X af σ H s):interactive X.env=false:=by simp[interactive,I.ok.kind]
def Ii (te:TE):TS:=λD σ H=>te σ H λ_ H1=>D.nx σ H1
def Ce (he:PE X e te)(hs:Ra e Y pos.line X.env=pure false:=by rfl):PS X (.Expr e pos) (Ii te):=by
 intro af s σ H D I h;exact wpAny_Expr_any (bR (he af s σ H _ I h) λv s1 ⟨x,H1,I1,r1,q1⟩=>⟨σ,H1,I1,q1⟩) I.quiet hs
def Ka (te:TE):TS:=λD σ H=>te σ H D.rt
def Ep (he:PE X e te):PS X (.Return (Z e) pos) (Ka te):=by
 intro af s σ H D I h;exact wpAny_Return_some (bR (he af s σ H _ I h) λv s1 ⟨x,H1,I1,r1,q1⟩=>⟨x,σ,H1,I1,r1,q1⟩)
def KG (c:TT)(t u:TS):TS:=λD σ H=>c σ H λb H1=>if b=true then t D σ H1 else u D σ H1
def Jf {a:List P5}(hc:PT X c tc)(ha:PSs X a t)(hb:PSs X b u):PS X (.If c a b pos) (KG tc t u):=by
 intro af s σ H D I h;refine wpAny_If (bR (hc af s σ H _ I h) λd s1 hxx=>?_);refine q1x2 hxx λH1 I1 q1=>?_;cases d with
 | true=>exact ha af s1 σ H1 D I1 q1
 | false=>exact hb af s1 σ H1 D I1 q1
end
abbrev TG:=V->St->Hp->(St->Hp->Prop)->Prop
abbrev Dv:=List V->St->Hp->(St->Hp->Prop)->Prop
def PG (X:Cx)(target:MT)(t:TG):Prop:=
 ∀(af:List (LA×Obj)) (s:Lm) (σ:St) (H:Hp) (v:V) (u:Lk) (Q:St->Hp->Prop),Inv X af σ H s->bg v u->t v σ H Q->
  Lp (LD X.prog X.w) X.A (Qh target X.env u) (λ_ s'=>∃σ' H',Inv X af σ' H' s'/\Q σ' H') X.xe s
def wg (X:Cx)(ts:List MT)(t:Dv):Prop:=
 ∀(af:List (LA×Obj)) (s:Lm) (σ:St) (H:Hp) (vs:List V) (us:List Lk) (Q:St->Hp->Prop),Inv X af σ H s->aS vs us->t vs σ H Q->
  Lp (LD X.prog X.w) X.A (assignInOrder ((N9 ts X.env).map (·.2)) us) (λ_ s'=>∃σ' H',Inv X af σ' H' s'/\Q σ' H') X.xe s
abbrev Fz:=V->V->V->Hp->(Hp->Prop)->Prop
def IK (X:Cx)(t:Fz):Prop:=
 ∀(af:List (LA×Obj)) (s:Lm) (σ:St) (H:Hp) (o i v:V) (ov iv u:Lk) (Q:Hp->Prop),Inv X af σ H s->bg o ov->bg i iv->bg v u->t o i v H Q->
  Lp (LD X.prog X.w) X.A (YH ov iv u) (λ_ s'=>∃H',Inv X af σ H' s'/\Q H') X.xe s
section
variable {X:Cx}{pos:Pos}
def Dd (i:Nat):TG:=λv σ H Q=>Q (σ.set i (Z v)) H
def CU (hN:X.N.Nodup)(hi:X.N[i]?=Z x)(hx:zm X.env.scope x)(hf:X.fn x=true\/X.env.scope.names.lookup x=Z .local:=by first|exact .inl rfl|exact .inr rfl|assumption):PG X (.Name x pos) (Dd i):=by
 intro af s σ H v u Q I r h;exact UY (uf I hN hi hx r (λs' I'=>⟨_,H,I',h⟩) hf)
def J0:Dv:=λvs σ H Q=>vs=[]/\Q σ H
def HX (t:TG)(u:Dv):Dv:=λvs σ H Q=>∃v r,vs=v::r/\t v σ H λσ' H'=>u r σ' H' Q
def wz:wg X [] J0:=by
 intro af s σ H vs us Q I r h;obtain⟨e,h⟩:=h;subst e;cases r;exact assignInOrder_nil ⟨σ,H,I,h⟩
def uJ {t:TG}(h1:PG X e t)(h2:wg X es u)
  (hs:(N9 (e::es) X.env).map (·.2)=Qh e X.env::(N9 es X.env).map (·.2):=by rfl):wg X (e::es) (HX t u):=by
 intro af s σ H vs us Q I r h;obtain⟨v,vr,e1,h⟩:=h;subst e1;cases r with
 | cons r rr=>
  rw[hs];refine assignInOrder_cons (bR (h1 af s σ H _ _ _ I r h) λ_ s1 hxx=>?_);obtain⟨σ1,H1,I1,q1⟩:=hxx;exact h2 af s1 σ1 H1 _ _ Q I1 rr q1
def Ks (K:LX)(n:Nat)(t:Dv):TG:=λv σ H Q=>∃a xs,v=.ref a/\nH K H a xs/\xs.length=n/\t xs σ H Q
def Ar {k:Nat}{t:Dv}(hc:X.calm=true)(h:wg X es t)
  (hn:(N9 es X.env).length=n:=by rfl) (hst:(N9 es X.env).findIdx? (·.1)=Y:=by rfl):PG X (.Tuple es k pos) (Ks X.K n t):=by
 intro af s σ H v u Q I r hw;obtain⟨a,xs,e1,hq,hl,hw⟩:=hw;subst e1;cases r;obtain⟨its,rv,ht,hz⟩:=I.tuple hq;refine assign_Tuple_tuple (I.ok.hd hc) ht (by simp[hn,<-hl,rv.length]) hst λh' hx=>?_
 have I1:Inv X af σ H {s with heap:=h'}:=I.kept (t':=s.toks) λb o e=>hx b o (LR (Lq e)) e
 exact h af _ σ H xs _ Q I1 (by simpa using rv) hw
def Kx (to ti:TE)(t:Fz):TG:=λv σ H Q=>to σ H λo H1=>ti σ H1 λi H2=>t o i v H2 λH3=>Q σ H3
def DE {t:Fz}(ho:PE X o to)(hi:PE X i ti)(hs:IK X t)
  (ha:∀v,Qh (.Subscript o i pos) X.env v=(do
   let ov <-PZ [v] (Ou o X.env)
   let iv <-PZ [v,ov] (Ou i X.env)
   P1 pos
   PZ [v,ov,iv] (YH ov iv v)
   release [v,ov,iv] []):=by intro _;rfl):PG X (.Subscript o i pos) (Kx to ti t):=by
 intro af s σ H v u Q I r h;rw[ha];refine Le (Mc (bR (ho af s σ H _ I h) λov s1 hxx=>?_));refine q2x3 hxx λx H1 I1 r1 q1=>?_;refine Le (Mc (bR (hi af s1 σ H1 _ I1 q1) λiv s2 hxx=>?_));refine q2x3 hxx λy H2 I2 r2 q2=>?_;refine Le (Pg (Le (Mc (bR (hs af s2 σ H2 x y v ov iv u _ I2 r1 r2 r q2) λ_ s3 hxx=>?_))));refine q1x2 hxx λH3 I3 q3=>?_;exact wpAny_release ⟨σ,H3,I3,q3⟩
def He (te:TE)(g:TG):TS:=λD σ H=>te σ H λx H1=>g x σ H1 D.nx
def zJ (he:PE X e te)(hg:PG X tg g)(hs:W6 [tg] e pos.line X.env=pure false:=by rfl)(hw:Uk [tg] e X.env=pure Y:=by rfl)
  (h1:(N9 [tg] X.env).map (·.2)=[Qh tg X.env]:=by rfl):PS X (.Assign [tg] e pos) (He te g):=by
 intro af s σ H D I h;refine wpAny_Assign_stores (bR (he af s σ H _ I h) λv s1 hxx=>?_) hs hw;refine q2x3 hxx λx H1 I1 r1 q1=>?_;rw[h1];exact bR (hg af s1 σ H1 x v _ I1 r1 q1) λ_ s2 q=>q
def F3 (hN:X.N.Nodup)(hi:X.N[i]?=Z x)(hx:zm X.env.scope x)(he:PE X e te)(hs:Ra e (Z (.Name x pos')) pos.line X.env=pure false:=by rfl)(hf:X.fn x=true\/X.env.scope.names.lookup x=Z .local:=by first|exact .inl rfl|exact .inr rfl|assumption) :
  PS X (.Assign [.Name x pos'] e pos) (He te (Dd i)):=by
 intro af s σ H D I h;refine wpAny_Assign_Name (bR (he af s σ H _ I h) λv s1 hxx=>?_) hs;refine q2x3 hxx λy H1 I1 r1 q1=>?_;exact uf I1 hN hi hx r1 (λs2 I2=>⟨_,H1,I2,q1⟩) hf
end
structure It where
 go:Nat->Hp->Prop
 yld:Nat->Hp->V->Hp->Prop
 stop:Nat->Hp->Prop
def df (X:Cx)(af:List (LA×Obj))(H:Hp)(b:LA):Prop:=
 H b=Y/\b≠X.env.locals/\b∉X.fs/\(b∈X.ex\/X.s₀.heap.objs.size<=b)/\(∀x c,X.env.cells.lookup x=Z c->c≠b)/\∀p∈X.pn++af,p.1≠b
def Inv.fpOk (I:Inv X af σ H s)(hb:s.heap.objs.size<=b)(hn:H' b=Y):df X af H' b:=by
 refine⟨hn,Oa (LB I.lt hb),I.nofs hb,.inr (LG I.sz hb),λx c e z=>?_,λp hp z=>?_⟩
 ·refine q1x1 (I.cell x c e) λv q=>?_;exact absurd (LB q.lt (by rw[z];exact hb)) (N8 _)
 ·exact absurd (LB (Lq (I.pin p hp).1) (by rw[z];exact hb)) (N8 _)
structure TurnF (P:Mi)(w:My)(K:LX)(tg:MT)(J:It)(fp:List LA)(it:LA)(tn:Nat->Nu->Prop):Prop where
 mem:it∈fp
 obj:∀i h,tn i h->∀b∈fp,∃o,h.get? b=Z o/\∀v,o.data≠.cell v
 keep:∀i h h',tn i h->(∀b∈fp,∀o,h.get? b=Z o->h'.get? b=Z o)->tn i h'
 item:∀(X:Cx),X.prog=P->X.w=w->X.K=K->X.calm=true->∀(i:Nat) (af:List (LA×Obj)) (s:Lm) (σ:St) (H:Hp) (E:Lk->Lm->Prop),Inv X af σ H s->(∀b∈fp,df X af H b)->tn i s.heap->J.go i H->
  Lp (LD P w) X.A (O5 (.ref it)) (λr s1=>∃u,r=Z u/\
   Lp (LD P w) X.A (Om tg (.ref it) u) (λ_ s2=>∃x H',Inv X af σ H' s2/\bg x u/\J.yld i H x H'/\tn (i+1) s2.heap/\∀b∈fp,H' b=Y) E s1) E s
 done:∀(X:Cx),X.prog=P->X.w=w->X.K=K->X.calm=true->∀(i:Nat) (af:List (LA×Obj)) (s:Lm) (σ:St) (H:Hp) (E:Lk->Lm->Prop),Inv X af σ H s->(∀b∈fp,df X af H b)->tn i s.heap->J.stop i H->
  Lp (LD P w) X.A (O5 (.ref it)) (λr s1=>r=Y/\Inv X af σ H s1) E s
structure oq (P:Mi)(w:My)(K:LX)(tg:MT)(J:It)(fp:List LA)(it:LA)(tn:Nat->Nu->Prop):Prop extends TurnF P w K tg J fp it tn where
 self:∀(A:MX) (i:Nat) (s:Lm) (Q:Lk->Lm->Prop) (E:Lk->Lm->Prop),tn i s.heap->Q (.ref it) s->Lp (LD P w) A (Rx (.ref it)) Q E s
abbrev TI:=St->Hp->(It->Hp->Prop)->Prop
def JP (X:Cx)(af:List (LA×Obj))(σ:St)(tg:MT)(R:It->Hp->Prop)(itv:Lk)(s2:Lm):Prop:=
 ∃(it:LA) (fp:List LA) (tn:Nat->Nu->Prop) (J:It) (H':Hp),itv=.ref it/\Inv X af σ H' s2/\oq X.prog X.w X.K tg J fp it tn/\tn 0 s2.heap/\(∀b∈fp,df X af H' b)/\R J H'
def PI (X:Cx)(tg Ng:MT)(wi:TI):Prop:=
 ∀(af:List (LA×Obj)) (s:Lm) (σ:St) (H:Hp) (R:It->Hp->Prop),Inv X af σ H s->wi σ H R->
  Lp (LD X.prog X.w) X.A (Ou Ng X.env) (λv s1=>Lp (LD X.prog X.w) X.A (Rx v) (JP X af σ tg R) X.xe s1) X.xe s
def Kp (X:Cx)(af:List (LA×Obj))(σ:St)(tg:MT)(R:It->Hp->Prop)(itv:Lk)(s2:Lm):Prop:=
 ∃(it:LA) (fp:List LA) (tn:Nat->Nu->Prop) (J:It) (H':Hp),itv=.ref it/\Inv X af σ H' s2/\TurnF X.prog X.w X.K tg J fp it tn/\tn 0 s2.heap/\(∀b∈fp,df X af H' b)/\R J H'
def JY (X:Cx)(tg Ng:MT)(wi:TI):Prop:=
 ∀(af:List (LA×Obj)) (s:Lm) (σ:St) (H:Hp) (R:It->Hp->Prop),Inv X af σ H s->wi σ H R->
  Lp (LD X.prog X.w) X.A (Ou Ng X.env) (λv s1=>Lp (LD X.prog X.w) X.A (Rx v) (Kp X af σ tg R) X.xe s1) X.xe s
def PI.toF {Ng:MT}(h:PI X tg Ng wi):JY X tg Ng wi:=λaf s σ H R I q=>bR (h af s σ H R I q) λv s1 h1=>bR h1 λitv s2 h2=>by
 obtain⟨it,fp,tn,J,H2,e,I2,T,r⟩:=h2;exact⟨it,fp,tn,J,H2,e,I2,T.toTurnF,r⟩
def yJ (ho:s.heap.get? it=Z o)(hc:o.cls=.type n)(hd:o.data=.fields vs)
  (hn:["enumerate","zip","dict_itemiterator","dict_reverseitemiterator","odict_iterator","itertools.zip_longest","itertools.pairwise"].contains n=false) (hQ:Q () s):Lp M A (Om tg (.ref it) u) Q E s:=by
 unfold Om;cases tg <;> first
  | exact Lf hQ
  | (cases u <;> first
    | exact Lf hQ
    | (refine Le (Wo ho ?_)
       rw[hc,hd];show Lp M A (if(["enumerate","zip","dict_itemiterator","dict_reverseitemiterator","odict_iterator","itertools.zip_longest","itertools.pairwise"].contains n&&vs[0]?==Z (OZ _))=true then _ else _) Q E s;rw[if_neg (by intro h;rw[hn,Wp] at h;cases h)];exact Lf hQ))
def Js (K:LX)(a:LA):It:=
 ⟨λi H=>∃xs x,gG K H a xs/\xs[i]?=Z x,λi H x H'=>H'=H/\∀xs,gG K H a xs->xs[i]?=Z x,λi H=>∃xs,gG K H a xs/\xs.length<=i⟩
def Km (K:LX)(a:LA):It:=
 ⟨λi H=>∃xs x,nH K H a xs/\xs[i]?=Z x,λi H x H'=>H'=H/\∀xs,nH K H a xs->xs[i]?=Z x,λi H=>∃xs,nH K H a xs/\xs.length<=i⟩
def Ih (lo:Int)(n:Nat):It:=⟨λi _=>i<n,λi H x H'=>H'=H/\x=.int (lo+i),λi _=>n<=i⟩
def xL {P:Mi}{w:My}{K:LX}{tg:MT}(a it:LA):oq P w K tg (Js K a) [it] it (λi h=>h.IsListIter it a i) where
 mem:=by simp
 obj:=λi h st b hb=>by
  have e:b=it:=by simpa using hb
  subst e;refine q1x3 st λo e c d=>?_;exact⟨o,e,λv z=>by rw[d] at z;cases z⟩
 keep:=λi h h' st k=>st.at λo e=>k it (by simp) o e
 item:=by
  intro X hP hw hK hc i af s σ H E I hf st hg;subst hP hw hK;refine q2x2 hg λxs x hq hx=>?_;refine q1x3 (I.list hq) λits rv p hz=>?_;refine q1x2 (rv.get hx) λu hu ru=>?_;refine q0x6 (hf it (by simp)) λf0 f1 f2 f3 f4 f5=>?_;refine OO st p.isList (x:=u) (by simpa using hu) λh' st' sb=>?_
  have I1:Inv X af σ H {s with heap:=h'}:=I.turned (t':=s.toks) (λb o hb e=>(sb.2 b hb).trans e) f0 f1 f3 f4 f5;refine q1x3 (id st') λo e c d=>?_;exact⟨u,rfl,yJ (s:={s with heap:=h'}) e c d (by decide) ⟨x,H,I1,ru,⟨rfl,λys hy=>by rw[I.list_inj hy hq];exact hx⟩,st',λb hb=>(hf b hb).1⟩⟩
 done:=by
  intro X hP hw hK hc i af s σ H E I hf st hg;subst hP hw hK;refine q1x2 hg λxs hq hx=>?_;refine q1x3 (I.list hq) λits rv p hz=>?_;refine q0x6 (hf it (by simp)) λf0 f1 f2 f3 f4 f5=>?_;have hl:=rv.length;exact Q5 (I.ok.hd hc) st p.isList (by simp;omega) λh' eb=>⟨rfl,I.turned (t':=s.toks) (λb o hb e=>eb b o hb e) f0 f1 f3 f4 f5⟩
 self:=λ_ _ _ _ _ st h=>wpAny_pyIter_listiter st h
def vU {P:Mi}{w:My}{K:LX}{tg:MT}(a it:LA):oq P w K tg (Km K a) [it] it (λi h=>h.IsTupleIter it a i) where
 mem:=by simp
 obj:=λi h st b hb=>by
  have e:b=it:=by simpa using hb
  subst e;refine q1x3 st λo e c d=>?_;exact⟨o,e,λv z=>by rw[d] at z;cases z⟩
 keep:=λi h h' st k=>st.at λo e=>k it (by simp) o e
 item:=by
  intro X hP hw hK hc i af s σ H E I hf st hg;subst hP hw hK;refine q2x2 hg λxs x hq hx=>?_;refine q1x3 (I.tuple hq) λits rv p hz=>?_;refine q1x2 (rv.get hx) λu hu ru=>?_;refine q0x6 (hf it (by simp)) λf0 f1 f2 f3 f4 f5=>?_;refine wpAny_pyNext_tuple_item st (show s.heap.IsTuple a its.toArray from p) (x:=u) (by simpa using hu) λh' st' sb=>?_
  have I1:Inv X af σ H {s with heap:=h'}:=I.turned (t':=s.toks) (λb o hb e=>(sb.2 b hb).trans e) f0 f1 f3 f4 f5;refine q1x3 (id st') λo e c d=>?_;exact⟨u,rfl,yJ (s:={s with heap:=h'}) e c d (by decide) ⟨x,H,I1,ru,⟨rfl,λys hy=>by rw[I.tuple_inj hy hq];exact hx⟩,st',λb hb=>(hf b hb).1⟩⟩
 done:=by
  intro X hP hw hK hc i af s σ H E I hf st hg;subst hP hw hK;refine q1x2 hg λxs hq hx=>?_;refine q1x3 (I.tuple hq) λits rv p hz=>?_;refine q0x6 (hf it (by simp)) λf0 f1 f2 f3 f4 f5=>?_;have hl:=rv.length;exact wpAny_pyNext_tuple_end (I.ok.hd hc) st (show s.heap.IsTuple a its.toArray from p) (by simp;omega) λh' eb=>⟨rfl,I.turned (t':=s.toks) (λb o hb e=>eb b o hb e) f0 f1 f3 f4 f5⟩
 self:=λ_ _ _ _ _ st h=>wpAny_pyIter_tupleiter st h
def vq {P:Mi}{w:My}{K:LX}{tg:MT}(it:LA)(lo:Int)(n:Nat):oq P w K tg (Ih lo n) [it] it (λi h=>IsRangeIter h it (lo+(i:Nat)*1) ((n:Int)-(i:Nat)) 1) where
 mem:=by simp
 obj:=λi h st b hb=>by
  have e:b=it:=by simpa using hb
  subst e;exact⟨_,st,λv z=>by
   have z':Data.fields _=Data.cell v:=z;cases z'⟩
 keep:=λi h h' st k=>k it (by simp) _ st
 item:=by
  intro X hP hw hK hc i af s σ H E I hf st hg;subst hP hw hK;refine q0x6 (hf it (by simp)) λf0 f1 f2 f3 f4 f5=>?_;have W:=Walks.range (prog:=X.prog) (w:=X.w) (I.ok.hd hc) it lo 1 n;refine W.item i s _ _ hg st λv h' tk hv st' kk=>?_
  refine q1x1 hv λt zz1=>?_;subst zz1;have I1:Inv X af σ H {s with heap:=h',toks:=tk}:=I.turned (λb o hb e=>kk b o (by simpa using hb) e) f0 f1 f3 f4 f5;refine⟨_,rfl,yJ (s:={s with heap:=h',toks:=tk}) (n:="range_iterator") st' rfl rfl (by decide) ⟨.int (lo+i),H,I1,⟨t,?_⟩,⟨rfl,rfl⟩,st',λb hb=>(hf b hb).1⟩⟩;rw[Int.mul_one]
 done:=by
  intro X hP hw hK hc i af s σ H E I hf st hg;subst hP hw hK;refine q0x6 (hf it (by simp)) λf0 f1 f2 f3 f4 f5=>?_;exact wpAny_pyNext_range_end (I.ok.hd hc) st (by have:n<=i:=hg;omega) λh' eb=>⟨rfl,I.turned (t':=s.toks) (λb o hb e=>eb b o hb e) f0 f1 f3 f4 f5⟩
 self:=λ_ _ _ _ _ st h=>wpAny_pyIter_rangeiter st h
section
variable {X:Cx}{tg:MT}
def sF {R:It->Hp->Prop}{lo hi:Int}{t:Tok}(I:Inv X af σ H s)(h1:-(2 ^ 62)<=lo)(h2:lo<2 ^ 62)(h3:-(2 ^ 62)<=hi)(h4:hi<2 ^ 62)
  (q:R (Ih lo (hi-lo).toNat) H):Lp (LD X.prog X.w) X.A (Rx (.ref s.heap.objs.size)) (JP X af σ tg R) E {s with heap:=s.heap.push {cls:=.type "range",data:=.fields #[.int lo t,.int hi u,.int 1 v]},toks:=tk}:=by
 refine wpAny_pyIter_range (IsRange.new ..) (small_one h1 h2 h3 h4) ?_;have I1:Inv X af σ H {s with heap:=s.heap.push {cls:=.type "range",data:=.fields #[.int lo t,.int hi u,.int 1 v]},toks:=tk}:=I.kept λb o e=>Lg _ e
 refine⟨(s.heap.push {cls:=.type "range",data:=.fields #[.int lo t,.int hi u,.int 1 v]}).objs.size,[(s.heap.push {cls:=.type "range",data:=.fields #[.int lo t,.int hi u,.int 1 v]}).objs.size],_,_,H,rfl,
  I1.kept (t':=tk) λb o e=>Lg _ e,vq _ lo (hi-lo).toNat,?_,λb hb=>?_,q⟩
 ·have e1:lo+((0:Nat):Int)*1=lo:=by simp
  have e2:(((hi-lo).toNat:Nat):Int)-((0:Nat):Int)=Xo lo hi 1:=by rw[rangeSize_one];split <;> omega
  show IsRangeIter _ _ (lo+((0:Nat):Int)*1) ((((hi-lo).toNat:Nat):Int)-((0:Nat):Int)) 1;rw[e1,e2];exact LJ _ rfl
 ·have e:b=(s.heap.push {cls:=.type "range",data:=.fields #[.int lo t,.int hi u,.int 1 v]}).objs.size:=by simpa using hb
  subst e;exact I1.fpOk (Lr _) (I1.hok.fresh (Lr _))
def GV (ta:TA):TI:=λσ H R=>ta σ H λvs H1=>∃j:Int,vs=[.int j]/\-(2 ^ 62)<=j/\j<2 ^ 62/\R (Ih 0 j.toNat) H1
def HL (ta:TA):TI:=λσ H R=>ta σ H λvs H1=>∃i j:Int,vs=[.int i,.int j]/\(-(2 ^ 62)<=i/\i<2 ^ 62/\-(2 ^ 62)<=j/\j<2 ^ 62)/\R (Ih i (j-i).toNat) H1
def yv {a:MT}(hg:Gl X "range")(hm:X.mg "range"=Y)(ha:PA X [a] ta)(hs:Mt [a] X.env=[(false,Ou a X.env)]:=by rfl):PI X tg (.Call (.Name "range" p) [a] [] pos) (GV ta):=by
 intro af s σ H R I h;refine X2 (iI I hg hm boot_range (Nn (bR (ha pos af s σ H _ I h) λus s1 hxx=>?_) hs rfl));obtain⟨vs,H1,I1,r1,q1⟩:=hxx;obtain⟨j,e,q1,q2,q⟩:=q1;subst e;cases r1 with
 | cons r rr=>
  cases rr;obtain⟨t,rfl⟩:=r;exact call_range_1 (sF I1 (by omega) (by omega) q1 q2 (by simpa using q))
def xE {a:MT}(hg:Gl X "range")(hm:X.mg "range"=Y)(ha:PA X [a,b] ta)(hs:Mt [a,b] X.env=[(false,Ou a X.env),(false,Ou b X.env)]:=by rfl)(hs2:Mt [b] X.env=[(false,Ou b X.env)]:=by rfl) :
  PI X tg (.Call (.Name "range" p) [a,b] [] pos) (HL ta):=by
 intro af s σ H R I h;refine X2 (iI I hg hm boot_range (Nn (bR (ha pos af s σ H _ I h) λus s1 hxx=>?_) (by rw[hs,hs2]) (by rw[hs2];rfl)));refine q2x3 hxx λvs H1 I1 r1 q1=>?_;obtain⟨i,j,e,⟨q1,q2,q3,q4⟩,q⟩:=q1;subst e;cases r1 with
 | cons r rr=>
  cases rr with
  | cons r' rr=>
   cases rr;refine q1x1 r λt zz1=>?_;subst zz1;refine q1x1 r' λt' zz1=>?_;subst zz1;exact call_range_2 (sF I1 q1 q2 q3 q4 q)
def Kw (wi:TI)(g:TG)(tb:TS):TS:=λD σ H=>wi σ H λJ H1=>∃W:Nat->Nat->St->Hp->Prop,(∃m,W 0 m σ H1)/\∀i m σ H,W i m σ H->
 (J.stop i H/\D.nx σ H)\/(J.go i H/\∃N:St->Hp->Prop,(∀σ' H',N σ' H'->∃m',m'<m/\W (i+1) m' σ' H')/\∀x H',J.yld i H x H'->g x σ H' λσ2 H2=>tb {D with nx:=N,ct:=N,bk:=D.nx} σ2 H2)
def hO (fp:List LA)(h:Nu):List (LA×Obj):=fp.filterMap λb=>(h.get? b).map λo=>(b,o)
def bL (hb:b∈fp)(e:h.get? b=Z o):(b,o)∈hO fp h:=Ro.mpr ⟨b,hb,by rw[e];rfl⟩
def p5 (hp:p∈hO fp h):p.1∈fp/\h.get? p.1=Z p.2:=by
 refine q1x2 (Ro.mp hp) λb hb e=>?_;cases q:h.get? b with
 | none=>rw[q] at e;cases e
 | some o=>
  rw[q] at e;have e':(b,o)=p:=LZ e;subst e';exact⟨hb,q⟩
def Inv.pinned (I:Inv X af σ H s)(hf:∀b∈fp,df X af H b)(ho:∀b∈fp,∃o,s.heap.get? b=Z o/\∀v,o.data≠.cell v):Inv X (af++hO fp s.heap) σ H s:=
 I.pins_of λp hp=>(MR.mp hp).elim (λz=>I.pin p (Lo _ z)) λz=>by
  refine q0x2 (p5 z) λhb e=>?_;refine q0x4 (hf p.1 hb) λf0 f1 f2 _=>?_;refine q1x2 (ho p.1 hb) λo e' d=>?_;rw[e] at e';cases e';exact⟨e,f0,f1,f2,d⟩
def Inv.unpinned (I:Inv X (af++pl) σ H s):Inv X af σ H s:=I.pins_of λp hp=>I.pin p (Lo _ (Ml _ hp))
def Fa {Ng:MT}(hp:PassesOwn (LD X.prog X.w) X.A X.env X.xe)(hc:X.calm=true)(hi:JY X tg Ng wi)(hg:PG X tg g)(hb:PSs X body tb)
  (hs:∀x,Mj Ng X.env x=pure x:=by intro _;rfl):PS X (.For tg Ng body [] pos) (Kw wi g tb):=by
 intro af s σ H D I h;refine wpAny_For (bR (hi af s σ H _ I h) λv s1 h1=>bR h1 λitv s2 h2=>?_) hs;obtain⟨it,fp,tn,J,H2,e,I2,T,st2,f2,W,⟨m0,w0⟩,turn⟩:=h2;subst e;have stat:∀{H':Hp},(∀b∈fp,H' b=Y)->∀b∈fp,df X af H' b:=λhn b hb=>⟨hn b hb,(f2 b hb).2⟩
 refine codeAny_forLoop_any (λn s'=>∃i σ' H',Inv X af σ' H' s'/\tn i s'.heap/\(∀b∈fp,H' b=Y)/\W i n σ' H') ?_ m0 ⟨0,σ,H2,I2,st2,λb hb=>(f2 b hb).1,w0⟩;rintro n s3 ⟨i,σ3,H3,I3,st3,fr3,w3⟩;rcases turn i n σ3 H3 w3 with⟨stop,qn⟩|⟨go,N,hN,step⟩
 ·refine Qo hp (bR (T.done X rfl rfl rfl hc i af s3 σ3 H3 X.xe I3 (stat fr3) st3 stop) λr s4 hxx=>?_);refine q0x2 hxx λhr I4=>?_;subst hr;exact S3 ⟨σ3,H3,I4,qn⟩
 ·refine Qo hp (bR (T.item X rfl rfl rfl hc i af s3 σ3 H3 X.xe I3 (stat fr3) st3 go) λr s4 hxx=>?_);refine q1x2 hxx λu hr h4=>?_;subst hr;refine Qo hp (bR h4 λ_ s5 hxx=>?_);refine q2x5 hxx λx H5 I5 r5 y5 st5 fr5=>?_;have I5':=I5.pinned (stat fr5) (T.obj _ _ st5);refine Qo hp (bR (hg _ s5 σ3 H5 x u _ I5' r5 (step x H5 y5)) λ_ s6 hxx=>?_);refine q2x2 hxx λσ6 H6 I6 q6=>?_;refine Qo hp (bR (hb _ s6 σ6 H6 _ I6 q6) λf s7 q7=>?_);have S4:∀{σ7:St} {H7:Hp},Inv X (af++hO fp s5.heap) σ7 H7 s7->N σ7 H7->∃m,m<n/\∃i σ' H',Inv X af σ' H' s7/\tn i s7.heap/\(∀b∈fp,H' b=Y)/\W i m σ' H':=λ{σ7 H7} I7 n7=>by
   refine q1x2 (hN σ7 H7 n7) λm' hm w7=>?_;refine⟨m',hm,i+1,σ7,H7,I7.unpinned,T.keep _ _ _ st5 λb hb o e=>(I7.pin (b,o) (Lo _ (Lo _ (bL hb e)))).1,λb hb=>?_,w7⟩;refine q1x2 (T.obj _ _ st5 b hb) λo e d=>?_;exact(I7.pin (b,o) (Lo _ (Lo _ (bL hb e)))).2.1
  cases f with
  | next=>refine q2x2 q7 λσ7 H7 I7 n7=>?_;exact S4 I7 n7
  | cont=>refine q2x2 q7 λσ7 H7 I7 n7=>?_;exact S4 I7 n7
  | brk=>refine q2x2 q7 λσ7 H7 I7 q7=>?_;exact⟨σ7,H7,I7.unpinned,q7⟩
  | ret v=>refine q3x3 q7 λx7 σ7 H7 I7 r7 q7=>?_;exact⟨x7,σ7,H7,I7.unpinned,r7,q7⟩
end
abbrev R2:=V->V->Hp->VK->Prop
def iH (X:Cx)(f:Lk->Lk->Sem Lk)(r:R2):Prop:=
 ∀(af:List (LA×Obj)) (s:Lm) (σ:St) (H:Hp) (x y:V) (v u:Lk) (Q:VK),Inv X af σ H s->bg x v->bg y u->r x y H Q->
  Lp (LD X.prog X.w) X.A (f v u) (EP X af σ Q) X.xe s
def KR (X:Cx)(f:Lk->Sem Lk)(r:V->Hp->VK->Prop):Prop:=
 ∀(af:List (LA×Obj)) (s:Lm) (σ:St) (H:Hp) (x:V) (v:Lk) (Q:VK),Inv X af σ H s->bg x v->r x H Q->
  Lp (LD X.prog X.w) X.A (f v) (EP X af σ Q) X.xe s
def cG (X:Cx)(f:Lk)(r:List V->Hp->VK->Prop):Prop:=
 ∀(af:List (LA×Obj)) (s:Lm) (σ:St) (H:Hp) (xs:List V) (us:List Lk) (Q:VK),Inv X af σ H s->aS xs us->r xs H Q->
  Lp (LD X.prog X.w) X.A (call f us) (EP X af σ Q) X.xe s
def KD (X:Cx)(r:V->Hp->(Bool->Hp->Prop)->Prop):Prop:=
 ∀(af:List (LA×Obj)) (s:Lm) (σ:St) (H:Hp) (x:V) (v:Lk) (Q:Bool->Hp->Prop),Inv X af σ H s->bg x v->r x H Q->
  Lp (LD X.prog X.w) X.A (truthy v) (TP X af σ Q) X.xe s
def G6 (r:R2)(ta tb:TE):TE:=λσ H Q=>ta σ H λx H1=>tb σ H1 λy H2=>r x y H2 Q
def La (r:V->Hp->VK->Prop)(ta:TE):TE:=λσ H Q=>ta σ H λx H1=>r x H1 Q
def rI (C:Int->Int->Prop)(g:Int->Int->V):R2:=λx y H Q=>∃i j,x=.int i/\y=.int j/\C i j/\Q (g i j) H
def Df (g:Int->Int->V):R2:=λx y H Q=>∃i j,x=.int i/\y=.int j/\Q (g i j) H
def rU (g:Int->V):V->Hp->VK->Prop:=λx H Q=>∃i,x=.int i/\Q (g i) H
section
variable {X:Cx}{a b c:MT}{ta tb tc:TE}{pos:Pos}
def FS (ha:PE X a ta)(hb:PE X b tb){R:V->V->Hp->Prop}(I:Inv X af σ H s)
  (h:ta σ H λx H1=>tb σ H1 λy H2=>R x y H2) {f:Lk->Lk->Sem Lk}
  (hf:∀v u s2 x y H2,Inv X af σ H2 s2->bg x v->bg y u->R x y H2->Lp (LD X.prog X.w) X.A (f v u) Q X.xe s2) :
  Lp (LD X.prog X.w) X.A (Ou a X.env) (λv s₁=>Lp (LD X.prog X.w) X.A (Ou b X.env) (λu s₂=>Lp (LD X.prog X.w) X.A (f v u) Q X.xe s₂) X.xe s₁) X.xe s:=by
 refine bR (ha af s σ H _ I h) λv s1 hxx=>?_
 refine q2x3 hxx λx H1 I1 r1 q1=>?_;refine bR (hb af s1 σ H1 _ I1 q1) λu s2 hxx=>?_
 refine q2x3 hxx λy H2 I2 r2 q2=>?_;exact hf v u s2 x y H2 I2 r1 r2 q2
def GD (ho:iH X (OL op) r)(ha:PE X a ta)(hb:PE X b tb):PE X (.BinOp a op b pos) (G6 r ta tb):=by
 intro af s σ H Q I h;exact wpAny_BinOp (FS ha hb I h λv u s2 x y H2 I2 rx ry q=>ho af s2 σ H2 x y v u Q I2 rx ry q)
def Dz (ho:KR X (unaryOp op) r)(ha:PE X a ta):PE X (.UnaryOp op a pos) (La r ta):=by
 intro af s σ H Q I h;exact UnaryOp_ (bR (ha af s σ H _ I h) λv s1 ⟨x,H1,I1,r1,q1⟩=>ho af s1 σ H1 x v Q I1 r1 q1)
def Kn {g:Int->Int->Int}
  (Yu:∀(i j:Int) (t u:Tok) (s:Lm) (Q:Lk->Lm->Prop) (E:Lk->Lm->Prop),C i j->Q (.int (g i j) s.toks) {s with toks:=s.toks+1}->Lp (LD X.prog X.w) X.A (f (.int i t) (.int j u)) Q E s) :
  iH X f (rI C λi j=>.int (g i j)):=by
 intro af s σ H x y v u Q I rx ry h;refine q2x4 h λi j zz2 zz3 hc q=>?_;subst zz2;subst zz3;refine q1x1 rx λt zz1=>?_;subst zz1;refine q1x1 ry λt' zz1=>?_;subst zz1;exact Yu i j t t' s _ _ hc ⟨.int (g i j),H,I.tok _,⟨_,rfl⟩,q⟩
def Ic {g:Int->Int->Int}
  (Yu:∀(i j:Int) (t u:Tok) (s:Lm) (Q:Lk->Lm->Prop) (E:Lk->Lm->Prop),Q (.int (g i j) s.toks) {s with toks:=s.toks+1}->Lp (LD X.prog X.w) X.A (f (.int i t) (.int j u)) Q E s) :
  iH X f (Df λi j=>.int (g i j)):=by
 intro af s σ H x y v u Q I rx ry h;refine q2x3 h λi j zz2 zz3 q=>?_;subst zz2;subst zz3;refine q1x1 rx λt zz1=>?_;subst zz1;refine q1x1 ry λt' zz1=>?_;subst zz1;exact Yu i j t t' s _ _ ⟨.int (g i j),H,I.tok _,⟨_,rfl⟩,q⟩
def CW {g:Int->Int->Bool}
  (Yu:∀(i j:Int) (t u:Tok) (s:Lm) (Q:Lk->Lm->Prop) (E:Lk->Lm->Prop),Q (.bool (g i j)) s->Lp (LD X.prog X.w) X.A (f (.int i t) (.int j u)) Q E s) :
  iH X f (Df λi j=>.bl (g i j)):=by
 intro af s σ H x y v u Q I rx ry h;refine q2x3 h λi j zz2 zz3 q=>?_;subst zz2;subst zz3;refine q1x1 rx λt zz1=>?_;subst zz1;refine q1x1 ry λt' zz1=>?_;subst zz1;exact Yu i j t t' s _ _ ⟨.bl (g i j),H,I,rfl,q⟩
def J1 (i j:Int):Prop:=0<=j/\j<=1000000/\i.natAbs<2 ^ 64
def Fw (i j:Int):Prop:=(-(2 ^ 64)<i/\i<2 ^ 64)\/(-(2 ^ 64)<j/\j<2 ^ 64)
def Fw.ok (h:Fw i j):IntMulOk i j:=by
 rcases h with⟨h1,h2⟩|⟨h1,h2⟩
 ·exact .of_left (W7 h1 h2)
 ·exact .of_right (W7 h1 h2)
def E9:iH X (OL .Add) (Df λi j=>.int (i+j)):=Ic λ_ _ _ _ _ _ _ q=>add_int q
def DX:iH X (OL .Sub) (Df λi j=>.int (i-j)):=Ic λ_ _ _ _ _ _ _ q=>sub_int q
def DM:iH X (OL .Mult) (rI Fw λi j=>.int (i*j)):=Kn λ_ _ _ _ _ _ _ hc q=>mul_int q hc.ok
def Ea:iH X (OL .Mod) (rI (λ_ j=>0<j) λi j=>.int (i % j)):=Kn λi j _ _ _ _ _ hc q=>by
 have h1:(0:Int)<j:=hc;exact mod_int' (by omega) (by rw[Int.fmod_eq_emod_of_nonneg i (by omega)];exact q)
def FL:iH X (OL .Pow) (rI J1 λi j=>.int (i ^ j.toNat)):=Kn λ_ _ _ _ _ _ _ hc q=>pow_int_small hc.1 hc.2.1 hc.2.2 q
def K1 {g:Int->Int}
  (Yu:∀(i:Int) (t:Tok) (s:Lm) (Q:Lk->Lm->Prop) (E:Lk->Lm->Prop),Q (.int (g i) s.toks) {s with toks:=s.toks+1}->Lp (LD X.prog X.w) X.A (f (.int i t)) Q E s) :
  KR X f (rU λi=>.int (g i)):=by
 intro af s σ H x v Q I rx h;refine q1x2 h λi zz1 q=>?_;subst zz1;refine q1x1 rx λt zz1=>?_;subst zz1;exact Yu i t s _ _ ⟨.int (g i),H,I.tok _,⟨_,rfl⟩,q⟩
def zB:KR X (unaryOp .USub) (rU λi=>.int (-i)):=K1 λ_ _ _ _ _ q=>neg_int q
end
section
variable {X:Cx}{a b c:MT}{ta tb tc:TE}{pos:Pos}
def IQ:iH X (MI .Lt) (Df λi j=>.bl (decide (i<j))):=CW λ_ _ _ _ _ _ _ q=>Tb q
def GJ:iH X (MI .LtE) (Df λi j=>.bl (decide (i<=j))):=CW λ_ _ _ _ _ _ _ q=>le_int q
def HF:iH X (MI .Gt) (Df λi j=>.bl (decide (j<i))):=CW λ_ _ _ _ _ _ _ q=>Xp q
def Ia:iH X (MI .GtE) (Df λi j=>.bl (decide (j<=i))):=CW λ_ _ _ _ _ _ _ q=>ge_int q
def Jp:HO->Bool
 | .lst _=>true
 | .ins _ _ _=>true
 | _=>false
def Gr {a:LA}(I:Inv X af σ H s)(h:H a=Z o)(p:Jp o=true):∃ob,s.heap.get? a=Z ob/\ob.cls≠.type "tuple":=by
 cases o with
 | lst xs=>
  obtain⟨_,its,n,_,e⟩:xs.length<=LW/\∃(its:List Lk) (n:Nat),aS xs its/\s.heap.get? a=Z {cls:=.type "list",data:=.seq its.toArray n}:=I.hok a _ h;exact⟨_,e,(by show Px "list"≠.type "tuple";decide +kernel)⟩
 | ins C dx fs=>
  have x:=I.hok a _ h;refine q0x5 x λ_ _ _ e _=>?_;exact⟨_,e,(by show NJ C≠.type "tuple";exact λz=>by cases z)⟩
 | _=>exact absurd (show false=true from p) Ly
def FW (b:MT)(h:op≠.In:=by decide)(h2:op≠.NotIn:=by decide):Ql op b=false:=by
 have e1:(op==CmpOp.In)=false:=by cases op <;> first|rfl|exact absurd rfl h
 have e2:(op==CmpOp.NotIn)=false:=by cases op <;> first|rfl|exact absurd rfl h2
 cases b <;> simp[Ql,e1,e2]
def Cy (ho:iH X (MI op) r)(ha:PE X a ta)(hb:PE X b tb)(hm:Ql op b=false):PE X (.Compare a [op] [b] pos) (G6 r ta tb):=by
 intro af s σ H Q I h;exact wpAny_Compare1 (FS ha hb I h λv u s2 x y H2 I2 rx ry q=>ho af s2 σ H2 x y v u Q I2 rx ry q) hm
def Dm (t:TE):TT:=λσ H Q=>t σ H λx H'=>∃k,x=.bl k/\Q k H'
def BI (ho:iH X (MI op) r)(ha:PE X a ta)(hb:PE X b tb)(hm:Ql op b=false):PT X (.Compare a [op] [b] pos) (Dm (G6 r ta tb)):=by
 intro af s σ H Q I h;refine wpAny_isTrue_Compare1 (bR (ha af s σ H _ I h) λv s1 ⟨x,H1,I1,r1,q1⟩=>bR (hb af s1 σ H1 _ I1 q1) λu s2 ⟨y,H2,I2,r2,q2⟩=>
  bR (ho af s2 σ H2 x y v u _ I2 r1 r2 q2) λc s3 hxx=>?_) hm
 obtain⟨z,H3,I3,r3,k,e,q3⟩:=hxx;subst e;cases r3;exact Pc ⟨H3,I3,q3⟩
def y9 (r r':R2)(ta tb tc:TE):TE:=λσ H Q=>ta σ H λx H1=>tb σ H1 λy H2=>r x y H2 λz H3=>∃k,z=.bl k/\
 (if k=true then tc σ H3 λw' H4=>r' y w' H4 Q else Q (.bl false) H3)
def Ah (ho:iH X (MI op) r)(ho':iH X (MI op') r')(ha:PE X a ta)(hb:PE X b tb)(hc:PE X c tc)
  (hm:lastMarks [op,op'] [b,c]=false:=by with_unfolding_all rfl):PT X (.Compare a [op,op'] [b,c] pos) (Dm (y9 r r' ta tb tc)):=by
 intro af s σ H Q I h;refine isTrue_chain (bR (ha af s σ H _ I h) λv s1 ⟨x,H1,I1,r1,q1⟩=>test_link (bR (hb af s1 σ H1 _ I1 q1) λu s2 ⟨y,H2,I2,r2,q2⟩=>
  bR (ho af s2 σ H2 x y v u _ I2 r1 r2 q2) λd s3 hxx=>?_)) hm
 obtain⟨z,H3,I3,r3,k,e,q3⟩:=hxx;subst e;cases r3;refine Pc ?_;cases k with
 | false=>
  refine q1x2 q3 λk' e' q'=>?_;cases e';exact ite_ff ⟨H3,I3,q'⟩
 | true=>
  refine ite_tt (test_last (bR (hc af s3 σ H3 _ I3 q3) λw' s4 ⟨z',H4,I4,r4,q4⟩=>bR (ho' af s4 σ H4 y z' u w' _ I4 r2 r4 q4) λd' s5 hxx=>?_));obtain⟨z2,H5,I5,r5,k2,e2,q5⟩:=hxx;subst e2;cases r5;exact Pc ⟨H5,I5,q5⟩
def IR (K:LX)(x:V)(H:Hp)(k:Bool):Prop:=
 match x with
 | .non=>k=false
 | .bl b=>k=b
 | .int i=>k=(i != 0)
 | .str y=>y.length<=LW/\k=((y.length:Int) != 0)
 | .byt y=>y.size<=LW/\k=((y.size:Int) != 0)
 | .ref p=>(∃xs,gG K H p xs/\k=!xs.isEmpty)\/(∃xs,nH K H p xs/\k=!xs.isEmpty)\/∃kvs,H p=Z (.dK kvs)/\k=!kvs.isEmpty
 | _=>False
def vS {kvs:List (κ×V)}{vs:List (κ×Lk)}(r:KV kvs vs):(!vs.isEmpty)=!kvs.isEmpty:=by
 cases r <;> rfl
def nQ (r:aS xs its):(!its.toArray.isEmpty)=!xs.isEmpty:=by
 cases r <;> simp
def mM:(LW:Nat)<2 ^ 63:=by rw[Oo];decide
def EH:KD X (λx H Q=>∃k,IR X.K x H k/\Q k H):=by
 intro af s σ H x v Q I rx h;refine q1x2 h λk e q=>?_;have hl:=mM;have hs:LW=16777216:=Oo;cases x with
 | non=>
  cases rx;have e':k=false:=e;subst e';exact truthy_none ⟨H,I,q⟩
 | bl b=>
  cases rx;have e':k=b:=e;subst e';exact Pc ⟨H,I,q⟩
 | int i=>
  refine q1x1 rx λt zz1=>?_;subst zz1;have e':k=(i != 0):=e;subst e';exact PySem.P.truthy_int ⟨H,I,q⟩
 | str y=>
  refine q1x1 rx λt zz1=>?_;subst zz1;obtain⟨hy,e'⟩:y.length<=LW/\k=((y.length:Int) != 0):=e;subst e';exact PySem.P.truthy_str (by omega) ⟨H,I.tok _,q⟩
 | byt y=>
  refine q1x1 rx λt zz1=>?_;subst zz1;obtain⟨hy,e'⟩:y.size<=LW/\k=((y.size:Int) != 0):=e;subst e';exact W.truthy_bytes (by omega) ⟨H,I.tok _,q⟩
 | ref p=>
  cases rx;have e':(∃xs,gG X.K H p xs/\k=!xs.isEmpty)\/(∃xs,nH X.K H p xs/\k=!xs.isEmpty)\/∃kvs,H p=Z (.dK kvs)/\k=!kvs.isEmpty:=e;rcases e' with⟨xs,hx,e'⟩|⟨xs,hx,e'⟩|⟨kvs,hx,e'⟩
  ·subst e';refine q1x3 (I.list hx) λits r pl hz=>?_;have hlen:=r.length;exact wpAny_truthy_list pl.isList (by simp only[L5];omega) ⟨H,I.tok _,by rw[nQ r];exact q⟩
  ·subst e';refine q1x3 (I.tuple hx) λits r pl hz=>?_;have hlen:=r.length;exact truthy_tuple pl (by simp only[L5];omega) ⟨H,I.tok _,by rw[nQ r];exact q⟩
  ·subst e';obtain⟨hz,hS,vs,r,m⟩:kvs.length<=LW/\(p==Wm)=false/\∃vs,KV kvs vs/\s.heap.DictOf (rH X.prog X.w) p vs:=I.hok p _ hx;have hlen:kvs.length=vs.length:=Paired.length r;exact wpAny_truthy_dict hS m (by omega) ⟨H,I.tok _,by rw[vS r];exact q⟩
 | _=>exact(show False from e).elim
def zC (ha:PE X a ta)(he:∀whole,SM a X.env whole=(do let v <-whole;P1 a.pos;PZ [v] (truthy v))) :
  PT X a (λσ H Q=>ta σ H λx H'=>∃k,IR X.K x H' k/\Q k H'):=by
 intro af s σ H Q I h;exact isTrue_plain (bR (ha af s σ H _ I h) λv s1 ⟨x,H1,I1,r1,q1⟩=>EH af s1 σ H1 x v Q I1 r1 q1) (he _)
def vg:iH X (OL .Add) (λx y H Q=>∃i j,x=.str i/\y=.str j/\i.length+j.length<=LW/\Q (.str (i++j)) H):=by
 intro af s σ H x y v u Q I rx ry h;refine q2x4 h λi j zz2 zz3 hz q=>?_;subst zz2;subst zz3;refine q1x1 rx λt zz1=>?_;subst zz1;refine q1x1 ry λt' zz1=>?_;subst zz1;exact add_str (λt' tk=>⟨.str (i++j),H,I.tok _,⟨_,rfl⟩,q⟩) hz
def js (r:aS [x] us):∃u,us=[u]/\bg x u:=by
 cases r with
 | cons r1 r2=>cases r2;exact⟨_,rfl,r1⟩
def yW (r:aS [x,y] us):∃u w',us=[u,w']/\bg x u/\bg y w':=by
 cases r with
 | cons r1 r2=>
  cases r2 with
  | cons r3 r4=>cases r4;exact⟨_,_,rfl,r1,r3⟩
def xM (hc:X.calm=true):cG X (.builtin "max") (λxs H Q=>∃i j,xs=[.int i,.int j]/\Q (.int (if j>i then j else i)) H):=by
 intro af s σ H xs us Q I r h;refine q2x2 h λi j zz2 q=>?_;subst zz2;obtain⟨u,w',rfl,⟨t,rfl⟩,⟨t',rfl⟩⟩:=yW r;refine max_two_ints (I.ok.hd hc) λh' tk k=>⟨_,H,I.kept k,?_,q⟩
 by_cases hj:j>i
 ·rw[if_pos hj,if_pos hj];exact⟨_,rfl⟩
 ·rw[if_neg hj,if_neg hj];exact⟨_,rfl⟩
def xm (hc:X.calm=true):cG X (.builtin "min") (λxs H Q=>∃i j,xs=[.int i,.int j]/\Q (.int (if j<i then j else i)) H):=by
 intro af s σ H xs us Q I r h;refine q2x2 h λi j zz2 q=>?_;subst zz2;obtain⟨u,w',rfl,⟨t,rfl⟩,⟨t',rfl⟩⟩:=yW r;refine min_two_ints (I.ok.hd hc) λh' tk k=>⟨_,H,I.kept k,?_,q⟩
 by_cases hj:j<i
 ·rw[if_pos hj,if_pos hj];exact⟨_,rfl⟩
 ·rw[if_neg hj,if_neg hj];exact⟨_,rfl⟩
def qu:cG X (.type "int") (λxs H Q=>(∃i,xs=[.int i]/\Q (.int i) H)\/∃k,xs=[.bl k]/\Q (.int (if k then 1 else 0)) H):=by
 intro af s σ H xs us Q I r h;rcases h with⟨i,rfl,q⟩|⟨k,rfl,q⟩
 ·obtain⟨u,rfl,t,rfl⟩:=js r;exact call_int_int ⟨.int i,H,I,⟨_,rfl⟩,q⟩
 ·refine q1x2 (js r) λu zz1 r1=>?_;subst zz1;cases r1;exact call_int_bool ⟨.int (if k then 1 else 0),H,I.tok _,⟨_,rfl⟩,q⟩
end
structure KN (h:Nu)(x dx C:LA)(mA:Str->Option Lk):Prop where
 obj:h.get? x=Z (W.instObj C dx)
 ns:h.Ns1 dx mA
 ne:dx≠x
section
variable {P:Mi}{w:My}{H H':Hp}{h h':Nu}{a C dx:LA}{fs fs':List (Str×V)}
def Jz (hok:jt P w H h)(e:H a=Z (.ins C dx fs)):∃mA,KN h a dx C mA/\(∀f,Gj (fs.lookup f) (mA f))/\PySem.Within mA (fs.map (·.1))/\fs.length<=1000/\H dx=Z (.own a):=by
 obtain⟨d,z,ne,ob,mA,n,r,q⟩:=(show cP P w H h a (.ins C dx fs) from hok a _ e);exact⟨mA,⟨ob,n,ne⟩,r,q,z,d⟩
end
structure K7 (K:LX)(C:LA):Prop where
 pg:W.plainGet K C Str.empty=true
 hd:W.hasDictIn K C=true
 po:W.plainOver K C=true
 sa:Tr K (.ref C) "__setattr__"=Z (Z (.builtin "object.__setattr__"))
def Gb (K:LX)(C:LA)(f:Str):Prop:=Tr K (.ref C) f=Z Y
structure JL (K:LX)(C:LA)(m:Str)(f:LA):Prop where
 at_:Tr K (.ref C) m=Z (Z (.ref f))
 fn:W.isFn K (.ref f)=true
 kp:Rr K (.ref f)=true
structure bE (k:Nat)(A:MX):Prop where
 hd:A.handled=Y
 dp:A.depth+3*k+5<Wq
 un:A.units+16*k+200<Qv
def bE.mono {k:Nat}(r:bE k A)(h:j<=k):bE j A:=⟨r.hd,by have:=r.dp;omega,by have:=r.un;omega⟩
def bE.deeper {k:Nat}(r:bE (k+1) A)(env:Env):bE k (A.deeper env):=
 ⟨r.hd,by have:=r.dp;show A.depth+1+3*k+5<_;omega,by have:=r.un;show A.units+3+16*k+200<_;omega⟩
def bE.in1 {k:Nat}(r:bE (k+1) A):bE k A.in1:=
 ⟨r.hd,by have:=r.dp;show A.depth+3*k+5<_;omega,by have:=r.un;show A.units+1+16*k+200<_;omega⟩
def bE.depth {k:Nat}(r:bE k A):A.depth<Wq:=by have:=r.dp;omega
def bE.units {k:Nat}(r:bE k A):A.units+64<Qv:=by have:=r.un;omega
def bE.units0 {k:Nat}(r:bE k A):A.units<Qv:=by have:=r.un;omega
def Hy:TA:=λ_ H Q=>Q [] H
def Dj (ta:TE)(tr:TA):TA:=λσ H Q=>ta σ H λx H1=>tr σ H1 λxs H2=>Q (x::xs) H2
section
variable {X:Cx}{e:MT}{es:List MT}{te:TE}{t:TA}{pos:Pos}
def kM:PA X [] Hy:=λ_ _ _ _ H Q I h=>UZ ⟨[],H,I,.nil,h⟩
def io (ha:PE X e te)(hr:PA X es t)(hs:Mt (e::es) X.env=(false,Ou e X.env)::Mt es X.env:=by rfl):PA X (e::es) (Dj te t):=by
 intro pos af s σ H Q I h;rw[hs];show Lp _ _ (YG ((false,Ou e X.env)::P6 pos (Mt es X.env))) _ _ s;refine Uz (bR (ha af s σ H _ I h) λu s1 hxx=>?_);refine q2x3 hxx λx H1 I1 r1 q1=>?_;exact bR (hr pos af s1 σ H1 _ I1 q1) λus s2 ⟨xs,H2,I2,r2,q2⟩=>⟨x::xs,H2,I2,.cons r1 r2,q2⟩
def Kd (t:TA):TE:=λσ H Q=>t σ H λxs H1=>xs.length<=LW/\∀p,H1 p=Y->Q (.ref p) (bG H1 p (.tup xs))
def JN (t:TA):TE:=λσ H Q=>t σ H λxs H1=>xs.length<=LW/\∀p,H1 p=Y->Q (.ref p) (bG H1 p (.lst xs))
def Em {x1}(h:PA X es t):PE X (.Tuple es x1 pos) (Kd t):=by
 intro af s σ H Q I hq;refine wpAny_Tuple_spliced (bR (h pos af s σ H _ I hq) λus s1 ⟨xs,H1,I1,r,z,q⟩=>⟨by rw[<-r.length];exact z,?_⟩);have hf:H1 s1.heap.objs.size=Y:=I1.hok.fresh (Lr _);refine⟨.ref s1.heap.objs.size,bG H1 s1.heap.objs.size (.tup xs),I1.laid (t':=s1.toks) (λb u e=>Lg _ e) (Lr _) ?_,rfl,q _ hf⟩;exact⟨z,us,r,⟨_,LJ _ rfl,rfl,_,rfl⟩⟩
def AH (h:PA X es t):PE X (.List es pos) (JN t):=by
 intro af s σ H Q I hq;refine wpAny_List_spliced (bR (h pos af s σ H _ I hq) λus s1 ⟨xs,H1,I1,r,z,q⟩=>⟨by rw[<-r.length];exact z,?_⟩);have hf:H1 s1.heap.objs.size=Y:=I1.hok.fresh (Lr _);refine⟨.ref s1.heap.objs.size,bG H1 s1.heap.objs.size (.lst xs),I1.laid (t':=s1.toks) (λb u e=>Lg _ e) (Lr _) ?_,rfl,q _ hf⟩;exact⟨z,us,0,r,LJ _ rfl⟩
end
abbrev Sp:=List V->Hp->VK->XK->Prop
abbrev DZ:=List Env->Hp->Lm->XK->Lk->Lm->Prop
structure vn (P:Mi)(w:My)(K:LX)(mg:Str->Option Lk)(base:Nu)(A:MX)(outer:List Env)(s:Lm)(H:Hp):Prop where
 frames:A.frames=Z outer
 mod:Mod K mg base
 bs:∀b o,base.get? b=Z o->s.heap.get? b=Z o/\H b=Y
 bsz:base.objs.size<=s.heap.objs.size
 funs:s.heap.FunFrames base outer
 frf:∀b∈mI outer,H b=Y
 hok:jt P w H s.heap
 bare:Sa s.gens
def CE (outer:List Env)(P:Mi)(w:My)(H:Hp)(s:Lm)(Q:VK)(u:Lk)(s':Lm):Prop:=
 ∃v H',s'.os=s.os/\Sa s'.gens/\Un (mI outer) [] H H' s.heap s'.heap/\jt P w H' s'.heap/\bg v u/\Q v H'
def CR (CX:DZ)(outer:List Env)(P:Mi)(w:My)(H:Hp)(s:Lm)(Q:VK)(E:XK)(r:Sh)(s':Lm):Prop:=
 match r with
 | .ok (.ret u)=>CE outer P w H s Q u s'
 | .ok _=>False
 | .error e=>CX outer H s E e s'
structure fA (P:Mi)(w:My)(K:LX)(mg:Str->Option Lk)(base:Nu)(CX:DZ)(k:Nat)(f:LA)(fd:OM)(ps:List Str)(sp:Sp):Prop where
 len:∀vs H Q E,sp vs H Q E->vs.length=ps.length
 run:∀(A:MX) (outer:List Env) (s:Lm) (H:Hp) (args:Args) (us:List Lk) (vs:List V) (Q:VK) (E:XK),bE k A->vn P w K mg base A outer s H->Rp s fd args (ps.zip us)->aS vs us->sp vs H Q E->
  Oq (LD P w) A (.call (.ref f) args) (CR CX outer P w H s Q E) s
def fA.imp {K:LX}{k:Nat}(F:fA P w K mg base CX k f fd ps sp)
  (h:∀vs H Q E,sp' vs H Q E->sp vs H Q E):fA P w K mg base CX k f fd ps sp':=
 ⟨λvs H Q E q=>F.len vs H Q E (h _ _ _ _ q),λA outer s H args us vs Q E hr he hb hv hs=>F.run A outer s H args us vs Q E hr he hb hv (h _ _ _ _ hs)⟩
def vn.in1 {K:LX}(e:vn P w K mg base A outer s H) :
  vn P w K mg base A.in1 outer s H:=⟨e.frames,e.mod,e.bs,e.bsz,e.funs,e.frf,e.hok,e.bare⟩
section
variable {X:Cx}{af:List (LA×Obj)}{σ:St}{H:Hp}{s s':Lm}
def Inv.env0 (I:Inv X af σ H s):vn X.prog X.w X.K X.mg X.base X.A X.stack s H:=
 ⟨I.ok.frames,I.ok.mod,I.bs,LG I.ok.bsz I.sz,I.stack,I.stkFree,I.hok,I.bare⟩
def Inv.after (I:Inv X af σ H s)(h:CE X.stack X.prog X.w H s Q u s'):EP X af σ Q u s':=by
 refine q2x6 h λv H' os bare un hok r q=>?_;obtain⟨hh,g,d,t,os'⟩:=s';obtain rfl:os'=s.os:=os;exact⟨v,H',I.call (h':=hh) (g':=g) (d':=d) (t':=t) (ch:=[]) un hok bare (λb z=>absurd z (by simp)),r,q⟩
end
def Hk (sp:Sp)(dvs:List V)(E:XK)(t:TA):TE:=λσ H Q=>t σ H λvs H1=>sp (vs++dvs) H1 Q E
def j1 (K:LX)(fd:OM)(ps:List Str)(ds:List Lk):Prop:=
 ∀(s:Lm) (us:List Lk),K.In s.heap->(us++ds).length=ps.length->Rp s fd ⟨us,[]⟩ (ps.zip (us++ds))
def j1.all {K:LX}(h:∀us:List Lk,us.length=ps.length->U1 fd ⟨us,[]⟩=pure (ps.zip us)):j1 K fd ps []:=λs us _ hl=>by
 rw[Mo] at hl ⊢;exact .of_eq (h us hl)
def vF (CX:DZ)(X:Cx)(E:XK):Prop:=∀(af:List (LA×Obj)) (σ:St) (H:Hp) (s:Lm) (e:Lk) (s':Lm),Inv X af σ H s->CX X.stack H s E e s'->X.xe e s'
section
variable {X:Cx}{CX:DZ}{k:Nat}{f C:LA}{fd:OM}{ps:List Str}{sp:Sp}{dvs:List V}{ds:List Lk}{E:XK}{x m:Str}{p pos apos:Pos}{e o:MT}{es:List MT}{ta:TE}{t:TA}
def Gn (F:fA X.prog X.w X.K X.mg X.base CX k f fd ps sp)(hr:bE k X.A)(hb:j1 X.K fd ps ds)(hd:aS dvs ds)(hx:vF CX X E)
  (I:Inv X af σ H s) (r:aS vs us) (h:sp (vs++dvs) H Q E):Lp (LD X.prog X.w) X.A (call (.ref f) us) (EP X af σ Q) X.xe s:=by
 have r2:aS (vs++dvs) (us++ds):=r.append hd;have hl:(us++ds).length=ps.length:=by rw[<-r2.length];exact F.len _ _ _ _ h
 refine Ws (Py (F.run X.A X.stack s H ⟨us,[]⟩ (us++ds) (vs++dvs) Q E hr I.env0 (hb s us I.kIn hl) r2 h) λr s' hq=>?_);cases r with
 | error e=>exact hx af σ H s e s' I hq
 | ok fl=>
  cases fl with
  | ret u=>exact I.after hq
  | next=>exact O0 hq
  | brk=>exact O0 hq
  | cont=>exact O0 hq
def BA (F:fA X.prog X.w X.K X.mg X.base CX k f fd ps sp)(hr:bE k X.A)(hg:Gl X x)(hm:X.mg x=Z (.ref f))(hk:Rr X.K (.ref f)=true)(hb:j1 X.K fd ps ds)(hd:aS dvs ds)(hx:vF CX X E)
  (ha:PA X (e::es) t) (hdb:(x==("__debug__":Str))=false:=by decide) (he:Mt (e::es) X.env=(false,Ou e X.env)::Mt es X.env:=by rfl) (hpl:(P6 pos (Mt es X.env)).any (·.1)=false:=by rfl) :
  PE X (.Call (.Name x p) (e::es) [] pos) (Hk sp dvs E t):=by
 intro af s σ H Q I h;refine Qs (CO I hg hm ?_ hdb);refine W.callWith_K (h₀:=X.base) I.ok.mod.kin hk (bR (ha pos af s σ H _ I h) λus s1 ⟨vs,H1,I1,r,q⟩=>⟨I1.kIn,?_⟩) he hpl;exact Gn F hr hb hd hx I1 r q
end
structure dB (N P:List Str)(sc:PY):Prop where
 kind:sc.kind=.function
 co:sc.isCoroutine=false
 gen:sc.isGenerator=false
 nd:N.Nodup
 pre:N.take P.length=P
 par:∀x∈P,sc.names.lookup x=Z .local\/sc.names.lookup x=Z .cell
 nofree:∀y∈sc.names,y.2≠.free
theorem qt {N6:Str->Option Qm}:∀{binds:List (Str×Lk)} {m:Str->Option Lk},(∀v,(x,v)∉binds)->Wt N6 binds m x=m x
 | [],_,_=>rfl
 | (n,v)::r,m,h=>by
  unfold Wt;rw[qt λw hw=>h w (LH _ hw)];split
  ·have:x≠n:=by rintro rfl;exact h v Lz
   simp[this]
  ·rfl
theorem qL {N6:Str->Option Qm}:∀{binds:List (Str×Lk)} {m:Str->Option Lk},(∀v,(x,v)∉binds)->Wu N6 binds m x=m x
 | [],_,_=>rfl
 | (n,v)::r,m,h=>by
  unfold Wu;rw[qL λw hw=>h w (LH _ hw)];split
  ·rfl
  ·have:x≠n:=by rintro rfl;exact h v Lz
   simp[this]
theorem pV {N6:Str->Option Qm}:∀{P:List Str} {vs:List Lk} {i:Nat} {m:Str->Option Lk},P.Nodup->P[i]?=Z x->vs[i]?=Z v->N6 x=Z .local->
  Wt N6 (P.zip vs) m x=Z v
 | [],_,_,_,_,h,_,_=>by simp at h
 | _::_,[],_,_,_,_,h,_=>by simp at h
 | p::P,w::vs,0,m,nd,h1,h2,hk=>by
  simp at h1 h2;subst h1;subst h2;show Wt N6 ((p,w)::P.zip vs) m p=_;unfold Wt;rw[qt λv hv=>(RQ.mp nd).1 (UA hv).1,if_pos hk];simp
 | p::P,w::vs,i+1,m,nd,h1,h2,hk=>by
  show Wt N6 ((p,w)::P.zip vs) m x=_;unfold Wt;exact pV (i:=i) (RQ.mp nd).2 (by simpa using h1) (by simpa using h2) hk
theorem qJ {N6:Str->Option Qm}:∀{P:List Str} {vs:List Lk} {i:Nat} {m:Str->Option Lk},P.Nodup->P[i]?=Z x->vs[i]?=Z v->N6 x≠Z .local->
  Wu N6 (P.zip vs) m x=Z v
 | [],_,_,_,_,h,_,_=>by simp at h
 | _::_,[],_,_,_,_,h,_=>by simp at h
 | p::P,w::vs,0,m,nd,h1,h2,hk=>by
  simp at h1 h2;subst h1;subst h2;show Wu N6 ((p,w)::P.zip vs) m p=_;unfold Wu;rw[qL λv hv=>(RQ.mp nd).1 (UA hv).1,if_neg hk];simp
 | p::P,w::vs,i+1,m,nd,h1,h2,hk=>by
  show Wu N6 ((p,w)::P.zip vs) m x=_;unfold Wu;exact qJ (i:=i) (RQ.mp nd).2 (by simpa using h1) (by simpa using h2) hk
def start (N:List Str)(vs:List V):St:=vs.map Z++Ms (N.length-vs.length) Y
def fZ (CX:DZ)(P:Mi)(w:My)(K:LX)(mg:Str->Option Lk)(base:Nu)(N:List Str)(qual:Str)(scope:PY)(f:LA)(cd:Lk)(A:MX)(outer:List Env)(s:Lm)(H:Hp)(E:XK):Cx where
 prog:=P
 w:=w
 K:=K
 mg:=mg
 base:=base
 A:=A.deeper (Pz qual scope s.heap.objs.size f cd)
 N:=N
 s₀:=s
 H₀:=H
 env:=Pz qual scope s.heap.objs.size f cd
 outer:=outer
 stack:=Pz qual scope s.heap.objs.size f cd::outer
 ex:=[]
 calm:=true
 fn:=λ_=>true
 pn:=[]
 xe:=λe s'=>Lp (LD P w) (A.deeper (Pz qual scope s.heap.objs.size f cd)) (YI (Pz qual scope s.heap.objs.size f cd) e) (λ_ s''=>CX outer H s E e s'') (λe' s''=>CX outer H s E e' s'') s'
def sQ {sc:PY}(h:sc.names.lookup x=Z .cell):∃c,(Rb n sc.names []).lookup x=Z c:=by
 have q:=Sx sc.names n [] (.inl h);exact Option.isSome_iff_exists.mp q
def qa {K:LX}
  (S:dB N ps scope) (hd:A.handled=Y) (e0:vn P w K mg base A outer s H) (hl:vs.length=ps.length) (r:aS vs us)
  (x:InCallC s s.heap.objs.size (Wt (Pz qual scope s.heap.objs.size f cd).kindOf (ps.zip us) λ_=>Y) (Rb (s.heap.objs.size+1) scope.names []) (Wu (Pz qual scope s.heap.objs.size f cd).kindOf (ps.zip us) λ_=>Y) s1) :
  Inv (fZ CX P w K mg base N qual scope f cd A outer s H E) [] (start N vs) H s1:=by
 have hpl:ps.length<=N.length:=by have:=congrArg X3 S.pre;rw[Nd] at this;omega
 refine q2x2 x.done λh1 tk zz2 hk=>?_;subst zz2;have noA:∀b:LA,b∉(fZ CX P w K mg base N qual scope f cd A outer s H E).ex:=λb z=>absurd (show b∈([]:List LA) from z) (by simp)
 refine⟨⟨e0.mod,S.kind,rfl,rfl,Lr _,λy z c h1 h2=>?_,λy hy=>?_,λy c _ h=>?_,λ_=>hd,Around.frames_deeper e0.frames,.inr ⟨rfl,rfl⟩,λb z=>absurd z (noA b),e0.bs,e0.bsz,λb _ _=>noA b,λb z=>absurd z (noA b),e0.funs,e0.frf⟩,
  rfl,e0.bare,Un.kept hk,⟨_,x.toInCall.ns,λi y v h1 h2 h3=>?_⟩,λy c h=>⟨_,x.cell y c h⟩,e0.hok.fresh (Lr _),λy c h=>?_,λp hp=>absurd (show p∈([]:List (LA×Obj)) from hp) (by simp),e0.hok.kept hk,?_⟩
 ·exact name_of_addr x.apart (PySem.mem_of_lookup h1) (PySem.mem_of_lookup h2)
 ·have hy:scope.names.lookup y=Z .cell\/scope.names.lookup y=Z .free:=hy;rcases hy with hy|hy
  ·exact sQ hy
  ·exact absurd rfl (S.nofree _ (PySem.mem_of_lookup hy))
 ·exact Np (x.above y c (PySem.mem_of_lookup h))
 ·have hi:i<vs.length:=by
   unfold start at h2
   by_cases hi:i<vs.length
   ·exact hi
   ·rw[Lv (by simpa using hi)] at h2;rw[UB] at h2;split at h2 <;> cases h2
  have ha:vs[i]?=Z v:=by
   unfold start at h2;rw[LY (by simpa using hi),LL] at h2;cases e:vs[i]? with
   | none=>rw[e] at h2;cases h2
   | some a=>rw[e] at h2;cases h2;rfl
  refine q1x2 (r.get ha) λu hu rv=>?_;have hp:ps[i]?=Z y:=by
   rw[<-S.pre,Ug (by omega)];exact h1
  have ndP:ps.Nodup:=by rw[<-S.pre];exact S.nd.sublist (XD _ _)
  refine⟨u,rv,?_⟩;rcases S.par y (LU hp) with k|k
  ·exact .inl ⟨k,pV ndP hp hu k⟩
  ·refine q1x1 (sQ (n:=s.heap.objs.size+1) k) λc e=>?_;refine .inr ⟨.inl k,c,e,?_⟩;have q:=x.cell y c e;rw[qJ ndP hp hu (by show scope.names.lookup y≠_;rw[k];decide)] at q;exact q
 ·exact e0.hok.fresh (Np (x.above y c (PySem.mem_of_lookup h)))
 ·unfold start;show _=N.length;rw[Ll,Lu,Vr];omega
def C8 {K:LX}{k:Nat}{kV:Lk}
 (lk:K.lookup f=Z ⟨oc,od,.func (Si name qual params body scope dV kV doc pm an cdv ct),osl⟩) (hcd:U2 K cdv qual=true) (S:dB N ps scope)
  (len:∀vs H Q E,sp vs H Q E->vs.length=ps.length)
  (hbody:∀(A:MX) (outer:List Env) (s:Lm) (H:Hp) (vs:List V) (Q:VK) (E:XK),bE k (A.deeper (Pz qual scope s.heap.objs.size f cdv))->sp vs H Q E->
   ∃t,PSs (fZ CX P w K mg base N qual scope f cdv A outer s H E) body t/\t {nx:=λ_ H'=>Q .non H',rt:=Q} (start N vs) H) :
  fA P w K mg base CX (k+1) f (Si name qual params body scope dV kV doc pm an cdv ct) ps sp:=by
 refine⟨len,λA outer s H args us vs Q E hr e0 hb r hsp=>?_⟩;have hl:=len _ _ _ _ hsp;have KX:K.In s.heap:=e0.mod.kin.keeps λb o e=>(e0.bs b o e).1
 have lim:s.heap.NoLimit:=e0.mod.nolimit.keeps λb o e=>(e0.bs b o e).1
 have hkind:∀y∈ps.zip us,scope.names.lookup y.1=Z .local\/(scope.names.lookup y.1=Z .cell/\((Rb (s.heap.objs.size+1) scope.names []).lookup y.1).isSome=true):=λ⟨n,v⟩ hy=>by
  rcases S.par n (UA hy).1 with q|q
  ·exact .inl q
  ·exact .inr ⟨q,Sx _ _ _ (.inl q)⟩
 refine codeAny_call_function hr.depth (KX _ _ lk) rfl S.co S.gen rfl (W.codeRec_of KX hcd) (hb _ _ _ _ ?_);refine RS S.kind hkind λenv he s1 x=>?_
 subst he;refine⟨lim.keeps x.toInCall.keep,codeAny_func ?_⟩;refine q1x2 (hbody A outer s H vs Q E (hr.deeper _) hsp) λt ht hq=>?_;have I:Inv (fZ CX P w K mg base N qual scope f cdv A outer s H E) [] (start N vs) H s1:=qa S hr.hd e0 hl r x;refine MY (ht [] s1 (start N vs) H _ I hq) (λfl s' hs=>?_) λe s' hs=>hs
 have fin:∀{σ':St} {H':Hp} {v:V} {u:Lk},Inv (fZ CX P w K mg base N qual scope f cdv A outer s H E) [] σ' H' s'->bg v u->Q v H'->CE outer P w H s Q u s':=
  λ{σ' H' v u} J rv q=>⟨v,H',J.os,J.bare,J.base,J.hok,rv,q⟩
 cases fl with
 | ret u=>
  refine q3x3 hs λv σ' H' J rv q=>?_;exact fin J rv q
 | next=>
  refine q2x2 hs λσ' H' J q=>?_;exact fin (v:=V.non) (u:=MJ) J rfl q
 | brk=>
  refine q2x2 hs λ_ _ _ q=>?_;exact O0 q
 | cont=>
  refine q2x2 hs λ_ _ _ q=>?_;exact O0 q
section
variable {X:Cx}{x:Str}{p pos:Pos}{e:MT}{es:List MT}{t:TA}{id T:String}{r:List V->Hp->VK->Prop}
def Kv (r:List V->Hp->VK->Prop)(t:TA):TE:=λσ H Q=>t σ H λvs H1=>r vs H1 Q
def mf (hc:cG X (.builtin id) r)(hg:Gl X x)(hm:X.mg x=Y)(hv:Mp x=Z (.builtin id))(ha:PA X (e::es) t)(hn:x≠"__name__":=by decide)(hdb:(x==("__debug__":Str))=false:=by decide)
  (he:Mt (e::es) X.env=(false,Ou e X.env)::Mt es X.env:=by rfl) (hpl:(P6 pos (Mt es X.env)).any (·.1)=false:=by rfl):PE X (.Call (.Name x p) (e::es) [] pos) (Kv r t):=by
 intro af s σ H Q I h;refine Qs (iI I hg hm hv ?_ hn hdb);exact Vs (bR (ha pos af s σ H _ I h) λus s1 ⟨vs,H1,I1,r1,q1⟩=>hc af s1 σ H1 vs us Q I1 r1 q1) he hpl
def qC (hc:cG X (.type T) r)(hg:Gl X x)(hm:X.mg x=Y)(hv:Mp x=Z (.type T))(ha:PA X (e::es) t)(hn:x≠"__name__":=by decide)(hdb:(x==("__debug__":Str))=false:=by decide)
  (he:Mt (e::es) X.env=(false,Ou e X.env)::Mt es X.env:=by rfl) (hpl:(P6 pos (Mt es X.env)).any (·.1)=false:=by rfl):PE X (.Call (.Name x p) (e::es) [] pos) (Kv r t):=by
 intro af s σ H Q I h;refine Qs (iI I hg hm hv ?_ hn hdb);exact Nn (bR (ha pos af s σ H _ I h) λus s1 ⟨vs,H1,I1,r1,q1⟩=>hc af s1 σ H1 vs us Q I1 r1 q1) he hpl
end
end L2
namespace HT
open PySem PyProof.Rows
def lexLt:List Int->List Int->Bool
 | [],[]=>false
 | [],_::_=>true
 | _::_,[]=>false
 | x::xs,y::ys=>if x=y then lexLt xs ys else decide (x<y)
theorem lexLt_cons (x y:Int)(xs ys:List Int):lexLt (x::xs) (y::ys)=if x=y then lexLt xs ys else decide (x<y):=rfl
theorem lexLt_nil_nil:lexLt [] []=false:=rfl
theorem lexLt_nil_cons (y:Int)(ys:List Int):lexLt [] (y::ys)=true:=rfl
theorem lexLt_cons_nil (x:Int)(xs:List Int):lexLt (x::xs) []=false:=rfl
def eqAt_int (A:MX)(s:Lm)(a:Int)(t:Tok)(c:Int)(u:Tok):∃e,Wv A s (.int a t) (.int c u) e/\(e=true↔a=c):=
 ⟨(a==c),UC a t c u,by simp⟩
def yD (A:MX)(s:Lm)(a:Int)(t:Tok)(c:Int)(u:Tok)(prog:Mi)(w:My)(E:Lk->Lm->Prop)(Q:Lk->Lm->Prop)(h:Q (.bool (decide (a<c))) s) :
  Lp (LD prog w) A (Ts .Lt (.int a t) (.int c u)) Q E s:=
 (Tb h:Lp (LD prog w) A (MI .Lt (.int a t) (.int c u)) Q E s)
section
open PySem.SeqAt
open PySem.AutoSeq1 (wpAny_loadPart')
open PySem.MeetsSeq PySem.MeetsSeq2 PySem.MeetsSeq3
def pf (l b:LA)(items items2:Array Lk)(n n2:Nat)(dd dd2:Option LA)(sl sl2:Array (Option Lk))(ns ms:List Int)(hi:N5 items.toList ns)(hj:N5 items2.toList ms) :
  Meets (O2.«tuple.__lt__» ⟨[.ref l,.ref b],[]⟩)
   (λ_ R s=>s.heap.get? l=Z {cls:=.type "tuple",dict:=dd,data:=.seq items n,slots:=sl}/\s.heap.get? b=Z {cls:=.type "tuple",dict:=dd2,data:=.seq items2 n2,slots:=sl2}/\
    R (.ok (.ret (.bool (lexLt ns ms)))) s):=
 .of_wp λprog w A R s h=>by
  obtain⟨hp,g,d,tk,os⟩:=s;refine q0x3 h λhl hb h=>?_;have f2:=Sj;have z1:items.size=ns.length:=by rw[<-hi.length];simp
  have z2:items2.size=ms.length:=by rw[<-hj.length];simp
  wp_walk using NV hl,NV hb,Qd _ (λrest b s'=>b.1=Y/\s'=⟨hp,g,d,tk,os⟩/\∃(vs ws:List Lk) (ns' ms':List Int),rest=vs.zip ws/\
   N5 vs ns'/\N5 ws ms'/\ns'.length+items2.size=ms'.length+items.size/\R (.ok (.ret (.bool (lexLt ns' ms')))) ⟨hp,g,d,tk,os⟩) _
  case turn=>
   rintro ⟨y,x⟩ rest b s' ⟨hb',rfl,vs,ws,ns',ms',hz,hvi,hwi,hlen,hR⟩;cases hvi with
   | nil=>rw[Sb] at hz;cases hz
   | cons a t hvi'=>
    cases hwi with
    | nil=>rw[Tc] at hz;cases hz
    | cons c u hwi'=>
     rw[PU] at hz;injection hz with hyx hrest
     injection hyx with hy hx
     subst hy hx;rw[lexLt_cons] at hR;simp only[Mm] at hlen;refine q1x2 (eqAt_int A.in1 ⟨hp,g,d,tk,os⟩ a t c u) λe he hiff=>?_;refine Le (he prog w _ _ ?_);cases e with
     | true=>
      rw[if_pos (hiff.mp rfl)] at hR
      wp_walk
      exact⟨rfl,rfl,_,_,_,_,hrest,hvi',hwi',by omega,hR⟩
     | false=>
      rw[if_neg (λq=>absurd (hiff.mpr q) Ly)] at hR;have hri:=yD A.in1 ⟨hp,g,d,tk,os⟩ a t c u prog w
      wp_walk using hri
      exact⟨_,rfl,by simpa using hR⟩
  case fin=>
   rintro ⟨b1,b2⟩ s' ⟨hb',rfl,vs,ws,ns',ms',hz,hvi,hwi,hlen,hR⟩;simp only at hb';subst hb';have hv:lexLt ns' ms'=decide (items.size<items2.size):=by
    cases hvi with
    | nil=>
     cases hwi with
     | nil=>
      simp only[NK] at hlen;rw[lexLt_nil_nil];exact(decide_eq_false (by omega)).symm
     | cons c u hw=>
      simp only[NK,Mm] at hlen;rw[lexLt_nil_cons];exact(decide_eq_true (by omega)).symm
    | cons a t hv=>
     cases hwi with
     | nil=>
      simp only[NK,Mm] at hlen;rw[lexLt_cons_nil];exact(decide_eq_false (by omega)).symm
     | cons c u hw=>
      rw[PU] at hz;cases hz
   rw[hv] at hR
   wp_walk
   exact⟨_,rfl,by simpa[Q4] using hR⟩
  case h=>
   exact⟨rfl,rfl,items.toList,items2.toList,ns,ms,rfl,hi,hj,by omega,h⟩
end
section
variable {prog:Mi}{w:My}{A:MX}{E:Lk->Lm->Prop}{s:Lm}
def lt_tupInts (hl:VJ s.heap l items)(hb:VJ s.heap b items2)(hi:N5 items.toList ns)(hj:N5 items2.toList ms)
  (hu:A.units<Qv) (h:Q (.bool (lexLt ns ms)) s):Lp (LD prog w) A (MI .Lt (.ref l) (.ref b)) Q E s:=by
 obtain⟨⟨cls,dd,data,sl⟩,ho,hc,n,hd⟩:=id hl;obtain⟨⟨cls2,dd2,data2,sl2⟩,ho2,hc2,n2,hd2⟩:=id hb;simp only at hc hd hc2 hd2;subst hc hd hc2 hd2;exact SN (op:=.Lt) ⟨_,ho,rfl⟩ ⟨_,ho2,rfl⟩ PySem.F.slot_tuple_lt PySem.F.entry_tuple_lt (PySem.F.args_tuple_lt_2 _ _) (pf l b items items2 n n2 dd dd2 sl sl2 ns ms hi hj)
  ⟨ho,ho2,show Uy (lexLt ns ms)≠Tt/\Q (.bool (lexLt ns ms)) s from⟨(λx=>nomatch x),h⟩⟩ hu
def cat_tup {t:LA}(ht:VJ s.heap t vs.toArray)(hb:VJ s.heap b ws.toArray)(hv:vs≠[])
  (h1:ws=[]->Q (.ref t) s) (h2:ws≠[]->Q (.ref s.heap.objs.size) {s with heap:=s.heap.push {cls:=.type "tuple",data:=.seq (vs++ws).toArray}})
  (hsz:vs.length+ws.length<=LW):Lp (LD prog w) A (OL .Add (.ref t) (.ref b)) Q E s:=by
 obtain⟨⟨cls,dd,data,sl⟩,ho,hc,n,hd⟩:=id ht;obtain⟨⟨cls2,dd2,data2,sl2⟩,ho2,hc2,n2,hd2⟩:=id hb;simp only at hc hd hc2 hd2;subst hc hd hc2 hd2;have e:vs.toArray++ws.toArray=(vs++ws).toArray:=by simp
 by_cases hw:ws=[]
 ·exact XE ⟨_,ho,rfl⟩ ⟨_,ho2,rfl⟩ Vt W8 PySem.F.slot_tuple_add PySem.F.entry_tuple_add (PySem.F.args_tuple_add_2 _ _)
   (tuple_addW1 t b vs.toArray ws.toArray n n2 dd dd2 sl sl2 (by simpa using hv) (by simp[hw])) ⟨ho,ho2,h1 hw⟩
 ·refine XE ⟨_,ho,rfl⟩ ⟨_,ho2,rfl⟩ Vt W8 PySem.F.slot_tuple_add PySem.F.entry_tuple_add (PySem.F.args_tuple_add_2 _ _)
   (tuple_addW2 t b vs.toArray ws.toArray n n2 dd dd2 sl sl2 (by simpa using hv) (by simpa using hw) (by rw[L5,L5];exact hsz)) ⟨ho,ho2,?_⟩
  rw[e];exact h2 hw
def sIx (n d:Nat):Option Int->Nat
 | none=>d
 | some v=>if v<0 then(v+(n:Int)).toNat else min v.toNat n
def EV (n d:Nat)(hd:d<=n)(o:Option Int):sIx n d o<=n:=by
 cases o with
 | none=>exact hd
 | some v=>
  show(if v<0 then(v+(n:Int)).toNat else min v.toNat n)<=n
  by_cases hv:v<0
  ·rw[if_pos hv];omega
  ·rw[if_neg hv];exact Sy _ _
def v9 (v:Int)(n d:Nat):(if v<0 then max (v+(n:Int)) 0 else min v (n:Int))=((sIx n d (Z v):Nat):Int):=by
 show(if v<0 then max (v+(n:Int)) 0 else min v (n:Int))=(((if v<0 then(v+(n:Int)).toNat else min v.toNat n):Nat):Int)
 by_cases hv:v<0
 ·simp only[if_pos hv];omega
 ·simp only[if_neg hv];omega
def vm (lo hi:Option Int)(n:Nat):Qg lo hi 1 (n:Int)=(((sIx n 0 lo:Nat):Int),((sIx n n hi:Nat):Int)):=by
 have h1:¬((1:Int)<0):=by omega
 unfold Qg;simp only[h1,if_false];refine Pn ?_ ?_
 ·cases lo with
  | none=>rfl
  | some v=>exact v9 v n 0
 ·cases hi with
  | none=>rfl
  | some v=>exact v9 v n n
def vK (i j:Nat):O6 (i:Int) (j:Int) 1=j-i:=by
 unfold O6;have h1:(1:Int)>0:=by omega
 simp only[h1,if_true,Int.ediv_one];split <;> omega
def oJ (p:UD v o)(h:Q o s):Lp (LD prog w) A (VZ v) Q E s:=by
 cases p with
 | none=>exact Ww h
 | int i t=>exact slicePart_int h
def sliceApplied_gen {sl:LA}{vl vu:Lk}{lo hi:Option Int}{n:Nat}{Q:Int×Int×Nat->Lm->Prop}(hs:s.heap.IsSliceOf sl vl vu .none)(pl:UD vl lo)(pu:UD vu hi)
  (h:Q (((sIx n 0 lo:Nat):Int),1,sIx n n hi-sIx n 0 lo) s):Lp (LD prog w) A (RU (.ref sl) (pure (n:Int))) Q E s:=by
 refine q1x3 (id hs) λos hos hcs hds=>?_;unfold RU W5;refine Le (Le (MC hos hds (x:=vl) rfl (Le (MC hos hds (x:=vu) rfl (Le (MC hos hds (x:=.none) rfl (Lf ?_)))))));refine Le (Ww ?_);show Lp _ _ (if((1:Int)==0)=true then _ else _) _ _ s;rw[if_neg (by decide)];refine Le (oJ pl (Le (oJ pu (Le (Lf ?_)))));show Lp _ _ (match Qg lo hi 1 (n:Int) with|(lo,hi)=>pure (lo,(1:Int),O6 lo hi 1)) _ _ s;rw[vm lo hi n];show Lp _ _ (pure (((sIx n 0 lo:Nat):Int),(1:Int),O6 ((sIx n 0 lo:Nat):Int) ((sIx n n hi:Nat):Int) 1)) _ _ s;rw[vK];exact Lf h
def z9 (xs:Array Lk)(i k:Nat):((Lw k).filterMap λ(m:Nat)=>xs[((i:Int)+(m:Int)*1).toNat]?).toArray=((xs.toList.drop i).take k).toArray:=by
 have e:(λ(m:Nat)=>xs[((i:Int)+(m:Int)*1).toNat]?)=λm=>xs[i+m]?:=by
  funext m;have:((i:Int)+(m:Int)*1).toNat=i+m:=by omega
  rw[this]
 rw[e];have:=pick_run xs i k;rw[VM] at this;have e2:((λx=>xs[x]?) ∘ λx=>i+x)=λm=>xs[i+m]?:=rfl
 rw[e2] at this;rw[this]
def getItem_tuple_cut {t:LA}{lo hi:Option Int}(ht:VJ s.heap t items)(hs:s.heap.IsSliceOf sl vl vu .none)(pl:UD vl lo)(pu:UD vu hi)
  (hw:¬(sIx items.size 0 lo=0/\sIx items.size items.size hi=items.size))
  (h:Q (.ref s.heap.objs.size) {s with heap:=s.heap.push {cls:=.type "tuple",data:=.seq ((items.toList.drop (sIx items.size 0 lo)).take (sIx items.size items.size hi-sIx items.size 0 lo)).toArray}})
  (hsz:items.size<=LW):Lp (LD prog w) A (Wh (.ref t) (.ref sl)) Q E s:=by
 have htake:sizeOk (.seq ((items.toList.drop (sIx items.size 0 lo)).take (sIx items.size items.size hi-sIx items.size 0 lo)).toArray):=by
  show((items.toList.drop (sIx items.size 0 lo)).take (sIx items.size items.size hi-sIx items.size 0 lo)).toArray.size<=LW;rw[L5,Nd,OE,Ln];omega
 have hj:sIx items.size items.size hi<=items.size:=EV _ _ (Lr _) hi;refine q1x3 (id hs) λos hos hcs hds=>?_;have hTs:s.TypeIs (.ref sl) "slice":=⟨os,hos,hcs⟩;unfold Wh
 try with_reducible refine Mc ?_
 first|refine Le (Lf ?_)|skip
 refine Le (wpAny_sequenceKey ht.typeIs (by decide) ?_);refine Le (MP (name:=NG "__getitem__") ht.typeIs Mw
  (MW Mw ht.typeIs entry_tuple_getitem ?_ (args_tuple_getitem _ _)))
 show Lp _ _ (Wx (.ref t) >>= _) _ _ s;refine Le (tupleItemsOf_ ht ?_);refine Le (SO hTs ?_);rw[if_pos (by decide)];refine Le (sliceApplied_gen hs pl pu ?_);have hno:¬((((sIx items.size 0 lo:Nat):Int)==0&&(1:Int)==1&&(sIx items.size items.size hi-sIx items.size 0 lo)==items.size)=true):=by
  intro q;rw[LN,LN] at q;have q1:((sIx items.size 0 lo:Nat):Int)=0:=eq_of_beq q.1.1;have q2:sIx items.size items.size hi-sIx items.size 0 lo=items.size:=eq_of_beq q.2;exact hw ⟨by omega,by omega⟩
 show Lp _ _ (if(((sIx items.size 0 lo:Nat):Int)==0&&(1:Int)==1&&(sIx items.size items.size hi-sIx items.size 0 lo)==items.size)=true then _ else _) _ _ s;rw[if_neg hno,z9]
 first
  | exact Le (m:=Ph _) (Nt (Lf ⟨_,rfl,Lf h⟩) htake)
  | exact Le (m:=Ph _) (Nt (Le (Lf (Lf ⟨_,rfl,Lf h⟩))) htake)
  | exact Le (Le (m:=Ph _) (Nt (Lf (Lf ⟨_,rfl,Lf h⟩)) htake))
  | exact Le (Le (m:=Ph _) (Nt (Lf ⟨_,rfl,Lf h⟩) htake))
end
end HT
namespace L2
open PySem PySem.Spec PyProof.Rows List
abbrev TO:=St->Hp->(Option Int->Hp->Prop)->Prop
def PO (X:Cx)(e:Option MT)(t:TO):Prop:=
 ∀(af:List (LA×Obj)) (s:Lm) (σ:St) (H:Hp) (Q:Option Int->Hp->Prop),Inv X af σ H s->t σ H Q->
  Lp (LD X.prog X.w) X.A (evalPart e X.env) (λu s'=>∃o H',Inv X af σ H' s'/\UD u o/\Q o H') X.xe s
def CF:TO:=λ_ H Q=>Q Y H
def Ho (t:TE):TO:=λσ H Q=>t σ H λx H1=>∃i,x=.int i/\Q (Z i) H1
def ig:∀{us:List Lk},aS (ns.map V.int) us->N5 us ns:=by
 induction ns with
 | nil=>intro us r;rw[Wi] at r;cases r;exact .nil
 | cons n ns ih=>
  intro us r;rw[Nf] at r;cases r with
  | cons r1 r2=>
   refine q1x1 r1 λt e=>?_;subst e;exact .cons n t (ih r2)
section
variable {X:Cx}{e:MT}{te:TE}{lo hi:Option MT}{tl th:TO}{pos p2:Pos}
def BQ:PO X Y CF:=by
 intro af s σ H Q I h;rw[W9];exact Lf ⟨Y,H,I,.none,h⟩
def Cf (h:PE X e te):PO X (Z e) (Ho te):=by
 intro af s σ H Q I hw;rw[evalPart_some];refine bR (h af s σ H _ I hw) λu s1 hxx=>?_
 refine q2x3 hxx λx H1 I1 r1 q1=>?_;refine q1x2 q1 λi zz1 q=>?_;subst zz1;refine q1x1 r1 λt zz1=>?_;subst zz1;exact⟨Z i,H1,I1,.int i t,q⟩
def Jw (X:Cx)(r:V->Option Int->Option Int->Hp->VK->Prop):Prop:=
 ∀(af:List (LA×Obj)) (s:Lm) (σ:St) (H:Hp) (x:V) (v vl vu:Lk) (lo hi:Option Int) (sl:LA) (Q:VK),Inv X af σ H s->bg x v->s.heap.IsSliceOf sl vl vu .none->UD vl lo->UD vu hi->r x lo hi H Q->
  ∃T id,typeLookup (.type T) "__getitem__"=pure (Z (.builtin id))/\s.TypeIs v T/\Lp (LD X.prog X.w) X.A (Wh v (.ref sl)) (EP X af σ Q) X.xe s
def K9 (r:V->Option Int->Option Int->Hp->VK->Prop)(te:TE)(tl th:TO):TE:=λσ H Q=>te σ H λx H1=>tl σ H1 λl H2=>th σ H2 λu H3=>r x l u H3 Q
def zS (hr:Jw X r)(he:PE X e te)(hl:PO X lo tl)(hu:PO X hi th):PE X (.Subscript e (.Slice lo hi Y p2) pos) (K9 r te tl th):=by
 intro af s σ H Q I h;refine Subscript_ (bR (he af s σ H _ I h) λv s1 hxx=>?_);refine q2x3 hxx λx H1 I1 r1 q1=>?_;refine wpAny_Slice (bR (hl af s1 σ H1 _ I1 q1) λvl s2 ⟨l,H2,I2,pl,q2⟩=>bR (hu af s2 σ H2 _ I2 q2) λvu s3 hxx=>?_);refine q2x3 hxx λu H3 I3 pu q3=>?_;rw[W9];refine Lf ?_;have I4:Inv X af σ H3 {s3 with heap:=s3.heap.push {cls:=.type "slice",data:=.fields #[vl,vu,.none]}}:=I3.kept (t':=s3.toks) λb ob q=>Lg _ q
 refine q2x3 (hr af {s3 with heap:=s3.heap.push {cls:=.type "slice",data:=.fields #[vl,vu,.none]}} σ H3 x v vl vu l u s3.heap.objs.size Q I4 r1 (Yv ..) pl pu q3) λT id hT ht hg=>?_;show Lp (LD X.prog X.w) X.A (Xa e (.Slice lo hi Y p2) v (.ref s3.heap.objs.size)) (EP X af σ Q) X.xe {s3 with heap:=s3.heap.push {cls:=.type "slice",data:=.fields #[vl,vu,.none]}};exact tail_any (ops:=[.ref s3.heap.objs.size,v]) ht hT hg (by with_unfolding_all rfl)
def sR (xs:List V)(lo hi:Option Int):List V:=(xs.drop (HT.sIx xs.length 0 lo)).take (HT.sIx xs.length xs.length hi-HT.sIx xs.length 0 lo)
def m8 (xs:List V)(lo hi:Option Int):(sR xs lo hi).length<=xs.length:=by
 unfold sR;rw[Nd,OE];omega
def Kq (K:LX):V->Option Int->Option Int->Hp->VK->Prop:=λx lo hi H Q=>∃a xs,x=.ref a/\nH K H a xs/\
 ¬(HT.sIx xs.length 0 lo=0/\HT.sIx xs.length xs.length hi=xs.length)/\∀p,H p=Y->Q (.ref p) (bG H p (.tup (sR xs lo hi)))
def EJ:Jw X (Kq X.K):=by
 intro af s σ H x v vl vu lo hi sl Q I rx hs pl pu h;refine q2x4 h λa xs zz2 hx hw q=>?_;subst zz2;cases rx;refine q1x3 (I.tuple hx) λits r ht hz=>?_;have hlen:its.toArray.size=xs.length:=by rw[L5];exact r.length.symm
 refine⟨"tuple",_,Mw.lookup,ht.typeIs,?_⟩;refine HT.getItem_tuple_cut ht hs pl pu (by rw[hlen];exact hw) ?_ (by rw[hlen];exact hz);rw[hlen];refine⟨.ref s.heap.objs.size,_,I.laid (t':=s.toks) (o:=.tup (sR xs lo hi)) (λb ob q=>Lg _ q) (Lr _) ?_,rfl,q _ (I.hok.fresh (Lr _))⟩;exact⟨LG (m8 xs lo hi) hz,_,(r.drop (HT.sIx xs.length 0 lo)).take (HT.sIx xs.length xs.length hi-HT.sIx xs.length 0 lo),Xq _ _⟩
def Hq (K:LX):R2:=λx y H Q=>∃a b xs ys,x=.ref a/\y=.ref b/\nH K H a xs/\nH K H b ys/\xs≠[]/\xs.length+ys.length<=LW/\
 (ys=[]->Q (.ref a) H)/\(ys≠[]->∀p,H p=Y->Q (.ref p) (bG H p (.tup (xs++ys))))
def aS.nil_iff (r:aS xs us):us=[]↔xs=[]:=by
 cases r with
 | nil=>simp
 | cons _ _=>simp
def BF:iH X (OL .Add) (Hq X.K):=by
 intro af s σ H x y v u Q I rx ry h;obtain⟨a,b,xs,ys,rfl,rfl,ha,hb,hx,hz,q1,q2⟩:=h;cases rx;cases ry;refine q1x3 (I.tuple ha) λits r1 p1 _=>?_;refine q1x3 (I.tuple hb) λits2 r2 p2 _=>?_;refine HT.cat_tup p1 p2 (λz=>hx (r1.nil_iff.mp z)) (λz=>⟨.ref a,H,I,rfl,q1 (r2.nil_iff.mp z)⟩) (λz=>?_) (by rw[<-r1.length,<-r2.length];exact hz);refine⟨.ref s.heap.objs.size,_,I.laid (t':=s.toks) (o:=.tup (xs++ys)) (λb ob q=>Lg _ q) (Lr _) ?_,rfl,q2 (λw=>z (r2.nil_iff.mpr w)) _ (I.hok.fresh (Lr _))⟩;exact⟨by rw[Ll];exact hz,_,r1.append r2,Xq _ _⟩
end
def yB (n:Nat)(i:Int):Option Nat:=if 0<=i then(if i<n then Z i.toNat else Y) else if -(n:Int)<=i then Z (i+n).toNat else Y
def nD {α:Type}(xs:List α)(i:Int):Option α:=(yB xs.length i).bind λj=>xs[j]?
def wl (h:yB n i=Z j):seqIndex? i n=Z j/\j<n/\-(n:Int)<=i/\i<n:=by
 unfold yB at h
 by_cases h0:0<=i
 ·rw[if_pos h0] at h
  by_cases h1:i<n
  ·rw[if_pos h1] at h;have e:i.toNat=j:=LZ h;exact⟨by rw[VN h0 h1,e],by omega,by omega,h1⟩
  ·rw[if_neg h1] at h;cases h
 ·rw[if_neg h0] at h
  by_cases h1:-(n:Int)<=i
  ·rw[if_pos h1] at h;have e:(i+n).toNat=j:=LZ h;exact⟨by rw[U3 (by omega) h1,e],by omega,h1,by omega⟩
  ·rw[if_neg h1] at h;cases h
def wc {xs:List α}{v:α}(h:nD xs i=Z v):∃j,seqIndex? i xs.length=Z j/\xs[j]?=Z v/\j<xs.length/\-(xs.length:Int)<=i/\i<xs.length:=by
 unfold nD at h;cases e:yB xs.length i with
 | none=>rw[e] at h;cases h
 | some j=>
  rw[e] at h;refine q0x4 (wl e) λh1 h2 h3 h4=>?_;exact⟨j,h1,h,h2,h3,h4⟩
def kg {xs:List α}{j:Nat}{v:α}(h:xs[j]?=Z v):nD xs (j:Int)=Z v:=by
 have hj:j<xs.length:=(Lj.mp h).1;have e:yB xs.length (j:Int)=Z j:=by
  unfold yB;rw[if_pos (by omega),if_pos (by omega)];simp
 unfold nD;rw[e];exact h
def rO (b:MT):Prop:=∀o i,subscripted b false o i=operate [o,i] (Wh o i)
def Jq (X:Cx)(r:R2):Prop:=
 ∀(value slice:MT) (af:List (LA×Obj)) (s:Lm) (σ:St) (H:Hp) (x y:V) (v u:Lk) (Q:VK),Inv X af σ H s->bg x v->bg y u->r x y H Q->
  subscripted slice false v u=operate [v,u] (Wh v u)->Lp (LD X.prog X.w) X.A (Xa value slice v u) (EP X af σ Q) X.xe s
def Lc (X:Cx)(id:String)(r:V->List V->Hp->VK->Prop):Prop:=
 ∀(af:List (LA×Obj)) (s:Lm) (σ:St) (H:Hp) (x:V) (xs:List V) (v:Lk) (us:List Lk) (Q:VK),Inv X af σ H s->bg x v->aS xs us->r x xs H Q->
  Lp (LD X.prog X.w) X.A (call (.builtin id) (v::us)) (EP X af σ Q) X.xe s
section
variable {X:Cx}{a b:MT}{ta tb:TE}{pos:Pos}
def HG (hr:Jq X r)(ha:PE X a ta)(hb:PE X b tb)(hs:rO b):PE X (.Subscript a b pos) (G6 r ta tb):=by
 intro af s σ H Q I h;exact Subscript_ (FS ha hb I h λv u s2 x y H2 I2 rx ry q=>hr a b af s2 σ H2 x y v u Q I2 rx ry q (hs _ _))
def Kk (K:LX):R2:=λx y H Q=>∃p xs i v,x=.ref p/\y=.int i/\gG K H p xs/\nD xs i=Z v/\Q v H
def JJ (K:LX):R2:=λx y H Q=>∃p xs i v,x=.ref p/\y=.int i/\nH K H p xs/\nD xs i=Z v/\Q v H
def BV:Jq X (Kk X.K):=by
 intro value slice af s σ H x y v u Q I rx ry h hs;refine q4x5 h λp xs i z zz4 zz5 hq he q=>?_;subst zz4;subst zz5;cases rx;refine q1x1 ry λt zz1=>?_;subst zz1;refine q1x3 (I.list hq) λits r pl hz=>?_;obtain⟨j,h1,h2,h3,h4,h5⟩:=wc he;refine q1x2 (r.get h2) λw ew rw'=>?_;have hl:=r.length;have hn:=mM;have fin:EP X af σ Q w s:=⟨z,H,I,rw',q⟩
 by_cases h0:0<=i
 ·have hj:i.toNat=j:=by
   rw[VN h0 h5] at h1;exact LZ h1
  exact item_listR pl.isList h0 (by omega) (by rw[hj];simpa using ew) fin hs
 ·have hj:(i+(its.toArray.size:Int)).toNat=j:=by
   rw[U3 (by omega) h4] at h1;rw[L5,<-hl];exact LZ h1
  exact SQ (x:=w) pl.isList.typeIs U4.lookup
   (wpAny_getItem_list_neg (Q:=λr s'=>r=w/\EP X af σ Q r s') pl.isList (by omega) (by rw[L5] <;> omega) (by omega) (by rw[hj];simpa using ew) ⟨rfl,fin⟩) hs
def Fo:Jq X (JJ X.K):=by
 intro value slice af s σ H x y v u Q I rx ry h hs;refine q4x5 h λp xs i z zz4 zz5 hq he q=>?_;subst zz4;subst zz5;cases rx;refine q1x1 ry λt zz1=>?_;subst zz1;refine q1x3 (I.tuple hq) λits r pl hz=>?_;obtain⟨j,h1,h2,h3,h4,h5⟩:=wc he;refine q1x2 (r.get h2) λw ew rw'=>?_;have hl:=r.length;have hn:=mM;have fin:EP X af σ Q w s:=⟨z,H,I,rw',q⟩;exact SQ (x:=w) pl.typeIs Mw.lookup
  (getItem_tuple (j:=j) (Q:=λr s'=>r=w/\EP X af σ Q r s') pl (by omega) (by omega) (by rw[L5,<-hl];exact h1) (by simpa using ew) ⟨rfl,fin⟩) hs
def vd (its:List Lk)(n j:Nat)(u:Lk):MK (·.setIfInBounds j u) {cls:=.type "list",data:=.seq its.toArray n}={cls:=.type "list",data:=.seq (its.set j u).toArray n}:=by
 simp[MK]
def Inv.lst {af:List (LA×Obj)}{σ:St}{H:Hp}{s:Lm}{p:LA}{xs:List V}(I:Inv X af σ H s)(h:H p=Z (.lst xs)) :
  ∃(its:List Lk) (n:Nat),aS xs its/\s.heap.get? p=Z {cls:=.type "list",data:=.seq its.toArray n}/\xs.length<=LW:=by
 obtain⟨z,its,n,r,e⟩:=I.hok p _ h;exact⟨its,n,r,e,z⟩
def Inv.lstUpd {its its':List Lk}(I:Inv X af σ H s)(h:H p=Z (.lst xs))
  (ho:s.heap.get? p=Z {cls:=.type "list",data:=.seq its.toArray n}) (hf:f {cls:=.type "list",data:=.seq its.toArray n}={cls:=.type "list",data:=.seq its'.toArray n'}) (r:aS ys its') (hz:ys.length<=LW) (t:Nat) :
  Inv X af σ (bG H p (.lst ys)) {s with heap:=s.heap.update p f,toks:=t}:=by
 have e:(s.heap.update p f).get? p=Z {cls:=.type "list",data:=.seq its'.toArray n'}:=by
  rw[O3 f ho (by rw[hf] <;> rfl),hf]
 refine I.write (x:=p) (e:=p) (by rw[h];trivial) (.inl rfl) (λb u hb q=>(Mz _ _ (NL hb)).trans q) ⟨_,e⟩ ?_;exact⟨hz,its',n',r,e⟩
def GZ:V->V->V->Hp->(Hp->Prop)->Prop:=λo i v H Q=>∃p xs k j,o=.ref p/\i=.int k/\H p=Z (.lst xs)/\yB xs.length k=Z j/\Q (bG H p (.lst (xs.set j v)))
def AM:IK X GZ:=by
 intro af s σ H o i v ov iv u Q I ro ri rv h;refine q4x5 h λp xs k j zz4 zz5 hp hj q=>?_;subst zz4;subst zz5;cases ro;refine q1x1 ri λt zz1=>?_;subst zz1;refine q2x3 (I.lst hp) λits n r ho hz=>?_;refine q0x4 (wl hj) λh1 h2 h3 h4=>?_;have hl:=r.length;have hn:=mM;have I':Inv X af σ (bG H p (.lst (xs.set j v))) {s with heap:=s.heap.update p (MK (·.setIfInBounds j u))}:=
  I.lstUpd hp ho (vd its n j u) (r.set rv j) (by rw[Wy];exact hz) s.toks
 by_cases h0:0<=k
 ·have hk:k.toNat=j:=by
   rw[VN h0 h4] at h1;exact LZ h1
  exact W.ki_setAt ho h0 (by omega) (by rw[L5,<-hl];exact h4) (by rw[hk];exact⟨_,I',q⟩)
 ·have hk:(k+(its.toArray.size:Int)).toNat=j:=by
   rw[U3 (by omega) h3] at h1;rw[L5,<-hl];exact LZ h1
  exact W.ki_setBack ho (by omega) (by rw[L5,<-hl];exact h3) (by omega) (by rw[hk];exact⟨_,I',q⟩)
def rS (lo hi:Option Int)(n:Nat):(Qw lo hi Y n).1=((HT.sIx n 0 lo:Nat):Int)/\(Qw lo hi Y n).2.1=((HT.sIx n n hi:Nat):Int)/\(Qw lo hi Y n).2.2=1:=by
 refine⟨?_,?_,rfl⟩
 ·cases lo with
  | none=>simp[Qw,HT.sIx]
  | some i=>
   simp only[Qw,HT.sIx,Vu,show(1:Int)>0 by decide,if_true]
   by_cases h:i<0
   ·simp only[h,if_true] <;> omega
   ·simp only[h,if_false] <;> omega
 ·cases hi with
  | none=>simp[Qw,HT.sIx]
  | some i=>
   simp only[Qw,HT.sIx,Vu,show(1:Int)>0 by decide,if_true]
   by_cases h:i<0
   ·simp only[h,if_true] <;> omega
   ·simp only[h,if_false] <;> omega
def oU (its:List Lk)(lo hi:Option Int):slicePick its.toArray lo hi Y=((its.drop (HT.sIx its.length 0 lo)).take (HT.sIx its.length its.length hi-HT.sIx its.length 0 lo)).toArray:=by
 refine q0x3 (rS lo hi its.toArray.size) λh1 h2 h3=>?_;unfold slicePick;rw[h1,h2,h3];simp only[sliceRange_one,pick_run,L5] <;> rfl
def J5 (K:LX):V->Option Int->Option Int->Hp->VK->Prop:=λx lo hi H Q=>∃a xs,x=.ref a/\gG K H a xs/\∀p,H p=Y->Q (.ref p) (bG H p (.lst (sR xs lo hi)))
def qU:Jw X (J5 X.K):=by
 intro af s σ H x v vl vu lo hi sl Q I rx hs pl pu h;refine q2x3 h λa xs zz2 hx q=>?_;subst zz2;cases rx;refine q1x3 (I.list hx) λits r ht hz=>?_;have hlen:=r.length;refine⟨"list",_,U4.lookup,ht.isList.typeIs,?_⟩;refine wpAny_getItem_list_slice ht.isList hs pl pu .none (by simp) ?_ (by rw[L5] <;> omega);rw[oU,<-hlen];refine⟨.ref s.heap.objs.size,_,I.laid (t':=s.toks) (o:=.lst (sR xs lo hi)) (λb ob q=>Lg _ q) (Lr _) ?_,rfl,q _ (I.hok.fresh (Lr _))⟩;exact⟨LG (m8 xs lo hi) hz,_,0,(r.drop (HT.sIx xs.length 0 lo)).take (HT.sIx xs.length xs.length hi-HT.sIx xs.length 0 lo),LJ _ rfl⟩
def kE:V->Bool
 | .non=>true
 | .bl _=>true
 | .int _=>true
 | .str _=>true
 | _=>false
def Bt:V->V->Bool
 | .non,.non=>true
 | .bl a,.bl b=>a==b
 | .bl a,.int b=>(if a then 1 else 0)==b
 | .int a,.bl b=>a==(if b then 1 else 0)
 | .int a,.int b=>a==b
 | .str a,.str b=>a==b
 | _,_=>false
def ES (ry:bg y u)(rx:bg x v)(fy:kE y=true)(fx:kE x=true):Wv A s u v (Bt y x):=by
 cases y with
 | non=>
  cases ry;cases x with
  | non=>cases rx;exact YT _
  | bl b=>cases rx;exact X4 b
  | int b=>refine q1x1 rx λt zz1=>?_;subst zz1;exact Yk b t
  | str b=>refine q1x1 rx λt zz1=>?_;subst zz1;exact Yl b t
  | _=>exact absurd (show false=true from fx) Ly
 | bl a=>
  cases ry;cases x with
  | non=>cases rx;exact X5 a
  | bl b=>cases rx;exact X6 a b
  | int b=>refine q1x1 rx λt zz1=>?_;subst zz1;exact Ym a b t
  | str b=>refine q1x1 rx λt zz1=>?_;subst zz1;exact Yn a b t
  | _=>exact absurd (show false=true from fx) Ly
 | int a=>
  refine q1x1 ry λt' zz1=>?_;subst zz1;cases x with
  | non=>cases rx;exact Yo a t'
  | bl b=>cases rx;exact Yp a t' b
  | int b=>refine q1x1 rx λt zz1=>?_;subst zz1;exact UC a t' b t
  | str b=>refine q1x1 rx λt zz1=>?_;subst zz1;exact Uw a t' b t
  | _=>exact absurd (show false=true from fx) Ly
 | str a=>
  refine q1x1 ry λt' zz1=>?_;subst zz1;cases x with
  | non=>cases rx;exact Yq a t'
  | bl b=>cases rx;exact Yr a t' b
  | int b=>refine q1x1 rx λt zz1=>?_;subst zz1;exact Ux a t' b t
  | str b=>refine q1x1 rx λt zz1=>?_;subst zz1;exact Yw a t' b t
  | _=>exact absurd (show false=true from fx) Ly
 | _=>exact absurd (show false=true from fy) Ly
def Cu (x:V)(u:Lk):Bool:=match u with
 | .none=>Bt .non x
 | .bool b=>Bt (.bl b) x
 | .int i _=>Bt (.int i) x
 | .str z _=>Bt (.str z) x
 | _=>false
def zl (r:bg y u)(f:kE y=true):Cu x u=Bt y x:=by
 cases y with
 | non=>cases r;rfl
 | bl b=>cases r;rfl
 | int i=>refine q1x1 r λt zz1=>?_;subst zz1;rfl
 | str z=>refine q1x1 r λt zz1=>?_;subst zz1;rfl
 | _=>exact absurd (show false=true from f) Ly
theorem rJ:∀{xs:List V} {us:List Lk},aS xs us->xs.all kE=true->us.any (Cu x)=xs.any λy=>Bt y x
 | _,_,.nil,_=>rfl
 | y::xs,u::us,.cons r t,f=>by
  rw[Pl,LN] at f;rw[any_cons,any_cons,zl r f.1,rJ t f.2]
theorem nU (rx:bg x v)(fx:kE x=true):∀{xs:List V} {us:List Lk},aS xs us->xs.all kE=true->∀u∈us,Wv A s u v (Cu x u)
 | _,_,.nil,_=>λu hu=>by cases hu
 | y::xs,u::us,.cons r t,f=>λu' hu=>by
  rw[Pl,LN] at f;rcases L1.mp hu with rfl|hu
  ·rw[zl r f.1];exact ES r rx f.1 fx
  ·exact nU rx fx t f.2 u' hu
def Jx (x:V)(xs:List V):Bool:=xs.any λy=>Bt y x
def K6 (K:LX)(neg:Bool):R2:=λx y H Q=>∃p xs,y=.ref p/\(gG K H p xs\/nH K H p xs)/\kE x=true/\xs.all kE=true/\Q (.bl (if neg then !Jx x xs else Jx x xs)) H
def yl:iH X (MI .In) (K6 X.K false):=by
 intro af s σ H x y v u Q I rx ry h;refine q2x5 h λp xs zz2 hq fx fs q=>?_;subst zz2;cases ry;rcases hq with hq|hq
 ·refine q1x3 (I.list hq) λits r pl hz=>?_;refine SeqAt.in_listAt (Cu x) pl.isList (λw hw=>nU rx fx r fs w (by simpa using hw)) ⟨.bl _,H,I,rfl,?_⟩;rw[show its.toArray.any (Cu x)=its.any (Cu x) by simp,rJ r fs];exact q
 ·refine q1x3 (I.tuple hq) λits r pl hz=>?_;refine SeqAt.in_tupleAt (Cu x) pl (λw hw=>nU rx fx r fs w (by simpa using hw)) ⟨.bl _,H,I,rfl,?_⟩;rw[show its.toArray.any (Cu x)=its.any (Cu x) by simp,rJ r fs];exact q
def rq:cG X (.builtin "len") (λxs H Q=>∃p ys,xs=[.ref p]/\(gG X.K H p ys\/nH X.K H p ys)/\Q (.int ys.length) H):=by
 intro af s σ H xs us Q I r h;refine q2x3 h λp ys zz2 hq q=>?_;subst zz2;refine q1x2 (js r) λu zz1 rx=>?_;subst zz1;cases rx;have hn:=mM;rcases hq with hq|hq
 ·refine q1x3 (I.list hq) λits r' pl hz=>?_;have hlen:=r'.length;exact Calls.call_len_list pl.isList (by simp only[L5] <;> omega) ⟨.int ys.length,H,I.tok _,⟨s.toks+1,by rw[L5,hlen]⟩,q⟩
 ·refine q1x3 (I.tuple hq) λits r' pl hz=>?_;have hlen:=r'.length;exact len_tuple pl (by simp only[L5] <;> omega) ⟨.int ys.length,H,I.tok _,⟨s.toks+1,by rw[L5,hlen]⟩,q⟩
def rE:cG X (.builtin "len") (λxs H Q=>∃z,xs=[.str z]/\z.length<=LW/\Q (.int z.length) H):=by
 intro af s σ H xs us Q I r h;refine q1x3 h λz zz1 hz q=>?_;subst zz1;obtain⟨u,rfl,t,rfl⟩:=js r;have hn:=mM;exact len_str (by omega) ⟨.int z.length,H,I.tok _,⟨_,rfl⟩,q⟩
def sv:cG X (.type "list") (λxs H Q=>∃p ys,xs=[.ref p]/\(gG X.K H p ys\/nH X.K H p ys)/\∀l,H l=Y->Q (.ref l) (bG H l (.lst ys))):=by
 intro af s σ H xs us Q I r h;refine q2x3 h λp ys zz2 hq q=>?_;subst zz2;refine q1x2 (js r) λu zz1 rx=>?_;subst zz1;cases rx;have fin:∀(its:List Lk),aS ys its->ys.length<=LW->∀(h':Nu) (c':Nat),(∀b o',s.heap.get? b=Z o'->h'.get? b=Z o')->
   h'.get? s.heap.objs.size=Z {cls:=.type "list",dict:=Y,data:=.seq its.toArray c',slots:=#[]}->EP X af σ Q (.ref s.heap.objs.size) {s with heap:=h'}:=λits r' hz h' c' kp e=>
  ⟨.ref s.heap.objs.size,_,I.laid (t':=s.toks) kp (Lr _) (show cP X.prog X.w _ h' _ (.lst ys) from⟨hz,its,c',r',e⟩),rfl,q _ (I.hok.fresh (Lr _))⟩
 rcases hq with hq|hq
 ·refine q1x3 (I.list hq) λits r' pl hz=>?_;have hlen:=r'.length;obtain⟨o,ho,hc,n,hd⟩:=pl.isList;exact Xb p (.inl rfl) ho hc hd (λh' c' kp e=>fin its r' hz h' c' kp e) (by simp only[L5] <;> omega)
 ·refine q1x3 (I.tuple hq) λits r' pl hz=>?_;have hlen:=r'.length;obtain⟨o,ho,hc,n,hd⟩:=pl;exact Xb p (.inr rfl) ho hc hd (λh' c' kp e=>fin its r' hz h' c' kp e) (by simp only[L5] <;> omega)
def fm:cG X (.type "tuple") (λxs H Q=>∃p ys,xs=[.ref p]/\((gG X.K H p ys/\∀l,H l=Y->Q (.ref l) (bG H l (.tup ys)))\/(nH X.K H p ys/\Q (.ref p) H))):=by
 intro af s σ H xs us Q I r h;obtain⟨p,ys,rfl,h⟩:=h;obtain⟨u,rfl,rx⟩:=js r;cases rx;rcases h with⟨hq,q⟩|⟨hq,q⟩
 ·obtain⟨its,r',pl,hz⟩:=I.list hq;have hlen:=r'.length;refine call_tuple_list pl.isList (λh' kp=>?_) (by simp only[L5] <;> omega);have I1:Inv X af σ H {s with heap:=h'}:=I.kept (t':=s.toks) kp;have I2:Inv X af σ (bG H h'.objs.size (.tup ys)) {s with heap:=h'.push {cls:=.type "tuple",data:=.seq its.toArray}}:=
   I1.laid (t':=s.toks) (λb o e=>Lg _ e) (Lr _) (show cP X.prog X.w _ _ _ (.tup ys) from⟨hz,its,r',Xq _ _⟩)
  exact⟨.ref h'.objs.size,_,I2,rfl,q _ (I1.hok.fresh (Lr _))⟩
 ·obtain⟨its,r',pl,hz⟩:=I.tuple hq;exact call_tuple_same pl ⟨.ref p,H,I,rfl,q⟩
def KZ (K:LX)(T:String)(x:V)(H:Hp):Prop:=match x with
 | .str _=>T="str"
 | .int _=>T="int"
 | .ref p=>(T="list"/\∃xs,gG K H p xs)\/(T="tuple"/\∃o,K.lookup p=Z o/\o.cls=.type "tuple"/\o.dict=Y)\/
   (T="dict"/\((∃kvs,H p=Z (.dK kvs))\/∃kvs,H p=Z (.dT kvs)))\/(T="set"/\∃S n,H p=Z (.set S n))
 | _=>False
def ED (I:Inv X af σ H s)(r:bg x v)(ty:KZ X.K T x H) :
  s.TypeIs v T/\∀a,v=.ref a->∃ob,s.heap.get? a=Z ob/\ob.dict=Y:=by
 cases x with
 | str z=>
  refine q1x1 r λt zz1=>?_;subst zz1;cases (show T="str" from ty);exact⟨typeIs_str s z t,λ_ e=>nomatch e⟩
 | int i=>
  refine q1x1 r λt zz1=>?_;subst zz1;cases (show T="int" from ty);exact⟨typeIs_int s i t,λ_ e=>nomatch e⟩
 | ref p=>
  cases r;rcases ty with⟨rfl,xs,hq⟩|⟨rfl,o,hk,hc,hd⟩|⟨rfl,hk⟩|⟨rfl,S,n,hk⟩
  ·refine q1x3 (I.list hq) λits _ pl _=>?_;refine⟨pl.isList.typeIs,λa e=>?_⟩;cases e;refine q2x4 pl λo n e c hd _=>?_;exact⟨o,e,hd⟩
  ·refine⟨⟨o,I.kIn p o hk,hc⟩,λa e=>?_⟩;cases e;exact⟨o,I.kIn _ o hk,hd⟩
  ·have z:∃o,s.heap.get? p=Z o/\o.ExactDict:=by
    rcases hk with⟨kvs,hk⟩|⟨kvs,hk⟩
    ·obtain⟨_,_,_,_,o,_,_,e,ex,_⟩:=I.hok p _ hk;exact⟨o,e,ex⟩
    ·obtain⟨_,_,_,_,o,_,_,e,ex,_⟩:=I.hok p _ hk;exact⟨o,e,ex⟩
   refine q1x2 z λo e ex=>?_;refine⟨⟨o,e,ex.1⟩,λa e2=>?_⟩;cases e2;exact⟨o,e,ex.2.1⟩
  ·refine q4x3 (I.hok p _ hk) λo _ _ _ e ex _=>?_;refine⟨⟨o,e,ex.1⟩,λa e2=>?_⟩;cases e2;exact⟨o,e,ex.2.1⟩
 | _=>exact O0 ty
def K4 (K:LX)(T:String)(r:V->List V->Hp->VK->Prop)(to:TE)(t:TA):TE:=λσ H Q=>to σ H λx H1=>KZ K T x H1/\t σ H1 λxs H2=>r x xs H2 Q
variable {o e:MT}{es:List MT}{to:TE}{t:TA}{name:Str}{apos cpos:Pos}{T id:String}{r:V->List V->Hp->VK->Prop}
def IT (pa:PlainAttrs T)(slot:Slot T name id)(hty:typeOf (.builtin id)=pure (.type "method_descriptor"))(hm:Lc X id r)(ho:PE X o to)(ha:PA X (e::es) t)
  (hbase:Sk o name X.env (Ou o X.env)=Ou o X.env:=by rfl)
  (hfew:((P6 cpos (Mt (e::es) X.env)).all (λx=>!x.1)&&(Wz cpos (Tu [] X.env)).all (λx=>x.1.isSome)
   && decide ((e::es).length+([]:List SR).length+(if([]:List SR).isEmpty then 0 else 1)<30))=true:=by rfl)
  (hline:(apos.endLine==cpos.line)=true:=by rfl) (hs:Mt (e::es) X.env=(false,Ou e X.env)::Mt es X.env:=by rfl) (hplain:(P6 cpos (Mt es X.env)).any (·.1)=false:=by rfl) :
  PE X (.Call (.Attribute o name apos) (e::es) [] cpos) (K4 X.K T r to t):=by
 intro af s σ H Q I h;refine wpAny_Call_method_late hbase hfew hline rfl (bR (ho af s σ H _ I h) λv s1 hxx=>?_);refine q2x4 hxx λx H1 I1 r1 ty q1=>?_;refine q0x2 (ED I1 r1 ty) λh1 h2=>?_;refine⟨T,id,pa,slot,hty,h1,h2,?_⟩;have hA:=ha cpos af s1 σ H1 _ I1 q1;rw[hs] at hA ⊢;refine Calls.callWith_builtin (by show(false||(P6 cpos (Mt es X.env)).any (·.1))=false;rw[hplain] <;> rfl) (Calls.evalArgs_plain ?_);exact bR hA λus s2 ⟨vs,H2,I2,r2,q2⟩=>hm af s2 σ H2 x vs v us Q I2 r1 r2 q2
end
def Lb (X:Cx)(id:String)(r:V->List V->Hp->VK->Prop):Prop:=
 ∀(af:List (LA×Obj)) (s:Lm) (σ:St) (H:Hp) (x:V) (xs:List V) (v:Lk) (us:List Lk) (Q:VK),Inv X af σ H s->bg x v->aS xs us->r x xs H Q->
  Lp (LD X.prog X.w) X.A (call (.builtin id) (v::us)) (EP X af σ Q) X.xe s
theorem aS.one:∀{x:V} {us:List Lk},aS [x] us->∃u,us=[u]/\bg x u
 | _,_,.cons r .nil=>⟨_,rfl,r⟩
def aS.reverse (h:aS xs us):aS xs.reverse us.reverse:=by
 induction h with
 | nil=>exact .nil
 | cons r t ih=>rw[XF,XF];exact aS.append ih (.cons r .nil)
section
variable {X:Cx}{af:List (LA×Obj)}{σ:St}{H:Hp}{s:Lm}{l b:LA}{xs ys zs:List V}
def Inv.lset {its its':List Lk}(I:Inv X af σ H s)(hH:H l=Z (.lst xs))
  (e:s.heap.get? l=Z {cls:=.type "list",data:=.seq its.toArray n}) (hf:f its.toArray=its'.toArray) (hv:aS ys its') (hz:ys.length<=LW) :
  Inv X af σ (bG H l (.lst ys)) {s with heap:=s.heap.update l (MK f),toks:=t'}:=by
 have q:=PySem.IsL.update e f;rw[hf] at q;refine I.write (x:=l) (e:=l) (by rw[hH];exact trivial) (.inl rfl) (λb' u hb hu=>(Mz s.heap (MK f) (NL hb)).trans hu) ⟨_,q⟩ ?_;exact⟨hz,its',_,hv,q⟩
def Inv.lnew (I:Inv X af σ H s)(hv:aS ys its)(hz:ys.length<=LW) :
  Inv X af σ (bG H s.heap.objs.size (.lst ys)) {s with heap:=s.heap.push {cls:=.type "list",data:=.seq its.toArray},toks:=t'}:=
 I.laid (λ_ _ q=>Lg _ q) (Lr _) ⟨hz,its,0,hv,LJ _ rfl⟩
def Inv.fresh (I:Inv X af σ H s):H s.heap.objs.size=Y:=I.hok.fresh (Lr _)
def Inv.lstM (I:Inv X af σ H s)(hH:H l=Z (.lst xs)):xs.length<=LW/\∃(its:List Lk) (n:Nat),aS xs its/\xs.length=its.length/\s.heap.get? l=Z {cls:=.type "list",data:=.seq its.toArray n}:=by
 obtain⟨z,its,n,r,e⟩:=I.hok l _ hH;exact⟨z,its,n,r,r.length,e⟩
end
section
variable {X:Cx}
def Cc:V->List V->Hp->VK->Prop:=λx vs H Q=>∃l xs y,x=.ref l/\vs=[y]/\H l=Z (.lst xs)/\xs.length<LW/\Q .non (bG H l (.lst (xs++[y])))
def xQ:Lb X "list.append" Cc:=by
 intro af s σ H x vs v us Q I rx rv h;obtain⟨l,xs,y,rfl,rfl,hH,hz,q⟩:=h;cases rx;refine q1x2 rv.one λu zz1 ru=>?_;subst zz1;obtain⟨z,its,n,r,hl,e⟩:=I.lstM hH;refine call_meets UE ⟨_,e,rfl⟩ Uh (Tv _ _) (PySem.list_append l its.toArray n u (by rw[L5];omega)) ⟨e,?_⟩;refine⟨.non,_,I.lset (its':=its++[u]) hH e (by simp) (r.append (.cons ru .nil)) ?_,rfl,q⟩;rw[Ll,NO];omega
def Kr:R2:=λx y H Q=>∃l b xs zs,x=.ref l/\y=.ref b/\H l=Z (.lst xs)/\H b=Z (.lst zs)/\xs.length+zs.length<=LW/\∀p,H p=Y->Q (.ref p) (bG H p (.lst (xs++zs)))
def E6:iH X (OL .Add) Kr:=by
 intro af s σ H x y v u Q I rx ry h;obtain⟨l,b,xs,zs,rfl,rfl,hH,hB,hz,q⟩:=h;cases rx;cases ry;obtain⟨z,its,n,r,hl,e⟩:=I.lstM hH;obtain⟨z2,its2,n2,r2,hl2,e2⟩:=I.lstM hB;refine PySem.P.add_list e e2 ?_ (by rw[L5,L5];omega);have ea:its.toArray++its2.toArray=(its++its2).toArray:=by simp
 rw[ea];exact⟨.ref _,_,I.lnew (t':=s.toks) (r.append r2) (by rw[Ll];omega),rfl,q _ I.fresh⟩
end
end L2
namespace Att
open PySem PySem.W PySem.Calls PyProof.Rows
def nF:∀(ns:List Int) (vs:List Lk),WellAll P h vs (ns.map YQ)->N5 vs ns:=by
 intro ns
 induction ns with
 | nil=>
  intro vs w;rw[Wi] at w;cases w;exact .nil
 | cons n ns ih=>
  intro vs w;rw[Nf] at w;cases w with
  | cons a b=>
   cases a;exact .cons _ _ (ih _ b)
def yu {l:Tw}(hn:l.most=Z n)
  (hpre:l.row.toRowW.claim.pre args=true) (hwl:WellAll P h vals args) :
  ∃a vs ns,vals=[NJ a]/\args=[WData.list (ns.map YQ)]/\h.get? a=Z {cls:=.type "list",data:=.seq vs.toArray}/\N5 vs ns/\ns.length<=n:=by
 have hsh:WShape.hasAll [] args [.list .int]=true:=(pre_splitW hpre).1;have hc:l.pre.holds [] {args:=args}=true:=(pre_splitW hpre).2;refine q2x3 (hasAllW_cons hsh) λd r zz2 h1 h2=>?_;subst zz2;obtain rfl:=hasAllW_nil h2;refine q1x2 (hasW_list h1) λxs zz1 h3=>?_;subst zz1;refine q1x1 (items_int h3) λns zz1=>?_;subst zz1;have hlen:ns.length<=n:=by
  unfold OpenLaw.pre at hc;have h4:(WTm.not (.lt (.lit (.int (n:Int))) (.len (.arg 0)))).holds [] {args:=[.list (ns.map .int)]}=true:=by
   have h4:=(holds_andW hc).1;rw[hn] at h4;exact h4
  have h5:=condW_of h4 (w_not (w_lt w_lit (w_len_list (w_arg rfl))));rw[Lu] at h5;refine Nat.le_of_not_lt λq=>?_
  have q':(n:Int)<((ns.length:Nat):Int):=by omega
  first
   | (rw[decide_eq_true q'] at h5;exact absurd h5 (by decide))
   | (simp at h5;omega)
 cases hwl with
 | cons w1 w2=>
  cases w2;cases w1 with
  | list ho hall=>exact⟨_,_,ns,rfl,rfl,ho,nF ns _ hall,hlen⟩
def xR (l:Tw)(args:List WData):l.row.toRowW.claim.post args (.bool true) args=true:=
 postW_of (r:=l.row.toRowW) (X:=(true==true))
  (show Yx [] (.bool true) .bool=true by first|rfl|decide|simp[Yx,WShape.arms,WShape.armsAll])
  (show(WTm.eq .res (.lit (.bool true))).value [] {args:=args,res:=Z (.bool true),after:=args}=Z (.bool (true==true)) from w_eq_bool (w_res rfl) w_lit) rfl
def attach_call {l:Tw}
  (hn:l.most=Z n) (hdf:d.params.defaults=[])
  (call:∀(w:My) (s₀ s₁:Lm) (mg mb:Str->Option Lk) (fa:LA) (o:Obj) (pm cd doc:Lk) (a:LA) (vs:List Lk) (ns:List Int),
   Ground q loose [] XP w s₀ mg mb s₁.heap->YP w s₁.heap->
   s₁.heap.get? fa=Z o->o.data=.func (docDef d.name d.params d.body d.scope pm cd doc)->s₁.heap.CodeRec cd d.name->mg d.name=Z (.ref fa)->
   s₁.heap.get? a=Z {cls:=.type "list",data:=.seq vs.toArray}->N5 vs ns->ns.length<=n->s₁.gens=#[]->
   Oq (LD l.prog w) Uc (.call (.ref fa) ⟨[.ref a],[]⟩) (λr s'=>r=.ok (.ret (.bool true))/\OldK s₁.heap s'.heap/\s'.os=s₁.os/\Sa s'.gens) s₁) :
  YU q loose XP YP l.row.toRowW d [] (λf vs=>PySem.call f vs):=by
 intro w s₀ s₁ mg mb G Y fa o pm cd doc dV kV ho hd hcd hD hmg hg args vals as hpre hlay hrd hwl hlo;obtain rfl:dV=.none:=Dflts.none hD hdf;obtain rfl:kV=.none:=Dflts.noKw hD;obtain⟨a,vs,ns,rfl,rfl,hobj,hints,hlen⟩:=yu hn hpre hwl;refine enter_call (Py (call w s₀ s₁ mg mb fa o pm cd doc a vs ns G Y ho (fd_plain hd) hcd hmg hobj hints hlen hg) λr s' hq=>?_);refine q0x4 hq λzz0 h2 h3 h4=>?_;subst zz0;exact⟨.inl ⟨.bool true,.bool true,[],rfl,λ_=>rfl,.bool true,xR l _,λ_=>⟨QL,λ_ hm=>(nomatch hm)⟩⟩,h2,h3,h4⟩
end Att
namespace L2
open PySem PySem.Spec PyProof.Rows List
theorem pO:∀{vs:List Lk} {ns:List Int},N5 vs ns->aS (ns.map V.int) vs
 | _,_,.nil=>.nil
 | _,_,.cons n t h=>.cons ⟨t,rfl⟩ (pO h)
def fX (s:P5):Xr:=match s with
 | .FunctionDef _ a _ _ _ _ _ _ _ _=>a
 | _=>{posonlyargs:=[],args:=[],vararg:=Y,kwonlyargs:=[],kw_defaults:=[],kwarg:=Y,defaults:=[]}
def cF (s:P5):List P5:=match s with
 | .FunctionDef _ _ b _ _ _ _ _ _ _=>b
 | _=>[]
def aH (s:P5):PY:=match s with
 | .FunctionDef _ _ _ _ _ _ sc _ _ _=>sc
 | _=>{kind:=.function,names:=[],isGenerator:=false,isCoroutine:=false}
structure BC (K:LX)(x qual:Str)(st:P5)(f:LA)(fd:OM):Prop where
 ex:∃(oc:Lk) (od:Option LA) (kV doc pm:Lk) (an:Option LA) (cdv ct:Lk) (osl:Array (Option Lk)),
  fd=Si x qual (fX st) (cF st) (aH st) .none kV doc pm an cdv ct/\K.lookup f=Z ⟨oc,od,.func fd,osl⟩/\U2 K cdv qual=true
 kp:Rr K (.ref f)=true
section
variable {P:Mi}{w:My}{K:LX}{mg:Str->Option Lk}{base:Nu}
def BC.binds {st:P5}(F:BC K x qual st f fd)
  (h:∀(kV doc pm:Lk) (an:Option LA) (cdv ct:Lk) (us:List Lk),us.length=ps.length->U1 (Si x qual (fX st) (cF st) (aH st) .none kV doc pm an cdv ct) ⟨us,[]⟩=pure (ps.zip us)):j1 K fd ps []:=by
 refine q9x3 F.ex λoc od kV doc pm an cdv ct osl zz9 lk hcd=>?_;subst zz9;exact .all (h kV doc pm an cdv ct)
def rY {st:P5}{kV:Lk}(l:K.lookup f=Z ⟨oc,od,.func (Si x qual (fX st) (cF st) (aH st) .none kV doc pm an cdv ct),osl⟩)
  (c:U2 K cdv qual=true) (k:Rr K (.ref f)=true):BC K x qual st f (Si x qual (fX st) (cF st) (aH st) .none kV doc pm an cdv ct):=⟨⟨oc,od,kV,doc,pm,an,cdv,ct,osl,rfl,l,c⟩,k⟩
end
abbrev KT (H:Hp):List (List qB×V)->List (List qB×LA×Lk)->Prop:=Paired λp q=>p.1=q.1/\H q.2.1=Z (.tup (p.1.map kV))/\bg p.2 q.2.2
abbrev VV:List (V×V)->List (Lk×Lk)->Prop:=Paired λp q=>bg p.1 q.1/\bg p.2 q.2
structure M1 (X:Cx)(o:MT)(m:Str)(apos:Pos)(e:MT)(cpos:Pos):Prop where
 base:Sk o m X.env (Ou o X.env)=Ou o X.env
 few:((P6 cpos (Mt [e] X.env)).all (λx=>!x.1)&&(Wz cpos (Tu [] X.env)).all (λx=>x.1.isSome)
  && decide (([e]:List MT).length+([]:List SR).length+(if([]:List SR).isEmpty then 0 else 1)<30))=true
 line:(apos.endLine==cpos.line)=true
 trees:P6 cpos (Mt [e] X.env)=[(false,Ou e X.env)]
structure M2 (X:Cx)(o:MT)(m:Str)(apos:Pos)(e f:MT)(cpos:Pos):Prop where
 base:Sk o m X.env (Ou o X.env)=Ou o X.env
 few:((P6 cpos (Mt [e,f] X.env)).all (λx=>!x.1)&&(Wz cpos (Tu [] X.env)).all (λx=>x.1.isSome)
  && decide (([e,f]:List MT).length+([]:List SR).length+(if([]:List SR).isEmpty then 0 else 1)<30))=true
 line:(apos.endLine==cpos.line)=true
 trees:P6 cpos (Mt [e,f] X.env)=[(false,Ou e X.env),(false,Ou f X.env)]
end L2
namespace Att
open PySem PySem.W PySem.Calls PyProof.Rows
end Att
namespace L2
open PySem PySem.Spec PyProof.Rows List
end L2
namespace DL
open PySem PySem.Spec PyProof.Rows L2 List
structure Hr (X:Cx)(af:List (LA×Obj))(H:Hp)(B:Nu):Prop where
 trk:∀b o,H b=Z o->∃o',B.get? b=Z o'
 pin:∀p∈X.pn++af,∃o',B.get? p.1=Z o'
 old:∀b o,X.s₀.heap.get? b=Z o->b∉X.ex->b∉mI X.stack->∃o',B.get? b=Z o'
def Kb (X:Cx)(H:Hp)(a C:LA)(s:Lm):Prop:=∃af σ,
 (∃h vs,L2.Inv X af σ H {s with heap:=h}/\WA h s.heap a (.ref C) vs)\/
 (L2.Inv X af σ H s/\H a=Y/\∃B a0,U5 B X.stack a (.ref C) a0 s.heap/\Hr X af H B)\/
 (L2.Inv X af σ H s/\H a=Y/\∃B a0 L,X.env.frame=Z L/\Heap.HeldW B X.stack a (.ref C) a0 L s.heap/\Hr X af H B)
def oj (K:LX)(c:Str)(C:LA):Prop:=Po K LV c=Z (Z (.ref C))
def oM {a:LA}(x:cP P w H h a o):∃u,h.get? a=Z u:=by
 cases o with
 | lst xs=>obtain⟨_,_,_,_,e⟩:=x;exact⟨_,e⟩
 | tup xs=>obtain⟨_,_,_,o,e,_⟩:=x;exact⟨_,e⟩
 | dK kvs=>obtain⟨_,_,_,_,o,_,_,e,_⟩:=x;exact⟨_,e⟩
 | dT kvs=>obtain⟨_,_,_,_,o,_,_,e,_⟩:=x;exact⟨_,e⟩
 | set S n=>refine q4x2 x λo _ _ _ e _=>?_;exact⟨_,e⟩
 | ins C dx fs=>refine q0x5 x λ_ _ _ e _=>?_;exact⟨_,e⟩
 | own y=>refine q1x1 x λ_ e=>?_;exact⟨_,e⟩
 | xd fs=>obtain⟨_,⟨_,_,_,e,_⟩,_⟩:=x;exact⟨_,e⟩
 | rng lo hi=>obtain⟨_,_,_,e⟩:=x;exact⟨_,e⟩
 | frz ob u=>refine q0x2 x λe _=>?_;exact⟨_,e⟩
 | tbl ps=>exact⟨_,show h.get? a=Z _ from x⟩
 | met f y=>exact⟨_,show h.get? a=Z _ from x⟩
 | ext φ=>obtain⟨_,⟨_,e⟩,_⟩:=x;exact⟨_,e⟩
section
variable {X:Cx}{af:List (LA×Obj)}{σ:List (Option V)}{H:Hp}{s:Lm}{B h':Nu}{a C:LA}
def qQ (I:L2.Inv X af σ H s)(e:X.s₀.heap.get? b=Z o)(n:b∉X.fs):b∉mI X.stack:=λz=>by
 rcases L1.mp (I.stkSub b z) with q|q
 ·have h1:=Lq e;rw[q] at h1;exact absurd (LB h1 I.ok.above) (N8 _)
 ·exact n q
def wM {h h':Nu}(u:h.UpToSlots h')(x:h.IsCell c v):h'.IsCell c v:=by
 obtain⟨o,e,d⟩:=x;obtain⟨sl,e'⟩:=u c o e λvs q=>by rw[d] at q;cases q
 exact⟨_,e',d⟩
def yF (I:L2.Inv X af σ H s)(ij:Hr X af H B)(hB:B.StaysIn s.heap)(hB':B.StaysIn h')(up:s.heap.UpToSlots h'):L2.Inv X af σ H {s with heap:=h'}:=by
 have keepB:∀b o o',B.get? b=Z o'->s.heap.get? b=Z o->h'.get? b=Z o:=λb o o' e1 e2=>by
  have:=hB b o' e1;rw[e2] at this;cases this;exact hB' b _ e1
 refine⟨I.ok,I.os,I.bare,⟨λb o e n nf nx=>?_,λb o e n hf nx=>?_,λb o e n nx=>I.base.free b o e n nx,λb o e nx=>?_,I.base.tups,I.base.frzs,I.base.tbls⟩,?_,λx c e=>?_,I.free,I.freeC,λp hp=>?_,λb o e=>?_,I.len⟩
 ·refine q1x1 (ij.old b o e nx (qQ I e nf)) λo' e'=>?_;exact keepB b o o' e' (I.base.keep b o e n nf nx)
 ·refine q1x1 (I.base.slot b o e n hf nx) λsl e1=>?_;obtain⟨_,ob,e2,nf⟩:=I.funs.mem hf;rw[e1] at e2;cases e2;refine q1x1 (up b _ e1 nf) λsl' e3=>?_;exact⟨sl',e3⟩
 ·by_cases hf:b∈X.fs
  ·obtain⟨_,ob,e2,nf⟩:=I.funs.mem hf;refine q1x1 (up b _ e2 nf) λsl' e3=>?_;exact⟨_,e3⟩
  ·refine q1x1 (ij.old b o e nx (qQ I e hf)) λo' e'=>?_;exact⟨o',hB' b o' e'⟩
 ·refine q1x2 I.loc λm hn hl=>?_;refine⟨m,up.ns hn,λi x v e1 e2 e3=>?_⟩;refine q1x2 (hl i x v e1 e2 e3) λu r lk=>?_;refine⟨u,r,?_⟩;rcases lk with lk|⟨k,c,ec,ic⟩
  ·exact .inl lk
  ·exact .inr ⟨k,c,ec,wM up ic⟩
 ·refine q1x1 (I.cell x c e) λv ic=>?_;exact⟨v,wM up ic⟩
 ·refine q0x5 (I.pin p hp) λe n ne nf d=>?_;refine q1x1 (ij.pin p hp) λo' e'=>?_;exact⟨keepB p.1 p.2 o' e' e,n,ne,nf,d⟩
 ·refine(I.hok b o e).stay (λc u hc q=>?_) (λ_ q=>q) λ_ _ q=>q
  have:∃o,H c=Z o:=by
   rcases hc with z|z
   ·exact⟨o,by rw[z];exact e⟩
   ·exact⟨_,z⟩
  refine q1x1 this λoc ec=>?_;refine q1x1 (ij.trk c oc ec) λo' e'=>?_;exact keepB c u o' e' q
def zH (I:L2.Inv X af σ H s):Hr X af H (Vp s.heap (mI X.stack)):=by
 refine⟨λb o e=>?_,λp hp=>?_,λb o e nx nf=>?_⟩
 ·refine q1x1 (oM (I.hok b o e)) λu q=>?_;exact⟨u,Sg _ q λz=>by rw[I.stkFree b z] at e;cases e⟩
 ·refine q0x5 (I.pin p hp) λe n ne nf d=>?_;exact⟨p.2,Sg _ e λz=>by
   rcases L1.mp (I.stkSub _ z) with q|q
   ·exact ne q
   ·exact nf q⟩
 ·refine q1x1 (I.base.there b o e nx) λo' e'=>?_;exact⟨o',Sg _ e' nf⟩
def tD (I:L2.Inv X af σ H s):s.heap.FunFrames (Vp s.heap (mI X.stack)) X.stack:=
 W.funFrames_hide I.stack λenv he b hb=>Ro.mpr ⟨env,he,hb⟩
def xG (I:L2.Inv X af σ H {s with heap:=h})(m:WA h s.heap a (.ref C) vs):H a=Y:=by
 cases q:H a with
 | none=>rfl
 | some o=>
  refine q1x1 (oM (I.hok a o q)) λu e=>?_;have e:h.get? a=Z u:=e;rw[m.new] at e;cases e
end
def iJ (P:Mi)(w:My):DZ:=λouter H s E e s'=>∃a C H' B a0,e=.ref a/\s'.os=s.os/\Sa s'.gens/\Un (mI outer) [] H H' s.heap s'.heap/\jt P w H' s'.heap/\H' a=Y/\
 U5 B outer a (.ref C) a0 s'.heap/\(∀b o,H' b=Z o->∃o',B.get? b=Z o')/\(∀b o,s.heap.get? b=Z o->b∉mI outer->∃o',B.get? b=Z o')/\E (.ref C) (Z a) H'
def kP {K:LX}{a:LA}
  (fl:Kb (fZ (iJ P w) P w K mg base N qual scope f cdv A outer s H E) H' a C s') (hE:E (.ref C) (Z a) H'):(fZ (iJ P w) P w K mg base N qual scope f cdv A outer s H E).xe (.ref a) s':=by
 show Lp (LD P w) (A.deeper (Pz qual scope s.heap.objs.size f cdv)) (YI (Pz qual scope s.heap.objs.size f cdv) (.ref a)) (λ_ s''=>iJ P w outer H s E (.ref a) s'') (λe' s''=>iJ P w outer H s E e' s'') s';refine q2x1 fl λaf σ fl=>?_;have key:∀(B:Nu) (a0:Lk) (h':Nu) (I:L2.Inv (fZ (iJ P w) P w K mg base N qual scope f cdv A outer s H E) af σ H' s'),B.StaysIn s'.heap->Hr (fZ (iJ P w) P w K mg base N qual scope f cdv A outer s H E) af H' B->H' a=Y->
   U5 B outer a (.ref C) a0 h'->s'.heap.UpToSlots h'->iJ P w outer H s E (.ref a) {s' with heap:=h'}:=λB a0 h' I hB ij hn fl' up=>by
  have I':=yF I ij hB fl'.1 up;refine⟨a,C,H',B,a0,rfl,I'.os,I'.bare,I'.base,I'.hok,hn,fl',ij.trk,λb o e nf=>?_,hE⟩;exact ij.old b o e (by show b∉([]:List LA);simp) (qQ I e nf)
 rcases fl with⟨h,vs,I,m⟩|⟨I,hn,B,a0,fl,ij⟩|⟨I,hn,B,a0,L,hL,held,ij⟩
 ·have ij:=zH I;have hid:∀b o,(Vp h (mI (fZ (iJ P w) P w K mg base N qual scope f cdv A outer s H E).stack)).get? b=Z o->h.get? b=Z o:=λb o q=>XB _ q
  refine wpAny_leaves_madeW (env:=Pz qual scope s.heap.objs.size f cdv) (outer:=outer) I.ok.frames rfl hid (tD I) m λh' t x1 x2 x3 x4=>?_
  exact key _ _ h' (I.kept (t':=s'.toks) (h':=s'.heap) m.keeps) (λb o q=>m.keeps b o (hid b o q)) ij (xG I m) x1 x4
 ·refine wpAny_leaves_onW (env:=Pz qual scope s.heap.objs.size f cdv) (outer:=outer) I.ok.frames rfl fl λh' x1 x2=>?_
  exact key B a0 h' I fl.1 ij hn x1 x2
 ·unfold YI;refine Le (wpAny_noteFrame_againW hL held.2.2.2 ?_);refine wpAny_landsW held λh' x1 x2=>?_
  obtain⟨k1,k2,⟨_,_,k3⟩,k4⟩:=x1;exact key B a0 h' I held.1 ij hn ⟨k1,k2,k3,k4⟩ x2
def xn (I:L2.Inv X af σ H s)(h:iJ X.prog X.w X.stack H s E e s'):∃a C H',e=.ref a/\Kb X H' a C s'/\E (.ref C) (Z a) H':=by
 obtain⟨a,C,H',B,a0,rfl,os,bare,un,hok,hn,fl,trk,old,hE⟩:=h;refine⟨a,C,H',rfl,⟨af,σ,.inr (.inl ⟨I.call' os un hok bare (λb z=>absurd z (by simp)),hn,B,a0,fl,trk,λp hp=>?_,λb o eb nx nf=>?_⟩)⟩,hE⟩
 ·refine q0x5 (I.pin p hp) λeb n ne nf d=>?_;exact old p.1 p.2 eb λz=>by
   rcases L1.mp (I.stkSub _ z) with q|q
   ·exact ne q
   ·exact nf q
 ·refine q1x1 (I.base.there b o eb nx) λo' e'=>?_;exact old b o' e' nf
inductive D where
 | non|bl (b:Bool)|int (i:Int)|str (x:Str)|tup (xs:List D)|lst (xs:List D)|ro (xs:List D)|mr (i:Nat)|exc (c:Str)|any
instance:Inhabited D:=⟨.non⟩
inductive MO where
 | lst (xs:List D)|obj (c:Str) (fs:List (Str×D))|dK (kvs:List (qB×D))|dT (kvs:List (List qB×D))
instance:Inhabited MO:=⟨.lst []⟩
abbrev aF:=List MO
abbrev fO:=List (Option D)
inductive aQ (α:Type) where
 | ok (a:α) (M:aF)
 | err (c:Str) (M:aF)
 | bad
noncomputable def aQ.bind {α β:Type}(o:aQ α)(f:α->aF->aQ β):aQ β:=
 match o with
 | .ok a M=>f a M
 | .err c M=>.err c M
 | .bad=>.bad
@[simp] theorem am (a:α) (M:aF) (f:α->aF->aQ β):(aQ.ok a M).bind f=f a M:=by rw[aQ.bind]
@[simp] theorem HE {α β:Type} (c:Str) (M:aF) (f:α->aF->aQ β):(aQ.err c M:aQ α).bind f=.err c M:=by rw[aQ.bind]
@[simp] theorem HR {α β:Type} (f:α->aF->aQ β):(aQ.bad:aQ α).bind f=.bad:=by rw[aQ.bind]
def Ld (K:LX)(a:LA)(xs:List V):Prop:=∃(o:Obj) (its:Array Lk) (n:Nat),K.lookup a=Z o/\o.cls=.type "tuple"/\o.data=.seq its n/\its.size<=LW/\aS xs its.toList
def KL (K:LX)(a:LA)(xs:List V):Prop:=∃(o:Obj) (its:Array Lk) (n:Nat),K.lookup a=Z o/\o.cls=.type "list"/\o.dict=Y/\o.data=.seq its n/\its.size<=LW/\aS xs its.toList
def gJ (K:LX)(θ:List LA)(H:Hp)(a:LA)(xs:List V):Prop:=H a=Z (.tup xs)/\a∉θ
def n9 (θ:List LA)(H:Hp)(a:LA)(xs:List V):Prop:=H a=Z (.lst xs)/\a∉θ
def nE (K:LX)(θ:List LA)(H:Hp)(a:LA)(xs:List V):Prop:=(Rd H a (.lst xs)/\a∉θ)\/KL K a xs
def gJ.sq {K:LX}{a:LA}(h:gJ K θ H a xs):nH K H a xs:=.inl (.inl h.1)
def n9.sq {K:LX}{a:LA}(h:n9 θ H a xs):gG K H a xs:=.inl (.inl h.1)
def nE.sq {K:LX}{a:LA}(h:nE K θ H a xs):gG K H a xs:=by
 rcases h with⟨h,_⟩|h
 ·exact .inl h
 ·exact .inr h
def J3 (a C:LA):HO:=.ext λh=>∃o,h.get? a=Z o/\o.cls=.ref C
mutual
def dj (K:LX)(θ:List LA)(H:Hp):D->V->Prop
 | .non,v=>v=.non
 | .bl b,v=>v=.bl b
 | .int i,v=>v=.int i
 | .str x,v=>v=.str x
 | .tup ds,v=>∃a vs,v=.ref a/\gJ K θ H a vs/\aR K θ H ds vs
 | .lst ds,v=>∃a vs,v=.ref a/\n9 θ H a vs/\aR K θ H ds vs
 | .ro ds,v=>∃a vs,v=.ref a/\nE K θ H a vs/\aR K θ H ds vs
 | .mr i,v=>∃a,v=.ref a/\θ[i]?=Z a
 | .exc c,v=>∃a C,v=.ref a/\oj K c C/\H a=Z (J3 a C)/\a∉θ
 | .any,_=>True
def aR (K:LX)(θ:List LA)(H:Hp):List D->List V->Prop
 | [],vs=>vs=[]
 | d::ds,vs=>∃v r,vs=v::r/\dj K θ H d v/\aR K θ H ds r
end
def yf (K:W.Frag)(θ:List Addr)(H:Hp):List (Str×D)->List (Str×V)->Prop
 | [],vs=>vs=[]
 | (f,d)::fs,vs=>∃v r,vs=(f,v)::r/\dj K θ H d v/\yf K θ H fs r
def u4 {κ:Type}(K:W.Frag)(θ:List Addr)(H:Hp):List (κ×D)->List (κ×V)->Prop
 | [],vs=>vs=[]
 | (k,d)::fs,vs=>∃v r,vs=(k,v)::r/\dj K θ H d v/\u4 K θ H fs r
def o5 (K:W.Frag)(θ:List Addr)(H:Hp):MO->Addr->Prop
 | .lst ds,a=>∃vs,H a=Z (.lst vs)/\aR K θ H ds vs
 | .obj c fs,a=>∃C dx vs,oj K c C/\H a=Z (.ins C dx vs)/\yf K θ H fs vs
 | .dK kvs,a=>∃vs,H a=Z (.dK vs)/\u4 K θ H kvs vs
 | .dT kvs,a=>∃vs,H a=Z (.dT vs)/\u4 K θ H kvs vs
def bU:List Str:=["ink_shown","table_within","slots_given","cast_on_slots"]
def bP (x:Str):Str:=x++(".<locals>.<lambda>":Str)
def iu (c:Addr)(q:Str):HO:=.ext λh=>h.CodeRec (.ref c) q
def J8 (ob:Obj):HO:=.frz ob (.ext λ_=>True)
structure kI (K:W.Frag)(H:Hp):Prop where
 tab:∀x,x∈bU->∀c P,W.tabIn K x=Z (c,P)->∃ps,H P=Z (.tbl ps)/\TriplesOk ps.toList/\∀pos cv,codeAmong pos ps.toList=Z cv->∃c',cv=.ref c'/\H c'=Z (iu c' (bP x))
 bm:∀x,x∈bU->∀c P,W.tabIn K x=Z (c,P)->∃bm ob,W.nsIn K mainGlobals "__builtins__"=Z (Z (.ref bm))/\H bm=Z (J8 ob)/\ob.cls=.type "module"/\ob.dict=Z builtinsNs/\ob.data=.plain/\bm≠builtinsNs/\bm≠mainGlobals
def kI.of {K:W.Frag}(t:kI K H)(k1:∀b ps,H b=Z (.tbl ps)->H' b=Z (.tbl ps))(k2:∀b φ,H b=Z (.ext φ)->H' b=Z (.ext φ))(k3:∀b o u,H b=Z (.frz o u)->H' b=Z (.frz o u)):kI K H':=
 ⟨λx hx c P e=>by
  refine q1x3 (t.tab x hx c P e) λps h1 h2 h3=>?_;refine⟨ps,k1 _ _ h1,h2,λpos cv q=>?_⟩;refine q1x2 (h3 pos cv q) λc' e1 e2=>?_;exact⟨c',e1,k2 _ _ e2⟩,λx hx c P e=>by
  refine q2x3 (t.bm x hx c P e) λbm ob e1 e2 r=>?_;exact⟨bm,ob,e1,k3 _ _ _ e2,r⟩⟩
def kI.new {K:W.Frag}(t:kI K H)(hp:H p=Y):kI K (bG H p o):=
 t.of (λb ps e=>by rw[au (bK e hp)];exact e) (λb φ e=>by rw[au (bK e hp)];exact e) λb o u e=>by rw[au (bK e hp)];exact e
def u3:HO->Bool
 | .tbl _=>false
 | .ext _=>false
 | .frz _ _=>false
 | _=>true
def kI.at_ {K:W.Frag}{a:Addr}(t:kI K H)(ha:H a=Z u)(hu:u3 u=true):kI K (bG H a o):=
 t.of (λb ps e=>by rw[au (v5 e ha (by intro z;subst z;cases hu))];exact e) (λb φ e=>by rw[au (v5 e ha (by intro z;subst z;cases hu))];exact e) λb o u e=>by rw[au (v5 e ha (by intro z;subst z;cases hu))];exact e
structure Wr (K:W.Frag)(θ:List Addr)(H:Hp)(M:aF):Prop where
 len:θ.length=M.length
 nd:θ.Nodup
 at_:∀(i:Nat) a m,θ[i]?=Z a->M[i]?=Z m->o5 K θ H m a
 tb:kI K H
structure fY (K:W.Frag)(θ:List Addr)(H:Hp)(σ:L2.St)(ρ:fO):Prop where
 len:ρ.length=σ.length
 at_:∀(i:Nat) d,ρ[i]?=Z (Z d)->∃v,σ[i]?=Z (Z v)/\dj K θ H d v
structure Grow (θ:List Addr)(H:Hp)(θ':List Addr)(H':Hp):Prop where
 ext:∃more,θ'=θ++more/\∀a∈more,H a=Y
 keep:∀b o,H b=Z o->b∉θ->(∀ps,o≠.tbl ps)->H' b=Z o
 tkeep:∀b ps,H b=Z (.tbl ps)->∃ps',H' b=Z (.tbl ps')
structure Go (K:W.Frag)(θ:List Addr)(H:Hp)(θ':List Addr)(H':Hp)(M':aF):Prop extends Grow θ H θ' H' where
 wr:Wr K θ' H' M'
section
variable {K:W.Frag}{θ θ' θ1 θ2:List Addr}{H H' H1 H2:Hp}{M M' M1 M2:aF}{a p:Addr}{σ:L2.St}{ρ:fO}
def Wr.tracked (w:Wr K θ H M)(h:a∈θ):H a≠Y:=by
 obtain⟨i,hi,e⟩:=mem_iff_getElem.mp h;have h1:θ[i]?=Z a:=by rw[getElem?_eq_getElem hi,e]
 have h2:i<M.length:=by rw[<-w.len];exact hi
 have h3:=w.at_ i a _ h1 (getElem?_eq_getElem h2);cases q:M[i] with
 | lst ds=>
  rw[q] at h3;refine q1x2 h3 λvs e _=>?_;rw[e];simp
 | obj c fs=>
  rw[q] at h3;refine q3x3 h3 λC dx vs _ e _=>?_;rw[e];simp
 | dK kvs=>
  rw[q] at h3;refine q1x2 h3 λvs e _=>?_;rw[e];simp
 | dT kvs=>
  rw[q] at h3;refine q1x2 h3 λvs e _=>?_;rw[e];simp
def o5.plain (h:o5 K θ H m a):∃o,H a=Z o/\u3 o=true:=by
 cases m with
 | lst ds=>refine q1x2 h λvs e _=>?_;exact⟨_,e,rfl⟩
 | obj c fs=>refine q3x3 h λC dx vs _ e _=>?_;exact⟨_,e,rfl⟩
 | dK kvs=>refine q1x2 h λvs e _=>?_;exact⟨_,e,rfl⟩
 | dT kvs=>refine q1x2 h λvs e _=>?_;exact⟨_,e,rfl⟩
def Wr.plain (w:Wr K θ H M){i:Nat}(h:θ[i]?=Z a):∃o,H a=Z o/\u3 o=true:=by
 have h2:i<M.length:=by rw[<-w.len];exact(Lj.mp h).1
 exact(w.at_ i a _ h (getElem?_eq_getElem h2)).plain
def Wr.fresh (w:Wr K θ H M)(h:H p=Y):p∉θ:=λz=>w.tracked z h
def Grow.refl (θ:List Addr)(H:Hp):Grow θ H θ H:=⟨⟨[],by simp,λ_ z=>by cases z⟩,λ_ _ h _ _=>h,λb ps e=>⟨ps,e⟩⟩
def Go.refl (w:Wr K θ H M):Go K θ H θ H M:=⟨.refl θ H,w⟩
def Go.trans (a:Go K θ H θ1 H1 M1)(b:Go K θ1 H1 θ2 H2 M2):Go K θ H θ2 H2 M2:=by
 refine q1x2 a.ext λm1 e1 f1=>?_;refine q1x2 b.ext λm2 e2 f2=>?_;refine⟨⟨⟨m1++m2,by rw[e2,e1,append_assoc],λx hx=>?_⟩,λx o hx nx nt=>?_,λx ps e=>?_⟩,b.wr⟩
 ·rcases mem_append.mp hx with z|z
  ·exact f1 x z
  ·cases q:H x with
   | none=>rfl
   | some o=>
    have nx:x∉θ:=by
     intro y;have nd:=b.wr.nd;rw[e2] at nd;have y1:x∈θ1:=by rw[e1];exact mem_append_left _ y
     exact(nodup_append.mp nd).2.2 x y1 x z rfl
    exfalso
    by_cases nt:∃ps,o=.tbl ps
    ·refine q1x1 nt λps zz1=>?_;subst zz1;refine q1x1 (a.tkeep x ps q) λps' e'=>?_;rw[f2 x z] at e';cases e'
    ·have:=a.keep x o q nx λps e'=>nt ⟨ps,e'⟩
     rw[f2 x z] at this;cases this
 ·have h1:=a.keep x o hx nx nt;refine b.keep x o h1 ?_ nt;rw[e1];intro z;rcases mem_append.mp z with z|z
  ·exact nx z
  ·rw[f1 x z] at hx;cases hx
 ·refine q1x1 (a.tkeep x ps e) λps' e'=>?_;exact b.tkeep x ps' e'
def Grow.notin (g:Grow θ H θ' H')(h:H a=Z o)(n:a∉θ):a∉θ':=by
 refine q1x2 g.ext λm e f=>?_;rw[e];intro z;rcases mem_append.mp z with z|z
 ·exact n z
 ·rw[f a z] at h;cases h
def gJ.grow (g:Grow θ H θ' H')(h:gJ K θ H a xs):gJ K θ' H' a xs:=⟨g.keep _ _ h.1 h.2 (by intro _ z;cases z),g.notin h.1 h.2⟩
def n9.grow (g:Grow θ H θ' H')(h:n9 θ H a xs):n9 θ' H' a xs:=⟨g.keep _ _ h.1 h.2 (by intro _ z;cases z),g.notin h.1 h.2⟩
def nE.grow (g:Grow θ H θ' H')(h:nE K θ H a xs):nE K θ' H' a xs:=by
 rcases h with⟨h|⟨o,h⟩,n⟩|h
 ·exact .inl ⟨.inl (g.keep _ _ h n (by intro _ z;cases z)),g.notin h n⟩
 ·exact .inl ⟨.inr ⟨o,g.keep _ _ h n (by intro _ z;cases z)⟩,g.notin h n⟩
 ·exact .inr h
mutual
theorem k8 (g:Grow θ H θ' H'):∀(d:D) (v:V),dj K θ H d v->dj K θ' H' d v
 | .non,v,h=>h
 | .bl b,v,h=>h
 | .int i,v,h=>h
 | .str x,v,h=>h
 | .tup ds,v,h=>by
  refine q2x3 h λa vs e t r=>?_;exact⟨a,vs,e,t.grow g,cL g ds vs r⟩
 | .lst ds,v,h=>by
  refine q2x3 h λa vs e t r=>?_;exact⟨a,vs,e,t.grow g,cL g ds vs r⟩
 | .ro ds,v,h=>by
  refine q2x3 h λa vs e t r=>?_;exact⟨a,vs,e,t.grow g,cL g ds vs r⟩
 | .mr i,v,h=>by
  refine q1x2 h λa e t=>?_;refine q1x2 g.ext λm em _=>?_;refine⟨a,e,?_⟩;rw[em,getElem?_append_left (Lj.mp t).1];exact t
 | .exc c,v,h=>by
  refine q2x4 h λa C e k t n=>?_;exact⟨a,C,e,k,g.keep _ _ t n (by intro _ z;cases z),g.notin t n⟩
 | .any,v,h=>h
theorem cL (g:Grow θ H θ' H'):∀(ds:List D) (vs:List V),aR K θ H ds vs->aR K θ' H' ds vs
 | [],vs,h=>h
 | d::ds,vs,h=>by
  refine q2x3 h λv r e h1 h2=>?_;exact⟨v,r,e,k8 g d v h1,cL g ds r h2⟩
end
def dj.go (h:dj K θ H d v)(g:Go K θ H θ' H' M'):dj K θ' H' d v:=k8 g.toGrow d v h
def aR.go (h:aR K θ H ds vs)(g:Go K θ H θ' H' M'):aR K θ' H' ds vs:=cL g.toGrow ds vs h
def fY.go (h:fY K θ H σ ρ)(g:Go K θ H θ' H' M'):fY K θ' H' σ ρ:=⟨h.len,λi d e=>let ⟨v,e1,e2⟩:=h.at_ i d e;⟨v,e1,e2.go g⟩⟩
theorem aq:∀{ds:List D} {vs:List V},aR K θ H ds vs->ds.length=vs.length
 | [],vs,h=>by cases (show vs=[] from h);rfl
 | d::ds,vs,h=>by
  refine q2x3 h λv r e _ h2=>?_;subst e;rw[length_cons,length_cons,aq h2]
theorem cQ:∀{ds es:List D} {vs us:List V},aR K θ H ds vs->aR K θ H es us->aR K θ H (ds++es) (vs++us)
 | [],es,vs,us,h,k=>by cases (show vs=[] from h);exact k
 | d::ds,es,vs,us,h,k=>by
  refine q2x3 h λv r e h1 h2=>?_;subst e;exact⟨v,r++us,rfl,h1,cQ h2 k⟩
theorem bY:∀{ds:List D} {vs:List V} {i:Nat} {d:D},aR K θ H ds vs->ds[i]?=Z d->∃v,vs[i]?=Z v/\dj K θ H d v
 | [],vs,i,d,h,e=>by simp at e
 | x::ds,vs,0,d,h,e=>by
  refine q2x3 h λv r e1 h1 h2=>?_;subst e1;simp at e;subst e;exact⟨v,rfl,h1⟩
 | x::ds,vs,i+1,d,h,e=>by
  refine q2x3 h λv r e1 h1 h2=>?_;subst e1;refine q1x2 (bY (i:=i) h2 (by simpa using e)) λu e2 h3=>?_;exact⟨u,by simpa using e2,h3⟩
theorem pP:∀{ds:List D} {vs:List V} (n:Nat),aR K θ H ds vs->aR K θ H (ds.take n) (vs.take n)
 | ds,vs,0,h=>by rw[take_zero,take_zero];exact rfl
 | [],vs,n+1,h=>by cases (show vs=[] from h);exact rfl
 | d::ds,vs,n+1,h=>by
  refine q2x3 h λv r e h1 h2=>?_;subst e;exact⟨v,r.take n,rfl,h1,pP n h2⟩
theorem pT:∀{ds:List D} {vs:List V} (n:Nat),aR K θ H ds vs->aR K θ H (ds.drop n) (vs.drop n)
 | ds,vs,0,h=>h
 | [],vs,n+1,h=>by cases (show vs=[] from h);exact rfl
 | d::ds,vs,n+1,h=>by
  refine q2x3 h λv r e h1 h2=>?_;subst e;exact pT n h2
theorem tM (hd:dj K θ H d v):∀{ds:List D} {vs:List V} (i:Nat),aR K θ H ds vs->aR K θ H (ds.set i d) (vs.set i v)
 | [],vs,i,h=>by cases (show vs=[] from h);exact rfl
 | x::ds,vs,0,h=>by
  refine q2x3 h λu r e h1 h2=>?_;subst e;exact⟨v,r,rfl,hd,h2⟩
 | x::ds,vs,i+1,h=>by
  refine q2x3 h λu r e h1 h2=>?_;subst e;exact⟨u,r.set i v,rfl,h1,tM hd i h2⟩
def lM (w:Wr K θ H M)(hp:H p=Y):Grow θ H θ (bG H p o):=
 ⟨⟨[],by simp,λ_ z=>by cases z⟩,λb u h _ _=>by rw[au (bK h hp)];exact h,λb ps h=>⟨ps,by rw[au (bK h hp)];exact h⟩⟩
theorem qq (g:Grow θ H θ' H'):∀{fs:List (Str×D)} {vs:List (Str×V)},yf K θ H fs vs->yf K θ' H' fs vs
 | [],vs,h=>h
 | (f,d)::fs,vs,h=>by
  refine q2x3 h λv r e h1 h2=>?_;exact⟨v,r,e,k8 g d v h1,qq g h2⟩
theorem mY (g:Grow θ H θ' H'):∀{fs:List (κ×D)} {vs:List (κ×V)},u4 K θ H fs vs->u4 K θ' H' fs vs
 | [],vs,h=>h
 | (f,d)::fs,vs,h=>by
  refine q2x3 h λv r e h1 h2=>?_;exact⟨v,r,e,k8 g d v h1,mY g h2⟩
def o5.grow (g:Grow θ H θ' H')(hs:H' a=H a)(h:o5 K θ H m a):o5 K θ' H' m a:=by
 cases m with
 | lst ds=>
  refine q1x2 h λvs e r=>?_;exact⟨vs,by rw[hs];exact e,cL g ds vs r⟩
 | obj c fs=>
  refine q3x3 h λC dx vs k e r=>?_;exact⟨C,dx,vs,k,by rw[hs];exact e,qq g r⟩
 | dK kvs=>
  refine q1x2 h λvs e r=>?_;exact⟨vs,by rw[hs];exact e,mY g r⟩
 | dT kvs=>
  refine q1x2 h λvs e r=>?_;exact⟨vs,by rw[hs];exact e,mY g r⟩
def cq (w:Wr K θ H M)(hp:H p=Y):Go K θ H θ (bG H p o) M:=
 ⟨lM w hp,w.len,w.nd,λi a m h1 h2=>by
  have ha:a≠p:=λe=>w.fresh hp (by rw[<-e];exact mem_of_getElem? h1)
  exact(w.at_ i a m h1 h2).grow (lM w hp) (au ha),w.tb.new hp⟩
def dY (w:Wr K θ H M)(hp:H p=Y)(r:aR K θ H ds vs):dj K θ (bG H p (.tup vs)) (.tup ds) (.ref p):=
 ⟨p,vs,rfl,⟨bZ,w.fresh hp⟩,cL (lM w hp) ds vs r⟩
def j7 (w:Wr K θ H M)(hp:H p=Y)(r:aR K θ H ds vs):dj K θ (bG H p (.lst vs)) (.lst ds) (.ref p):=
 ⟨p,vs,rfl,⟨bZ,w.fresh hp⟩,cL (lM w hp) ds vs r⟩
def qA (hp:H p=Y):Grow θ H (θ++[p]) (bG H p o):=
 ⟨⟨[p],rfl,λa ha=>by rw[mem_singleton.mp ha];exact hp⟩,λb u h _ _=>by rw[au (bK h hp)];exact h,λb ps h=>⟨ps,by rw[au (bK h hp)];exact h⟩⟩
def Bb (w:Wr K θ H M)(hp:H p=Y)(hm:o5 K (θ++[p]) (bG H p o) m p):Go K θ H (θ++[p]) (bG H p o) (M++[m]):=by
 have np:=w.fresh hp;have g:Grow θ H (θ++[p]) (bG H p o):=qA hp;refine⟨g,by rw[length_append,length_append,w.len];rfl,?_,λi a m' h1 h2=>?_,w.tb.new hp⟩
 ·rw[nodup_append];exact⟨w.nd,by simp,λx hx y hy e=>np (by rw[mem_singleton.mp hy] at e;rw[<-e];exact hx)⟩
 ·by_cases hi:i<θ.length
  ·rw[getElem?_append_left hi] at h1;rw[getElem?_append_left (by rw[<-w.len];exact hi)] at h2;have ha:a≠p:=λe=>np (by rw[<-e];exact mem_of_getElem? h1)
   exact(w.at_ i a m' h1 h2).grow g (au ha)
  ·have hi':i=θ.length:=by
    have:=(Lj.mp h1).1;rw[length_append,length_singleton] at this;omega
   subst hi';rw[getElem?_append_right (Lr _)] at h1;rw[getElem?_append_right (by rw[w.len];exact Lr _)] at h2;simp only[PB,w.len,getElem?_cons_zero,U6] at h1 h2;subst h1;subst h2;exact hm
def Gc (w:Wr K θ H M)(hp:H p=Y)(r:aR K θ H ds vs):Go K θ H (θ++[p]) (bG H p (.lst vs)) (M++[.lst ds]):=
 Bb w hp ⟨vs,bZ,cL (qA hp) ds vs r⟩
def wV {i:Nat}(w:Wr K θ H M)(hi:θ[i]?=Z a):Grow θ H θ (bG H a o):=by
 have ha:a∈θ:=mem_of_getElem? hi;refine q1x2 (w.plain hi) λu hu pu=>?_;exact⟨⟨[],by simp,λ_ z=>by cases z⟩,λb u h n _=>by rw[au (λe=>n (by rw[e];exact ha))];exact h,λb ps h=>⟨ps,by rw[au (v5 h hu (by intro z;subst z;cases pu))];exact h⟩⟩
def BS (w:Wr K θ H M)(hi:θ[i]?=Z a)(hm:o5 K θ (bG H a o) m a):Go K θ H θ (bG H a o) (M.set i m):=by
 have g:Grow θ H θ (bG H a o):=wV w hi;refine q1x2 (w.plain hi) λu hu pu=>?_;refine⟨g,by rw[length_set];exact w.len,w.nd,λj b m' h1 h2=>?_,w.tb.at_ hu pu⟩
 by_cases hj:j=i
 ·subst hj;rw[hi] at h1;cases h1;have hl:j<M.length:=by rw[<-w.len];exact(Lj.mp hi).1
  rw[getElem?_set_self hl] at h2;cases h2;exact hm
 ·rw[getElem?_set_ne (NL hj)] at h2;have hb:b≠a:=λe=>by
   subst e;refine q1x1 (Lj.mp h1) λh3 e3=>?_;refine q1x1 (Lj.mp hi) λh4 e4=>?_;exact hj ((getElem_inj w.nd).mp (e3.trans e4.symm))
  exact(w.at_ j b m' h1 h2).grow g (au hb)
def AF {ds:List D}(w:Wr K θ H M)(hi:θ[i]?=Z a)(r:aR K θ H ds' vs'):Go K θ H θ (bG H a (.lst vs')) (M.set i (.lst ds')):=
 BS w hi ⟨vs',bZ,cL (wV w hi) ds' vs' r⟩
end
abbrev GE:=fO->aF->aQ D
abbrev GT:=fO->aF->aQ Bool
abbrev GA:=fO->aF->aQ (List D)
inductive Fl where
 | nx (ρ:fO)|rt (d:D)|bk (ρ:fO)|ct (ρ:fO)
abbrev GS:=fO->aF->aQ Fl
def dC (X:Cx)(θ:List Addr)(H:Hp)(c:Str)(M:aF):Prop:=∀C θ' H' a s',oj X.K c C->Go X.K θ H θ' H' M->Kb X H' a C s'->X.xe (.ref a) s'
def aN (X:Cx)(θ:List Addr)(H:Hp)(Q:VK):aQ D->Prop
 | .ok d M'=>∀v θ' H',Go X.K θ H θ' H' M'->dj X.K θ' H' d v->Q v H'
 | .err c M'=>dC X θ H c M'
 | .bad=>False
def mF (X:Cx)(θ:List Addr)(H:Hp)(Q:Bool->Hp->Prop):aQ Bool->Prop
 | .ok b M'=>∀θ' H',Go X.K θ H θ' H' M'->Q b H'
 | .err c M'=>dC X θ H c M'
 | .bad=>False
def yg (X:Cx)(θ:List Addr)(H:Hp)(Q:List V->Hp->Prop):aQ (List D)->Prop
 | .ok ds M'=>∀vs θ' H',Go X.K θ H θ' H' M'->aR X.K θ' H' ds vs->Q vs H'
 | .err c M'=>dC X θ H c M'
 | .bad=>False
def eJ (X:Cx)(θ:List Addr)(H:Hp)(D:xK):aQ Fl->Prop
 | .ok (.nx ρ) M'=>∀σ θ' H',Go X.K θ H θ' H' M'->fY X.K θ' H' σ ρ->D.nx σ H'
 | .ok (.bk ρ) M'=>∀σ θ' H',Go X.K θ H θ' H' M'->fY X.K θ' H' σ ρ->D.bk σ H'
 | .ok (.ct ρ) M'=>∀σ θ' H',Go X.K θ H θ' H' M'->fY X.K θ' H' σ ρ->D.ct σ H'
 | .ok (.rt d) M'=>∀v θ' H',Go X.K θ H θ' H' M'->dj X.K θ' H' d v->D.rt v H'
 | .err c M'=>dC X θ H c M'
 | .bad=>False
def tE (X:Cx)(g:GE):TE:=λσ H Q=>∃ρ θ M,fY X.K θ H σ ρ/\Wr X.K θ H M/\aN X θ H Q (g ρ M)
def tT (X:Cx)(g:GT):TT:=λσ H Q=>∃ρ θ M,fY X.K θ H σ ρ/\Wr X.K θ H M/\mF X θ H Q (g ρ M)
def tA (X:Cx)(g:GA):TA:=λσ H Q=>∃ρ θ M,fY X.K θ H σ ρ/\Wr X.K θ H M/\yg X θ H Q (g ρ M)
def tS (X:Cx)(g:GS):TS:=λD σ H=>∃ρ θ M,fY X.K θ H σ ρ/\Wr X.K θ H M/\eJ X θ H D (g ρ M)
section
variable {X:Cx}{θ θ':List Addr}{H H':Hp}{M':aF}
def dC.go (g:Go X.K θ H θ' H' M')(h:dC X θ H c M):dC X θ' H' c M:=λC θ2 H2 a s' k g2 fl=>h C θ2 H2 a s' k (g.trans g2) fl
def aN.go (g:Go X.K θ H θ' H' M')(h:aN X θ H Q o):aN X θ' H' Q o:=by
 cases o with
 | ok d M=>exact λv θ2 H2 g2=>h v θ2 H2 (g.trans g2)
 | err c M=>exact dC.go (c:=c) (M:=M) g h
 | bad=>exact h
def mF.go (g:Go X.K θ H θ' H' M')(h:mF X θ H Q o):mF X θ' H' Q o:=by
 cases o with
 | ok d M=>exact λθ2 H2 g2=>h θ2 H2 (g.trans g2)
 | err c M=>exact dC.go (c:=c) (M:=M) g h
 | bad=>exact h
def yg.go (g:Go X.K θ H θ' H' M')(h:yg X θ H Q o):yg X θ' H' Q o:=by
 cases o with
 | ok d M=>exact λv θ2 H2 g2=>h v θ2 H2 (g.trans g2)
 | err c M=>exact dC.go (c:=c) (M:=M) g h
 | bad=>exact h
def eJ.go {D:xK}(g:Go X.K θ H θ' H' M')(h:eJ X θ H D o):eJ X θ' H' D o:=by
 cases o with
 | ok f M=>cases f <;> exact λv θ2 H2 g2=>h v θ2 H2 (g.trans g2)
 | err c M=>exact dC.go (c:=c) (M:=M) g h
 | bad=>exact h
end
section
variable {X:Cx}{e:Expr}
def _root_.L2.PE.of {t:TE}(h:PE X e t)(w:∀σ H Q,t' σ H Q->t σ H Q):PE X e t':=λaf s σ H Q I q=>h af s σ H Q I (w σ H Q q)
def _root_.L2.PT.of {t:TT}(h:PT X e t)(w:∀σ H Q,t' σ H Q->t σ H Q):PT X e t':=λaf s σ H Q I q=>h af s σ H Q I (w σ H Q q)
def _root_.L2.PW.of {t:TT}(h:PW X e t)(w:∀σ H Q,t' σ H Q->t σ H Q):PW X e t':=λwh af s σ H Q I q=>h wh af s σ H Q I (w σ H Q q)
def _root_.L2.PA.of {t:TA}(h:PA X es t)(w:∀σ H Q,t' σ H Q->t σ H Q):PA X es t':=λpos af s σ H Q I q=>h pos af s σ H Q I (w σ H Q q)
def _root_.L2.PS.of {st:Stmt}{t:TS}(h:PS X st t)(w:∀D σ H,t' D σ H->t D σ H):PS X st t':=λaf s σ H D I q=>h af s σ H D I (w D σ H q)
def _root_.L2.PSs.of {st:List Stmt}{t:TS}(h:PSs X st t)(w:∀D σ H,t' D σ H->t D σ H):PSs X st t':=λaf s σ H D I q=>h af s σ H D I (w D σ H q)
def cU (hd:fY X.K θ H σ ρ)(hw:Wr X.K θ H M)(F:aQ α->Prop)(Fe:∀c M',F (.err c M')->dC X θ H c M')(Fb:F .bad->False)
  {f:D->aF->aQ α} (h:F ((g ρ M).bind f))
  (k:∀d M1 v θ1 H1,Go X.K θ H θ1 H1 M1->dj X.K θ1 H1 d v->F (f d M1)->Q v H1):tE X g σ H Q:=by
 refine⟨ρ,θ,M,hd,hw,?_⟩;cases q:g ρ M with
 | ok d M1=>
  rw[q] at h;exact λv θ1 H1 g1 r1=>k d M1 v θ1 H1 g1 r1 h
 | err c M1=>rw[q] at h;exact Fe c M1 h
 | bad=>rw[q] at h;exact(Fb h).elim
def ae (i:Nat):GE:=λρ M=>match ρ[i]? with
 | some (Z d)=>.ok d M
 | _=>.bad
def gC (d:D):GE:=λ_ M=>.ok d M
def Gk (h:PE X e (Jb i)):PE X e (tE X (ae i)):=h.of λσ H Q hxx=>by
 refine q3x3 hxx λρ θ M hd hw f=>?_;unfold ae at f;split at f
 ·rename_i d q;refine q1x2 (hd.at_ i d q) λv e1 r=>?_;exact⟨v,e1,f v θ H (.refl hw) r⟩
 ·exact f.elim
def Ej {i j pos}:PE X (.Constant (.int i) j pos) (tE X (gC (.int i))):=AK.of λσ H Q ⟨ρ,θ,M,hd,hw,f⟩=>f _ θ H (.refl hw) rfl
def HZ {b j pos}:PE X (.Constant (.bool b) j pos) (tE X (gC (.bl b))):=Ir.of λσ H Q ⟨ρ,θ,M,hd,hw,f⟩=>f _ θ H (.refl hw) rfl
def DO {j pos}:PE X (.Constant .none j pos) (tE X (gC .non)):=Fu.of λσ H Q ⟨ρ,θ,M,hd,hw,f⟩=>f _ θ H (.refl hw) rfl
def FO {x j pos}:PE X (.Constant (.str x) j pos) (tE X (gC (.str x))):=E7.of λσ H Q ⟨ρ,θ,M,hd,hw,f⟩=>f _ θ H (.refl hw) rfl
abbrev F2:=D->D->aF->aQ D
def g2 (f:F2)(ga gb:GE):GE:=λρ M=>(ga ρ M).bind λx M1=>(gb ρ M1).bind λy M2=>f x y M2
def rD (X:Cx)(f:F2):R2:=λx y H Q=>∃θ M dx dy,Wr X.K θ H M/\dj X.K θ H dx x/\dj X.K θ H dy y/\aN X θ H Q (f dx dy M)
def ww (h:tE X (g2 f ga gb) σ H Q):G6 (rD X f) (tE X ga) (tE X gb) σ H Q:=by
 refine q3x3 h λρ θ M hd hw h=>?_;refine cU hd hw (aN X θ H Q) (λc M' h=>h) (λh=>h) h λdx M1 x θ1 H1 g1 r1 h1=>?_
 refine cU (hd.go g1) g1.wr (aN X θ1 H1 Q) (λc M' h=>h) (λh=>h) (h1.go g1) λdy M2 y θ2 H2 g2 r2 h2=>?_
 exact⟨θ2,M2,dx,dy,g2.wr,r1.go g2,r2,h2.go g2⟩
def HW {a:Expr}(ho:iH X (binaryOp op) (rD X f))(ha:PE X a (tE X ga))(hb:PE X b (tE X gb)):PE X (.BinOp a op b pos) (tE X (g2 f ga gb)):=
 (GD ho ha hb).of λ_ _ _ h=>ww h
def FP {a:Expr}(ho:iH X (compareOp op) (rD X f))(ha:PE X a (tE X ga))(hb:PE X b (tE X gb))(hm:behindInMarks op b=false):PE X (.Compare a [op] [b] pos) (tE X (g2 f ga gb)):=
 (Cy ho ha hb hm).of λ_ _ _ h=>ww h
def IU:D->aF->aQ Bool
 | .bl b,M=>.ok b M
 | _,_=>.bad
def aK (g:GE):GT:=λρ M=>(g ρ M).bind IU
def yQ (h:mF X θ H Q (o.bind IU)):aN X θ H (λx H'=>∃k,x=.bl k/\Q k H') o:=by
 cases o with
 | ok d M=>
  cases d with
  | bl b=>exact λv θ1 H1 g1 r1=>⟨b,r1,h θ1 H1 g1⟩
  | _=>exact h.elim
 | err c M=>exact h
 | bad=>exact h
def Aq (h:tT X (aK g) σ H Q):tE X g σ H λx H'=>∃k,x=.bl k/\Q k H':=by
 refine q3x3 h λρ θ M hd hw h=>?_;exact⟨ρ,θ,M,hd,hw,yQ h⟩
def yZ {a:Expr}(ho:iH X (compareOp op) (rD X f))(ha:PE X a (tE X ga))(hb:PE X b (tE X gb))(hm:behindInMarks op b=false):PT X (.Compare a [op] [b] pos) (tT X (aK (g2 f ga gb))):=
 (BI ho ha hb hm).of λσ H Q h=>ww (Aq h)
def xq (f f':F2)(ga gb gc:GE):GE:=λρ M=>(ga ρ M).bind λx M1=>(gb ρ M1).bind λy M2=>(f x y M2).bind λz M3=>match z with
 | .bl true=>(gc ρ M3).bind λw M4=>f' y w M4
 | .bl false=>.ok (.bl false) M3
 | _=>.bad
def G0 (h:tE X (xq f f' ga gb gc) σ H Q):y9 (rD X f) (rD X f') (tE X ga) (tE X gb) (tE X gc) σ H Q:=by
 refine q3x3 h λρ θ M hd hw h=>?_;refine cU hd hw (aN X θ H Q) (λc M' h=>h) (λh=>h) h λdx M1 x θ1 H1 g1 r1 h1=>?_
 refine cU (hd.go g1) g1.wr (aN X θ1 H1 Q) (λc M' h=>h) (λh=>h) (h1.go g1) λdy M2 y θ2 H2 g2 r2 h2=>?_
 refine⟨θ2,M2,dx,dy,g2.wr,r1.go g2,r2,?_⟩;have h3:=h2.go g2;cases q:f dx dy M2 with
 | ok z M3=>
  rw[q] at h3;intro v θ3 H3 g3 r3;cases z with
  | bl k=>
   refine⟨k,r3,?_⟩;cases k with
   | true=>
    rw[if_pos rfl];refine cU ((hd.go g1).go (g2.trans g3)) g3.wr (aN X θ3 H3 Q) (λc M' h=>h) (λh=>h) (h3.go g3) λdw M4 w θ4 H4 g4 r4 h4=>?_
    exact⟨θ4,M4,dy,dw,g4.wr,r2.go (g3.trans g4),r4,h4.go g4⟩
   | false=>
    rw[if_neg Ly];exact h3 _ θ3 H3 g3 rfl
  | _=>exact h3.elim
 | err c M3=>rw[q] at h3;exact h3
 | bad=>rw[q] at h3;exact h3
def y7 {a:Expr}(ho:iH X (compareOp op) (rD X f))(ho':iH X (compareOp op') (rD X f'))(ha:PE X a (tE X ga))(hb:PE X b (tE X gb))(hc:PE X c (tE X gc))
  (hm:lastMarks [op,op'] [b,c]=false:=by with_unfolding_all rfl):PT X (.Compare a [op,op'] [b,c] pos) (tT X (aK (xq f f' ga gb gc))):=(Ah ho ho' ha hb hc hm).of λσ H Q h=>G0 (Aq h)
def cH (a b:GT):GT:=λρ M=>(a ρ M).bind λc M1=>if c then b ρ M1 else .ok false M1
def fK (a b:GT):GT:=λρ M=>(a ρ M).bind λc M1=>if c then .ok true M1 else b ρ M1
def fv (a:GT):GT:=λρ M=>(a ρ M).bind λc M1=>.ok (!c) M1
def uz (hd:fY X.K θ H σ ρ)(hw:Wr X.K θ H M)(F:aQ α->Prop)(Fe:∀c M',F (.err c M')->dC X θ H c M')(Fb:F .bad->False)
  {f:Bool->aF->aQ α} (h:F ((g ρ M).bind f)) (k:∀d M1 θ1 H1,Go X.K θ H θ1 H1 M1->F (f d M1)->Q d H1):tT X g σ H Q:=by
 refine⟨ρ,θ,M,hd,hw,?_⟩;cases q:g ρ M with
 | ok d M1=>
  rw[q] at h;exact λθ1 H1 g1=>k d M1 θ1 H1 g1 h
 | err c M1=>rw[q] at h;exact Fe c M1 h
 | bad=>rw[q] at h;exact(Fb h).elim
variable {a b:Expr}{pos:Pos}{rest:List Expr}{ta tb:GT}{ga gb:GE}
def A7 (ha:PT X a (tT X ta)):PW X (.BoolOp .And [a] pos) (tT X ta):=Cg ha
def D9 (ha:PT X a (tT X ta)):PW X (.BoolOp .Or [a] pos) (tT X ta):=E2 ha
def EQ (ha:PT X a (tT X ta))(hb:PW X (.BoolOp .And (b::rest) pos) (tT X tb)):PW X (.BoolOp .And (a::b::rest) pos) (tT X (cH ta tb)):=(EY ha hb).of λσ H Q hxx=>by
 refine q3x3 hxx λρ θ M hd hw h=>?_;refine uz hd hw (mF X θ H Q) (λc M' h=>h) (λh=>h) h λc M1 θ1 H1 g1 h1=>?_
 cases c with
 | true=>exact⟨ρ,θ1,M1,hd.go g1,g1.wr,mF.go g1 h1⟩
 | false=>exact h1 θ1 H1 g1
def G8 (ha:PT X a (tT X ta))(hb:PW X (.BoolOp .Or (b::rest) pos) (tT X tb)):PW X (.BoolOp .Or (a::b::rest) pos) (tT X (fK ta tb)):=(Iu ha hb).of λσ H Q hxx=>by
 refine q3x3 hxx λρ θ M hd hw h=>?_;refine uz hd hw (mF X θ H Q) (λc M' h=>h) (λh=>h) h λc M1 θ1 H1 g1 h1=>?_
 cases c with
 | true=>exact h1 θ1 H1 g1
 | false=>exact⟨ρ,θ1,M1,hd.go g1,g1.wr,mF.go g1 h1⟩
def Ek (ha:PT X a (tT X ta)):PT X (.UnaryOp .Not a pos) (tT X (fv ta)):=(Eo ha).of λσ H Q hxx=>by
 refine q3x3 hxx λρ θ M hd hw h=>?_;exact uz hd hw (mF X θ H Q) (λc M' h=>h) (λh=>h) h λc M1 θ1 H1 g1 h1=>h1 θ1 H1 g1
def nY (t:GT)(a b:GE):GE:=λρ M=>(t ρ M).bind λc M1=>if c then a ρ M1 else b ρ M1
def Jm (hc:PT X c (tT X ta))(ha:PE X a (tE X ga))(hb:PE X b (tE X gb)):PE X (.IfExp c a b pos) (tE X (nY ta ga gb)):=(zK hc ha hb).of λσ H Q hxx=>by
 refine q3x3 hxx λρ θ M hd hw h=>?_;refine uz hd hw (aN X θ H Q) (λc M' h=>h) (λh=>h) h λc M1 θ1 H1 g1 h1=>?_
 cases c with
 | true=>rw[if_pos rfl];exact⟨ρ,θ1,M1,hd.go g1,g1.wr,aN.go g1 h1⟩
 | false=>rw[if_neg Ly];exact⟨ρ,θ1,M1,hd.go g1,g1.wr,aN.go g1 h1⟩
def ag:GA:=λ_ M=>.ok [] M
def aa (g:GE)(r:GA):GA:=λρ M=>(g ρ M).bind λd M1=>(r ρ M1).bind λds M2=>.ok (d::ds) M2
def jS (hd:fY X.K θ H σ ρ)(hw:Wr X.K θ H M)(F:aQ α->Prop)(Fe:∀c M',F (.err c M')->dC X θ H c M')(Fb:F .bad->False)
  {f:List D->aF->aQ α} (h:F ((g ρ M).bind f)) (k:∀ds M1 vs θ1 H1,Go X.K θ H θ1 H1 M1->aR X.K θ1 H1 ds vs->F (f ds M1)->Q vs H1):tA X g σ H Q:=by
 refine⟨ρ,θ,M,hd,hw,?_⟩;cases q:g ρ M with
 | ok d M1=>
  rw[q] at h;exact λv θ1 H1 g1 r1=>k d M1 v θ1 H1 g1 r1 h
 | err c M1=>rw[q] at h;exact Fe c M1 h
 | bad=>rw[q] at h;exact(Fb h).elim
def Fc:PA X [] (tA X ag):=kM.of λσ H Q ⟨ρ,θ,M,hd,hw,f⟩=>f [] θ H (.refl hw) rfl
def B6 {gr:GA}(ha:PE X e (tE X ga))(hr:PA X es (tA X gr))(hs:starEach (e::es) X.env=(false,eval e X.env)::starEach es X.env:=by rfl):PA X (e::es) (tA X (aa ga gr)):=
 (io ha hr hs).of λσ H Q hxx=>by
  refine q3x3 hxx λρ θ M hd hw h=>?_;refine cU hd hw (yg X θ H Q) (λc M' h=>h) (λh=>h) h λd M1 v θ1 H1 g1 r1 h1=>?_
  refine jS (hd.go g1) g1.wr (yg X θ1 H1 Q) (λc M' h=>h) (λh=>h) (h1.go g1) λds M2 vs θ2 H2 g2 r2 h2=>?_
  exact h2 (v::vs) θ2 H2 g2 ⟨v,vs,rfl,r1.go g2,r2⟩
def nX (ds:List D)(M:aF):aQ D:=if ds.length<=sizeLine then .ok (.tup ds) M else .bad
def aC (ds:List D)(M:aF):aQ D:=if ds.length<=sizeLine then .ok (.lst ds) M else .bad
def bM (ds:List D)(M:aF):aQ D:=if ds.length<=sizeLine then .ok (.mr M.length) (M++[.lst ds]) else .bad
def bC (g:GA):GE:=λρ M=>(g ρ M).bind nX
def eU (g:GA):GE:=λρ M=>(g ρ M).bind aC
def jw (g:GA):GE:=λρ M=>(g ρ M).bind bM
def aN.tup (h:aN X θ H Q (nX ds M))(hw:Wr X.K θ H M)(r:aR X.K θ H ds vs):vs.length<=sizeLine/\∀p,H p=Y->Q (.ref p) (bG H p (.tup vs)):=by
 unfold nX at h
 by_cases hl:ds.length<=sizeLine
 ·rw[if_pos hl] at h;exact⟨by rw[<-aq r];exact hl,λp hp=>h _ θ _ (cq hw hp) (dY hw hp r)⟩
 ·rw[if_neg hl] at h;exact h.elim
def aN.lst (h:aN X θ H Q (aC ds M))(hw:Wr X.K θ H M)(r:aR X.K θ H ds vs):vs.length<=sizeLine/\∀p,H p=Y->Q (.ref p) (bG H p (.lst vs)):=by
 unfold aC at h
 by_cases hl:ds.length<=sizeLine
 ·rw[if_pos hl] at h;exact⟨by rw[<-aq r];exact hl,λp hp=>h _ θ _ (cq hw hp) (j7 hw hp r)⟩
 ·rw[if_neg hl] at h;exact h.elim
def aN.mut (h:aN X θ H Q (bM ds M))(hw:Wr X.K θ H M)(r:aR X.K θ H ds vs):vs.length<=sizeLine/\∀p,H p=Y->Q (.ref p) (bG H p (.lst vs)):=by
 unfold bM at h
 by_cases hl:ds.length<=sizeLine
 ·rw[if_pos hl] at h;refine⟨by rw[<-aq r];exact hl,λp hp=>h _ (θ++[p]) _ (Gc hw hp r) ⟨p,rfl,?_⟩⟩;rw[<-hw.len,getElem?_append_right (Lr _)];simp
 ·rw[if_neg hl] at h;exact h.elim
def Er {x1}(h:PA X es (tA X g)):PE X (.Tuple es x1 pos) (tE X (bC g)):=(Em h).of λσ H Q ⟨ρ,θ,M,hd,hw,h⟩=>
 jS hd hw (aN X θ H Q) (λc M' h=>h) (λh=>h) h λds M1 vs θ1 H1 g1 r1 h1=>aN.tup (aN.go g1 h1) g1.wr r1
def FE (h:PA X es (tA X g)):PE X (.List es pos) (tE X (eU g)):=(AH h).of λσ H Q ⟨ρ,θ,M,hd,hw,h⟩=>
 jS hd hw (aN X θ H Q) (λc M' h=>h) (λh=>h) h λds M1 vs θ1 H1 g1 r1 h1=>aN.lst (aN.go g1 h1) g1.wr r1
def FG (h:PA X es (tA X g)):PE X (.List es pos) (tE X (jw g)):=(AH h).of λσ H Q ⟨ρ,θ,M,hd,hw,h⟩=>
 jS hd hw (aN X θ H Q) (λc M' h=>h) (λh=>h) h λds M1 vs θ1 H1 g1 r1 h1=>aN.mut (aN.go g1 h1) g1.wr r1
end
section
variable {K:W.Frag}{θ:List Addr}{H:Hp}{σ:L2.St}{ρ:fO}
def fY.set (h:fY K θ H σ ρ)(r:dj K θ H d v)(i:Nat):fY K θ H (σ.set i (Z v)) (ρ.set i (Z d)):=by
 refine⟨by rw[length_set,length_set];exact h.len,λj d' e=>?_⟩
 by_cases hj:j=i
 ·subst hj;have hl:j<ρ.length:=by
   have:=(Lj.mp e).1;rw[length_set] at this;exact this
  rw[getElem?_set_self hl] at e;have e':d=d':=by simpa using e
  subst e';exact⟨v,getElem?_set_self (by rw[<-h.len];exact hl),r⟩
 ·rw[getElem?_set_ne (NL hj)] at e;refine q1x2 (h.at_ j d' e) λu e1 r1=>?_;exact⟨u,by rw[getElem?_set_ne (NL hj)];exact e1,r1⟩
end
def bf:GS:=λρ M=>.ok (.nx ρ) M
def ay (a b:GS):GS:=λρ M=>(a ρ M).bind λf M1=>match f with
 | .nx ρ1=>b ρ1 M1
 | .rt d=>.ok (.rt d) M1
 | .bk ρ1=>.ok (.bk ρ1) M1
 | .ct ρ1=>.ok (.ct ρ1) M1
def aD (i:Nat)(g:GE):GS:=λρ M=>(g ρ M).bind λd M1=>.ok (.nx (ρ.set i (Z d))) M1
def bo (g:GE):GS:=λρ M=>(g ρ M).bind λd M1=>.ok (.rt d) M1
def gP (g:GE):GS:=λρ M=>(g ρ M).bind λ_ M1=>.ok (.nx ρ) M1
def gW (t:GT)(a b:GS):GS:=λρ M=>(t ρ M).bind λc M1=>if c then a ρ M1 else b ρ M1
section
variable {X:Cx}{st:Stmt}{rest:List Stmt}{e:Expr}{g:GE}{t u:GS}{pos:Pos}
def Ee:PSs X [] (tS X bf):=Bm.of λD σ H ⟨ρ,θ,M,hd,hw,f⟩=>f σ θ H (.refl hw) hd
def Cw (h1:PS X st (tS X t))(h2:PSs X rest (tS X u)):PSs X (st::rest) (tS X (ay t u)):=(yH h1 h2).of λD σ H hxx=>by
 refine q3x3 hxx λρ θ M hd hw h=>?_;refine⟨ρ,θ,M,hd,hw,?_⟩;unfold ay at h;cases q:t ρ M with
 | ok f M1=>
  rw[q] at h;cases f with
  | nx ρ1=>exact λσ1 θ1 H1 g1 d1=>⟨ρ1,θ1,M1,d1,g1.wr,eJ.go g1 h⟩
  | rt d=>exact h
  | bk ρ1=>exact h
  | ct ρ1=>exact h
 | err c M1=>rw[q] at h;exact h
 | bad=>rw[q] at h;exact h
def Eh (h1:PS X st (tS X t)):PSs X [st] (tS X t):=Bj h1
def El (hN:X.N.Nodup)(hi:X.N[i]?=Z x)(hx:zm X.env.scope x)(he:PE X e (tE X g))(hs:swapsWith e (Z (.Name x pos')) pos.line X.env=pure false:=by rfl)(hf:X.fn x=true\/X.env.scope.names.lookup x=Z .local:=by first|exact .inl rfl|exact .inr rfl|assumption) :
  PS X (.Assign [.Name x pos'] e pos) (tS X (aD i g)):=(F3 hN hi hx he hs hf).of λD σ H ⟨ρ,θ,M,hd,hw,h⟩=>
 cU hd hw (eJ X θ H D) (λc M' h=>h) (λh=>h) h λd M1 v θ1 H1 g1 r1 h1=>h1 _ θ1 H1 g1 ((hd.go g1).set r1 i)
def FJ (he:PE X e (tE X g)):PS X (.Return (Z e) pos) (tS X (bo g)):=(Ep he).of λD σ H ⟨ρ,θ,M,hd,hw,h⟩=>
 cU hd hw (eJ X θ H D) (λc M' h=>h) (λh=>h) h λd M1 v θ1 H1 g1 r1 h1=>h1 v θ1 H1 g1 r1
def Be (he:PE X e (tE X g))(hs:swapsWith e Y pos.line X.env=pure false:=by rfl):PS X (.Expr e pos) (tS X (gP g)):=(Ce he hs).of λD σ H ⟨ρ,θ,M,hd,hw,h⟩=>
 cU hd hw (eJ X θ H D) (λc M' h=>h) (λh=>h) h λd M1 v θ1 H1 g1 r1 h1=>h1 σ θ1 H1 g1 (hd.go g1)
def Il {a:List Stmt}(hc:PT X c (tT X tc))(ha:PSs X a (tS X t))(hb:PSs X b (tS X u)):PS X (.If c a b pos) (tS X (gW tc t u)):=(Jf hc ha hb).of λD σ H hxx=>by
 refine q3x3 hxx λρ θ M hd hw h=>?_;refine uz hd hw (eJ X θ H D) (λc M' h=>h) (λh=>h) h λc M1 θ1 H1 g1 h1=>?_
 cases c with
 | true=>rw[if_pos rfl];exact⟨ρ,θ1,M1,hd.go g1,g1.wr,eJ.go g1 h1⟩
 | false=>rw[if_neg Ly];exact⟨ρ,θ1,M1,hd.go g1,g1.wr,eJ.go g1 h1⟩
abbrev GG:=D->fO->Option fO
def tG (X:Cx)(s:GG):TG:=λv σ H Q=>∃ρ θ M d,fY X.K θ H σ ρ/\Wr X.K θ H M/\dj X.K θ H d v/\∃ρ',s d ρ=Z ρ'/\∀σ',fY X.K θ H σ' ρ'->Q σ' H
def aX (i:Nat):GG:=λd ρ=>Z (ρ.set i (Z d))
def ma:List Nat->List D->fO->Option fO
 | [],[],ρ=>Z ρ
 | i::is,d::ds,ρ=>ma is ds (ρ.set i (Z d))
 | _,_,_=>Y
def cb (is:List Nat):GG:=λd ρ=>match d with
 | .tup ds=>ma is ds ρ
 | _=>Y
def lQ (hN:X.N.Nodup)(hi:X.N[i]?=Z x)(hx:zm X.env.scope x)(hf:X.fn x=true\/X.env.scope.names.lookup x=Z .local:=by first|exact .inl rfl|exact .inr rfl|assumption):PG X (.Name x pos) (tG X (aX i)):=by
 intro af s σ H v u Q I r h;obtain⟨ρ,θ,M,d,hd,hw,rd,ρ',e,h⟩:=h;cases e;exact CU hN hi hx hf af s σ H v u Q I r (h _ (hd.set rd i))
def IV (X:Cx)(is:List Nat):Dv:=λvs σ H Q=>∃ρ θ M ds,fY X.K θ H σ ρ/\Wr X.K θ H M/\aR X.K θ H ds vs/\∃ρ',ma is ds ρ=Z ρ'/\∀σ',fY X.K θ H σ' ρ'->Q σ' H
def Cb:wg X [] (IV X []):=by
 intro af s σ H vs us Q I r h;obtain⟨ρ,θ,M,ds,hd,hw,rd,ρ',e,h⟩:=h;cases ds with
 | cons d ds=>cases e
 | nil=>
  have e2:vs=[]:=rd;subst e2;cases e;exact wz af s σ H [] us Q I r ⟨rfl,h σ hd⟩
def zj (h1:PG X e (tG X (aX i)))(h2:wg X es (IV X is))
  (hs:(assignEach (e::es) X.env).map (·.2)=assign e X.env::(assignEach es X.env).map (·.2):=by rfl):wg X (e::es) (IV X (i::is)):=by
 intro af s σ H vs us Q I r h;obtain⟨ρ,θ,M,ds,hd,hw,rd,ρ',e1,h⟩:=h;cases ds with
 | nil=>cases e1
 | cons d ds=>
  refine q2x3 rd λv vr e2 rv rr=>?_;subst e2;refine uJ h1 h2 hs af s σ H _ us Q I r ⟨v,vr,rfl,ρ,θ,M,d,hd,hw,rv,_,rfl,λσ1 d1=>?_⟩;exact⟨_,θ,M,ds,d1,hw,rr,ρ',e1,h⟩
def Fk {k:Nat}(hc:X.calm=true)(h:wg X es (IV X is))(hl:is.length=n:=by rfl)
  (hn:(assignEach es X.env).length=n:=by rfl) (hst:(assignEach es X.env).findIdx? (·.1)=Y:=by rfl):PG X (.Tuple es k pos) (tG X (cb is)):=by
 intro af s σ H v u Q I r hw;obtain⟨ρ,θ,M,d,hd,hwr,rd,ρ',e1,hw⟩:=hw;cases d with
 | tup ds=>
  obtain⟨a,vs,e2,ta,rs⟩:=rd;have hlen:ds.length=is.length:=by
   have e1:ma is ds ρ=Z ρ':=e1;clear hw hd hwr rs hn hst h hl
   induction is generalizing ds ρ with
   | nil=>
    cases ds with
    | nil=>rfl
    | cons _ _=>cases e1
   | cons i is ih=>
    cases ds with
    | nil=>cases e1
    | cons d ds=>rw[length_cons,length_cons,ih _ ds e1 e1]
  refine Ar (n:=n) hc h hn hst af s σ H v u Q I r ⟨a,vs,e2,ta.sq,by rw[<-aq rs,hlen,hl],?_⟩;exact⟨ρ,θ,M,ds,hd,hwr,rs,ρ',e1,hw⟩
 | _=>cases e1
def jz:List GG->List D->fO->Option fO
 | [],[],ρ=>Z ρ
 | s::ss,d::ds,ρ=>match s d ρ with
  | some ρ1=>jz ss ds ρ1
  | none=>Y
 | _,_,_=>Y
def jW (ss:List GG):GG:=λd ρ=>match d with
 | .tup ds=>jz ss ds ρ
 | _=>Y
theorem p9:∀{ss:List GG} {ds:List D} {ρ ρ':fO},jz ss ds ρ=Z ρ'->ds.length=ss.length
 | [],[],_,_,_=>rfl
 | [],_::_,_,_,h=>by cases h
 | _::_,[],_,_,h=>by cases h
 | s::ss,d::ds,ρ,ρ',h=>by
  unfold jz at h;split at h
  ·rw[length_cons,length_cons,p9 h]
  ·cases h
def zM (X:Cx)(ss:List GG):Dv:=λvs σ H Q=>∃ρ θ M ds,fY X.K θ H σ ρ/\Wr X.K θ H M/\aR X.K θ H ds vs/\∃ρ',jz ss ds ρ=Z ρ'/\∀σ',fY X.K θ H σ' ρ'->Q σ' H
def Af:wg X [] (zM X []):=by
 intro af s σ H vs us Q I r h;obtain⟨ρ,θ,M,ds,hd,hw,rd,ρ',e,h⟩:=h;cases ds with
 | cons d ds=>cases e
 | nil=>
  have e2:vs=[]:=rd;subst e2;cases e;exact wz af s σ H [] us Q I r ⟨rfl,h σ hd⟩
def yx {ss:List GG}(h1:PG X e (tG X sg))(h2:wg X es (zM X ss))
  (hs:(assignEach (e::es) X.env).map (·.2)=assign e X.env::(assignEach es X.env).map (·.2):=by rfl):wg X (e::es) (zM X (sg::ss)):=by
 intro af s σ H vs us Q I r h;obtain⟨ρ,θ,M,ds,hd,hw,rd,ρ',e1,h⟩:=h;cases ds with
 | nil=>cases e1
 | cons d ds=>
  refine q2x3 rd λv vr e2 rv rr=>?_;subst e2;unfold jz at e1;split at e1
  ·rename_i ρ1 q1;refine uJ h1 h2 hs af s σ H _ us Q I r ⟨v,vr,rfl,ρ,θ,M,d,hd,hw,rv,ρ1,q1,λσ1 d1=>?_⟩;exact⟨ρ1,θ,M,ds,d1,hw,rr,ρ',e1,h⟩
  ·cases e1
def Ba {ss:List GG}{k:Nat}(hc:X.calm=true)(h:wg X es (zM X ss))(hl:ss.length=n:=by rfl)
  (hn:(assignEach es X.env).length=n:=by rfl) (hst:(assignEach es X.env).findIdx? (·.1)=Y:=by rfl):PG X (.Tuple es k pos) (tG X (jW ss)):=by
 intro af s σ H v u Q I r hw;obtain⟨ρ,θ,M,d,hd,hwr,rd,ρ',e1,hw⟩:=hw;cases d with
 | tup ds=>
  refine q2x3 rd λa vs e2 ta rs=>?_;have hlen:ds.length=ss.length:=p9 e1;refine Ar (n:=n) hc h hn hst af s σ H v u Q I r ⟨a,vs,e2,ta.sq,by rw[<-aq rs,hlen,hl],?_⟩;exact⟨ρ,θ,M,ds,hd,hwr,rs,ρ',e1,hw⟩
 | _=>cases e1
def dH (s:GG)(g:GE):GS:=λρ M=>(g ρ M).bind λd M1=>match s d ρ with
 | some ρ1=>.ok (.nx ρ1) M1
 | none=>.bad
def EE (he:PE X e (tE X g))(hg:PG X tg (tG X s))(hs:swapsWithSole [tg] e pos.line X.env=pure false:=by rfl)(hw:swappedStores [tg] e X.env=pure Y:=by rfl)
  (h1:(assignEach [tg] X.env).map (·.2)=[assign tg X.env]:=by rfl):PS X (.Assign [tg] e pos) (tS X (dH s g)):=(zJ he hg hs hw h1).of λD σ H hxx=>by
 refine q3x3 hxx λρ θ M hd hwr h=>?_;refine cU hd hwr (eJ X θ H D) (λc M' h=>h) (λh=>h) h λd M1 v θ1 H1 g1 r1 h1=>?_
 cases q:s d ρ with
 | some ρ1=>
  rw[q] at h1;exact⟨ρ,θ1,M1,d,hd.go g1,g1.wr,r1,ρ1,q,λσ' d'=>h1 σ' θ1 H1 g1 d'⟩
 | none=>rw[q] at h1;exact h1.elim
def uM (o i x:D)(M:aF):aQ Unit:=match o,i with
 | .mr k,.int j=>match M[k]? with
  | some (.lst xs)=>match yB xs.length j with
   | some n=>.ok () (M.set k (.lst (xs.set n x)))
   | none=>.bad
  | _=>.bad
 | _,_=>.bad
def jv (go gi g:GE):GS:=λρ M=>(g ρ M).bind λx M1=>(go ρ M1).bind λo M2=>(gi ρ M2).bind λi M3=>(uM o i x M3).bind λ_ M4=>.ok (.nx ρ) M4
def FU {go:GE}(he:PE X e (tE X g))(ho:PE X o (tE X go))(hi:PE X i (tE X gi))
  (ha:∀v,assign (.Subscript o i ip) X.env v=(do
   let ov <-holding [v] (eval o X.env)
   let iv <-holding [v,ov] (eval i X.env)
   standAt ip
   holding [v,ov,iv] (setItem ov iv v)
   release [v,ov,iv] []):=by intro _;rfl)
  (hs:swapsWithSole [.Subscript o i ip] e pos.line X.env=pure false:=by rfl) (hw:swappedStores [.Subscript o i ip] e X.env=pure Y:=by rfl)
  (h1:(assignEach [.Subscript o i ip] X.env).map (·.2)=[assign (.Subscript o i ip) X.env]:=by rfl):PS X (.Assign [.Subscript o i ip] e pos) (tS X (jv go gi g)):=
 (zJ he (DE ho hi AM ha) hs hw h1).of λD σ H hxx=>by
  refine q3x3 hxx λρ θ M hd hwr h=>?_;refine cU hd hwr (eJ X θ H D) (λc M' h=>h) (λh=>h) h λdx M1 vx θ1 H1 g1 r1 h1=>?_
  refine cU (hd.go g1) g1.wr (eJ X θ1 H1 D) (λc M' h=>h) (λh=>h) (h1.go g1) λdob M2 vo θ2 H2 g2 r2 h2=>?_
  refine cU ((hd.go g1).go g2) g2.wr (eJ X θ2 H2 D) (λc M' h=>h) (λh=>h) (h2.go g2) λdi M3 vi θ3 H3 g3 r3 h3=>?_
  have h4:=h3.go g3;unfold uM at h4;split at h4
  ·rename_i k j;split at h4
   ·rename_i xs q;split at h4
    ·rename_i n hn;refine q1x2 (r2.go g3) λa ea ta=>?_;refine q1x2 (g3.wr.at_ k a _ ta q) λvs ev rv=>?_;have ei:vi=.int j:=r3;refine⟨a,vs,j,n,ea,ei,ev,by rw[<-aq rv];exact hn,?_⟩;have gs:=AF (ds:=xs) g3.wr ta (tM (r1.go (g2.trans g3)) n rv);exact h4 σ θ3 _ gs ((((hd.go g1).go g2).go g3).go gs)
    ·exact h4.elim
   ·exact h4.elim
  ·exact h4.elim
end
mutual
def BH:D->D->Bool
 | .non,.non=>true
 | .bl a,.bl b=>a==b
 | .int a,.int b=>a==b
 | .str a,.str b=>a==b
 | .tup a,.tup b=>jr a b
 | .lst a,.lst b=>jr a b
 | .ro a,.ro b=>jr a b
 | .mr a,.mr b=>a==b
 | .exc a,.exc b=>a==b
 | .any,.any=>true
 | _,_=>false
def jr:List D->List D->Bool
 | [],[]=>true
 | a::as,b::bs=>BH a b&&jr as bs
 | _,_=>false
end
def ff {P:Prop}(h:false=true):P:=absurd h Ly
mutual
theorem Cd:∀(a b:D),BH a b=true->a=b
 | .non,b,h=>by
  cases b with
  | non=>rfl
  | _=>exact ff h
 | .bl x,b,h=>by
  cases b with
  | bl y=>rw[eq_of_beq (show(x==y)=true from h)]
  | _=>exact ff h
 | .int x,b,h=>by
  cases b with
  | int y=>rw[eq_of_beq (show(x==y)=true from h)]
  | _=>exact ff h
 | .str x,b,h=>by
  cases b with
  | str y=>rw[eq_of_beq (show(x==y)=true from h)]
  | _=>exact ff h
 | .tup x,b,h=>by
  cases b with
  | tup y=>rw[iQ x y h]
  | _=>exact ff h
 | .lst x,b,h=>by
  cases b with
  | lst y=>rw[iQ x y h]
  | _=>exact ff h
 | .ro x,b,h=>by
  cases b with
  | ro y=>rw[iQ x y h]
  | _=>exact ff h
 | .mr x,b,h=>by
  cases b with
  | mr y=>rw[eq_of_beq (show(x==y)=true from h)]
  | _=>exact ff h
 | .exc x,b,h=>by
  cases b with
  | exc y=>rw[eq_of_beq (show(x==y)=true from h)]
  | _=>exact ff h
 | .any,b,h=>by
  cases b with
  | any=>rfl
  | _=>exact ff h
theorem iQ:∀(a b:List D),jr a b=true->a=b
 | [],b,h=>by
  cases b with
  | nil=>rfl
  | cons _ _=>exact ff h
 | x::xs,b,h=>by
  cases b with
  | nil=>exact ff h
  | cons y ys=>
   have h:=ML.mp (show(BH x y&&jr xs ys)=true from h);rw[Cd x y h.1,iQ xs ys h.2]
end
mutual
theorem xr:∀(a:D),BH a a=true
 | .non=>rfl
 | .bl x=>beq_self_eq_true x
 | .int x=>beq_self_eq_true x
 | .str x=>beq_self_eq_true x
 | .tup x=>eV x
 | .lst x=>eV x
 | .ro x=>eV x
 | .mr x=>beq_self_eq_true x
 | .exc x=>beq_self_eq_true x
 | .any=>rfl
theorem eV:∀(a:List D),jr a a=true
 | []=>rfl
 | x::xs=>ML.mpr ⟨xr x,eV xs⟩
end
structure jx where
 ds:List D
 m:Option (Nat×List D)
def jx.ok (t:jx)(M:aF):Bool:=match t.m with
 | none=>true
 | some i=>match M[i.1]? with
  | some (.lst xs)=>jr xs i.2
  | _=>false
abbrev GI:=fO->aF->aQ jx
def sB (K:W.Frag)(J:It)(θ:List Addr)(H:Hp)(t:jx):Prop:=∀θ1 H1 M1,Go K θ H θ1 H1 M1->t.ok M1=true->∀i:Nat,
 (∀d,t.ds[i]?=Z d->J.go i H1/\∀x H2,J.yld i H1 x H2->Go K θ1 H1 θ1 H2 M1/\dj K θ1 H2 d x)/\(t.ds.length<=i->J.stop i H1)
def tL (X:Cx)(θ:List Addr)(H:Hp)(R:It->Hp->Prop):aQ jx->Prop
 | .ok t M'=>∀J θ' H',Go X.K θ H θ' H' M'->sB X.K J θ' H' t->R J H'
 | .err c M'=>dC X θ H c M'
 | .bad=>False
def tI (X:Cx)(g:GI):TI:=λσ H R=>∃ρ θ M,fY X.K θ H σ ρ/\Wr X.K θ H M/\tL X θ H R (g ρ M)
def wA (d:D)(M:aF):aQ jx:=match d with
 | .lst ds=>.ok ⟨ds,Y⟩ M
 | .ro ds=>.ok ⟨ds,Y⟩ M
 | .tup ds=>.ok ⟨ds,Y⟩ M
 | .mr k=>match M[k]? with
  | some (.lst ds)=>.ok ⟨ds,Z (k,ds)⟩ M
  | _=>.bad
 | _=>.bad
def cN (g:GE):GI:=λρ M=>(g ρ M).bind wA
section
variable {X:Cx}{tg:Expr}
def G9 (hl:PE X l tl):PI X tg l (λσ H R=>tl σ H λx H1=>∃a,x=.ref a/\(((∃xs,gG X.K H1 a xs)/\R (Js X.K a) H1)\/((∃xs,nH X.K H1 a xs)/\R (Km X.K a) H1))):=by
 intro af s σ H R I h;refine bR (hl af s σ H _ I h) λv s1 hxx=>?_
 obtain⟨x,H1,I1,r1,q1⟩:=hxx;obtain⟨a,e,q1⟩:=q1;subst e;cases r1;rcases q1 with⟨⟨xs,hq⟩,q⟩|⟨⟨xs,hq⟩,q⟩
 ·obtain⟨its,rv,p,hz⟩:=I1.list hq;refine wpAny_pyIter_list p.isList ?_;refine⟨s1.heap.objs.size,[s1.heap.objs.size],_,_,H1,rfl,I1.kept (t':=s1.toks) λb o e=>Heap.get?_push_of_some _ e,xL a _,⟨_,Heap.get?_push_size _ rfl,rfl,rfl⟩,λb hb=>?_,q⟩;have e:b=s1.heap.objs.size:=by simpa using hb
  subst e;exact I1.fpOk (Lr _) (I1.hok.fresh (Lr _))
 ·obtain⟨its,rv,p,hz⟩:=I1.tuple hq;refine wpAny_pyIter_tuple (show s1.heap.IsTuple a its.toArray from p) ?_;refine⟨s1.heap.objs.size,[s1.heap.objs.size],_,_,H1,rfl,I1.kept (t':=s1.toks) λb o e=>Heap.get?_push_of_some _ e,vU a _,⟨_,Heap.get?_push_size _ rfl,rfl,rfl⟩,λb hb=>?_,q⟩;have e:b=s1.heap.objs.size:=by simpa using hb
  subst e;exact I1.fpOk (Lr _) (I1.hok.fresh (Lr _))
def v6 {K:W.Frag}{a:Addr}(ta:nE K θ H a vs)(r:aR K θ H ds vs):sB K (Js K a) θ H ⟨ds,Y⟩:=by
 intro θ1 H1 M1 g _ i;have t1:=(ta.grow g.toGrow).sq;have r1:=r.go g;refine⟨λd e=>?_,λhl=>⟨vs,t1,by rw[<-aq r1];exact hl⟩⟩;refine q1x2 (bY r1 e) λv e1 rv=>?_;refine⟨⟨vs,v,t1,e1⟩,λx H2 y=>?_⟩;refine q0x2 y λeH y=>?_;subst eH;have e2:=y vs t1;rw[e1] at e2;cases e2;exact⟨.refl g.wr,rv⟩
def Bc {K:W.Frag}{a:Addr}(ta:gJ K θ H a vs)(r:aR K θ H ds vs):sB K (Km K a) θ H ⟨ds,Y⟩:=by
 intro θ1 H1 M1 g _ i;have t1:=(ta.grow g.toGrow).sq;have r1:=r.go g;refine⟨λd e=>?_,λhl=>⟨vs,t1,by rw[<-aq r1];exact hl⟩⟩;refine q1x2 (bY r1 e) λv e1 rv=>?_;refine⟨⟨vs,v,t1,e1⟩,λx H2 y=>?_⟩;refine q0x2 y λeH y=>?_;subst eH;have e2:=y vs t1;rw[e1] at e2;cases e2;exact⟨.refl g.wr,rv⟩
def BO {K:W.Frag}{a:Addr}{k:Nat}(ta:θ[k]?=Z a):sB K (Js K a) θ H ⟨ds,Z (k,ds)⟩:=by
 intro θ1 H1 M1 g hok i;have t1:θ1[k]?=Z a:=by
  refine q1x2 g.ext λm em _=>?_;rw[em,getElem?_append_left (Lj.mp ta).1];exact ta
 have hok':(match M1[k]? with|some (.lst xs)=>jr xs ds|_=>false)=true:=hok;cases q:M1[k]? with
 | none=>rw[q] at hok';cases hok'
 | some m=>
  cases m with
  | lst xs=>
   rw[q] at hok';have e:xs=ds:=iQ xs ds hok';subst e;refine q1x2 (g.wr.at_ k a _ t1 q) λvs hv r1=>?_;have s1:gG K H1 a vs:=.inl (.inl hv);refine⟨λd e=>?_,λhl=>⟨vs,s1,by rw[<-aq r1];exact hl⟩⟩;refine q1x2 (bY r1 e) λv e1 rv=>?_;refine⟨⟨vs,v,s1,e1⟩,λx H2 y=>?_⟩;refine q0x2 y λeH y=>?_;subst eH;have e2:=y vs s1;rw[e1] at e2;cases e2;exact⟨.refl g.wr,rv⟩
  | _=>rw[q] at hok';cases hok'
def Gd (hl:PE X l (tE X g)):PI X tg l (tI X (cN g)):=by
 intro af s σ H R I h;refine G9 hl af s σ H R I ?_;refine q3x3 h λρ θ M hd hw h=>?_;refine cU hd hw (tL X θ H R) (λc M' h=>h) (λh=>h) h λd M1 v θ1 H1 g1 r1 h1=>?_
 cases d with
 | lst ds=>
  refine q2x3 r1 λa vs e ta r=>?_;exact⟨a,e,.inl ⟨⟨vs,ta.sq⟩,h1 _ θ1 H1 g1 (v6 (.inl ⟨.inl ta.1,ta.2⟩) r)⟩⟩
 | ro ds=>
  refine q2x3 r1 λa vs e ta r=>?_;exact⟨a,e,.inl ⟨⟨vs,ta.sq⟩,h1 _ θ1 H1 g1 (v6 ta r)⟩⟩
 | tup ds=>
  refine q2x3 r1 λa vs e ta r=>?_;exact⟨a,e,.inr ⟨⟨vs,ta.sq⟩,h1 _ θ1 H1 g1 (Bc ta r)⟩⟩
 | mr k=>
  refine q1x2 r1 λa e ta=>?_;have h2:tL X θ H R (match M1[k]? with|some (.lst ds)=>.ok ⟨ds,Z (k,ds)⟩ M1|_=>.bad):=h1;cases q:M1[k]? with
  | none=>rw[q] at h2;exact h2.elim
  | some m=>
   cases m with
   | lst ds=>
    rw[q] at h2;refine q1x2 (g1.wr.at_ k a _ ta q) λvs hv r=>?_;exact⟨a,e,.inl ⟨⟨vs,.inl (.inl hv)⟩,h2 _ θ1 H1 g1 (BO ta)⟩⟩
   | _=>rw[q] at h2;exact h2.elim
 | _=>exact h1.elim
def aw (lo:Int)(n:Nat):List D:=(Lw n).map λ(k:Nat)=>D.int (lo+(k:Int))
def wF {K:W.Frag}(lo:Int)(n:Nat):sB K (Ih lo n) θ H ⟨aw lo n,Y⟩:=by
 intro θ1 H1 M1 g _ i;refine⟨λd e=>?_,λhl=>?_⟩
 ·have hi:i<n:=by
   have:=(Lj.mp e).1;simpa[aw] using this
  refine⟨hi,λx H2 y=>?_⟩;obtain⟨eH,y⟩:=y;subst eH;refine⟨.refl g.wr,?_⟩;have e':D.int (lo+(i:Int))=d:=by
   have:(aw lo n)[i]?=Z (D.int (lo+(i:Int))):=by simp[aw,hi]
   rw[this] at e;exact LZ e
  subst e';exact y
 ·have h2:(aw lo n).length<=i:=hl;have h3:n<=i:=by simpa[aw] using h2
  exact h3
def zi (ds:List D)(M:aF):aQ jx:=match ds with
 | [.int j]=>if -(2 ^ 62)<=j/\j<2 ^ 62 then .ok ⟨aw 0 j.toNat,Y⟩ M else .bad
 | _=>.bad
def CM (ds:List D)(M:aF):aQ jx:=match ds with
 | [.int i,.int j]=>if -(2 ^ 62)<=i/\i<2 ^ 62/\-(2 ^ 62)<=j/\j<2 ^ 62 then .ok ⟨aw i (j-i).toNat,Y⟩ M else .bad
 | _=>.bad
def bt (g:GA):GI:=λρ M=>(g ρ M).bind zi
def fP (g:GA):GI:=λρ M=>(g ρ M).bind CM
def xo {a:Expr}(hg:Gl X "range")(hm:X.mg "range"=Y)(ha:PA X [a] (tA X g))(hs:starEach [a] X.env=[(false,eval a X.env)]:=by rfl):PI X tg (.Call (.Name "range" p) [a] [] pos) (tI X (bt g)):=by
 intro af s σ H R I h;refine yv hg hm ha hs af s σ H R I ?_;refine q3x3 h λρ θ M hd hw h=>?_;refine jS hd hw (tL X θ H R) (λc M' h=>h) (λh=>h) h λds M1 vs θ1 H1 g1 r1 h1=>?_
 unfold zi at h1;split at h1
 ·rename_i j;refine q2x3 r1 λv r e rv rr=>?_;have e2:r=[]:=rr;have e3:v=.int j:=rv;subst e2;subst e3;split at h1
  ·rename_i hj;exact⟨j,e,hj.1,hj.2,h1 _ θ1 H1 g1 (wF 0 j.toNat)⟩
  ·exact h1.elim
 ·exact h1.elim
def xH {a:Expr}(hg:Gl X "range")(hm:X.mg "range"=Y)(ha:PA X [a,b] (tA X g))(hs:starEach [a,b] X.env=[(false,eval a X.env),(false,eval b X.env)]:=by rfl)(hs2:starEach [b] X.env=[(false,eval b X.env)]:=by rfl):PI X tg (.Call (.Name "range" p) [a,b] [] pos) (tI X (fP g)):=by
 intro af s σ H R I h;refine xE hg hm ha hs hs2 af s σ H R I ?_;refine q3x3 h λρ θ M hd hw h=>?_;refine jS hd hw (tL X θ H R) (λc M' h=>h) (λh=>h) h λds M1 vs θ1 H1 g1 r1 h1=>?_
 unfold CM at h1;split at h1
 ·rename_i i j;obtain⟨v,r,e,rv,v2,r2,e4,rv2,rr⟩:=r1;have e2:r2=[]:=rr;have e3:v=.int i:=rv;have e5:v2=.int j:=rv2;subst e2;subst e3;subst e5;subst e4;split at h1
  ·rename_i hj;exact⟨i,j,e,hj,h1 _ θ1 H1 g1 (wF i (j-i).toNat)⟩
  ·exact h1.elim
 ·exact h1.elim
def eO (t:jx)(s:GG)(body:GS):List D->fO->aF->aQ Fl
 | [],ρ,M=>if t.ok M then .ok (.nx ρ) M else .bad
 | d::r,ρ,M=>if t.ok M then
   match s d ρ with
   | none=>.bad
   | some ρ1=>(body ρ1 M).bind λf M1=>match f with
    | .nx ρ2=>eO t s body r ρ2 M1
    | .ct ρ2=>eO t s body r ρ2 M1
    | .bk ρ2=>.ok (.nx ρ2) M1
    | .rt d=>.ok (.rt d) M1
  else .bad
def dJ (gi:GI)(s:GG)(body:GS):GS:=λρ M=>(gi ρ M).bind λt M1=>eO t s body t.ds ρ M1
def B4 {iter:Expr}(hp:PassesOwn (model X.prog X.w) X.A X.env X.xe)(hc:X.calm=true)(hi:JY X tg iter (tI X gi))(hg:PG X tg (tG X sg))(hb:PSs X body (tS X gb))
  (hs:∀x,foldedSetIterable iter X.env x=pure x:=by intro _;rfl):PS X (.For tg iter body [] pos) (tS X (dJ gi sg gb)):=(Fa hp hc hi hg hb hs).of λD σ H hxx=>by
 refine q3x3 hxx λρ θ M hd hw h=>?_;refine⟨ρ,θ,M,hd,hw,?_⟩;unfold dJ at h;cases q:gi ρ M with
 | err c M1=>rw[q] at h;exact h
 | bad=>rw[q] at h;exact h
 | ok t M1=>
  rw[q] at h;intro J θ1 H1 g1 hJ;have h:eJ X θ H D (eO t sg gb t.ds ρ M1):=h;refine⟨λi m σ' H'=>m=t.ds.length-i/\i<=t.ds.length/\∃ρ' θ' M',Go X.K θ1 H1 θ' H' M'/\fY X.K θ' H' σ' ρ'/\eJ X θ' H' D (eO t sg gb (t.ds.drop i) ρ' M'),
   ⟨t.ds.length,by simp,Ni _,ρ,θ1,M1,.refl g1.wr,hd.go g1,eJ.go g1 h⟩,?_⟩
  rintro i m σ' H' ⟨rfl,hil,ρ',θ',M',g',hd',h'⟩
  by_cases hok:t.ok M'=true
  ·refine q0x2 (hJ θ' H' M' g' hok i) λhy hst=>?_
   by_cases hlt:i<t.ds.length
   ·refine .inr ?_;have e1:t.ds[i]?=Z t.ds[i]:=getElem?_eq_getElem hlt;refine q0x2 (hy _ e1) λhgo hyl=>?_;rw[drop_eq_getElem_cons hlt,eO,if_pos hok] at h';refine⟨hgo,λσ2 H2=>∃ρ2 θ2 M2,Go X.K θ' H' θ2 H2 M2/\fY X.K θ2 H2 σ2 ρ2/\eJ X θ2 H2 D (eO t sg gb (t.ds.drop (i+1)) ρ2 M2),λσ2 H2 ⟨ρ2,θ2,M2,g2,d2,h2⟩=>?_,λx H2 y=>?_⟩
    ·exact⟨t.ds.length-(i+1),by omega,rfl,hlt,ρ2,θ2,M2,g'.trans g2,d2,h2⟩
    ·refine q0x2 (hyl x H2 y) λgy rx=>?_;cases qs:sg t.ds[i] ρ' with
     | none=>rw[qs] at h';exact h'.elim
     | some ρ1=>
      rw[qs] at h';refine⟨ρ',θ',M',_,hd'.go gy,gy.wr,rx,ρ1,qs,λσ1 d1=>⟨ρ1,θ',M',d1,gy.wr,?_⟩⟩;have h':eJ X θ' H2 D ((gb ρ1 M').bind _):=eJ.go gy h';cases qb:gb ρ1 M' with
      | err c M2=>rw[qb] at h';exact h'
      | bad=>rw[qb] at h';exact h'
      | ok f M2=>
       rw[qb] at h';cases f with
       | nx ρ2=>exact λσ2 θ2 H3 g2 d2=>⟨ρ2,θ2,M2,gy.trans g2,d2,eJ.go g2 h'⟩
       | ct ρ2=>exact λσ2 θ2 H3 g2 d2=>⟨ρ2,θ2,M2,gy.trans g2,d2,eJ.go g2 h'⟩
       | bk ρ2=>exact h'
       | rt d=>exact h'
   ·have e:i=t.ds.length:=by omega
    subst e;rw[drop_length,eO,if_pos hok] at h';exact .inl ⟨hst (Lr _),h' σ' θ' H' (.refl g'.wr) hd'⟩
  ·have hz:eJ X θ' H' D .bad:=by
    cases hdr:t.ds.drop i with
    | nil=>rw[hdr,eO,if_neg hok] at h';exact h'
    | cons d r=>rw[hdr,eO,if_neg hok] at h';exact h'
   exact hz.elim
def EO {iter:Expr}(hp:PassesOwn (model X.prog X.w) X.A X.env X.xe)(hc:X.calm=true)(hi:PI X tg iter (tI X gi))(hg:PG X tg (tG X sg))(hb:PSs X body (tS X gb))
  (hs:∀x,foldedSetIterable iter X.env x=pure x:=by intro _;rfl):PS X (.For tg iter body [] pos) (tS X (dJ gi sg gb)):=B4 hp hc hi.toF hg hb hs
end
def Ay (K:W.Frag)(θ:List Addr)(H:Hp)(E:XK)(c:Str)(M:aF):Prop:=∀C θ' H' a,oj K c C->Go K θ H θ' H' M->E (.ref C) (Z a) H'
def vp (K:W.Frag)(θ:List Addr)(H:Hp)(Q:VK)(E:XK):aQ D->Prop
 | .ok d M'=>∀v θ' H',Go K θ H θ' H' M'->dj K θ' H' d v->Q v H'
 | .err c M'=>Ay K θ H E c M'
 | .bad=>False
abbrev FD:=List D->aF->aQ D
def pG (K:W.Frag)(n:Nat)(F:FD):Sp:=λvs H Q E=>∃θ M ds,ds.length=n/\aR K θ H ds vs/\Wr K θ H M/\vp K θ H Q E (F ds M)
def nL {K:W.Frag}{ps:List Str}(hn:ps.length=n):∀vs H Q E,pG K n F vs H Q E->vs.length=ps.length:=λvs H Q E ⟨θ,M,ds,hl,r,_⟩=>by rw[hn,<-hl,aq r]
def j2 (k:Nat)(ds:List D):fO:=ds.map Z++Ms k Y
def aI (o:aQ Fl):aQ D:=o.bind λf M=>match f with
 | .rt d=>.ok d M
 | .nx _=>.ok .non M
 | _=>.bad
def cz (k:Nat)(g:GS):FD:=λds M=>aI (g (j2 k ds) M)
def FK {K:W.Frag}(r:aR K θ H ds vs)(N:List Str):fY K θ H (L2.start N vs) (j2 (N.length-vs.length) ds):=by
 have hl:=aq r;refine⟨by simp[L2.start,j2,hl],λi d e=>?_⟩;unfold j2 at e
 by_cases hi:i<ds.length
 ·rw[getElem?_append_left (by simpa using hi),getElem?_map] at e;cases q:ds[i]? with
  | none=>rw[q] at e;cases e
  | some d'=>
   rw[q] at e;have e':d'=d:=by simpa using e
   subst e';refine q1x2 (bY r q) λv e1 rv=>?_;refine⟨v,?_,rv⟩;unfold L2.start;rw[getElem?_append_left (by rw[length_map,<-hl];exact hi),getElem?_map,e1];rfl
 ·rw[getElem?_append_right (by simpa using hi),getElem?_replicate] at e;split at e <;> cases e
section
variable {P:Program}{w:World}{K:W.Frag}{mg:Str->Option Value}{base:Heap}
def Kt {st:Stmt}{k:Nat}(F:BC K x qual st f fd)(S:dB N ps (aH st))(hn:ps.length=n)
  (hbody:∀(cdv:Value) (A:Around) (outer:List Env) (s:Shared) (H:Hp) (E:XK),bE k (A.deeper (envOfC qual (aH st) s.heap.objs.size f cdv))->
   PSs (fZ (iJ P w) P w K mg base N qual (aH st) f cdv A outer s H E) (cF st) (tS (fZ (iJ P w) P w K mg base N qual (aH st) f cdv A outer s H E) g)) :
  fA P w K mg base (iJ P w) (k+1) f fd ps (pG K n (cz (N.length-n) g)):=by
 refine q9x3 F.ex λoc od kV doc pm an cdv ct osl zz9 lk hcd=>?_;subst zz9;refine C8 lk hcd S (nL hn) λA outer s H vs Q E hr h=>⟨_,hbody cdv A outer s H E hr,?_⟩
 refine q3x4 h λθ M ds hl r hw h=>?_;have hv:vs.length=n:=by rw[<-aq r];exact hl
 refine⟨j2 (N.length-n) ds,θ,M,by rw[<-hv];exact FK r N,hw,?_⟩;have h:vp K θ H Q E (aI (g (j2 (N.length-n) ds) M)):=h;unfold aI at h;cases q:g (j2 (N.length-n) ds) M with
 | bad=>rw[q] at h;exact h
 | err c M1=>
  rw[q] at h;have h:Ay K θ H E c M1:=h;exact λC θ' H' a s' kC g1 fl=>kP fl (h C θ' H' a kC g1)
 | ok fl M1=>
  rw[q] at h;cases fl with
  | rt d=>exact h
  | nx ρ1=>exact λσ1 θ1 H1 g1 _=>h .non θ1 H1 g1 rfl
  | bk ρ1=>exact h.elim
  | ct ρ1=>exact h.elim
end
section
variable {X:Cx}{e:Expr}{es:List Expr}{x:Str}{p pos:Pos}{k n:Nat}{f:Addr}{fd:FuncData}{ps:List Str}{F:FD}{ga:GA}
def av (n:Nat)(F:FD)(ga:GA):GE:=λρ M=>(ga ρ M).bind λds M1=>if ds.length=n then F ds M1 else .bad
def IW (X:Cx):XK:=λcls oa H'=>∃a C c θ M,oa=Z a/\cls=.ref C/\oj X.K c C/\Wr X.K θ H' M/\dC X θ H' c M
def ue:vF (iJ X.prog X.w) X (IW X):=λaf σ H s e s' I h=>by
 obtain⟨a,C,H',rfl,fl,a',C',c,θ,M,e1,e2,kC,hw,ok⟩:=xn I h;cases e1;cases e2;exact ok C θ H' a s' kC (.refl hw) fl
def CK (h:dC X θ H c M):Ay X.K θ H (IW X) c M:=λC θ' H' a kC g=>⟨a,C,c,θ',M,rfl,rfl,kC,g.wr,h.go g⟩
def CD (Fn:fA X.prog X.w X.K X.mg X.base (iJ X.prog X.w) k f fd ps (pG X.K n F))(hr:bE k X.A)(hg:Gl X x)(hm:X.mg x=Z (.ref f))(hk:W.keepIn X.K (.ref f)=true)(hb:j1 X.K fd ps [])
  (ha:PA X (e::es) (tA X ga)) (hdb:(x==("__debug__":Str))=false:=by decide) (he:starEach (e::es) X.env=(false,eval e X.env)::starEach es X.env:=by rfl) (hpl:(backTo pos (starEach es X.env)).any (·.1)=false:=by rfl) :
  PE X (.Call (.Name x p) (e::es) [] pos) (tE X (av n F ga)):=(BA Fn hr hg hm hk hb .nil ue ha hdb he hpl).of λσ H Q hxx=>by
 refine q3x3 hxx λρ θ M hd hw h=>?_;refine jS hd hw (aN X θ H Q) (λc M' h=>h) (λh=>h) h λds M1 vs θ1 H1 g1 r1 h1=>?_
 by_cases hl:ds.length=n
 ·rw[if_pos hl] at h1;refine⟨θ1,M1,ds,hl,by rw[append_nil];exact r1,g1.wr,?_⟩;have h2:=aN.go g1 h1;cases q:F ds M1 with
  | ok d M2=>rw[q] at h2;exact h2
  | err c M2=>rw[q] at h2;exact CK h2
  | bad=>rw[q] at h2;exact h2
 ·rw[if_neg hl] at h1;exact h1.elim
def rC (X:Cx)(F:FD):List V->Hp->VK->Prop:=λxs H Q=>∃θ M ds,Wr X.K θ H M/\aR X.K θ H ds xs/\aN X θ H Q (F ds M)
def aE (F:FD)(ga:GA):GE:=λρ M=>(ga ρ M).bind F
def zP (h:tE X (aE F ga) σ H Q):Kv (rC X F) (tA X ga) σ H Q:=by
 refine q3x3 h λρ θ M hd hw h=>?_;exact jS hd hw (aN X θ H Q) (λc M' h=>h) (λh=>h) h λds M1 vs θ1 H1 g1 r1 h1=>⟨θ1,M1,ds,g1.wr,r1,aN.go g1 h1⟩
def Aw {id:String}(hc:cG X (.builtin id) (rC X F))(hg:Gl X x)(hm:X.mg x=Y)(hv:bootBuiltins x=Z (.builtin id))(ha:PA X (e::es) (tA X ga))(hn:x≠"__name__":=by decide)(hdb:(x==("__debug__":Str))=false:=by decide)
  (he:starEach (e::es) X.env=(false,eval e X.env)::starEach es X.env:=by rfl) (hpl:(backTo pos (starEach es X.env)).any (·.1)=false:=by rfl):PE X (.Call (.Name x p) (e::es) [] pos) (tE X (aE F ga)):=
 (mf hc hg hm hv ha hn hdb he hpl).of λσ H Q h=>zP h
def xw (hc:cG X (.type T) (rC X F))(hg:Gl X x)(hm:X.mg x=Y)(hv:bootBuiltins x=Z (.type T))(ha:PA X (e::es) (tA X ga))(hn:x≠"__name__":=by decide)(hdb:(x==("__debug__":Str))=false:=by decide)
  (he:starEach (e::es) X.env=(false,eval e X.env)::starEach es X.env:=by rfl) (hpl:(backTo pos (starEach es X.env)).any (·.1)=false:=by rfl):PE X (.Call (.Name x p) (e::es) [] pos) (tE X (aE F ga)):=
 (qC hc hg hm hv ha hn hdb he hpl).of λσ H Q h=>zP h
end
section
variable {prog:Program}{w:World}{A:Around}{E:Value->Shared->Prop}{s:Shared}
def AV {t:Addr}{ws:List Value}(ht:IsTup s.heap t #[])(hb:IsTup s.heap b ws.toArray)
  (h:Q (.ref b) s):wpAny (model prog w) A (binaryOp .Add (.ref t) (.ref b)) Q E s:=by
 obtain⟨⟨cls,dd,data,sl⟩,ho,hc,n,hd⟩:=id ht;obtain⟨⟨cls2,dd2,data2,sl2⟩,ho2,hc2,n2,hd2⟩:=id hb;simp only at hc hd hc2 hd2;subst hc hd hc2 hd2;exact concat_meets ⟨_,ho,rfl⟩ ⟨_,ho2,rfl⟩ noFill_tuple_add seq_tuple_add PySem.F.slot_tuple_add PySem.F.entry_tuple_add (PySem.F.args_tuple_add_2 _ _)
   (tuple_addW0 t b #[] ws.toArray n n2 dd dd2 sl sl2 (by simp)) ⟨ho,ho2,h⟩
def kA {t:Addr}{lo hi:Option Int}(ht:IsTup s.heap t items)(hs:s.heap.IsSliceOf sl vl vu .none)(pl:IsPart vl lo)(pu:IsPart vu hi)
  (hw:HT.sIx items.size 0 lo=0/\HT.sIx items.size items.size hi=items.size) (h:Q (.ref t) s):wpAny (model prog w) A (getItem (.ref t) (.ref sl)) Q E s:=by
 refine q1x3 (id hs) λos hos hcs hds=>?_;have hTs:s.TypeIs (.ref sl) "slice":=⟨os,hos,hcs⟩;unfold getItem
 try with_reducible refine wpAny_holding ?_
 first|refine wpAny_bind (wpAny_pure ?_)|skip
 refine wpAny_bind (wpAny_sequenceKey ht.typeIs (by decide) ?_);refine wpAny_bind (wpAny_callSpecial?_slot (name:=Str.ofString "__getitem__") ht.typeIs Mw
  (wpAny_call_entry Mw ht.typeIs entry_tuple_getitem ?_ (args_tuple_getitem _ _)))
 show wpAny _ _ (Builtin.Tuple.tupleItemsOf (.ref t) >>= _) _ _ s;refine wpAny_bind (tupleItemsOf_ ht ?_);refine wpAny_bind (wpAny_typeOf hTs ?_);rw[if_pos (by decide)];refine wpAny_bind (HT.sliceApplied_gen hs pl pu ?_);have hyes:(((HT.sIx items.size 0 lo:Nat):Int)==0&&(1:Int)==1&&(HT.sIx items.size items.size hi-HT.sIx items.size 0 lo)==items.size)=true:=by
  rw[hw.1,hw.2];simp
 show wpAny _ _ (if(((HT.sIx items.size 0 lo:Nat):Int)==0&&(1:Int)==1&&(HT.sIx items.size items.size hi-HT.sIx items.size 0 lo)==items.size)=true then _ else _) _ _ s;rw[if_pos hyes];unfold Builtin.Tuple.tupleIsExact;refine wpAny_bind (wpAny_bind (wpAny_typeOf ht.typeIs (wpAny_pure ?_)));rw[if_pos (by decide)]
 first
  | exact wpAny_bind (wpAny_rule (wpAny_bind (wpAny_pure ⟨_,rfl,wpAny_pure h⟩)))
  | exact wpAny_bind (wpAny_rule (wpAny_pure ⟨_,rfl,wpAny_pure h⟩))
  | exact wpAny_bind (wpAny_rule (wpAny_bind (wpAny_pure (wpAny_pure ⟨_,rfl,wpAny_pure h⟩))))
end
def ye (d:D)(M:aF):Option (List D):=match d with
 | .lst xs=>Z xs
 | .mr k=>match M[k]? with
  | some (.lst xs)=>Z xs
  | _=>Y
 | _=>Y
def bQ:F2:=λx y M=>match x,y with
 | .int i,.int j=>.ok (.int (i+j)) M
 | .str a,.str b=>if a.length+b.length<=sizeLine then .ok (.str (a++b)) M else .bad
 | .tup a,.tup b=>if a.length+b.length<=sizeLine then .ok (.tup (a++b)) M else .bad
 | .bl a,.int j=>.ok (.int ((if a=true then 1 else 0)+j)) M
 | x,y=>match ye x M,ye y M with
  | some a,Z b=>if a.length+b.length<=sizeLine then .ok (.lst (a++b)) M else .bad
  | _,_=>.bad
def Dl {K:W.Frag}(hw:Wr K θ H M)(r:dj K θ H d v)(e:ye d M=Z xs):∃a vs,v=.ref a/\H a=Z (.lst vs)/\aR K θ H xs vs:=by
 cases d with
 | lst ys=>cases e;refine q2x3 r λa vs ea ta ra=>?_;exact⟨a,vs,ea,ta.1,ra⟩
 | mr k=>
  refine q1x2 r λa ea ta=>?_;have e:(match M[k]? with|some (.lst xs)=>Z xs|_=>Y)=Z xs:=e;cases q:M[k]? with
  | none=>rw[q] at e;cases e
  | some m=>
   cases m with
   | lst ys=>
    rw[q] at e;cases e;refine q1x2 (hw.at_ k a _ ta q) λvs hv ra=>?_;exact⟨a,vs,ea,hv,ra⟩
   | _=>rw[q] at e;cases e
 | _=>cases e
def eM:F2:=λx y M=>match x,y with
 | .int i,.int j=>.ok (.int (i-j)) M
 | _,_=>.bad
def gf:F2:=λx y M=>match x,y with
 | .int i,.int j=>if(-(2 ^ 64)<i/\i<2 ^ 64)\/(-(2 ^ 64)<j/\j<2 ^ 64) then .ok (.int (i*j)) M else .bad
 | _,_=>.bad
def dg:F2:=λx y M=>match x,y with
 | .int i,.int j=>if 0<j/\j.natAbs.log2<9000 then .ok (.int (i / j)) M else .bad
 | _,_=>.bad
def dq:F2:=λx y M=>match x,y with
 | .int i,.int j=>if 0<j then .ok (.int (i % j)) M else .bad
 | _,_=>.bad
def oT:F2:=λx y M=>match x,y with
 | .int i,.int j=>if 0<=j/\j<=1000000/\i.natAbs<2 ^ 64 then .ok (.int (i ^ j.toNat)) M else .bad
 | _,_=>.bad
section
variable {X:Cx}
def EF:iH X (binaryOp .Add) (rD X bQ):=by
 intro af s σ H x y v u Q I rx ry h;obtain⟨θ,M,dx,dy,hw,r1,r2,h⟩:=h;unfold bQ at h;split at h
 ·rename_i i j;exact E9 af s σ H x y v u Q I rx ry ⟨i,j,r1,r2,h _ θ H (.refl hw) rfl⟩
 ·rename_i a b;split at h
  ·rename_i hl;exact vg af s σ H x y v u Q I rx ry ⟨a,b,r1,r2,hl,h _ θ H (.refl hw) rfl⟩
  ·exact h.elim
 ·rename_i as bs;split at h
  ·rename_i hl;obtain⟨a,vs,ea,ta,ra⟩:=r1;obtain⟨b,us,eb,tb,rb⟩:=r2
   by_cases hv:vs=[]
   ·subst hv;have e0:as=[]:=length_eq_zero_iff.mp (aq ra);subst e0;subst ea;subst eb;cases rx;cases ry;obtain⟨its,q1,p1,_⟩:=I.tuple ta.sq;obtain⟨its2,q2,p2,_⟩:=I.tuple tb.sq;cases q1;exact AV p1 p2 ⟨.ref b,H,I,rfl,h _ θ H (.refl hw) ⟨b,us,rfl,tb,rb⟩⟩
   ·refine BF af s σ H x y v u Q I rx ry ⟨a,b,vs,us,ea,eb,ta.sq,tb.sq,hv,by rw[<-aq ra,<-aq rb];exact hl,λhu=>?_,λ_ p hp=>h _ θ _ (cq hw hp) (dY hw hp (cQ ra rb))⟩;subst hu;have e0:bs=[]:=length_eq_zero_iff.mp (aq rb);subst e0;exact h _ θ H (.refl hw) ⟨a,vs,rfl,ta,by rw[append_nil];exact ra⟩
  ·exact h.elim
 ·rename_i a j;have e1:x=.bl a:=r1;have e2:y=.int j:=r2;subst e1;subst e2;cases rx;obtain⟨t',rfl⟩:=ry;exact IntBool.add_bool_int ⟨.int _,H,I.tok _,⟨_,rfl⟩,h _ θ H (.refl hw) rfl⟩
 ·split at h
  ·rename_i as bs q1 q2;split at h
   ·rename_i hl;obtain⟨a,vs,ea,ta,ra⟩:=Dl hw r1 q1;obtain⟨b,us,eb,tb,rb⟩:=Dl hw r2 q2;exact E6 af s σ H x y v u Q I rx ry ⟨a,b,vs,us,ea,eb,ta,tb,by rw[<-aq ra,<-aq rb];exact hl,λp hp=>h _ θ _ (cq hw hp) (j7 hw hp (cQ ra rb))⟩
   ·exact h.elim
  ·exact h.elim
def E8:iH X (binaryOp .Sub) (rD X eM):=by
 intro af s σ H x y v u Q I rx ry h;refine q4x4 h λθ M dx dy hw r1 r2 h=>?_;unfold eM at h;split at h
 ·rename_i i j;exact DX af s σ H x y v u Q I rx ry ⟨i,j,r1,r2,h _ θ H (.refl hw) rfl⟩
 ·exact h.elim
def FV:iH X (binaryOp .Mult) (rD X gf):=by
 intro af s σ H x y v u Q I rx ry h;refine q4x4 h λθ M dx dy hw r1 r2 h=>?_;unfold gf at h;split at h
 ·rename_i i j;split at h
  ·rename_i hc;exact DM af s σ H x y v u Q I rx ry ⟨i,j,r1,r2,hc,h _ θ H (.refl hw) rfl⟩
  ·exact h.elim
 ·exact h.elim
def A6:iH X (binaryOp .FloorDiv) (rD X dg):=by
 intro af s σ H x y v u Q I rx ry h;obtain⟨θ,M,dx,dy,hw,r1,r2,h⟩:=h;unfold dg at h;split at h
 ·rename_i i j;split at h
  ·rename_i hc;have e1:x=.int i:=r1;have e2:y=.int j:=r2;subst e1;subst e2;obtain⟨t,rfl⟩:=rx;obtain⟨t',rfl⟩:=ry;have h1:(0:Int)<j:=hc.1;exact floordiv_int (by omega) (by rw[Int.fdiv_eq_ediv_of_nonneg i (by omega)];exact⟨.int (i / j),H,I.tok _,⟨_,rfl⟩,h _ θ H (.refl hw) rfl⟩) (.inl (PyProof.noPylong_of_log2 hc.2))
  ·exact h.elim
 ·exact h.elim
def Ei:iH X (binaryOp .Mod) (rD X dq):=by
 intro af s σ H x y v u Q I rx ry h;refine q4x4 h λθ M dx dy hw r1 r2 h=>?_;unfold dq at h;split at h
 ·rename_i i j;split at h
  ·rename_i hc;exact Ea af s σ H x y v u Q I rx ry ⟨i,j,r1,r2,hc,h _ θ H (.refl hw) rfl⟩
  ·exact h.elim
 ·exact h.elim
def DQ:iH X (binaryOp .Pow) (rD X oT):=by
 intro af s σ H x y v u Q I rx ry h;refine q4x4 h λθ M dx dy hw r1 r2 h=>?_;unfold oT at h;split at h
 ·rename_i i j;split at h
  ·rename_i hc;exact FL af s σ H x y v u Q I rx ry ⟨i,j,r1,r2,hc,h _ θ H (.refl hw) rfl⟩
  ·exact h.elim
 ·exact h.elim
def uS (g:GE):GE:=λρ M=>(g ρ M).bind λx M1=>match x with
 | .int i=>.ok (.int (-i)) M1
 | _=>.bad
def F0 {a:Expr}(ha:PE X a (tE X g)):PE X (.UnaryOp .USub a pos) (tE X (uS g)):=(Dz zB ha).of λσ H Q hxx=>by
 refine q3x3 hxx λρ θ M hd hw h=>?_;refine cU hd hw (aN X θ H Q) (λc M' h=>h) (λh=>h) h λd M1 v θ1 H1 g1 r1 h1=>?_
 split at h1
 ·rename_i i;exact⟨i,r1,h1 _ θ1 H1 g1 rfl⟩
 ·exact h1.elim
def oQ:F2:=λx y M=>match x,y with
 | .int i,.int j=>.ok (.bl (decide (i<j))) M
 | _,_=>.bad
def wn:F2:=λx y M=>match x,y with
 | .int i,.int j=>.ok (.bl (decide (i<=j))) M
 | _,_=>.bad
def vI:F2:=λx y M=>match x,y with
 | .int i,.int j=>.ok (.bl (decide (j<i))) M
 | _,_=>.bad
def wj:F2:=λx y M=>match x,y with
 | .int i,.int j=>.ok (.bl (decide (j<=i))) M
 | _,_=>.bad
def IZ:iH X (compareOp .Lt) (rD X oQ):=by
 intro af s σ H x y v u Q I rx ry h;refine q4x4 h λθ M dx dy hw r1 r2 h=>?_;unfold oQ at h;split at h
 ·rename_i i j;exact IQ af s σ H x y v u Q I rx ry ⟨i,j,r1,r2,h _ θ H (.refl hw) rfl⟩
 ·exact h.elim
def Ig:iH X (compareOp .LtE) (rD X wn):=by
 intro af s σ H x y v u Q I rx ry h;refine q4x4 h λθ M dx dy hw r1 r2 h=>?_;unfold wn at h;split at h
 ·rename_i i j;exact GJ af s σ H x y v u Q I rx ry ⟨i,j,r1,r2,h _ θ H (.refl hw) rfl⟩
 ·exact h.elim
def Hs:iH X (compareOp .Gt) (rD X vI):=by
 intro af s σ H x y v u Q I rx ry h;refine q4x4 h λθ M dx dy hw r1 r2 h=>?_;unfold vI at h;split at h
 ·rename_i i j;exact HF af s σ H x y v u Q I rx ry ⟨i,j,r1,r2,h _ θ H (.refl hw) rfl⟩
 ·exact h.elim
def Je:iH X (compareOp .GtE) (rD X wj):=by
 intro af s σ H x y v u Q I rx ry h;refine q4x4 h λθ M dx dy hw r1 r2 h=>?_;unfold wj at h;split at h
 ·rename_i i j;exact Ia af s σ H x y v u Q I rx ry ⟨i,j,r1,r2,h _ θ H (.refl hw) rfl⟩
 ·exact h.elim
def GC (d c:D):Option Bool:=match c,d with
 | .non,.non=>Z true
 | .non,.any=>Y
 | .non,_=>Z false
 | .bl b,.bl b'=>Z (b'==b)
 | .bl _,.non=>Z false
 | .bl _,.int _=>Z false
 | .bl _,.str _=>Z false
 | .bl _,.tup _=>Z false
 | .bl _,.lst _=>Z false
 | .bl _,.ro _=>Z false
 | .bl _,.mr _=>Z false
 | _,_=>Y
def nW (neg:Bool):F2:=λx y M=>match GC x y with
 | some b=>.ok (.bl (b != neg)) M
 | none=>.bad
def VS:D->Value->Prop
 | .non,v=>v=.none
 | .bl b,v=>v=.bool b
 | .int i,v=>∃t,v=.int i t
 | .str i,v=>∃t,v=.str i t
 | .any,_=>True
 | _,v=>∃a,v=.ref a
def CZ {K:W.Frag}(r:dj K θ H d x)(q:bg x v):VS d v:=by
 cases d with
 | non=>have e:x=.non:=r;rw[e] at q;exact q
 | bl b=>have e:x=.bl b:=r;rw[e] at q;exact q
 | int i=>have e:x=.int i:=r;rw[e] at q;exact q
 | str i=>have e:x=.str i:=r;rw[e] at q;exact q
 | any=>trivial
 | tup ds=>refine q2x2 r λa _ e _=>?_;rw[e] at q;exact⟨a,q⟩
 | lst ds=>refine q2x2 r λa _ e _=>?_;rw[e] at q;exact⟨a,q⟩
 | ro ds=>refine q2x2 r λa _ e _=>?_;rw[e] at q;exact⟨a,q⟩
 | mr k=>refine q1x2 r λa e _=>?_;rw[e] at q;exact⟨a,q⟩
 | exc c=>refine q2x2 r λa _ e _=>?_;rw[e] at q;exact⟨a,q⟩
def fn {P:Prop}(h:Y=Z b):P:=nomatch h
def wH (h:Z false=Z b)(k:plainIs v u=true/\(v==u)=false):plainIs v u=true/\(v==u)=b:=LZ h▸k
def HN (p:VS dx v)(q:VS dy u)(h:GC dx dy=Z b):plainIs v u=true/\(v==u)=b:=by
 cases dy with
 | non=>
  rw[show u=.none from q];cases dx with
  | non=>rw[show v=.none from p];exact LZ (show Z true=Z b from h)▸⟨rfl,rfl⟩
  | bl b=>rw[show v=.bool b from p];exact wH h ⟨rfl,rfl⟩
  | any=>exact fn h
  | _=>refine q1x1 p λt e=>?_;rw[e];exact wH h ⟨rfl,rfl⟩
 | bl c=>
  rw[show u=.bool c from q];cases dx with
  | non=>rw[show v=.none from p];exact wH h ⟨rfl,rfl⟩
  | bl b=>
   rw[show v=.bool b from p,<-LZ h];refine⟨rfl,?_⟩;cases b <;> cases c <;> rfl
  | any=>exact fn h
  | exc _=>exact fn h
  | _=>refine q1x1 p λt e=>?_;rw[e];exact wH h ⟨rfl,rfl⟩
 | _=>exact fn h
def Gp {K:W.Frag}(r1:dj K θ H dx x)(r2:dj K θ H dy y)(rx:bg x v)(ry:bg y u)(h:GC dx dy=Z b) :
  plainIs v u=true/\(v==u)=b:=HN (CZ r1 rx) (CZ r2 ry) h
def z8:iH X (compareOp .IsNot) (rD X (nW true)):=by
 intro af s σ H x y v u Q I rx ry h;refine q4x4 h λθ M dx dy hw r1 r2 h=>?_;unfold nW at h;split at h
 ·rename_i b q;refine q0x2 (Gp r1 r2 rx ry q) λhp e=>?_;refine wpAny_isNot_plain hp ?_;rw[e];refine⟨.bl (!b),H,I,rfl,?_⟩;have:=h (.bl (b != true)) θ H (.refl hw) rfl;rw[Sl] at this;exact this
 ·exact h.elim
mutual
def kT:D->PyData
 | .non=>.none
 | .bl b=>.bool b
 | .int i=>.int i
 | .str x=>.str x
 | .tup ds=>.tuple (lV ds)
 | .lst ds=>.list (lV ds)
 | .ro ds=>.list (lV ds)
 | .mr _=>.dict []
 | .exc _=>.dict []
 | .any=>.dict []
def lV:List D->List PyData
 | []=>[]
 | d::ds=>kT d::lV ds
end
mutual
def bN:Nat->D->Bool
 | _,.non=>true
 | _,.bl _=>true
 | _,.int _=>true
 | _,.str x=>PyData.strOk x
 | n+1,.tup ds=>a9 n ds
 | n+1,.lst ds=>a9 n ds
 | n+1,.ro ds=>a9 n ds
 | _,_=>false
def a9:Nat->List D->Bool
 | _,[]=>true
 | n,d::ds=>bN n d&&a9 n ds
end
mutual
def pq:D->D->Bool
 | .non,.non=>true
 | .bl a,.bl b=>a==b
 | .bl a,.int j=>(if a then 1 else 0)==j
 | .int i,.bl b=>i==(if b then 1 else 0)
 | .int i,.int j=>i==j
 | .str x,.str y=>x==y
 | .lst xs,.lst ys=>dG xs ys
 | .lst xs,.ro ys=>dG xs ys
 | .ro xs,.lst ys=>dG xs ys
 | .ro xs,.ro ys=>dG xs ys
 | .tup xs,.tup ys=>dG xs ys
 | _,_=>false
def dG:List D->List D->Bool
 | [],[]=>true
 | x::xs,y::ys=>pq x y&&dG xs ys
 | _,_=>false
end
mutual
theorem mq:∀(x y:D) (n m:Nat),bN n x=true->bN m y=true->PyData.eqv (kT x) (kT y)=pq x y
 | .non,y,n,m,hx,hy=>by cases y <;> rfl
 | .bl a,y,n,m,hx,hy=>by cases y <;> rfl
 | .int a,y,n,m,hx,hy=>by cases y <;> rfl
 | .str a,y,n,m,hx,hy=>by cases y <;> rfl
 | .tup xs,y,n,m,hx,hy=>by
  cases n with
  | zero=>exact ff hx
  | succ n=>
   cases y with
   | tup ys=>
    cases m with
    | zero=>exact ff hy
    | succ m=>
     exact iW xs ys n m hx hy
   | _=>rfl
 | .lst xs,y,n,m,hx,hy=>by
  cases n with
  | zero=>exact ff hx
  | succ n=>
   cases y with
   | lst ys=>
    cases m with
    | zero=>exact ff hy
    | succ m=>
     exact iW xs ys n m hx hy
   | ro ys=>
    cases m with
    | zero=>exact ff hy
    | succ m=>
     exact iW xs ys n m hx hy
   | _=>rfl
 | .ro xs,y,n,m,hx,hy=>by
  cases n with
  | zero=>exact ff hx
  | succ n=>
   cases y with
   | lst ys=>
    cases m with
    | zero=>exact ff hy
    | succ m=>
     exact iW xs ys n m hx hy
   | ro ys=>
    cases m with
    | zero=>exact ff hy
    | succ m=>
     exact iW xs ys n m hx hy
   | _=>rfl
 | .mr a,y,n,m,hx,hy=>by cases n <;> exact ff hx
 | .exc a,y,n,m,hx,hy=>by cases n <;> exact ff hx
 | .any,y,n,m,hx,hy=>by cases n <;> exact ff hx
theorem iW:∀(x y:List D) (n m:Nat),a9 n x=true->a9 m y=true->PyData.eqvAll (lV x) (lV y)=dG x y
 | [],y,n,m,hx,hy=>by cases y <;> rfl
 | x::xs,y,n,m,hx,hy=>by
  cases y with
  | nil=>rfl
  | cons y ys=>
   have hx:=ML.mp (show(bN n x&&a9 n xs)=true from hx);have hy:=ML.mp (show(bN m y&&a9 m ys)=true from hy);show(PyData.eqv (kT x) (kT y)&&PyData.eqvAll (lV xs) (lV ys))=(pq x y&&dG xs ys);rw[mq x y n m hx.1 hy.1,iW xs ys n m hx.2 hy.2]
end
mutual
theorem gk:∀(d:D) (n:Nat),bN n d=true->(kT d).canLay0=true/\(kT d).depth<=n
 | .non,n,h=>by simp[kT,PyData.canLay0,PyData.depth]
 | .bl a,n,h=>by simp[kT,PyData.canLay0,PyData.depth]
 | .int a,n,h=>by simp[kT,PyData.canLay0,PyData.depth]
 | .str a,n,h=>by
  have:PyData.strOk a=true:=by cases n <;> exact h
  simp[kT,PyData.canLay0,PyData.depth,this]
 | .tup xs,n,h=>by
  cases n with
  | zero=>exact ff h
  | succ n=>
   have:=kY xs n h;simp only[kT,PyData.canLay0,PyData.depth];exact⟨this.1,by omega⟩
 | .lst xs,n,h=>by
  cases n with
  | zero=>exact ff h
  | succ n=>
   have:=kY xs n h;simp only[kT,PyData.canLay0,PyData.depth];exact⟨this.1,by omega⟩
 | .ro xs,n,h=>by
  cases n with
  | zero=>exact ff h
  | succ n=>
   have:=kY xs n h;simp only[kT,PyData.canLay0,PyData.depth];exact⟨this.1,by omega⟩
 | .mr a,n,h=>by cases n <;> exact ff h
 | .exc a,n,h=>by cases n <;> exact ff h
 | .any,n,h=>by cases n <;> exact ff h
theorem kY:∀(ds:List D) (n:Nat),a9 n ds=true->PyData.canLayAll0 (lV ds)=true/\PyData.depthAll (lV ds)<=n
 | [],n,h=>by simp[lV,PyData.canLayAll0,PyData.depthAll]
 | d::ds,n,h=>by
  have h:=ML.mp (show(bN n d&&a9 n ds)=true from h);have h1:=gk d n h.1;have h2:=kY ds n h.2;simp only[lV,PyData.canLayAll0,PyData.depthAll,LN];exact⟨⟨h1.1,h2.1⟩,by omega⟩
end
mutual
theorem og {af:List (Addr×Obj)}{s:Shared}{σ:L2.St}{H:Hp}{θ:List Addr}(I:Inv X af σ H s):∀(d:D) (n:Nat) (v:V) (u:Value),bN n d=true->dj X.K θ H d v->bg v u->∃as,Reads s.heap u (kT d) as
 | .non,n,v,u,h,r,q=>by have e:v=.non:=r;subst e;cases q;exact⟨_,.none⟩
 | .bl a,n,v,u,h,r,q=>by have e:v=.bl a:=r;subst e;cases q;exact⟨_,.bool a⟩
 | .int a,n,v,u,h,r,q=>by have e:v=.int a:=r;subst e;refine q1x1 q λt zz1=>?_;subst zz1;exact⟨_,.int a t⟩
 | .str a,n,v,u,h,r,q=>by have e:v=.str a:=r;subst e;refine q1x1 q λt zz1=>?_;subst zz1;exact⟨_,.str a t⟩
 | .tup xs,n,v,u,h,r,q=>by
  cases n with
  | zero=>exact ff h
  | succ n=>
   refine q2x3 r λa vs e ta ra=>?_;subst e;cases q;obtain⟨its,rv,⟨o,h1,h2,m,h3⟩,_⟩:=I.tuple ta.sq;refine q1x1 (iP I xs n vs its h ra rv) λas R=>?_;exact⟨_,.tuple h1 h2 h3 (by simpa using R)⟩
 | .lst xs,n,v,u,h,r,q=>by
  cases n with
  | zero=>exact ff h
  | succ n=>
   refine q2x3 r λa vs e ta ra=>?_;subst e;cases q;obtain⟨its,rv,⟨o,m,h1,h2,_,h3⟩,_⟩:=I.list (ta.sq (K:=X.K));refine q1x1 (iP I xs n vs its h ra rv) λas R=>?_;exact⟨_,.list h1 h2 h3 (by simpa using R)⟩
 | .ro xs,n,v,u,h,r,q=>by
  cases n with
  | zero=>exact ff h
  | succ n=>
   refine q2x3 r λa vs e ta ra=>?_;subst e;cases q;obtain⟨its,rv,⟨o,m,h1,h2,_,h3⟩,_⟩:=I.list ta.sq;refine q1x1 (iP I xs n vs its h ra rv) λas R=>?_;exact⟨_,.list h1 h2 h3 (by simpa using R)⟩
 | .mr a,n,v,u,h,r,q=>by cases n <;> exact ff h
 | .exc a,n,v,u,h,r,q=>by cases n <;> exact ff h
 | .any,n,v,u,h,r,q=>by cases n <;> exact ff h
theorem iP {af:List (Addr×Obj)}{s:Shared}{σ:L2.St}{H:Hp}{θ:List Addr}(I:Inv X af σ H s):∀(ds:List D) (n:Nat) (vs:List V) (us:List Value),a9 n ds=true->aR X.K θ H ds vs->aS vs us->∃as,ReadsAll s.heap us (lV ds) as
 | [],n,vs,us,h,r,q=>by have e:vs=[]:=r;subst e;cases q;exact⟨_,.nil⟩
 | d::ds,n,vs,us,h,r,q=>by
  have h:=ML.mp (show(bN n d&&a9 n ds)=true from h);refine q2x3 r λv rr e r1 r2=>?_;subst e;cases q with
  | cons q1 q2=>
   refine q1x1 (og I d n v _ h.1 r1 q1) λas R1=>?_;refine q1x1 (iP I ds n rr _ h.2 r2 q2) λbs R2=>?_;exact⟨_,.cons R1 R2⟩
end
def now (d:D)(M:aF):D:=match d with
 | .mr k=>match M[k]? with
  | some (.lst xs)=>.lst xs
  | _=>.mr k
 | d=>d
def cD (neg:Bool):F2:=λx y M=>if bN 40 (now x M)&&bN 40 (now y M) then .ok (.bl (pq (now x M) (now y M) != neg)) M else .bad
def gE (I:Inv X af σ H s)(hw:Wr X.K θ H M)(h:bN n (now d M)=true)(r:dj X.K θ H d v)(q:bg v u):∃as,Reads s.heap u (kT (now d M)) as:=by
 cases d with
 | mr k=>
  refine q1x2 r λa e ta=>?_;subst e;cases q;cases qm:M[k]? with
  | none=>
   have e:now (.mr k) M=.mr k:=by simp[now,qm]
   rw[e] at h;cases n <;> exact ff h
  | some m=>
   cases m with
   | lst xs=>
    have e:now (.mr k) M=.lst xs:=by simp[now,qm]
    rw[e] at h ⊢;cases n with
    | zero=>exact ff h
    | succ n=>
     refine q1x2 (hw.at_ k a _ ta qm) λvs hv ra=>?_;obtain⟨its,rv,⟨o,m,h1,h2,_,h3⟩,_⟩:=I.list (X:=X) (xs:=vs) (.inl (.inl hv));refine q1x1 (iP I xs n vs its h ra rv) λas R=>?_;exact⟨_,.list h1 h2 h3 (by simpa using R)⟩
   | _=>
    have e:now (.mr k) M=.mr k:=by simp[now,qm]
    rw[e] at h;cases n <;> exact ff h
 | _=>exact og I _ n v u h r q
def Iq (hu:X.A.units+64<cLine):iH X (compareOp .Eq) (rD X (cD false)):=by
 intro af s σ H x y v u Q I rx ry h;refine q4x4 h λθ M dx dy hw r1 r2 h=>?_;unfold cD at h;split at h
 ·rename_i hc;rw[LN] at hc;refine q1x1 (gE I hw hc.1 r1 rx) λas R1=>?_;refine q1x1 (gE I hw hc.2 r2 ry) λbs R2=>?_;have l1:=gk _ _ hc.1;have l2:=gk _ _ hc.2;refine SeqAt.compareEq_reads R1 R2 l1.1 l2.1 (by have:=l1.2;have:min (kT (now dx M)).depth (kT (now dy M)).depth<=(kT (now dx M)).depth:=Qp _ _;omega) ?_;rw[mq _ _ _ _ hc.1 hc.2];refine⟨.bl _,H,I,rfl,?_⟩;have:=h _ θ H (.refl hw) rfl;rw[Tz] at this;exact this
 ·exact h.elim
def HC (hu:X.A.units+64<cLine):iH X (compareOp .NotEq) (rD X (cD true)):=by
 intro af s σ H x y v u Q I rx ry h;refine q4x4 h λθ M dx dy hw r1 r2 h=>?_;unfold cD at h;split at h
 ·rename_i hc;rw[LN] at hc;refine q1x1 (gE I hw hc.1 r1 rx) λas R1=>?_;refine q1x1 (gE I hw hc.2 r2 ry) λbs R2=>?_;have l1:=gk _ _ hc.1;have l2:=gk _ _ hc.2;refine SeqAt.compareNe_reads R1 R2 l1.1 l2.1 (by have:=l1.2;have:min (kT (now dx M)).depth (kT (now dy M)).depth<=(kT (now dx M)).depth:=Qp _ _;omega) ?_;rw[mq _ _ _ _ hc.1 hc.2];refine⟨.bl _,H,I,rfl,?_⟩;have:=h _ θ H (.refl hw) rfl;rw[Sl] at this;exact this
 ·exact h.elim
def bx (d:D)(M:aF):Option (List D):=match d with
 | .tup xs=>Z xs
 | .lst xs=>Z xs
 | .ro xs=>Z xs
 | .mr k=>match M[k]? with
  | some (.lst xs)=>Z xs
  | _=>Y
 | _=>Y
def aB:F2:=λx y M=>match bx x M,y with
 | some xs,.int i=>match nD xs i with
  | some d=>.ok d M
  | none=>.bad
 | _,_=>.bad
def zk {K:W.Frag}(r:aR K θ H ds vs)(e:nD ds i=Z d):∃v,nD vs i=Z v/\dj K θ H d v:=by
 unfold nD at e ⊢;rw[<-aq r];cases q:yB ds.length i with
 | none=>rw[q] at e;cases e
 | some j=>
  rw[q] at e;exact bY r e
def ox {K:W.Frag}(hw:Wr K θ H M)(r:dj K θ H d v)(e:bx d M=Z xs):∃a vs,v=.ref a/\(gG K H a vs\/nH K H a vs)/\aR K θ H xs vs:=by
 cases d with
 | tup ds=>refine q2x3 r λa vs e1 ta ra=>?_;cases e;exact⟨a,vs,e1,.inr ta.sq,ra⟩
 | lst ds=>refine q2x3 r λa vs e1 ta ra=>?_;cases e;exact⟨a,vs,e1,.inl ta.sq,ra⟩
 | ro ds=>refine q2x3 r λa vs e1 ta ra=>?_;cases e;exact⟨a,vs,e1,.inl ta.sq,ra⟩
 | mr k=>
  refine q1x2 r λa e1 ta=>?_;have e:(match M[k]? with|some (.lst xs)=>Z xs|_=>Y)=Z xs:=e;cases qm:M[k]? with
  | none=>rw[qm] at e;cases e
  | some m=>
   cases m with
   | lst ys=>
    rw[qm] at e;cases e;refine q1x2 (hw.at_ k a _ ta qm) λvs hv ra=>?_;exact⟨a,vs,e1,.inl (.inl (.inl hv)),ra⟩
   | _=>rw[qm] at e;cases e
 | _=>cases e
def Hm:Jq X (rD X aB):=by
 intro value slice af s σ H x y v u Q I rx ry h hs;refine q4x4 h λθ M dx dy hw r1 r2 h=>?_;unfold aB at h;split at h
 ·rename_i xs i q;split at h
  ·rename_i d qd;refine q2x3 (ox hw r1 q) λa vs ea sq ra=>?_;refine q1x2 (zk ra qd) λz ez rz=>?_;have hq:=h z θ H (.refl hw) rz;rcases sq with sq|sq
   ·exact BV value slice af s σ H x y v u Q I rx ry ⟨a,vs,i,z,ea,r2,sq,ez,hq⟩ hs
   ·exact Fo value slice af s σ H x y v u Q I rx ry ⟨a,vs,i,z,ea,r2,sq,ez,hq⟩ hs
  ·exact h.elim
 ·exact h.elim
def GW {a:Expr}(ha:PE X a (tE X ga))(hb:PE X b (tE X gb))(hs:rO b:=by intro _ _;rfl):PE X (.Subscript a b pos) (tE X (g2 aB ga gb)):=
 (HG Hm ha hb hs).of λ_ _ _ h=>ww h
def kQ (xs:List D)(lo hi:Option Int):List D:=(xs.drop (HT.sIx xs.length 0 lo)).take (HT.sIx xs.length xs.length hi-HT.sIx xs.length 0 lo)
def oK (x:D)(lo hi:Option Int)(M:aF):aQ D:=match x with
 | .tup xs=>.ok (.tup (kQ xs lo hi)) M
 | .lst xs=>.ok (.lst (kQ xs lo hi)) M
 | .ro xs=>.ok (.lst (kQ xs lo hi)) M
 | .mr k=>match M[k]? with
  | some (.lst xs)=>.ok (.lst (kQ xs lo hi)) M
  | _=>.bad
 | _=>.bad
abbrev GO:=fO->aF->aQ (Option Int)
def eE:GO:=λ_ M=>.ok Y M
def jH (g:GE):GO:=λρ M=>(g ρ M).bind λd M1=>match d with
 | .int i=>.ok (Z i) M1
 | _=>.bad
def Jo (X:Cx)(θ:List Addr)(H:Hp)(Q:Option Int->Hp->Prop):aQ (Option Int)->Prop
 | .ok b M'=>∀θ' H',Go X.K θ H θ' H' M'->Q b H'
 | .err c M'=>dC X θ H c M'
 | .bad=>False
def tO (X:Cx)(g:GO):TO:=λσ H Q=>∃ρ θ M,fY X.K θ H σ ρ/\Wr X.K θ H M/\Jo X θ H Q (g ρ M)
def _root_.L2.PO.of {t:TO}(h:PO X e t)(w:∀σ H Q,t' σ H Q->t σ H Q):PO X e t':=λaf s σ H Q I q=>h af s σ H Q I (w σ H Q q)
def B7:PO X Y (tO X eE):=BQ.of λσ H Q ⟨ρ,θ,M,hd,hw,f⟩=>f θ H (.refl hw)
def Bf (h:PE X e (tE X g)):PO X (Z e) (tO X (jH g)):=(Cf h).of λσ H Q hxx=>by
 refine q3x3 hxx λρ θ M hd hw h=>?_;refine cU hd hw (Jo X θ H Q) (λc M' h=>h) (λh=>h) h λd M1 v θ1 H1 g1 r1 h1=>?_
 split at h1
 ·rename_i i;exact⟨i,r1,h1 θ1 H1 g1⟩
 ·exact h1.elim
def Do (hd:fY X.K θ H σ ρ)(hw:Wr X.K θ H M)(F:aQ α->Prop)(Fe:∀c M',F (.err c M')->dC X θ H c M')(Fb:F .bad->False)
  {f:Option Int->aF->aQ α} (h:F ((g ρ M).bind f)) (k:∀d M1 θ1 H1,Go X.K θ H θ1 H1 M1->F (f d M1)->Q d H1):tO X g σ H Q:=by
 refine⟨ρ,θ,M,hd,hw,?_⟩;cases q:g ρ M with
 | ok d M1=>
  rw[q] at h;exact λθ1 H1 g1=>k d M1 θ1 H1 g1 h
 | err c M1=>rw[q] at h;exact Fe c M1 h
 | bad=>rw[q] at h;exact(Fb h).elim
def yh (g:GE)(gl gh:GO):GE:=λρ M=>(g ρ M).bind λx M1=>(gl ρ M1).bind λlo M2=>(gh ρ M2).bind λhi M3=>oK x lo hi M3
def K8 (X:Cx):V->Option Int->Option Int->Hp->VK->Prop:=λx lo hi H Q=>∃θ M d,Wr X.K θ H M/\dj X.K θ H d x/\aN X θ H Q (oK d lo hi M)
def lK {K:W.Frag}(r:aR K θ H ds vs)(lo hi:Option Int):aR K θ H (kQ ds lo hi) (sR vs lo hi):=by
 unfold kQ sR;rw[<-aq r];exact pP _ (pT _ r)
def JK:Jw X (K8 X):=by
 intro af s σ H x v vl vu lo hi sl Q I rx hs pl pu h;obtain⟨θ,M,d,hw,r,h⟩:=h;cases d with
 | tup ds=>
  obtain⟨a,vs,e,ta,ra⟩:=r
  by_cases hc:HT.sIx vs.length 0 lo=0/\HT.sIx vs.length vs.length hi=vs.length
  ·subst e;cases rx;obtain⟨its,rv,ht,hz⟩:=I.tuple ta.sq;have hlen:its.toArray.size=vs.length:=by rw[size_toArray];exact rv.length.symm
   refine⟨"tuple",_,Mw.lookup,ht.typeIs,?_⟩;refine kA ht hs pl pu (by rw[hlen];exact hc) ⟨.ref a,H,I,rfl,h _ θ H (.refl hw) ⟨a,vs,rfl,ta,?_⟩⟩;have e:kQ ds lo hi=ds:=by
    unfold kQ;rw[aq ra,hc.1,hc.2,drop_zero,XG,<-aq ra,take_length]
   rw[e];exact ra
  ·exact EJ af s σ H x v vl vu lo hi sl Q I rx hs pl pu ⟨a,vs,e,ta.sq,hc,λp hp=>h _ θ _ (cq hw hp) (dY hw hp (lK ra lo hi))⟩
 | lst ds=>
  obtain⟨a,vs,e,ta,ra⟩:=r;exact qU af s σ H x v vl vu lo hi sl Q I rx hs pl pu ⟨a,vs,e,ta.sq,λp hp=>h _ θ _ (cq hw hp) (j7 hw hp (lK ra lo hi))⟩
 | ro ds=>
  obtain⟨a,vs,e,ta,ra⟩:=r;exact qU af s σ H x v vl vu lo hi sl Q I rx hs pl pu ⟨a,vs,e,ta.sq,λp hp=>h _ θ _ (cq hw hp) (j7 hw hp (lK ra lo hi))⟩
 | mr k=>
  obtain⟨a,e,ta⟩:=r;have h:aN X θ H Q (match M[k]? with|some (.lst xs)=>.ok (.lst (kQ xs lo hi)) M|_=>.bad):=h;cases qm:M[k]? with
  | none=>rw[qm] at h;exact h.elim
  | some m=>
   cases m with
   | lst ys=>
    rw[qm] at h;obtain⟨vs,hv,ra⟩:=hw.at_ k a _ ta qm;exact qU af s σ H x v vl vu lo hi sl Q I rx hs pl pu ⟨a,vs,e,.inl (.inl hv),λp hp=>h _ θ _ (cq hw hp) (j7 hw hp (lK ra lo hi))⟩
   | _=>rw[qm] at h;exact h.elim
 | _=>exact h.elim
def AC {lo hi:Option Expr}(he:PE X e (tE X g))(hl:PO X lo (tO X gl))(hh:PO X hi (tO X gh)):PE X (.Subscript e (.Slice lo hi Y p2) pos) (tE X (yh g gl gh)):=
 (zS JK he hl hh).of λσ H Q hxx=>by
  refine q3x3 hxx λρ θ M hd hw h=>?_;refine cU hd hw (aN X θ H Q) (λc M' h=>h) (λh=>h) h λd M1 v θ1 H1 g1 r1 h1=>?_
  refine Do (hd.go g1) g1.wr (aN X θ1 H1 Q) (λc M' h=>h) (λh=>h) (h1.go g1) λl M2 θ2 H2 g2 h2=>?_
  refine Do ((hd.go g1).go g2) g2.wr (aN X θ2 H2 Q) (λc M' h=>h) (λh=>h) (h2.go g2) λu M3 θ3 H3 g3 h3=>?_
  exact⟨θ3,M3,d,g3.wr,r1.go (g2.trans g3),h3.go g3⟩
def Ck (d:D)(M:aF):aQ Bool:=match d with
 | .non=>.ok false M
 | .bl b=>.ok b M
 | .int i=>.ok (i != 0) M
 | .str x=>if x.length<=sizeLine then .ok ((x.length:Int) != 0) M else .bad
 | .tup xs=>.ok (!xs.isEmpty) M
 | .lst xs=>.ok (!xs.isEmpty) M
 | .ro xs=>.ok (!xs.isEmpty) M
 | .mr k=>match M[k]? with
  | some (.lst xs)=>.ok (!xs.isEmpty) M
  | _=>.bad
 | .exc _=>.bad
 | .any=>.bad
def gK (g:GE):GT:=λρ M=>(g ρ M).bind Ck
def ja {K:W.Frag}(r:aR K θ H ds vs):(!vs.isEmpty)=!ds.isEmpty:=by
 have:=aq r;cases ds <;> cases vs <;> simp_all
def FH {a:Expr}(ha:PE X a (tE X g))(he:∀whole,isTrue a X.env whole=(do let v <-whole;standAt a.pos;holding [v] (truthy v)):=by intro _;rfl):PT X a (tT X (gK g)):=
 (zC ha he).of λσ H Q hxx=>by
  refine q3x3 hxx λρ θ M hd hw h=>?_;refine cU hd hw (mF X θ H Q) (λc M' h=>h) (λh=>h) h λd M1 v θ1 H1 g1 r1 h1=>?_
  cases d with
  | non=>have e:v=.non:=r1;subst e;exact⟨false,rfl,h1 θ1 H1 g1⟩
  | bl b=>have e:v=.bl b:=r1;subst e;exact⟨b,rfl,h1 θ1 H1 g1⟩
  | int i=>have e:v=.int i:=r1;subst e;exact⟨i != 0,rfl,h1 θ1 H1 g1⟩
  | str x=>
   have e:v=.str x:=r1;subst e;have h1:mF X θ H Q (if x.length<=sizeLine then .ok ((x.length:Int) != 0) M1 else .bad):=h1;split at h1
   ·rename_i hl;exact⟨_,⟨hl,rfl⟩,h1 θ1 H1 g1⟩
   ·exact h1.elim
  | tup xs=>
   refine q2x3 r1 λa vs e ta ra=>?_;subst e;exact⟨_,.inr (.inl ⟨vs,ta.sq,(ja ra).symm⟩),h1 θ1 H1 g1⟩
  | lst xs=>
   refine q2x3 r1 λa vs e ta ra=>?_;subst e;exact⟨_,.inl ⟨vs,ta.sq,(ja ra).symm⟩,h1 θ1 H1 g1⟩
  | ro xs=>
   refine q2x3 r1 λa vs e ta ra=>?_;subst e;exact⟨_,.inl ⟨vs,ta.sq,(ja ra).symm⟩,h1 θ1 H1 g1⟩
  | mr k=>
   refine q1x2 r1 λa e ta=>?_;subst e;have h1:mF X θ H Q (match M1[k]? with|some (.lst xs)=>.ok (!xs.isEmpty) M1|_=>.bad):=h1;cases qm:M1[k]? with
   | none=>rw[qm] at h1;exact h1.elim
   | some m=>
    cases m with
    | lst ys=>
     rw[qm] at h1;refine q1x2 (g1.wr.at_ k a _ ta qm) λvs hv ra=>?_;exact⟨_,.inl ⟨vs,.inl (.inl hv),(ja ra).symm⟩,h1 θ1 H1 g1⟩
    | _=>rw[qm] at h1;exact h1.elim
  | exc c=>exact h1.elim
  | any=>exact h1.elim
def bh:FD:=λds M=>match ds with
 | [.str x]=>if x.length<=sizeLine then .ok (.int x.length) M else .bad
 | [d]=>match bx d M with
  | some xs=>.ok (.int xs.length) M
  | none=>.bad
 | _=>.bad
def uY:FD:=λds M=>match ds with
 | [.int i,.int j]=>.ok (.int (if j<i then j else i)) M
 | _=>.bad
def uT:FD:=λds M=>match ds with
 | [.int i,.int j]=>.ok (.int (if j>i then j else i)) M
 | _=>.bad
def uU:FD:=λds M=>match ds with
 | [.int i]=>.ok (.int i) M
 | [.bl b]=>.ok (.int (if b then 1 else 0)) M
 | _=>.bad
def kH:FD:=λds M=>match ds with
 | [d]=>match bx d M with
  | some xs=>.ok (.lst xs) M
  | none=>.bad
 | _=>.bad
def bW:FD:=λds M=>match ds with
 | [d]=>match bx d M with
  | some xs=>.ok (.tup xs) M
  | none=>.bad
 | _=>.bad
def jY {K:W.Frag}(r:aR K θ H [d] xs):∃v,xs=[v]/\dj K θ H d v:=by
 refine q2x3 r λv rr e h1 h2=>?_;have e2:rr=[]:=h2;subst e2;exact⟨v,e,h1⟩
def zY {K:W.Frag}(r:aR K θ H [d,d'] xs):∃v v',xs=[v,v']/\dj K θ H d v/\dj K θ H d' v':=by
 refine q2x3 r λv rr e h1 h2=>?_;refine q1x2 (jY h2) λv' e2 h3=>?_;subst e2;exact⟨v,v',e,h1,h3⟩
def F1:cG X (.builtin "len") (rC X bh):=by
 intro af s σ H xs us Q I r h;refine q3x3 h λθ M ds hw rd h=>?_;unfold bh at h;split at h
 ·rename_i x;split at h
  ·rename_i hl;refine q1x2 (jY rd) λv e rv=>?_;exact rE af s σ H xs us Q I r ⟨x,by rw[e,show v=.str x from rv],hl,h _ θ H (.refl hw) rfl⟩
  ·exact h.elim
 ·rename_i d _;split at h
  ·rename_i ys q;refine q1x2 (jY rd) λv e rv=>?_;refine q2x3 (ox hw rv q) λa vs ea sq ra=>?_;refine rq af s σ H xs us Q I r ⟨a,vs,by rw[e,ea],sq,?_⟩;rw[<-aq ra];exact h _ θ H (.refl hw) rfl
  ·exact h.elim
 ·exact h.elim
def DS (hc:X.calm=true):cG X (.builtin "min") (rC X uY):=by
 intro af s σ H xs us Q I r h;refine q3x3 h λθ M ds hw rd h=>?_;unfold uY at h;split at h
 ·rename_i i j;refine q2x3 (zY rd) λv v' e rv rv'=>?_;exact xm hc af s σ H xs us Q I r ⟨i,j,by rw[e,show v=.int i from rv,show v'=.int j from rv'],h _ θ H (.refl hw) rfl⟩
 ·exact h.elim
def Fy (hc:X.calm=true):cG X (.builtin "max") (rC X uT):=by
 intro af s σ H xs us Q I r h;refine q3x3 h λθ M ds hw rd h=>?_;unfold uT at h;split at h
 ·rename_i i j;refine q2x3 (zY rd) λv v' e rv rv'=>?_;exact xM hc af s σ H xs us Q I r ⟨i,j,by rw[e,show v=.int i from rv,show v'=.int j from rv'],h _ θ H (.refl hw) rfl⟩
 ·exact h.elim
def Fd:cG X (.type "int") (rC X uU):=by
 intro af s σ H xs us Q I r h;refine q3x3 h λθ M ds hw rd h=>?_;unfold uU at h;split at h
 ·rename_i i;refine q1x2 (jY rd) λv e rv=>?_;exact qu af s σ H xs us Q I r (.inl ⟨i,by rw[e,show v=.int i from rv],h _ θ H (.refl hw) rfl⟩)
 ·rename_i b;refine q1x2 (jY rd) λv e rv=>?_;exact qu af s σ H xs us Q I r (.inr ⟨b,by rw[e,show v=.bl b from rv],h _ θ H (.refl hw) rfl⟩)
 ·exact h.elim
def Ci:cG X (.type "list") (rC X kH):=by
 intro af s σ H xs us Q I r h;refine q3x3 h λθ M ds hw rd h=>?_;unfold kH at h;split at h
 ·rename_i d;split at h
  ·rename_i ys q;refine q1x2 (jY rd) λv e rv=>?_;refine q2x3 (ox hw rv q) λa vs ea sq ra=>?_;exact sv af s σ H xs us Q I r ⟨a,vs,by rw[e,ea],sq,λl hl=>h _ θ _ (cq hw hl) (j7 hw hl ra)⟩
  ·exact h.elim
 ·exact h.elim
def Am:cG X (.type "tuple") (rC X bW):=by
 intro af s σ H xs us Q I r h;refine q3x3 h λθ M ds hw rd h=>?_;unfold bW at h;split at h
 ·rename_i d;refine q1x2 (jY rd) λv e rv=>?_;cases d with
  | tup ys=>
   refine q2x3 rv λa vs ea ta ra=>?_;exact fm af s σ H xs us Q I r ⟨a,vs,by rw[e,ea],.inr ⟨ta.sq,h _ θ H (.refl hw) ⟨a,vs,rfl,ta,ra⟩⟩⟩
  | lst ys=>
   refine q2x3 rv λa vs ea ta ra=>?_;exact fm af s σ H xs us Q I r ⟨a,vs,by rw[e,ea],.inl ⟨ta.sq,λl hl=>h _ θ _ (cq hw hl) (dY hw hl ra)⟩⟩
  | ro ys=>
   refine q2x3 rv λa vs ea ta ra=>?_;exact fm af s σ H xs us Q I r ⟨a,vs,by rw[e,ea],.inl ⟨ta.sq,λl hl=>h _ θ _ (cq hw hl) (dY hw hl ra)⟩⟩
  | mr k=>
   refine q1x2 rv λa ea ta=>?_;cases qm:M[k]? with
   | none=>simp[bx,qm] at h;exact h.elim
   | some m=>
    cases m with
    | lst ys=>
     simp only[bx,qm] at h;refine q1x2 (hw.at_ k a _ ta qm) λvs hv ra=>?_;exact fm af s σ H xs us Q I r ⟨a,vs,by rw[e,ea],.inl ⟨.inl (.inl hv),λl hl=>h _ θ _ (cq hw hl) (dY hw hl ra)⟩⟩
    | _=>simp[bx,qm] at h;exact h.elim
  | _=>exact h.elim
 ·exact h.elim
end
def cw (cells:List (Str×Addr)):List (Str×NameKind)->List (Str×Addr)->List (Str×Addr)
 | [],acc=>acc
 | (n,k)::r,acc=>if k==.free then cw cells r ((n,(cells.lookup n).getD 0)::acc) else cw cells r acc
theorem nV:∀(l:List (Str×NameKind)) (cs:List (Str×Addr)),(∀p∈l,p.2=.free->∃c,env.cells.lookup p.1=Z c)->
  (forIn (m:=Sem) l cs λx r=>match x with
   | (name,kind)=>if(kind==NameKind.free)=true then do let __do_lift <-cellOf env name;pure (L6 ((name,__do_lift)::r)) else pure (L6 r))=pure (cw env.cells l cs)
 | [],cs,h=>rfl
 | (n,k)::r,cs,h=>by
  have ih:=λcs=>nV (env:=env) r cs λp hp=>h p (mem_cons_of_mem _ hp)
  rw[forIn_cons]
  by_cases hk:(k==NameKind.free)=true
  ·refine q1x1 (h (n,k) mem_cons_self (by simpa using hk)) λc hc=>?_;have e:cellOf env n=pure c:=by unfold cellOf;rw[show Rt n env.cells=Z c from hc]
   simp only[hk,if_true,cw,e,pure_bind];rw[ih,show Rt n env.cells=Z c from hc];rfl
  ·simp only[hk,if_false,cw,pure_bind,Ma];exact ih cs
def eG (h:∀p∈scope.names,p.2=.free->∃c,env.cells.lookup p.1=Z c):closureFor scope env=pure (cw env.cells scope.names []):=by
 have:=nV (env:=env) scope.names [] h;unfold closureFor;simp only[bind_pure_comp] at this ⊢
 first
  | (rw[this];rfl)
  | (simp[this])
  | exact this
theorem l9 {cells:List (Str×Addr)}:∀(l:List (Str×NameKind)) (acc:List (Str×Addr)),(∀p∈acc,cells.lookup p.1=Z p.2)->(∀p∈l,p.2=.free->∃c,cells.lookup p.1=Z c)->
  ∀p∈cw cells l acc,cells.lookup p.1=Z p.2
 | [],acc,ha,h=>ha
 | (n,k)::r,acc,ha,h=>by
  have hr:∀p∈r,p.2=.free->∃c,cells.lookup p.1=Z c:=λp hp=>h p (mem_cons_of_mem _ hp)
  unfold cw
  by_cases hk:(k==NameKind.free)=true
  ·rw[if_pos hk];refine l9 r _ (λp hp=>?_) hr;rcases mem_cons.mp hp with e|hp
   ·subst e;refine q1x1 (h (n,k) mem_cons_self (by simpa using hk)) λc hc=>?_;have hc':cells.lookup n=Z c:=hc;show cells.lookup n=Z ((cells.lookup n).getD 0);rw[hc'];rfl
   ·exact ha p hp
  ·rw[if_neg hk];exact l9 r acc ha hr
theorem oA {cells:List (Str×Addr)}:∀(l:List (Str×NameKind)) (acc:List (Str×Addr)),∀p∈acc,p∈cw cells l acc
 | [],acc,p,h=>h
 | (n,k)::r,acc,p,h=>by
  unfold cw
  by_cases hk:(k==NameKind.free)=true
  ·rw[if_pos hk];exact oA r _ p (mem_cons_of_mem _ h)
  ·rw[if_neg hk];exact oA r acc p h
theorem lX {cells:List (Str×Addr)}:∀(l:List (Str×NameKind)) (acc:List (Str×Addr)) (n:Str),(n,NameKind.free)∈l->∃c,(n,c)∈cw cells l acc
 | [],acc,n,h=>by cases h
 | (m,k)::r,acc,n,h=>by
  unfold cw;rcases mem_cons.mp h with e|h
  ·cases e;rw[if_pos (by rfl)];exact⟨_,oA r _ _ mem_cons_self⟩
  ·by_cases hk:(k==NameKind.free)=true
   ·rw[if_pos hk];exact lX r _ n h
   ·rw[if_neg hk];exact lX r acc n h
def ie {l:List (Str×Addr)}(h:(n,c)∈l):∃c',l.lookup n=Z c':=by
 induction l with
 | nil=>cases h
 | cons p r ih=>
  obtain⟨m,d⟩:=p
  by_cases e:(n==m)=true
  ·exact⟨d,by simp[Rt,e]⟩
  ·have e':(n==m)=false:=by simpa using e
   rcases mem_cons.mp h with q|q
   ·cases q;simp at e
   ·refine q1x1 (ih q) λc' hc=>?_;exact⟨c',by simp only[Rt,e'];exact hc⟩
theorem cT {env:Env}:∀{names:List (Str×NameKind)} {x:Str} {k:NameKind},
  (names.map λ(n,k)=>if(k==NameKind.free&&env.scope.kind==.function&&env.kindOf n==Z .cell) then(n,NameKind.cell) else(n,k)).lookup x=Z k->
   names.lookup x=Z k\/(k=.cell/\names.lookup x=Z .free)
 | [],_,_,h=>by simp at h
 | (n,k')::r,x,k,h=>by
  have ih:=@cT env r x k;have h:Rt x ((if(k'==NameKind.free&&env.scope.kind==.function&&env.kindOf n==Z .cell)=true then(n,NameKind.cell) else(n,k'))::_)=Z k:=h
  by_cases hc:(k'==NameKind.free&&env.scope.kind==.function&&env.kindOf n==Z .cell)=true
  ·rw[if_pos hc] at h;cases hx:x==n with
   | true=>
    simp only[lookup_cons,hx] at h ⊢;cases h;have:k'=.free:=by
     rw[LN,LN] at hc;simpa using hc.1.1
    subst this;exact .inr ⟨rfl,rfl⟩
   | false=>
    simp only[lookup_cons,hx] at h ⊢;exact ih h
  ·rw[if_neg hc] at h;cases hx:x==n with
   | true=>
    simp only[lookup_cons,hx] at h ⊢;exact .inl h
   | false=>
    simp only[lookup_cons,hx] at h ⊢;exact ih h
def cj (sc:Scope)(fk:Str->Option NameKind)(xs:List Str)(R N:List Str):Bool:=
 decide (sc.kind=.function)&&xs.all (λx=>sc.names.lookup x==Z .local) &&
 sc.names.all (λp=>match p.2 with
  | .cell=>false
  | .local=>(xs.contains p.1||p.1==(".0":Str))&&sc.names.lookup p.1==Z .local
  | .free=>fk p.1==Z .cell||fk p.1==Z .free
  | _=>true) &&
 decide ((xs++R).Nodup)&&!(R.contains (".0":Str))&&R.length==N.length &&
 (R.zip N).all (λp=>p.1==p.2||sc.names.lookup p.1 != Z .free)
structure bH (sc:Scope)(fk:Str->Option NameKind)(xs:List Str)(R N:List Str):Prop where
 kind:sc.kind=.function
 own:∀x∈xs,sc.names.lookup x=Z .local
 nocell:∀p∈sc.names,p.2≠.cell
 locs:∀p∈sc.names,p.2=.local->p.1∈xs\/p.1=(".0":Str)
 lnames:∀p∈sc.names,p.2=.local->sc.names.lookup p.1=Z .local
 free:∀p∈sc.names,p.2=.free->fk p.1=Z .cell\/fk p.1=Z .free
 nd:(xs++R).Nodup
 no0:(".0":Str)∉R
 len:R.length=N.length
 same:∀(i:Nat) y,R[i]?=Z y->sc.names.lookup y=Z .free->N[i]?=Z y
def bH.of {R:List Str}(h:cj sc fk xs R N=true):bH sc fk xs R N:=by
 unfold cj at h;simp only[LN,decide_eq_true_eq,all_eq_true,QM,beq_iff_eq] at h;obtain⟨⟨⟨⟨⟨⟨h1,h2⟩,h3⟩,h4⟩,h5⟩,h6⟩,h7⟩:=h;refine⟨h1,h2,λp hp e=>?_,λp hp e=>?_,λp hp e=>?_,λp hp e=>?_,h4,?_,h6,λi y hy hf=>?_⟩
 ·have:=h3 p hp;rw[e] at this;simp at this
 ·have:=h3 p hp;rw[e] at this;simp at this;exact this.1
 ·have:=h3 p hp;rw[e] at this;simp at this;exact this.2
 ·have:=h3 p hp;rw[e] at this;simp at this;exact this
 ·intro hm;have:R.contains (".0":Str)=true:=by simpa using hm
  rw[this] at h5;cases h5
 ·refine q1x1 (Lj.mp hy) λhi e=>?_;have hn:i<N.length:=by rw[<-h6];exact hi
  have hz:(R[i],N[i])∈R.zip N:=by
   rw[mem_iff_getElem];exact⟨i,by simp;omega,by simp⟩
  have:=h7 _ hz;simp only[V1,beq_iff_eq,bne_iff_ne,ne_eq] at this;rcases this with q|q
  ·rw[getElem?_eq_getElem hn,<-q,e]
  ·rw[e] at q;exact absurd hf q
def ah (X:Cx)(scope:Scope)(xs:List Str)(R:List Str)(fp:List Addr)(s:Shared)(H:Hp)(C:Addr):Cx where
 prog:=X.prog
 w:=X.w
 K:=X.K
 mg:=X.mg
 base:=X.base
 A:=X.A
 N:=xs++R
 s₀:=s
 H₀:=H
 env:=compEnvC scope (cw X.env.cells scope.names []) C X.env
 outer:=X.stack
 stack:=X.stack
 ex:=fp
 fn:=λ_=>false
 calm:=X.calm
 pn:=[]
 xe:=λ_ _=>False
section
variable {X:Cx}{af:List (Addr×Obj)}{σ:L2.St}{H:Hp}{s:Shared}{scope:Scope}{xs:List Str}{R:List Str}{fp:List Addr}{C:Addr}
def bH.cells (S:bH scope X.env.kindOf xs R X.N)(I:L2.Inv X af σ H s):∀p∈scope.names,p.2=.free->∃c,X.env.cells.lookup p.1=Z c:=λp hp e=>I.ok.has p.1 (S.free p hp e)
def bT (S:bH scope X.env.kindOf xs R X.N)(I:L2.Inv X af σ H s)(h:(cw X.env.cells scope.names []).lookup y=Z c):X.env.cells.lookup y=Z c:=
 l9 scope.names [] (λ_ z=>by cases z) (S.cells I) (y,c) (PySem.mem_of_lookup h)
def sH (S:bH scope X.env.kindOf xs R X.N)(I:L2.Inv X af σ H s)(hC:s.heap.objs.size<=C)(k:∀b o,s.heap.get? b=Z o->h4.get? b=Z o)(hn:h4.Ns C m)
  (hf:∀b∈fp,df X af H b) (hfl:∀b∈fp,b<s.heap.objs.size):L2.Inv (ah X scope xs R fp s H C) [] (Ms xs.length Y++σ) H {s with heap:=h4,toks:=tk}:=by
 have hkn:∀y kk,(relabel scope X.env).names.lookup y=Z kk->(kk=.cell\/kk=.free)->scope.names.lookup y=Z .free:=λy kk e hk=>by
  rcases cT e with q|q
  ·rcases hk with z|z
   ·subst z;exact absurd rfl (S.nocell _ (PySem.mem_of_lookup q))
   ·subst z;exact q
  ·exact q.2
 have hasc:∀y,scope.names.lookup y=Z .free->∃c,(cw X.env.cells scope.names []).lookup y=Z c:=λy e=>by
  refine q1x1 (lX (cells:=X.env.cells) scope.names [] y (PySem.mem_of_lookup e)) λc hc=>?_;exact ie hc
 refine⟨⟨I.ok.mod,S.kind,I.ok.glob,I.ok.blt,hC,λy z c h1 h2=>I.ok.inj y z c (bT S I h1) (bT S I h2),λy hy=>?_,λy c z=>absurd (show false=true from z) Ly,I.ok.hd,I.ok.frames,.inl rfl,λb hb=>⟨?_,λy c e=>?_⟩,I.bs,LG I.ok.bsz I.sz,λb o e hb=>?_,λb hb z=>?_,I.stack,I.stkFree⟩,
  rfl,I.bare,Un.kept k,⟨m,hn,λi y v h1 h2 h3=>?_⟩,λy c e=>?_,I.hok.fresh hC,λy c e=>I.freeC y c (bT S I e),λp hp=>absurd (show p∈([]:List (Addr×Obj)) from hp) (by simp),I.hok.kept k,?_⟩
 ·rcases hy with e|e
  ·exact hasc y (hkn y _ e (.inl rfl))
  ·exact hasc y (hkn y _ e (.inr rfl))
 ·exact LR (LB (hfl b hb) hC)
 ·exact(hf b hb).2.2.2.2.1 y c (bT S I e)
 ·rcases(hf b hb).2.2.2.1 with z|z
  ·exact I.ok.noex b o e z
  ·exact absurd (LB (Heap.lt_size e) (LG I.ok.bsz z)) (N8 _)
 ·rcases mem_cons.mp (I.stkSub b z) with e|e
  ·exact(hf b hb).2.1 e
  ·exact(hf b hb).2.2.1 e
 ·by_cases hi:i<xs.length
  ·exfalso;rw[getElem?_append_left (by rw[length_replicate];exact hi),getElem?_replicate,if_pos hi] at h2;cases h2
  ·obtain⟨i,rfl⟩:∃j,i=xs.length+j:=⟨i-xs.length,by omega⟩;have h1:R[i]?=Z y:=by
    have h1:(xs++R)[xs.length+i]?=Z y:=h1;rw[getElem?_append_right (by omega)] at h1;simpa using h1
   have h2:σ[i]?=Z (Z v):=by
    rw[getElem?_append_right (by rw[length_replicate];omega)] at h2;simpa using h2
   have hyR:y∈R:=mem_of_getElem? h1;have hf':scope.names.lookup y=Z .free/\((relabel scope X.env).names.lookup y=Z .cell\/(relabel scope X.env).names.lookup y=Z .free):=by
    have h3:(relabel scope X.env).names.lookup y=Z .local\/(relabel scope X.env).names.lookup y=Z .cell\/(relabel scope X.env).names.lookup y=Z .free:=h3;rcases h3 with e|e|e
    ·rcases cT e with q|q
     ·exfalso;rcases S.locs _ (PySem.mem_of_lookup q) rfl with z|z
      ·exact(nodup_append.mp S.nd).2.2 y z y hyR rfl
      ·have z:y=(".0":Str):=z;rw[z] at hyR;exact S.no0 hyR
     ·exact absurd q.1 (by intro z;cases z)
    ·exact⟨hkn y _ e (.inl rfl),.inl e⟩
    ·exact⟨hkn y _ e (.inr rfl),.inr e⟩
   have hN:=S.same i y h1 hf'.1;have hk:=S.free (y,.free) (PySem.mem_of_lookup hf'.1) rfl;refine q1x2 I.loc λmX hnX hl=>?_;have vis:Gs X.env.scope y:=by
    rcases hk with z|z
    ·exact .inr (.inl z)
    ·exact .inr (.inr z)
   refine q1x2 (hl i y v hN h2 vis) λu r l=>?_;refine⟨u,r,.inr ⟨hf'.2,?_⟩⟩;rcases l with⟨z,_⟩|⟨_,c,hc,o,ho,hod⟩
   ·exfalso;rcases hk with q|q
    ·have q:X.env.kindOf y=Z .cell:=q;rw[z] at q;cases q
    ·have q:X.env.kindOf y=Z .free:=q;rw[z] at q;cases q
   ·refine q1x1 (hasc y hf'.1) λc' hc'=>?_;have:c'=c:=by
     have:=bT S I hc';rw[hc] at this;exact(LZ this).symm
    subst this;exact⟨c',hc',o,k _ _ ho,hod⟩
 ·refine q2x2 (I.cell y c (bT S I e)) λv o ho hd=>?_;exact⟨v,o,k _ _ ho,hd⟩
 ·show(Ms xs.length Y++σ).length=(xs++R).length;rw[length_append,length_append,length_replicate,I.len,S.len]
end
def bJ (t:jx)(gc:GT)(ge:GE):List D->fO->aF->aQ (List D)
 | [],ρ,M=>if t.ok M then .ok [] M else .bad
 | d::r,ρ,M=>if t.ok M then
   match gc (Z d::ρ) M with
   | .ok true M1=>match ge (Z d::ρ) M1 with
    | .ok e M2=>(bJ t gc ge r ρ M2).bind λes M3=>.ok (e::es) M3
    | _=>.bad
   | .ok false M1=>bJ t gc ge r ρ M1
   | _=>.bad
  else .bad
def aW:GT:=λ_ M=>.ok true M
def aG (t:jx)(n:Nat)(sg:GG)(gc:GT)(ge:GE):List D->fO->aF->aQ (List D)
 | [],ρ,M=>if t.ok M then .ok [] M else .bad
 | d::r,ρ,M=>if t.ok M then
   match sg d (Ms n Y++ρ) with
   | none=>.bad
   | some ρ1=>match gc ρ1 M with
    | .ok true M1=>match ge ρ1 M1 with
     | .ok e M2=>(aG t n sg gc ge r ρ M2).bind λes M3=>.ok (e::es) M3
     | _=>.bad
    | .ok false M1=>aG t n sg gc ge r ρ M1
    | _=>.bad
  else .bad
def dh (gi:GI)(n:Nat)(sg:GG)(gc:GT)(ge:GE)(mk:List D->aF->aQ D):GE:=λρ M=>(gi ρ M).bind λt M1=>(aG t n sg gc ge t.ds ρ M1).bind mk
theorem sK (t:jx)(gc:GT)(ge:GE):∀(ds:List D) (ρ:fO) (M:aF),bJ t gc ge ds ρ M=aG t 1 (aX 0) gc ge ds ρ M
 | [],ρ,M=>rfl
 | d::r,ρ,M=>by
  have ih:=sK t gc ge r;unfold bJ aG;show _=(if t.ok M=true then(match gc (Z d::ρ) M with
    | .ok true M1=>match ge (Z d::ρ) M1 with
     | .ok e M2=>(aG t 1 (aX 0) gc ge r ρ M2).bind λes M3=>.ok (e::es) M3
     | _=>.bad
    | .ok false M1=>aG t 1 (aX 0) gc ge r ρ M1
    | _=>.bad) else .bad)
  simp only[ih]
def jB (n:Nat)(sg:GG):Prop:=∀d ρ ρ',sg d ρ=Z ρ'->ρ'.length=ρ.length/\∀i:Nat,n<=i->ρ'[i]?=ρ[i]?
def lC (h:i<n):jB n (aX i):=λd ρ ρ' e=>by
 have e:Z (ρ.set i (Z d))=Z ρ':=e;cases e;exact⟨by rw[length_set],λj hj=>by rw[getElem?_set_ne (by omega)]⟩
theorem tP:∀{is:List Nat} {ds:List D} {ρ ρ':fO},is.all (λi=>decide (i<n))=true->ma is ds ρ=Z ρ'->ρ'.length=ρ.length/\∀i:Nat,n<=i->ρ'[i]?=ρ[i]?
 | [],[],ρ,ρ',_,e=>by cases e;exact⟨rfl,λ_ _=>rfl⟩
 | [],_::_,_,_,_,e=>by cases e
 | _::_,[],_,_,_,e=>by cases e
 | i::is,d::ds,ρ,ρ',h,e=>by
  rw[all_cons,LN] at h;have hi:i<n:=by simpa using h.1
  refine q0x2 (tP h.2 (show ma is ds (ρ.set i (Z d))=Z ρ' from e)) λa b=>?_;exact⟨by rw[a,length_set],λj hj=>by rw[b j hj,getElem?_set_ne (by omega)]⟩
def Bd (h:is.all (λi=>decide (i<n))=true):jB n (cb is):=λd ρ ρ' e=>by
 cases d with
 | tup ds=>exact tP h e
 | _=>cases e
inductive qE (n:Nat):List GG->Prop
 | nil:qE n []
 | cons {s:GG} {ss:List GG}:jB n s->qE n ss->qE n (s::ss)
theorem qw:∀{ss:List GG} {ds:List D} {ρ ρ':fO},qE n ss->jz ss ds ρ=Z ρ'->ρ'.length=ρ.length/\∀i:Nat,n<=i->ρ'[i]?=ρ[i]?
 | [],[],ρ,ρ',_,e=>by cases e;exact⟨rfl,λ_ _=>rfl⟩
 | [],_::_,_,_,_,e=>by cases e
 | _::_,[],_,_,_,e=>by cases e
 | s::ss,d::ds,ρ,ρ',.cons h hs,e=>by
  unfold jz at e;split at e
  ·rename_i ρ1 q;refine q0x2 (h _ _ _ q) λa1 b1=>?_;refine q0x2 (qw hs e) λa b=>?_;exact⟨by rw[a,a1],λj hj=>by rw[b j hj,b1 j hj]⟩
  ·cases e
def AL {ss:List GG}(h:qE n ss):jB n (jW ss):=λd ρ ρ' e=>by
 cases d with
 | tup ds=>exact qw h e
 | _=>cases e
def jB.back {K:W.Frag}(o:jB n sg)(e:sg d (Ms n Y++ρ)=Z ρ1)(h:fY K θ H τ ρ1):fY K θ H τ (Ms n Y++ρ):=by
 refine q0x2 (o _ _ _ e) λa b=>?_;refine⟨by rw[<-a];exact h.len,λi d' q=>?_⟩
 by_cases hi:i<n
 ·rw[getElem?_append_left (by rw[length_replicate];exact hi),getElem?_replicate,if_pos hi] at q;cases q
 ·rw[<-b i (by omega)] at q;exact h.at_ i d' q
def aP (gi:GI)(gc:GT)(ge:GE)(mk:List D->aF->aQ D):GE:=λρ M=>(gi ρ M).bind λt M1=>(bJ t gc ge t.ds ρ M1).bind mk
def tU (elt target iter:Expr)(ifs:List Expr)(scope:Scope)(pos:Pos)(it acc:Value)(env:Env)(cond:Sem Bool)
  (hc:(forIn (m:=Sem) ifs true λc r=>if r=true then do let ok <-isTrue c env (eval c env);pure (L6 ok) else pure (L6 r))=cond) :
  compTurn (.ListComp elt [⟨target,iter,ifs,0⟩] scope pos) 0 it acc env=(standAt iter.pos >>= λ_=>pyNext it >>= λr=>match r with
   | none=>pure (.done .next)
   | some v=>letOwnedTupleGo target it v >>= λ_=>assign target env v >>= λ_=>cond >>= λok=>
    if ok=true then((eval elt env >>= λx=>call (.builtin "list.append") [acc,x] >>= λ_=>pure ()) >>= λ_=>
     again (.compLoop (.ListComp elt [⟨target,iter,ifs,0⟩] scope pos) 0 it acc env)) else again (.compLoop (.ListComp elt [⟨target,iter,ifs,0⟩] scope pos) 0 it acc env)):=by
 subst hc;rfl
section
variable {prog:Program}{w:World}{A:Around}{R:Result->Shared->Prop}{s:Shared}
def fF {iter:Expr}{cond:Sem Bool}
  (hc:(forIn (m:=Sem) ifs true λc r=>if r=true then do let ok <-isTrue c env (eval c env);pure (L6 ok) else pure (L6 r))=cond) (I:Nat->Shared->Prop)
  (turn:∀n s,I n s->wpAny (model prog w) A (pyNext it) (λr s₁=>match r with
   | none=>R (.ok .next) s₁
   | some v=>wpAny (model prog w) A (letOwnedTupleGo target it v) (λ_ s₂=>wpAny (model prog w) A (assign target env v) (λ_ s₃=>wpAny (model prog w) A cond (λok s₄=>if ok=true then
     wpAny (model prog w) A (eval elt env) (λx s₅=>wpAny (model prog w) A (call (.builtin "list.append") [acc,x]) (λ_ s₆=>∃m,m<n/\I m s₆) (λ_ _=>False) s₅) (λ_ _=>False) s₄
     else∃m,m<n/\I m s₄) (λ_ _=>False) s₃) (λ_ _=>False) s₂) (λ_ _=>False) s₁) (λ_ _=>False) s)
  (n:Nat) (h:I n s):codeAny (model prog w) A (.compLoop (.ListComp elt [⟨target,iter,ifs,0⟩] scope pos) 0 it acc env) R s:=by
 refine codeAny_loop rfl I (λn s hI=>?_) n h;show wpAny _ _ ((compTurn (.ListComp elt [⟨target,iter,ifs,0⟩] scope pos) 0 it acc env).onRaise (λx=>do noteFrame x env;theTreesLotGoes x)) _ _ s;refine wpAny_noted ?_;rw[tU _ _ _ _ _ _ _ _ _ _ hc];refine wpAny_bind (wpAny_standAt (wpAny_bind (wpAny_mono (turn n s hI) (λr s₁ h₁=>?_) λ_ _ z=>z.elim)));cases r with
 | none=>exact wpAny_pure h₁
 | some v=>
  refine wpAny_bind (wpAny_mono h₁ (λ_ s₂ h₂=>?_) λ_ _ z=>z.elim);refine wpAny_bind (wpAny_mono h₂ (λ_ s₃ h₃=>?_) λ_ _ z=>z.elim);refine wpAny_bind (wpAny_mono h₃ (λok s₄ h₄=>?_) λ_ _ z=>z.elim);cases ok with
  | true=>
   rw[if_pos rfl] at h₄;rw[if_pos rfl];exact wpAny_bind (wpAny_bind (wpAny_mono h₄ (λx s₅ h₅=>wpAny_bind (wpAny_mono h₅ (λ_ s₆ h₆=>wpAny_pure (wpAny_pure ⟨rfl,h₆⟩)) λ_ _ z=>z.elim)) λ_ _ z=>z.elim))
  | false=>
   rw[if_neg Ly] at h₄;rw[if_neg Ly];exact wpAny_pure ⟨rfl,h₄⟩
theorem ow:(forIn (m:=Sem) ([]:List Expr) true λc r=>if r=true then do let ok <-isTrue c env (eval c env);pure (L6 ok) else pure (L6 r))=pure true:=rfl
def xc:(forIn (m:=Sem) [c] true λc r=>if r=true then do let ok <-isTrue c env (eval c env);pure (L6 ok) else pure (L6 r))=isTrue c env (eval c env):=by
 rw[forIn_cons];simp
end
def wJ {a:Nat}(h:b<a)(e:c=a+1):b≠c:=by omega
def mQ {b a c:Nat}(h:b<c)(e:c=a):a≠b:=by omega
def fV {b a c:Nat}(h:b<c)(e:c=a):b≠a:=by omega
abbrev cr (its:List Value)(n:Nat):Obj:={cls:=.type "list",data:=.seq its.toArray n}
section
variable {X:Cx}{af:List (Addr×Obj)}{σ:L2.St}{s:Shared}{scope:Scope}{xs:List Str}{tg:Expr}{sg:GG}{R:List Str}{elt iter:Expr}{ifs:List Expr}{pos:Pos}{E:Value->Shared->Prop}
def rj {K:W.Frag}{σ:L2.St}(h:fY K θ H σ ρ):fY K θ H (Ms n Y++σ) (Ms n Y++ρ):=by
 refine⟨by rw[length_append,length_append,length_replicate,length_replicate,h.len],λi d e=>?_⟩
 by_cases hi:i<n
 ·rw[getElem?_append_left (by rw[length_replicate];exact hi),getElem?_replicate,if_pos hi] at e;cases e
 ·rw[getElem?_append_right (by rw[length_replicate];omega),length_replicate] at e ⊢;exact h.at_ _ d e
inductive K0 (X0:Cx) (fp:List Addr) (tn:Nat->Heap->Prop) (K:W.Frag) (acc:Addr) (t:jx) (ρ0:fO) (θ1:List Addr) (H2:Hp) (es:List D) (go:List D->aF->aQ (List D)) (Mend:aF) (n:Nat) (s':Shared):Prop
 | mk (i:Nat) (τ:L2.St) (H':Hp) (θ':List Addr) (M':aF) (ds rest:List D) (vs:List V) (its:List Value) (na:Nat) (e1:n=t.ds.length-i) (e2:i<=t.ds.length)
   (e3:L2.Inv X0 [(acc,cr its na)] τ H' s') (e4:fY K θ' H' τ ρ0) (e5:tn i s'.heap) (e6:∀b∈fp,H' b=Y) (e7:Go K θ1 H2 θ' H' M') (e8:aR K θ' H' ds vs) (e9:aS vs its) (e10:go (t.ds.drop i) M'=.ok rest Mend) (e11:ds++rest=es)
def ot {t:jx}{M1:aF}{RR:Value->Addr->Result->Shared->Prop}
  (S:bH scope X.env.kindOf xs R X.N) (hc:X.calm=true) (I2:L2.Inv X af σ H2 s2) (T:oq X.prog X.w X.K tg J fp it tn) (st2:tn 0 s2.heap) (f2:∀b∈fp,df X af H2 b)
  (hw1:Wr X.K θ1 H2 M1) (hd1:fY X.K θ1 H2 σ ρ) (hJ:sB X.K J θ1 H2 t) (hgo:aG t xs.length sg gc ge t.ds ρ M1=.ok es Mend) (hlen:es.length<=sizeLine)
  (hcd:∀C,∃cond,(forIn (m:=Sem) ifs true λc r=>if r=true then do let ok <-isTrue c (ah X scope xs R fp s2 H2 C).env (eval c (ah X scope xs R fp s2 H2 C).env);pure (L6 ok) else pure (L6 r))=cond/\
   ∀(af:List (Addr×Obj)) (s:Shared) (σ:L2.St) (H:Hp) (Q:Bool->Hp->Prop),L2.Inv (ah X scope xs R fp s2 H2 C) af σ H s->tT (ah X scope xs R fp s2 H2 C) gc σ H Q->wpAny (model X.prog X.w) X.A cond (TP (ah X scope xs R fp s2 H2 C) af σ Q) (λ_ _=>False) s)
  (own:jB xs.length sg) (hg:∀C,PG (ah X scope xs R fp s2 H2 C) tg (tG (ah X scope xs R fp s2 H2 C) sg))
  (he:∀C,PE (ah X scope xs R fp s2 H2 C) elt (tE (ah X scope xs R fp s2 H2 C) ge))
  (fin:∀(acc C:Addr) (s':Shared) (H':Hp) (θ':List Addr) (vs:List V) (m:Str->Option Value),L2.Inv X af σ (bG H' acc (.lst vs)) s'->s'.heap.Ns C m->df X af (bG H' acc (.lst vs)) C->Go X.K θ1 H2 θ' H' Mend->H' acc=Y->aR X.K θ' H' es vs->RR (.ref acc) C (.ok .next) s') :
  wpAny (model X.prog X.w) X.A (newList []) (λacc s₃=>wpAny (model X.prog X.w) X.A (newFunctionEnv scope X.env.globals (cw X.env.cells scope.names []) [] X.env.qual Y .none (Z X.env)) (λcenv s₄=>
   codeAny (model X.prog X.w) X.A (.compStart (.ListComp elt [⟨tg,iter,ifs,0⟩] scope pos) 0 (.ref it) acc {cenv with scope:=relabel scope X.env}) (RR acc cenv.locals) s₄) E s₃) E s2:=by
 refine wpAny_newObj_type (wpAny_newFunctionEnv S.nocell (by intro y hy;simp at hy) (λh₁ hns₁ hsb₁=>?_) S.kind);dsimp only at hns₁ hsb₁ ⊢;generalize hHp:s2.heap.push {cls:=.type "list",dict:=Y,data:=.seq ([]:List Value).toArray}=Hp2 at hns₁ hsb₁ ⊢;have hCe:Hp2.objs.size=s2.heap.objs.size+1:=by rw[<-hHp,Heap.size_push]
 generalize hCd:Hp2.objs.size=C at hns₁ hsb₁ hCe ⊢;generalize hAd:s2.heap.objs.size=acc at hCe ⊢;have hDC:acc≠C:=by rw[hCe];exact LR (OX _)
 have old:∀b o,s2.heap.get? b=Z o->h₁.get? b=Z o:=λb o e=>by
  have hb:b<acc:=by rw[<-hAd];exact Heap.lt_size e
  refine hsb₁.extBut b o (wJ hb hCe) (Heap.get?_push_of_some _ ?_);rw[<-hHp];exact Heap.get?_push_of_some _ e
 have hacc0:h₁.get? acc=Z (cr [] 0):=by
  refine hsb₁.extBut acc _ hDC (Heap.get?_push_of_some _ ?_);rw[<-hHp,<-hAd];exact Heap.get?_push_size _ rfl
 have hfl:∀b∈fp,b<s2.heap.objs.size:=λb hb=>by
  refine q1x2 (T.obj 0 _ st2 b hb) λo e _=>?_;exact Heap.lt_size e
 have hCs:s2.heap.objs.size<=C:=by omega
 have IY0:L2.Inv (ah X scope xs R fp s2 H2 C) [] (Ms xs.length Y++σ) H2 {s2 with heap:=h₁,toks:=s2.toks+([]:List (Str×Value)).length}:=sH S I2 hCs old hns₁ f2 hfl;refine q1x2 (hcd C) λcond hcond hct=>?_;have fpY:∀{H':Hp} {p:Obj},(∀b∈fp,H' b=Y)->∀b∈fp,df (ah X scope xs R fp s2 H2 C) [(acc,p)] H' b:=λ{H' p} hn b hb=>by
  refine⟨hn b hb,?_,λz=>?_,.inl hb,λy c e=>?_,λq hq=>?_⟩
  ·exact LR (LB (hfl b hb) hCs)
  ·rcases mem_cons.mp (I2.stkSub b z) with e|e
   ·exact(f2 b hb).2.1 e
   ·exact(f2 b hb).2.2.1 e
  ·exact(f2 b hb).2.2.2.2.1 y c (bT S I2 e)
  ·have hq:q∈([]:List (Addr×Obj))++[(acc,p)]:=hq;have e:q=(acc,p):=by simpa using hq
   rw[e];exact mQ (hfl b hb) hAd
 have accF:∀b∈mI X.stack,acc≠b:=λb hb e=>by
  have:acc∉X.env.locals::X.fs:=by
   intro z;rcases mem_cons.mp z with z|z
   ·exact mQ I2.lt hAd z
   ·exact I2.nofs (Nj hAd) z
  exact this (e▸I2.stkSub b hb)
 have loop:∀s₃:Shared,s₃={s2 with heap:=h₁,toks:=s2.toks+([]:List (Str×Value)).length}->
   codeAny (model X.prog X.w) X.A (.compLoop (.ListComp elt [⟨tg,iter,ifs,0⟩] scope pos) 0 (.ref it) (.ref acc) (ah X scope xs R fp s2 H2 C).env) (RR (.ref acc) C) s₃:=by
  rintro s₃ rfl;have pin0:∀{σ':L2.St} {H':Hp} {s':Shared} {its:List Value} {n:Nat},L2.Inv (ah X scope xs R fp s2 H2 C) [] σ' H' s'->s'.heap.get? acc=Z (cr its n)->H' acc=Y->L2.Inv (ah X scope xs R fp s2 H2 C) [(acc,cr its n)] σ' H' s':=λ{σ' H' s' its n} I' e hn=>
   I'.pins_of λp hp=>by
    have ep:p=(acc,cr its n):=by simpa using hp
    subst ep;exact⟨e,hn,hDC,λz=>accF acc z rfl,λv z=>by cases z⟩
  refine fF hcond (K0 (ah X scope xs R fp s2 H2 C) fp tn X.K acc t (Ms xs.length Y++ρ) θ1 H2 es (λl N=>aG t xs.length sg gc ge l ρ N) Mend) ?_ t.ds.length
   ⟨0,_,H2,θ1,M1,[],es,[],[],0,rfl,Ni _,pin0 IY0 hacc0 (I2.hok.fresh (Nj hAd)),rj hd1,T.keep 0 _ _ st2 (λb hb o e=>old b o e),λb hb=>(f2 b hb).1,.refl hw1,rfl,.nil,hgo,rfl⟩
  rintro n s' ⟨i,τ,H',θ',M',ds,rest,vs,its,na,rfl,hil,I',dn',st',fr',g',rd',rv',hrest,hes⟩;have hok:t.ok M'=true:=by
   cases hq:t.ok M' with
   | true=>rfl
   | false=>
    exfalso;cases hdr:t.ds.drop i with
    | nil=>rw[hdr,aG,if_neg (by rw[hq];exact Ly)] at hrest;cases hrest
    | cons d r=>rw[hdr,aG,if_neg (by rw[hq];exact Ly)] at hrest;cases hrest
  refine q0x2 (hJ θ' H' M' g' hok i) λhy hst=>?_
  by_cases hlt:i<t.ds.length
  ·have e1:t.ds[i]?=Z t.ds[i]:=getElem?_eq_getElem hlt;refine q0x2 (hy _ e1) λhgo' hyl=>?_;rw[drop_eq_getElem_cons hlt,aG,if_pos hok] at hrest;refine bR (T.item (ah X scope xs R fp s2 H2 C) rfl rfl rfl hc i _ s' _ H' _ I' (fpY fr') st' hgo') λr s4 hxx=>?_
   refine q1x2 hxx λu hr h4=>?_;subst hr;refine bR h4 λ_ s5 hxx=>?_
   refine q2x5 hxx λv H5 I5 r5 y5 st5 fr5=>?_;refine q0x2 (hyl v H5 y5) λgy rx=>?_;have I5':=I5.pinned (fpY fr5) (T.obj _ _ st5);cases qs:sg t.ds[i] (Ms xs.length Y++ρ) with
   | none=>rw[qs] at hrest;cases hrest
   | some ρ1=>
   rw[qs] at hrest;dsimp only at hrest;refine bR (hg C _ s5 _ H5 v u (λσ6 H6=>fY X.K θ' H6 σ6 ρ1/\H6=H5) I5' r5 ⟨_,θ',M',t.ds[i],dn'.go gy,gy.wr,rx,ρ1,qs,λσ6 d6=>⟨d6,rfl⟩⟩) λ_ s6 hxx=>?_
   refine q2x3 hxx λσ6 H6 I6 hdY eH6=>?_;subst eH6;cases qc:gc ρ1 M' with
   | bad=>rw[qc] at hrest;cases hrest
   | err c Mx=>rw[qc] at hrest;cases hrest
   | ok b Mb=>
    refine bR (hct _ s6 _ H6 (λb' H7=>b'=b/\∃θ7,Go X.K θ' H6 θ7 H7 Mb) I6 ⟨_,θ',M',hdY,gy.wr,?_⟩) λok s7 ⟨H7,I7,eb,θ7,g7⟩=>?_
    ·rw[qc];exact λθ7 H7 g7=>⟨rfl,θ7,g7⟩
    subst eb;have fpk:∀{s8:Shared} {σ8:L2.St} {H8:Hp},L2.Inv (ah X scope xs R fp s2 H2 C) ([(acc,cr its na)]++hO fp s5.heap) σ8 H8 s8->(∀b∈fp,H8 b=Y)/\(∀b∈fp,∀o,s5.heap.get? b=Z o->s8.heap.get? b=Z o)/\s8.heap.get? acc=Z (cr its na)/\H8 acc=Y:=λ{s8 σ8 H8} I8=>by
     have pa:=I8.pin (acc,cr its na) (mem_append_right _ (mem_append_left _ (by simp)));refine⟨λb hb=>?_,λb hb o e=>(I8.pin (b,o) (mem_append_right _ (mem_append_right _ (bL hb e)))).1,pa.1,pa.2.1⟩;refine q1x2 (T.obj _ _ st5 b hb) λo e d=>?_;exact(I8.pin (b,o) (mem_append_right _ (mem_append_right _ (bL hb e)))).2.1
    cases ok with
    | false=>
     rw[if_neg Ly];rw[qc] at hrest;refine q0x4 (fpk I7) λk1 k2 k3 k4=>?_;exact⟨t.ds.length-(i+1),by omega,i+1,σ6,H7,θ7,Mb,ds,rest,vs,its,na,rfl,hlt,I7.unpinned,own.back qs (hdY.go g7),T.keep _ _ _ st5 k2,k1,g'.trans (gy.trans g7),rd'.go (gy.trans g7),rv',hrest,hes⟩
    | true=>
     rw[if_pos rfl];rw[qc] at hrest;have hrest:(match ge ρ1 Mb with
      | .ok e M2=>(aG t xs.length sg gc ge (t.ds.drop (i+1)) ρ M2).bind λes M3=>.ok (e::es) M3
      | _=>.bad)=aQ.ok rest Mend:=hrest
     cases qe:ge ρ1 Mb with
     | bad=>rw[qe] at hrest;cases hrest
     | err c Mx=>rw[qe] at hrest;cases hrest
     | ok dv Mv=>
      rw[qe] at hrest;have hrest:((aG t xs.length sg gc ge (t.ds.drop (i+1)) ρ Mv).bind λes M3=>aQ.ok (dv::es) M3)=aQ.ok rest Mend:=hrest;refine bR (he C _ s7 _ H7 (λw H8=>∃θ8,Go X.K θ7 H7 θ8 H8 Mv/\dj X.K θ8 H8 dv w) I7 ⟨_,θ7,Mb,hdY.go g7,g7.wr,?_⟩) λuv s8 ⟨w,H8,I8,rw8,θ8,g8,rd8⟩=>?_
      ·rw[qe];exact λw θ8 H8 g8 rd8=>⟨θ8,g8,rd8⟩
      refine q0x4 (fpk I8) λk1 k2 k3 k4=>?_;cases qr:aG t xs.length sg gc ge (t.ds.drop (i+1)) ρ Mv with
      | bad=>rw[qr] at hrest;cases hrest
      | err c Mx=>rw[qr] at hrest;cases hrest
      | ok rest' Mr=>
       rw[qr] at hrest;have hrest:aQ.ok (dv::rest') Mr=aQ.ok rest Mend:=hrest;cases hrest;have hsz:its.length<sizeLine:=by
        have e2:(ds++dv::rest').length<=sizeLine:=by rw[hes];exact hlen
        rw[length_append,length_cons,aq rd',rv'.length] at e2;omega
       refine call_meets F.slot_list_append ⟨_,k3,rfl⟩ F.entry_list_append (F.args_list_append_2 _ _) (PySem.list_append acc its.toArray na uv (by rw[size_toArray];omega)) ⟨k3,?_⟩;have qup:=PySem.IsL.update k3 (λa=>a.push uv);have eup:(its.toArray.push uv)=(its++[uv]).toArray:=by simp
       have keepb:∀b o,b≠acc->s8.heap.get? b=Z o->(s8.heap.update acc (Obj.mapSeq λa=>a.push uv)).get? b=Z o:=λb o hb e=>(Heap.get?_update_other s8.heap _ (NL hb)).trans e
       have I9:L2.Inv (ah X scope xs R fp s2 H2 C) [] σ6 H8 {s8 with heap:=s8.heap.update acc (Obj.mapSeq λa=>a.push uv),toks:=s8.toks}:=by
        refine Inv.turned (it:=acc) (I8.pins_of (pins':=[]) λp hp=>absurd hp (by simp)) keepb k4 hDC (.inr (Nj hAd)) (λy c e z=>?_) λp hp=>absurd (show p∈([]:List (Addr×Obj)) from hp) (by simp)
        refine q2x2 (I2.cell y c (bT S I2 e)) λv' o ho hdd=>?_;exact fV (Heap.lt_size ho) hAd z
       obtain⟨n',eq'⟩:∃n',(s8.heap.update acc (Obj.mapSeq λa=>a.push uv)).get? acc=Z (cr (its++[uv]) n'):=by
        have q2:=qup;rw[eup] at q2;exact⟨_,q2⟩
       exact⟨t.ds.length-(i+1),by omega,i+1,σ6,H8,θ8,Mv,ds++[dv],rest',vs++[w],its++[uv],n',rfl,hlt,pin0 I9 eq' k4,own.back qs (hdY.go (g7.trans g8)),T.keep _ _ _ st5 (λb hb o e=>keepb b o (fV (hfl b hb) hAd) (k2 b hb o e)),k1,g'.trans (gy.trans (g7.trans g8)),cQ (rd'.go (gy.trans (g7.trans g8))) ⟨w,[],rfl,rd8,rfl⟩,rv'.append (.cons rw8 .nil),qr,by rw[<-hes];simp⟩
  ·have e:i=t.ds.length:=by omega
   subst e;rw[drop_length,aG,if_pos hok] at hrest;cases hrest;have hes:ds=es:=by rw[<-hes];simp
   subst hes;refine bR (T.done (ah X scope xs R fp s2 H2 C) rfl rfl rfl hc _ _ s' _ H' _ I' (fpY fr') st' (hst (Lr _))) λr s4 hxx=>?_
   refine q0x2 hxx λhr I4=>?_;subst hr;have pa:=I4.pin (acc,cr its na) (mem_append_right _ (by simp));have e4:s4.heap.get? acc=Z (cr its na):=pa.1;have n4:H' acc=Y:=pa.2.1;have lv:vs.length<=sizeLine:=by rw[<-aq rd'];exact hlen
   refine q1x2 I4.loc λmC hnC _=>?_;have hHC:H' C=Y:=I4.free;have mT:Un (mI X.stack) fp H2 H' s2.heap s4.heap:=I4.base;have neA:∀{b:Addr} {o:Obj},s2.heap.get? b=Z o->b≠acc:=λ{b o} e=>fV (Heap.lt_size e) hAd
   have neH:∀{b:Addr} {u:HO},H' b=Z u->b≠acc:=λ{b u} e z=>by rw[z,n4] at e;cases e
   have un4:Un (mI X.stack) fp H2 (bG H' acc (.lst vs)) s2.heap s4.heap:=by
    refine⟨mT.keep,mT.slot,λb o e n hx=>?_,mT.there,λb xs e=>?_,λb o u e=>?_,λb ps e=>?_⟩
    ·rw[au (neA e)];exact mT.free b o e n hx
    ·have z:=mT.tups b xs e;rw[au (neH z)];exact z
    ·have z:=mT.frzs b o u e;rw[au (neH z)];exact z
    ·refine q1x1 (mT.tbls b ps e) λmore z=>?_;exact⟨more,by rw[au (neH z)];exact z⟩
   have hok4:jt X.prog X.w (bG H' acc (.lst vs)) s4.heap:=λb u e=>by
    by_cases hb:b=acc
    ·subst hb;rw[bZ] at e;cases e;exact⟨lv,its,na,rv',e4⟩
    ·rw[au hb] at e;exact(I4.hok b u e).stay (λc v _ q=>q) (λc q=>by rw[au (neH q)];exact q) λc xs q=>by rw[au (neH q)];exact q
   have IX:L2.Inv X af σ (bG H' acc (.lst vs)) s4:=I2.call' (ch:=fp) I4.os un4 hok4 I4.bare λb hb=>⟨(f2 b hb).2.2.2.1,(f2 b hb).2.1,(f2 b hb).2.2.2.2.1,(f2 b hb).2.2.2.2.2⟩
   refine fin acc C s4 H' θ' vs mC IX hnC (I2.fpOk hCs ?_) g' n4 rd';rw[au (NL hDC)];exact hHC
 exact codeAny_compStart_list (loop _ rfl) (T.self _ 0 _ _ _ (T.keep 0 _ _ st2 λb hb o e=>old b o e) (loop _ rfl))
end
section
variable {X:Cx}{scope:Scope}{xs:List Str}{tg:Expr}{sg:GG}{x:Str}{px:Pos}{R:List Str}{elt iter:Expr}{ifs:List Expr}{pos:Pos}{gi:GI}{gc:GT}{ge:GE}
def F4 (mk:List D->aF->aQ D):Prop:=∀(X:Cx) (θ:List Addr) (H:Hp) (Q:VK) (ds:List D) (M:aF) (vs:List V),aN X θ H Q (mk ds M)->Wr X.K θ H M->aR X.K θ H ds vs->vs.length<=sizeLine/\∀p,H p=Y->Q (.ref p) (bG H p (.lst vs))
def zZ:F4 aC:=λX θ H Q ds M vs h hw r=>aN.lst h hw r
def AE:F4 bM:=λX θ H Q ds M vs h hw r=>aN.mut h hw r
def sr (hm:mk=aC\/mk=bM){X:Cx}(h:aN X θ H Q (mk ds M)):ds.length<=sizeLine:=by
 rcases hm with e|e <;> subst e
 ·unfold aC at h;split at h
  ·assumption
  ·exact h.elim
 ·unfold bM at h;split at h
  ·assumption
  ·exact h.elim
def um (hm:mk=aC\/mk=bM):F4 mk:=by
 rcases hm with e|e <;> subst e
 ·exact zZ
 ·exact AE
def dN (X:Cx)(scope:Scope)(xs:List Str)(R:List Str)(ifs:List Expr)(gc:GT):Prop:=∀fp s2 H2 C,∃cond,(forIn (m:=Sem) ifs true λc r=>if r=true then do let ok <-isTrue c (ah X scope xs R fp s2 H2 C).env (eval c (ah X scope xs R fp s2 H2 C).env);pure (L6 ok) else pure (L6 r))=cond/\
   ∀(af:List (Addr×Obj)) (s:Shared) (σ:L2.St) (H:Hp) (Q:Bool->Hp->Prop),L2.Inv (ah X scope xs R fp s2 H2 C) af σ H s->tT (ah X scope xs R fp s2 H2 C) gc σ H Q->wpAny (model X.prog X.w) X.A cond (TP (ah X scope xs R fp s2 H2 C) af σ Q) (λ_ _=>False) s
def zq:dN X scope xs R [] aW:=λfp s2 H2 C=>⟨_,ow,λaf s σ H Q I ⟨ρ,θ,M,hd,hw,h⟩=>wpAny_pure ⟨H,I,h θ H (.refl hw)⟩⟩
def A1 (h:∀fp s2 H2 C,PT (ah X scope xs R fp s2 H2 C) c (tT (ah X scope xs R fp s2 H2 C) gc)):dN X scope xs R [c] gc:=λfp s2 H2 C=>⟨_,xc,λaf s σ H Q I q=>h fp s2 H2 C af s σ H Q I q⟩
theorem eT {t:jx}{sg:GG}{gc:GT}{ge:GE}:∀(ds:List D) (M:aF),aG t n sg gc ge ds ρ M=.err c M'->False
 | [],M,h=>by
  unfold aG at h;split at h <;> cases h
 | d::r,M,h=>by
  unfold aG at h;split at h
  ·split at h
   ·cases h
   ·split at h
    ·rename_i M1 q1;split at h
     ·rename_i e M2 q2;cases q:aG t n sg gc ge r ρ M2 with
      | ok es M3=>rw[q] at h;cases h
      | err c2 M3=>exact eT r M2 q
      | bad=>rw[q] at h;cases h
     ·cases h
    ·rename_i M1 q1;exact eT r M1 h
    ·cases h
  ·cases h
def yX (hS:cj scope X.env.kindOf xs R X.N=true)(hc:X.calm=true)(hm:mk=aC\/mk=bM)(hi:PI X tg iter (tI X gi))(own:jB xs.length sg)(hg:∀fp s H C,PG (ah X scope xs R fp s H C) tg (tG (ah X scope xs R fp s H C) sg))(hts:dN X scope xs R ifs gc)
  (he:∀fp s H C,PE (ah X scope xs R fp s H C) elt (tE (ah X scope xs R fp s H C) ge))
  (hs:∀x,foldedSetIterable iter X.env x=pure x:=by intro _;rfl):PE X (.ListComp elt [⟨tg,iter,ifs,0⟩] scope pos) (tE X (dh gi xs.length sg gc ge mk)):=by
 have S:=bH.of hS;intro af s σ H Q I h;refine q3x3 h λρ θ M hd hw h=>?_;rw[eval_ListComp];refine wpAny_comprehension_free (use:=Y) rfl hs (eG (S.cells I)) S.kind S.lnames ?_;refine bR (hi af s σ H (λJ H2=>∃t M1 θ1,gi ρ M=.ok t M1/\Go X.K θ H θ1 H2 M1/\sB X.K J θ1 H2 t) I ⟨ρ,θ,M,hd,hw,?_⟩) λv s1 h1=>bR h1 λitv s2 h2=>?_
 ·cases q:gi ρ M with
  | ok t M1=>exact λJ θ1 H1 g1 hJ=>⟨t,M1,θ1,rfl,g1,hJ⟩
  | err c M1=>unfold dh at h;rw[q] at h;exact h
  | bad=>unfold dh at h;rw[q] at h;exact h
 obtain⟨it,fp,tn,J,H2,rfl,I2,T,st2,f2,t,M1,θ1,eg,g1,hJ⟩:=h2;unfold dh at h;rw[eg] at h;have h:aN X θ H Q ((aG t xs.length sg gc ge t.ds ρ M1).bind mk):=h;cases q:aG t xs.length sg gc ge t.ds ρ M1 with
 | bad=>rw[q] at h;exact h.elim
 | err c Mx=>exact(eT _ _ q).elim
 | ok es Mend=>
  rw[q] at h;have h:aN X θ H Q (mk es Mend):=h;refine ot (RR:=λacc C=>compPost (model X.prog X.w) X.A X.xe Y (EP X af σ Q) acc C) S hc I2 T st2 f2 g1.wr (hd.go g1) hJ q (sr hm h) (λC=>hts fp s2 H2 C) own (λC=>hg fp s2 H2 C) (λC=>he fp s2 H2 C) ?_;intro acc C s' H' θ' vs m IX hnC fC g' na rd;refine⟨m,hnC,λh' sb=>?_⟩;have I3:L2.Inv X af σ (bG H' acc (.lst vs)) {s' with heap:=h',toks:=s'.toks}:=IX.turned (it:=C) (λb o hb e=>(sb.2 b hb).trans e) fC.1 fC.2.1 fC.2.2.2.1 fC.2.2.2.2.1 fC.2.2.2.2.2;exact⟨.ref acc,_,I3,rfl,(um hm X θ' H' Q es Mend vs (aN.go (g1.trans g') h) g'.wr rd).2 acc na⟩
def tQ (hS:cj scope X.env.kindOf xs R X.N=true)(hc:X.calm=true)(hm:mk=aC\/mk=bM)(hi:PI X tg iter (tI X gi))(own:jB xs.length sg)(hg:∀fp s H C,PG (ah X scope xs R fp s H C) tg (tG (ah X scope xs R fp s H C) sg))(hts:dN X scope xs R ifs gc)
  (he:∀fp s H C,PE (ah X scope xs R fp s H C) elt (tE (ah X scope xs R fp s H C) ge))
  (hN:X.N.Nodup) (hj:X.N[j]?=Z y) (hy:X.env.scope.names.lookup y=Z .local)
  (hsw:swapsWith (.ListComp elt [⟨tg,iter,ifs,0⟩] scope pos) (Z (.Name y py)) spos.line X.env=pure true)
  (hs:∀x,foldedSetIterable iter X.env x=pure x:=by intro _;rfl):PS X (.Assign [.Name y py] (.ListComp elt [⟨tg,iter,ifs,0⟩] scope pos) spos) (tS X (aD j (dh gi xs.length sg gc ge mk))):=by
 have S:=bH.of hS;intro af s σ H Q I h;refine q3x3 h λρ θ M hd hw h=>?_;rw[exec_Assign_Name_used _ _ _ _ hsw];refine wpAny_bind (wpAny_standAt (wpAny_bind ?_));show wpAny _ X.A (do let _ <-comprehension (.ListComp elt [⟨tg,iter,ifs,0⟩] scope pos) scope X.env _ (newList []) false (eval iter X.env) (Z (assign (.Name y py) X.env))) _ _ s;refine wpAny_bind (wpAny_mono (wpAny_comprehension_free (use:=Z (assign (.Name y py) X.env)) (Q:=λ_ s'=>SP X af Q .next s') rfl hs (eG (S.cells I)) S.kind S.lnames ?_) (λ_ s' hq=>wpAny_pure (wpAny_pure hq)) λ_ _ e=>e);refine bR (hi af s σ H (λJ H2=>∃t M1 θ1,gi ρ M=.ok t M1/\Go X.K θ H θ1 H2 M1/\sB X.K J θ1 H2 t) I ⟨ρ,θ,M,hd,hw,?_⟩) λv s1 h1=>bR h1 λitv s2 h2=>?_
 ·cases q:gi ρ M with
  | ok t M1=>exact λJ θ1 H1 g1 hJ=>⟨t,M1,θ1,rfl,g1,hJ⟩
  | err c M1=>unfold aD dh at h;rw[q] at h;exact h
  | bad=>unfold aD dh at h;rw[q] at h;exact h
 obtain⟨it,fp,tn,J,H2,rfl,I2,T,st2,f2,t,M1,θ1,eg,g1,hJ⟩:=h2;unfold aD dh at h;rw[eg] at h;have h:eJ X θ H Q (((aG t xs.length sg gc ge t.ds ρ M1).bind mk).bind λd M2=>.ok (.nx (ρ.set j (Z d))) M2):=h;cases q:aG t xs.length sg gc ge t.ds ρ M1 with
 | bad=>rw[q] at h;exact h.elim
 | err c Mx=>exact(eT _ _ q).elim
 | ok es Mend=>
  rw[q] at h;have h:eJ X θ H Q ((mk es Mend).bind λd M2=>.ok (.nx (ρ.set j (Z d))) M2):=h;have hE:aN X θ H (λv H'=>∃θ' M',Go X.K θ H θ' H' M'/\∃d,mk es Mend=.ok d M'/\dj X.K θ' H' d v) (mk es Mend):=by
   cases qm:mk es Mend with
   | ok d M2=>exact λv θ' H' g' r=>⟨θ',M2,g',d,rfl,r⟩
   | err c M2=>rw[qm] at h;exact h
   | bad=>rw[qm] at h;exact h
  refine ot (RR:=λacc C=>compPost (model X.prog X.w) X.A X.xe (Z (assign (.Name y py) X.env)) (λ_ s'=>SP X af Q .next s') acc C) S hc I2 T st2 f2 g1.wr (hd.go g1) hJ q (sr hm hE) (λC=>hts fp s2 H2 C) own (λC=>hg fp s2 H2 C) (λC=>he fp s2 H2 C) ?_;intro acc C s' H' θ' vs m IX hnC fC g' na rd;obtain⟨θe,Me,ge',d,ed,rde⟩:=(um hm X θ' H' _ es Mend vs (aN.go (g1.trans g') hE) g'.wr rd).2 acc na;show wpAny _ X.A (assign (.Name y py) X.env (.ref acc)) _ _ s';refine wpAny_assign_Name (mS IX hN hj (.inl hy) (v:=.ref acc) rfl (λs3 I3 hxx=>?_) (.inr hy));refine q1x2 hxx λa sa ha=>?_;have hCa:C≠a:=by
   rcases ha with e|e
   ·rw[e];exact fC.2.1
   ·exact λz=>fC.2.2.2.2.1 y a e z.symm
  refine⟨m,hnC.sameBut sa hCa,λh' sb=>?_⟩;have I4:L2.Inv X af (σ.set j (Z (.ref acc))) (bG H' acc (.lst vs)) {s3 with heap:=h',toks:=s3.toks}:=I3.turned (it:=C) (λb o hb e=>(sb.2 b hb).trans e) fC.1 fC.2.1 fC.2.2.2.1 fC.2.2.2.2.1 fC.2.2.2.2.2;rw[ed] at h;exact⟨_,_,I4,h _ θe _ ge' ((hd.go ge').set rde j)⟩
def wW {px:Pos}(hS:cj scope X.env.kindOf [x] R X.N=true)(fp:List Addr)(s:Shared)(H:Hp)(C:Addr):PG (ah X scope [x] R fp s H C) (.Name x px) (tG (ah X scope [x] R fp s H C) (aX 0)):=
 have S:=bH.of hS
 lQ (X:=ah X scope [x] R fp s H C) S.nd rfl (.inl (lookup_relabel_local (S.own x (by simp)))) (.inr (lookup_relabel_local (S.own x (by simp))))
def nJ (mk:List D->aF->aQ D):aP gi gc ge mk=dh gi 1 (aX 0) gc ge mk:=by
 funext ρ M;unfold aP dh;simp only[sK]
def Ct (hS:cj scope X.env.kindOf [x] R X.N=true)(hc:X.calm=true)(hm:mk=aC\/mk=bM)(hi:PI X (.Name x px) iter (tI X gi))(hts:dN X scope [x] R ifs gc)
  (he:∀fp s H C,PE (ah X scope [x] R fp s H C) elt (tE (ah X scope [x] R fp s H C) ge))
  (hs:∀x,foldedSetIterable iter X.env x=pure x:=by intro _;rfl):PE X (.ListComp elt [⟨.Name x px,iter,ifs,0⟩] scope pos) (tE X (aP gi gc ge mk)):=by
 rw[nJ];exact yX (xs:=[x]) hS hc hm hi (lC (Ry)) (wW hS) hts he hs
def vc (hS:cj scope X.env.kindOf [x] R X.N=true)(hc:X.calm=true)(hm:mk=aC\/mk=bM)(hi:PI X (.Name x px) iter (tI X gi))(hts:dN X scope [x] R ifs gc)
  (he:∀fp s H C,PE (ah X scope [x] R fp s H C) elt (tE (ah X scope [x] R fp s H C) ge))
  (hN:X.N.Nodup) (hj:X.N[j]?=Z y) (hy:X.env.scope.names.lookup y=Z .local)
  (hsw:swapsWith (.ListComp elt [⟨.Name x px,iter,ifs,0⟩] scope pos) (Z (.Name y py)) spos.line X.env=pure true)
  (hs:∀x,foldedSetIterable iter X.env x=pure x:=by intro _;rfl):PS X (.Assign [.Name y py] (.ListComp elt [⟨.Name x px,iter,ifs,0⟩] scope pos) spos) (tS X (aD j (aP gi gc ge mk))):=by
 rw[nJ];exact tQ (xs:=[x]) hS hc hm hi (lC (Ry)) (wW hS) hts he hN hj hy hsw hs
end
def dZ:List D->Option (List Bool)
 | []=>Z []
 | .bl b::r=>(dZ r).map (b::·)
 | _=>Y
def oX:FD:=λds M=>match ds with
 | [d]=>match bx d M with
  | some xs=>match dZ xs with
   | some bs=>.ok (.bl (bs.all id)) M
   | none=>.bad
  | none=>.bad
 | _=>.bad
theorem kK {K:W.Frag}:∀{ds:List D} {vs:List V} {us:List Value} {bs:List Bool},aR K θ H ds vs->aS vs us->dZ ds=Z bs->us=bs.map Value.bool
 | [],vs,us,bs,r,q,e=>by
  have e1:vs=[]:=r;subst e1;cases q;cases e;rfl
 | d::ds,vs,us,bs,r,q,e=>by
  refine q2x3 r λv rr e1 h1 h2=>?_;subst e1;cases d with
  | bl b=>
   cases qb:dZ ds with
   | none=>simp[dZ,qb] at e
   | some bs'=>
    simp[dZ,qb] at e;subst e;have e2:v=.bl b:=h1;subst e2;cases q with
    | cons q1 q2=>
     cases q1;rw[map_cons,kK h2 q2 qb]
  | _=>simp[dZ] at e
def yr (bs:List Bool):(Lw bs.length).all (λi=>bs.getD i false)=bs.all id:=by
 rw[Bool.eq_iff_iff];simp only[all_eq_true,mem_range,id];constructor
 ·intro h b hb;obtain⟨i,hi,e⟩:=mem_iff_getElem.mp hb;have:=h i hi;rw[getD_eq_getElem?_getD,getElem?_eq_getElem hi] at this;rw[<-e];exact this
 ·intro h i hi;rw[getD_eq_getElem?_getD,getElem?_eq_getElem hi];exact h _ (getElem_mem hi)
section
variable {X:Cx}
def m9 (bs:List Bool):TruthOf prog w A (λi v=>((bs.map Value.bool).toArray)[i]?=Z v) (λi=>bs.getD i false):=λi v s Q E hP hQ=>by
 have hP:(bs.map Value.bool)[i]?=Z v:=by simpa using hP
 rw[getElem?_map] at hP;cases q:bs[i]? with
 | none=>rw[q] at hP;cases hP
 | some b=>
  rw[q] at hP;cases hP;have e:bs.getD i false=b:=by rw[getD_eq_getElem?_getD,q];rfl
  dsimp only at hQ;rw[e] at hQ;exact wpAny_truthy_bool hQ
def uW {bs:List Bool}(hc:X.calm=true)(I:L2.Inv X af σ H s)(hw:Wr X.K θ H M)(rv:dj X.K θ H d v)(ru:bg v u)(q:bx d M=Z xs)(qb:dZ xs=Z bs){Q:Bool->Hp->Prop}{f:(Nat->Bool)->Nat->Bool}
  (h:∀h' tk,L2.Inv X af σ H {s with heap:=h',toks:=tk}->Q (f (λi=>bs.getD i false) bs.length) H) :
  wpAny (model X.prog X.w) X.A.in1 (pyIter u) (λit s₂=>∃I fp wr n P St tr,it=.ref I/\Walks X.prog X.w X.A.in1 I fp wr n P St/\St 0 s₂.heap/\TruthOf X.prog X.w X.A.in1 P tr/\
   ∀h' tk,(∀b o,b∉wr->s₂.heap.get? b=Z o->h'.get? b=Z o)->EP X af σ (λv H=>∃b,v=.bl b/\Q b H) (.bool (f tr n)) {s₂ with heap:=h',toks:=tk}) E s:=by
 have hh:X.A.in1.handled=Y:=I.ok.hd hc;refine q2x3 (ox hw rv q) λa vs ea sq ra=>?_;subst ea;cases ru;rcases sq with sq|sq
 ·refine q1x3 (I.list sq) λits r1 p hz=>?_;have e:=kK ra r1 qb;subst e;have hlt:a<s.heap.objs.size:=by refine q2x2 p λo n e _=>?_;exact Heap.lt_size e
  refine wpAny_pyIter_list p.isList ⟨s.heap.objs.size,_,_,_,_,_,_,rfl,Walks.list hh s.heap.objs.size a (LR hlt) _,⟨⟨_,Heap.get?_push_size _ rfl,rfl,rfl⟩,p.isList.push _⟩,m9 bs,λh' tk k=>?_⟩;have I':L2.Inv X af σ H {s with heap:=h',toks:=tk}:=I.kept λb o e=>k b o (by have:=Heap.lt_size e;simp;exact LR this) (Heap.get?_push_of_some _ e)
  refine⟨.bl _,H,I',rfl,_,rfl,?_⟩;have:=h h' tk I';simpa using this
 ·refine q1x3 (I.tuple sq) λits r1 p hz=>?_;have e:=kK ra r1 qb;subst e;have hlt:a<s.heap.objs.size:=by refine q1x2 p λo e _=>?_;exact Heap.lt_size e
  have pt:s.heap.IsTuple a (bs.map Value.bool).toArray:=p;refine wpAny_pyIter_tuple pt ⟨s.heap.objs.size,_,_,_,_,_,_,rfl,Walks.tuple hh s.heap.objs.size a (LR hlt) _,⟨⟨_,Heap.get?_push_size _ rfl,rfl,rfl⟩,?_⟩,m9 bs,λh' tk k=>?_⟩
  ·refine q1x2 p λo e r=>?_;exact⟨o,Heap.get?_push_of_some _ e,r⟩
  have I':L2.Inv X af σ H {s with heap:=h',toks:=tk}:=I.kept λb o e=>k b o (by have:=Heap.lt_size e;simp;exact LR this) (Heap.get?_push_of_some _ e)
  refine⟨.bl _,H,I',rfl,_,rfl,?_⟩;have:=h h' tk I';simpa using this
def EC (hc:X.calm=true):cG X (.builtin "all") (rC X oX):=by
 intro af s σ H xs us Q I r h;obtain⟨θ,M,ds,hw,rd,h⟩:=h;unfold oX at h;split at h
 ·rename_i d;obtain⟨v,e,rv⟩:=jY rd;subst e;obtain⟨u,rfl,ru⟩:=js r;split at h
  ·rename_i ys q;split at h
   ·rename_i bs qb;refine bR (call_all_walk (uW hc I hw rv ru q qb (Q:=λb H=>Q (.bl b) H) (f:=λtr n=>(Lw n).all tr) (λh' tk I'=>?_))) λu' s' ⟨v',H',I',r',b,eb,q'⟩=>⟨v',H',I',r',by rw[eb];exact q'⟩
    rw[yr];exact h _ θ H (.refl hw) rfl
   ·exact h.elim
  ·exact h.elim
 ·exact h.elim
def JE:D->Option String
 | .non=>Z "NoneType"
 | .bl _=>Z "bool"
 | .int _=>Z "int"
 | .str _=>Z "str"
 | .tup _=>Z "tuple"
 | .lst _=>Z "list"
 | .ro _=>Z "list"
 | _=>Y
def Ai (d:D)(M:aF):Option String:=match d with
 | .mr k=>match M[k]? with
  | some (.lst _)=>Z "list"
  | _=>Y
 | d=>JE d
def vD (t T:String):Bool:=t==T||(t=="bool"&&T=="int")
def jA (T:String)(g:GE):GE:=λρ M=>(g ρ M).bind λd M1=>match Ai d M1 with
 | some t=>.ok (.bl (vD t T)) M1
 | none=>.bad
def lR (T:String):Prop:=T="int"\/T="bool"\/T="str"\/T="tuple"\/T="list"
def dF (K:W.Frag)(hT:lR T):∀t∈["NoneType","bool","int","str","tuple","list"],W.kitOne K (.type t) (.type T)=Z (vD t T):=by
 intro t ht;simp only[mem_cons,mem_nil_iff,or_false] at ht;rcases hT with rfl|rfl|rfl|rfl|rfl <;> rcases ht with rfl|rfl|rfl|rfl|rfl|rfl <;> rfl
def Fq (hT:lR T):cG X (.builtin "isinstance") (λxs H Q=>∃θ M d v,Wr X.K θ H M/\dj X.K θ H d v/\xs=[v,.ty T]/\aN X θ H Q (match Ai d M with|some t=>.ok (.bl (vD t T)) M|none=>.bad)):=by
 intro af s σ H xs us Q I r h;obtain⟨θ,M,d,v,hw,rv,e,h⟩:=h;subst e;obtain⟨u,c,rfl,ru,rc⟩:=yW r;cases rc;have fin:∀t tk,Ai d M=Z t->EP X af σ Q (.bool (vD t T)) {s with toks:=tk}:=λt tk e=>by
  rw[e] at h;exact⟨.bl _,H,I.tok _,rfl,h _ θ H (.refl hw) rfl⟩
 cases d with
 | non=>have e:v=.non:=rv;subst e;cases ru;exact W.kia_one W.kitx_none I.kIn UG (dF X.K hT "NoneType" (by simp)) (λz=>nomatch z) λtk=>fin _ tk rfl
 | bl b=>have e:v=.bl b:=rv;subst e;cases ru;exact W.kia_one W.kitx_bool I.kIn UG (dF X.K hT "bool" (by simp)) (λz=>nomatch z) λtk=>fin _ tk rfl
 | int i=>have e:v=.int i:=rv;subst e;obtain⟨t,rfl⟩:=ru;exact W.kia_one W.kitx_int I.kIn UG (dF X.K hT "int" (by simp)) (λz=>nomatch z) λtk=>fin _ tk rfl
 | str i=>have e:v=.str i:=rv;subst e;obtain⟨t,rfl⟩:=ru;exact W.kia_one W.kitx_str I.kIn UG (dF X.K hT "str" (by simp)) (λz=>nomatch z) λtk=>fin _ tk rfl
 | tup ds=>
  obtain⟨a,vs,e,ta,ra⟩:=rv;subst e;cases ru;obtain⟨its,_,⟨o,h1,h2,_⟩,_⟩:=I.tuple ta.sq;exact W.kia_one W.kitx_tuple I.kIn ⟨o,h1,h2⟩ (dF X.K hT "tuple" (by simp)) (λz=>nomatch z) λtk=>fin _ tk rfl
 | lst ds=>
  obtain⟨a,vs,e,ta,ra⟩:=rv;subst e;cases ru;obtain⟨its,_,⟨o,n,h1,h2,_⟩,_⟩:=I.list (ta.sq (K:=X.K));exact W.kia_one W.kitx_list I.kIn ⟨o,h1,h2⟩ (dF X.K hT "list" (by simp)) (λz=>nomatch z) λtk=>fin _ tk rfl
 | ro ds=>
  obtain⟨a,vs,e,ta,ra⟩:=rv;subst e;cases ru;obtain⟨its,_,⟨o,n,h1,h2,_⟩,_⟩:=I.list ta.sq;exact W.kia_one W.kitx_list I.kIn ⟨o,h1,h2⟩ (dF X.K hT "list" (by simp)) (λz=>nomatch z) λtk=>fin _ tk rfl
 | mr k=>
  obtain⟨a,e,ta⟩:=rv;subst e;cases ru;cases qm:M[k]? with
  | none=>simp only[Ai,qm] at h;exact h.elim
  | some m=>
   cases m with
   | lst ys=>
    obtain⟨vs,hv,_⟩:=hw.at_ k a _ ta qm;obtain⟨its,_,⟨o,n,h1,h2,_⟩,_⟩:=I.list (X:=X) (xs:=vs) (.inl (.inl hv));exact W.kia_one W.kitx_list I.kIn ⟨o,h1,h2⟩ (dF X.K hT "list" (by simp)) (λz=>nomatch z) λtk=>fin _ tk (by simp only[Ai,qm])
   | _=>simp only[Ai,qm] at h;exact h.elim
 | exc c=>exact h.elim
 | any=>exact h.elim
def DY (hT:lR T)(hv:bootBuiltins x=Z (.type T))(hg:Gl X x)(hm:X.mg x=Y)(hgi:Gl X "isinstance")(hmi:X.mg "isinstance"=Y)(he:PE X e (tE X g))
  (hn:x≠"__name__":=by decide) (hd:(x==("__debug__":Str))=false:=by decide) (hbi:bootBuiltins "isinstance"=Z (.builtin "isinstance"):=by kernel_rfl) (hs:starEach [e,.Name x p2] X.env=(false,eval e X.env)::starEach [.Name x p2] X.env:=by rfl)
  (hs2:starEach [.Name x p2] X.env=(false,eval (.Name x p2) X.env)::starEach [] X.env:=by rfl) (hpl:(backTo pos (starEach [.Name x p2] X.env)).any (·.1)=false:=by rfl) :
  PE X (.Call (.Name "isinstance" p) [e,.Name x p2] [] pos) (tE X (jA T g)):=
 (mf (Fq hT) hgi hmi hbi (io he (io (BY hg hm hv (v:=.ty T) rfl hn hd) kM hs2) hs) (by decide) (by decide) hs hpl).of λσ H Q hxx=>by
  refine q3x3 hxx λρ θ M hd hw h=>?_;refine cU hd hw (aN X θ H Q) (λc M' h=>h) (λh=>h) h λd M1 v θ1 H1 g1 r1 h1=>?_
  exact⟨θ1,M1,d,v,g1.wr,r1,rfl,aN.go g1 h1⟩
end
def jT:D->Bool
 | .non=>true
 | .bl _=>true
 | .int _=>true
 | .str _=>true
 | _=>false
def Gu:D->V
 | .non=>.non
 | .bl b=>.bl b
 | .int i=>.int i
 | .str x=>.str x
 | _=>.non
def wo {K:W.Frag}(r:dj K θ H d v)(f:jT d=true):v=Gu d/\kE v=true:=by
 cases d with
 | non=>have e:v=.non:=r;subst e;exact⟨rfl,rfl⟩
 | bl b=>have e:v=.bl b:=r;subst e;exact⟨rfl,rfl⟩
 | int b=>have e:v=.int b:=r;subst e;exact⟨rfl,rfl⟩
 | str b=>have e:v=.str b:=r;subst e;exact⟨rfl,rfl⟩
 | _=>cases f
theorem tN {K:W.Frag}:∀{ds:List D} {vs:List V},aR K θ H ds vs->ds.all jT=true->vs=ds.map Gu/\vs.all kE=true
 | [],vs,r,f=>by have e:vs=[]:=r;subst e;exact⟨rfl,rfl⟩
 | d::ds,vs,r,f=>by
  refine q2x3 r λv rr e h1 h2=>?_;subst e;rw[all_cons,LN] at f;refine q0x2 (wo h1 f.1) λe1 f1=>?_;refine q0x2 (tN h2 f.2) λe2 f2=>?_;exact⟨by rw[map_cons,<-e1,<-e2],by rw[all_cons,f1,f2];rfl⟩
def B9 (fx:jT x=true)(fy:jT y=true):Bt (Gu x) (Gu y)=pq x y:=by
 cases x <;> first|exact ff fx|(cases y <;> first|exact ff fy|rfl)
theorem wL:∀{ds:List D},jT x=true->ds.all jT=true->Jx (Gu x) (ds.map Gu)=ds.any λy=>pq y x
 | [],fx,fs=>rfl
 | d::ds,fx,fs=>by
  rw[all_cons,LN] at fs;have ih:=wL (x:=x) (ds:=ds) fx fs.2;unfold Jx at ih ⊢;rw[map_cons,any_cons,any_cons,ih,B9 fs.1 fx]
def oy (neg:Bool):F2:=λx y M=>match bx y M with
 | some xs=>if jT x&&xs.all jT then .ok (.bl ((xs.any λy=>pq y x) != neg)) M else .bad
 | none=>.bad
section
variable {X:Cx}
def Jn:iH X (compareOp .In) (rD X (oy false)):=by
 intro af s σ H x y v u Q I rx ry h;refine q4x4 h λθ M dx dy hw r1 r2 h=>?_;unfold oy at h;split at h
 ·rename_i xs q;split at h
  ·rename_i hc;rw[LN] at hc;refine q2x3 (ox hw r2 q) λa vs ea sq ra=>?_;refine q0x2 (wo r1 hc.1) λe1 f1=>?_;refine q0x2 (tN ra hc.2) λe2 f2=>?_;refine yl af s σ H x y v u Q I rx ry ⟨a,vs,ea,sq,f1,f2,?_⟩;have:=h _ θ H (.refl hw) rfl;rw[Tz] at this;rw[if_neg (by decide),e1,e2,wL hc.1 hc.2];exact this
  ·exact h.elim
 ·exact h.elim
end
section
variable {prog:Program}{w:World}{A:Around}{E:Value->Shared->Prop}{s:Shared}
theorem kB {f:α->Option β}{g:α->β}:∀(l:List α),(∀k∈l,f k=Z (g k))->l.filterMap f=l.map g
 | [],_=>rfl
 | k::l,h=>by rw[filterMap_cons,h k mem_cons_self,map_cons,kB l λk' hk=>h k' (mem_cons_of_mem _ hk)]
def zw (xs:Array Value):((Lw xs.size).filterMap λ(k:Nat)=>xs[(((xs.size:Int)-1)+(k:Int)*(-1)).toNat]?).toArray=xs.toList.reverse.toArray:=by
 congr 1;have e:∀k∈Lw xs.size,xs[(((xs.size:Int)-1)+(k:Int)*(-1)).toNat]?=Z (xs.toList.reverse.getD k .none):=λk hk=>by
  have hk:=mem_range.mp hk;have e1:(((xs.size:Int)-1)+(k:Int)*(-1)).toNat=xs.size-1-k:=by omega
  rw[e1,getD_eq_getElem?_getD,getElem?_reverse (by simpa using hk)];simp;rw[LS (by omega)];rfl
 rw[kB _ e];apply ext_getElem
 ·simp
 ·intro i h1 h2;simp at h1 h2 ⊢;rw[getElem?_eq_getElem (by simpa using h2)];simp
def lD {t:Addr}(ht:IsTup s.heap t items)(hs:s.heap.IsSliceOf sl .none .none (.int (-1) tk))
  (h:Q (.ref s.heap.objs.size) {s with heap:=s.heap.push {cls:=.type "tuple",data:=.seq items.toList.reverse.toArray}}) (hsz:items.size<=sizeLine):wpAny (model prog w) A (getItem (.ref t) (.ref sl)) Q E s:=by
 have hrev:sizeOk (.seq items.toList.reverse.toArray):=by
  show items.toList.reverse.toArray.size<=sizeLine;simpa using hsz
 refine q1x3 (id hs) λos hos hcs hds=>?_;have hTs:s.TypeIs (.ref sl) "slice":=⟨os,hos,hcs⟩;unfold getItem
 try with_reducible refine wpAny_holding ?_
 first|refine wpAny_bind (wpAny_pure ?_)|skip
 refine wpAny_bind (wpAny_sequenceKey ht.typeIs (by decide) ?_);refine wpAny_bind (wpAny_callSpecial?_slot (name:=Str.ofString "__getitem__") ht.typeIs Mw
  (wpAny_call_entry Mw ht.typeIs entry_tuple_getitem ?_ (args_tuple_getitem _ _)))
 show wpAny _ _ (Builtin.Tuple.tupleItemsOf (.ref t) >>= _) _ _ s;refine wpAny_bind (tupleItemsOf_ ht ?_);refine wpAny_bind (wpAny_typeOf hTs ?_);rw[if_pos (by decide)];refine wpAny_bind ?_;unfold Builtin.Slice.sliceApplied Builtin.Slice.sliceFields;refine wpAny_bind (wpAny_bind (wpAny_field hos hds (x:=.none) rfl (wpAny_bind (wpAny_field hos hds (x:=.none) rfl (wpAny_bind (wpAny_field hos hds (x:=.int (-1) tk) rfl (wpAny_pure ?_)))))));refine wpAny_bind (slicePart_int ?_);show wpAny _ _ (if((-1:Int)==0)=true then _ else _) _ _ s;rw[if_neg (by decide)];refine wpAny_bind (slicePart_none (wpAny_bind (slicePart_none (wpAny_bind (wpAny_pure ?_)))));have ea:Builtin.Slice.sliceAdjust Y Y (-1) (items.size:Int)=((items.size:Int)-1,-1):=by
  unfold Builtin.Slice.sliceAdjust;simp
 have ep:Builtin.Slice.slicePlaces ((items.size:Int)-1) (-1) (-1)=items.size:=by
  unfold Builtin.Slice.slicePlaces;simp only[show¬((-1:Int)>0) by decide,if_false]
  by_cases hz:items.size=0
  ·rw[hz];decide
  ·rw[if_pos (by omega)];simp
 show wpAny _ _ (match Builtin.Slice.sliceAdjust Y Y (-1) (items.size:Int) with|(lo,hi)=>pure (lo,(-1:Int),Builtin.Slice.slicePlaces lo hi (-1))) _ _ s;rw[ea];show wpAny _ _ (pure ((items.size:Int)-1,(-1:Int),Builtin.Slice.slicePlaces ((items.size:Int)-1) (-1) (-1))) _ _ s;rw[ep];refine wpAny_pure ?_;have hno:¬((((items.size:Int)-1)==0&&(-1:Int)==1&&items.size==items.size)=true):=by
  intro q;rw[LN,LN] at q;exact absurd q.1.2 (by decide)
 show wpAny _ _ (if((((items.size:Int)-1)==0&&(-1:Int)==1&&items.size==items.size))=true then _ else _) _ _ s;rw[if_neg hno,zw]
 first
  | exact wpAny_bind (m:=Builtin.Tuple.tupleExact _) (wpAny_newObj_type (wpAny_pure ⟨_,rfl,wpAny_pure h⟩) hrev)
  | exact wpAny_bind (m:=Builtin.Tuple.tupleExact _) (wpAny_newObj_type (wpAny_bind (wpAny_pure (wpAny_pure ⟨_,rfl,wpAny_pure h⟩))) hrev)
  | exact wpAny_bind (wpAny_bind (m:=Builtin.Tuple.tupleExact _) (wpAny_newObj_type (wpAny_pure (wpAny_pure ⟨_,rfl,wpAny_pure h⟩)) hrev))
  | exact wpAny_bind (wpAny_bind (m:=Builtin.Tuple.tupleExact _) (wpAny_newObj_type (wpAny_pure ⟨_,rfl,wpAny_pure h⟩) hrev))
end
def vZ (g:GE):GE:=λρ M=>(g ρ M).bind λx M1=>match x with
 | .tup xs=>.ok (.tup xs.reverse) M1
 | _=>.bad
theorem mi {K:W.Frag}:∀{ds:List D} {vs:List V},aR K θ H ds vs->aR K θ H ds.reverse vs.reverse
 | [],vs,r=>by have e:vs=[]:=r;subst e;exact rfl
 | d::ds,vs,r=>by
  refine q2x3 r λv rr e h1 h2=>?_;subst e;rw[reverse_cons,reverse_cons];exact cQ (mi h2) ⟨v,[],rfl,h1,rfl⟩
section
variable {X:Cx}
def DH {i j p1 p2 p3 pos}(hi:i=1)(he:PE X e (tE X g)):PE X (.Subscript e (.Slice Y Y (Z (.UnaryOp .USub (.Constant (.int i) j p1) p2)) p3) pos) (tE X (vZ g)):=by
 subst hi;intro af s σ H Q I h;refine q3x3 h λρ θ M hd hw h=>?_;have h2:tE X g σ H (λx H1=>∃a vs,x=.ref a/\nH X.K H1 a vs/\∀p,H1 p=Y->Q (.ref p) (bG H1 p (.tup vs.reverse))):=by
  refine cU hd hw (aN X θ H Q) (λc M' h=>h) (λh=>h) h λd M1 v θ1 H1 g1 r1 h1=>?_
  split at h1
  ·rename_i xs;refine q2x3 r1 λa vs e1 ta ra=>?_;exact⟨a,vs,e1,ta.sq,λp hp=>h1 _ θ1 _ (g1.trans (cq g1.wr hp)) (dY g1.wr hp (mi ra))⟩
  ·exact h1.elim
 refine Subscript_ (bR (he af s σ H _ I h2) λv s1 hxx=>?_);obtain⟨x,H1,I1,r1,a,vs,ex,sq,q1⟩:=hxx;subst ex;cases r1;refine wpAny_Slice ?_;rw[evalPart_none];refine wpAny_pure (wpAny_pure ?_);rw[evalPart_some];refine bR ((Dz zB AK) af s1 σ H1 (λy H'=>y=.int (-1)/\H'=H1) I1 ⟨1,rfl,rfl,rfl⟩) λvst s3 hxx=>?_
 refine q2x4 hxx λy H3 I3 r3 ey eH=>?_;subst ey;subst eH;refine q1x1 r3 λtk zz1=>?_;subst zz1;have I4:L2.Inv X af σ H3 {s3 with heap:=s3.heap.push {cls:=.type "slice",data:=.fields #[.none,.none,.int (-1) tk]}}:=I3.kept (t':=s3.toks) λb ob q=>Heap.get?_push_of_some _ q
 refine q1x3 (I4.tuple sq) λits rv ht hz=>?_;have hlen:its.toArray.size=vs.length:=by rw[size_toArray];exact rv.length.symm
 refine tail_any (ops:=[.ref a,.ref s3.heap.objs.size]) ht.typeIs Mw.lookup (lD ht (Heap.IsSliceOf.new ..) ?_ (by rw[hlen];exact hz)) (by with_unfolding_all rfl);refine⟨.ref _,_,I4.laid (t':=s3.toks) (o:=.tup vs.reverse) (λb ob q=>Heap.get?_push_of_some _ q) (Lr _) ?_,rfl,q1 _ (I4.hok.fresh (Lr _))⟩;exact⟨by rw[length_reverse];exact hz,_,rv.reverse,IsTup.new _ _⟩
def sN (k:Nat)(x:D)(M:aF):aQ D:=match M[k]? with
 | some (.lst xs)=>if xs.length<sizeLine then .ok .non (M.set k (.lst (xs++[x]))) else .bad
 | _=>.bad
def jC (go ge:GE):GE:=λρ M=>(go ρ M).bind λo M1=>match o with
 | .mr k=>match M1[k]? with
  | some (.lst _)=>(ge ρ M1).bind (sN k)
  | _=>.bad
 | _=>.bad
def xD {go:GE}(ho:PE X o (tE X go))(he:PE X e (tE X ge))
  (hbase:attributeBase o "append" X.env (eval o X.env)=eval o X.env:=by rfl)
  (hfew:((backTo cpos (starEach [e] X.env)).all (λx=>!x.1)&&(backToKw cpos (keywordEach [] X.env)).all (λx=>x.1.isSome)
   && decide ([e].length+([]:List Keyword).length+(if([]:List Keyword).isEmpty then 0 else 1)<30))=true:=by rfl)
  (hline:(apos.endLine==cpos.line)=true:=by rfl) (hs:starEach [e] X.env=(false,eval e X.env)::starEach [] X.env:=by rfl) (hplain:(backTo cpos (starEach [] X.env)).any (·.1)=false:=by rfl) :
  PE X (.Call (.Attribute o "append" apos) [e] [] cpos) (tE X (jC go ge)):=
 (IT PySem.F.plainAttrs_list PySem.F.slot_list_append PySem.F.type_list_append xQ ho (io he kM hs) hbase hfew hline hs hplain).of λσ H Q hxx=>by
  refine q3x3 hxx λρ θ M hd hw h=>?_;refine cU hd hw (aN X θ H Q) (λc M' h=>h) (λh=>h) h λd M1 v θ1 H1 g1 r1 h1=>?_
  have h2:=aN.go g1 h1;cases d with
  | mr k=>
   have h2:aN X θ1 H1 Q (match M1[k]? with|some (.lst _)=>(ge ρ M1).bind (sN k)|_=>.bad):=h2;cases qm1:M1[k]? with
   | none=>rw[qm1] at h2;exact h2.elim
   | some m1=>
    cases m1 with
    | obj _ _=>rw[qm1] at h2;exact h2.elim
    | dK _=>rw[qm1] at h2;exact h2.elim
    | dT _=>rw[qm1] at h2;exact h2.elim
    | lst ys1=>
     rw[qm1] at h2;refine q1x2 (id r1) λa1 ea1 ta1=>?_;refine q1x2 (g1.wr.at_ k a1 _ ta1 qm1) λvs1 hv1 _=>?_;refine⟨by rw[ea1];exact .inl ⟨rfl,vs1,.inl (.inl hv1)⟩,?_⟩;refine cU (hd.go g1) g1.wr (aN X θ1 H1 Q) (λc M' h=>h) (λh=>h) h2 λdx M2 vx θ2 H2 g2 r2 h3=>?_
     have h3:aN X θ1 H1 Q (match M2[k]? with|some (.lst xs)=>if xs.length<sizeLine then .ok .non (M2.set k (.lst (xs++[dx]))) else .bad|_=>.bad):=h3;refine q1x2 (r1.go g2) λa ea ta=>?_;cases qm:M2[k]? with
     | none=>rw[qm] at h3;exact h3.elim
     | some m=>
      cases m with
      | obj _ _=>rw[qm] at h3;exact h3.elim
      | dK _=>rw[qm] at h3;exact h3.elim
      | dT _=>rw[qm] at h3;exact h3.elim
      | lst ys=>
       rw[qm] at h3;refine q1x2 (g2.wr.at_ k a _ ta qm) λvs hv ra=>?_;have h3:aN X θ1 H1 Q (if ys.length<sizeLine then .ok .non (M2.set k (.lst (ys++[dx]))) else .bad):=h3;split at h3
       ·rename_i hl;have gs:=AF (ds:=ys) g2.wr ta (cQ ra (show aR X.K θ2 H2 [dx] [vx] from⟨vx,[],rfl,r2,rfl⟩));exact⟨a,vs,vx,ea,rfl,hv,by rw[<-aq ra];exact hl,h3 _ θ2 _ (g2.trans gs) rfl⟩
       ·exact h3.elim
  | _=>exact h2.elim
end
def bv (f:D->Option D):List D->Option (List D)
 | []=>Z []
 | d::ds=>match f d,bv f ds with
  | some x,Z xs=>Z (x::xs)
  | _,_=>Y
def frz (n:Nat)(M:aF):Nat->D->Option D
 | 0,_=>Y
 | f+1,d=>match d with
  | .mr k=>if k<n then Z (.mr k) else match M[k]? with
   | some (.lst xs)=>(bv (frz n M f) xs).map .lst
   | _=>Y
  | .tup xs=>(bv (frz n M f) xs).map .tup
  | .lst xs=>(bv (frz n M f) xs).map .lst
  | .ro xs=>(bv (frz n M f) xs).map .ro
  | d=>Z d
def uA (f:D->Option D):List (Str×D)->Option (List (Str×D))
 | []=>Z []
 | (x,d)::r=>match f d,uA f r with
  | some e,Z r'=>Z ((x,e)::r')
  | _,_=>Y
def o9 {κ:Type}(f:D->Option D):List (κ×D)->Option (List (κ×D))
 | []=>Z []
 | (x,d)::r=>match f d,o9 f r with
  | some e,Z r'=>Z ((x,e)::r')
  | _,_=>Y
def gD (n:Nat)(M:aF):List MO->Option (List MO)
 | []=>Z []
 | .lst xs::r=>match bv (frz n M 30) xs,gD n M r with
  | some ys,Z r'=>Z (.lst ys::r')
  | _,_=>Y
 | .obj c fs::r=>match uA (frz n M 30) fs,gD n M r with
  | some gs,Z r'=>Z (.obj c gs::r')
  | _,_=>Y
 | .dK fs::r=>match o9 (frz n M 30) fs,gD n M r with
  | some gs,Z r'=>Z (.dK gs::r')
  | _,_=>Y
 | .dT fs::r=>match o9 (frz n M 30) fs,gD n M r with
  | some gs,Z r'=>Z (.dT gs::r')
  | _,_=>Y
def jO (n:Nat)(o:aQ D):aQ D:=match o with
 | .ok d M=>if M.length=n then .ok d M else match frz n M 30 d,gD n M (M.take n) with
  | some d',Z M'=>.ok d' M'
  | _,_=>.bad
 | .err c M=>if M.length=n then .err c M else match gD n M (M.take n) with
  | some M'=>.err c M'
  | none=>.bad
 | .bad=>.bad
section
variable {K:W.Frag}{θ more:List Addr}{H:Hp}{M:aF}{n:Nat}
theorem gH:∀{ds es:List D} {vs:List V},bv f ds=Z es->aR K θ' H ds vs->(∀d∈ds,∀e v,f d=Z e->dj K θ' H d v->dj K θ H e v)->aR K θ H es vs
 | [],es,vs,h,r,k=>by cases h;exact r
 | d::ds,es,vs,h,r,k=>by
  refine q2x3 r λv rr e h1 h2=>?_;unfold bv at h;cases q1:f d with
  | none=>rw[q1] at h;cases h
  | some x=>
   cases q2:bv f ds with
   | none=>rw[q1,q2] at h;cases h
   | some xs=>
    rw[q1,q2] at h;cases h;exact⟨v,rr,e,k d mem_cons_self x v q1 h1,gH q2 h2 λd' hd=>k d' (mem_cons_of_mem _ hd)⟩
theorem m5 (hw:Wr K (θ++more) H M)(hn:θ.length=n):∀(f:Nat) (d e:D) (v:V),frz n M f d=Z e->dj K (θ++more) H d v->dj K θ H e v
 | 0,d,e,v,h,r=>by cases h
 | f+1,d,e,v,h,r=>by
  have ih:=m5 hw hn f;have sub:∀{a:Addr},a∉θ++more->a∉θ:=λ{a} z y=>z (mem_append_left _ y)
  cases d with
  | mr k=>
   refine q1x2 r λa ea ta=>?_
   by_cases hk:k<n
   ·have h:(if k<n then Z (D.mr k) else _)=Z e:=h;rw[if_pos hk] at h;cases h;exact⟨a,ea,by rw[getElem?_append_left (by rw[hn];exact hk)] at ta;exact ta⟩
   ·have h:(if k<n then Z (D.mr k) else match M[k]? with|some (.lst xs)=>(bv (frz n M f) xs).map .lst|_=>Y)=Z e:=h;rw[if_neg hk] at h;cases qm:M[k]? with
    | none=>rw[qm] at h;cases h
    | some m=>
     cases m with
     | lst xs=>
      rw[qm] at h;have h:(bv (frz n M f) xs).map D.lst=Z e:=h;refine q1x2 (hw.at_ k a _ ta qm) λvs hv ra=>?_;cases qo:bv (frz n M f) xs with
      | none=>rw[qo] at h;cases h
      | some ys=>
       rw[qo] at h;cases h;refine⟨a,vs,ea,⟨hv,λz=>?_⟩,gH qo ra λd _ e v=>ih d e v⟩;rw[getElem?_append_right (by omega)] at ta;have hm:=mem_of_getElem? ta;exact(nodup_append.mp hw.nd).2.2 a z a hm rfl
     | _=>rw[qm] at h;cases h
  | tup xs=>
   have h:(bv (frz n M f) xs).map D.tup=Z e:=h;cases qo:bv (frz n M f) xs with
   | none=>rw[qo] at h;cases h
   | some ys=>
    rw[qo] at h;cases h;refine q2x3 r λa vs ea ta ra=>?_;exact⟨a,vs,ea,⟨ta.1,sub ta.2⟩,gH qo ra λd _ e v=>ih d e v⟩
  | lst xs=>
   have h:(bv (frz n M f) xs).map D.lst=Z e:=h;cases qo:bv (frz n M f) xs with
   | none=>rw[qo] at h;cases h
   | some ys=>
    rw[qo] at h;cases h;refine q2x3 r λa vs ea ta ra=>?_;exact⟨a,vs,ea,⟨ta.1,sub ta.2⟩,gH qo ra λd _ e v=>ih d e v⟩
  | ro xs=>
   have h:(bv (frz n M f) xs).map D.ro=Z e:=h;cases qo:bv (frz n M f) xs with
   | none=>rw[qo] at h;cases h
   | some ys=>
    rw[qo] at h;cases h;refine q2x3 r λa vs ea ta ra=>?_;refine⟨a,vs,ea,?_,gH qo ra λd _ e v=>ih d e v⟩;rcases ta with⟨t1,t2⟩|t
    ·exact .inl ⟨t1,sub t2⟩
    ·exact .inr t
  | non=>cases h;exact r
  | bl b=>cases h;exact r
  | int b=>cases h;exact r
  | str b=>cases h;exact r
  | exc c=>
   cases h;refine q2x4 r λa C ea kc t1 t2=>?_;exact⟨a,C,ea,kc,t1,sub t2⟩
  | any=>cases h;exact r
theorem wK:∀{fs gs:List (Str×D)} {vs:List (Str×V)},uA f fs=Z gs->yf K θ' H fs vs->(∀d e v,f d=Z e->dj K θ' H d v->dj K θ H e v)->yf K θ H gs vs
 | [],gs,vs,h,r,k=>by cases h;exact r
 | (x,d)::fs,gs,vs,h,r,k=>by
  refine q2x3 r λv rr e h1 h2=>?_;unfold uA at h;cases q1:f d with
  | none=>rw[q1] at h;cases h
  | some y=>
   cases q2:uA f fs with
   | none=>rw[q1,q2] at h;cases h
   | some ys=>
    rw[q1,q2] at h;cases h;exact⟨v,rr,e,k d y v q1 h1,wK q2 h2 k⟩
theorem qR:∀{fs gs:List (κ×D)} {vs:List (κ×V)},o9 f fs=Z gs->u4 K θ' H fs vs->(∀d e v,f d=Z e->dj K θ' H d v->dj K θ H e v)->u4 K θ H gs vs
 | [],gs,vs,h,r,k=>by cases h;exact r
 | (x,d)::fs,gs,vs,h,r,k=>by
  refine q2x3 r λv rr e h1 h2=>?_;unfold o9 at h;cases q1:f d with
  | none=>rw[q1] at h;cases h
  | some y=>
   cases q2:o9 f fs with
   | none=>rw[q1,q2] at h;cases h
   | some ys=>
    rw[q1,q2] at h;cases h;exact⟨v,rr,e,k d y v q1 h1,qR q2 h2 k⟩
theorem lY (hw:Wr K (θ++more) H M)(hn:θ.length=n):∀(l l':List MO),gD n M l=Z l'->l'.length=l.length/\∀(i:Nat) m m' a,l[i]?=Z m->l'[i]?=Z m'->o5 K (θ++more) H m a->o5 K θ H m' a
 | [],l',h=>by cases h;exact⟨rfl,λi m m' a e=>by simp at e⟩
 | .lst xs::r,l',h=>by
  unfold gD at h;cases q1:bv (frz n M 30) xs with
  | none=>rw[q1] at h;cases h
  | some ys=>
   cases q2:gD n M r with
   | none=>rw[q1,q2] at h;cases h
   | some r'=>
    rw[q1,q2] at h;cases h;refine q0x2 (lY hw hn r r' q2) λhl hr=>?_;refine⟨by rw[length_cons,length_cons,hl],λi m m' a e1 e2 ok=>?_⟩;cases i with
    | zero=>
     have e1:Z (MO.lst xs)=Z m:=e1;have e2:Z (MO.lst ys)=Z m':=e2;cases e1;cases e2;refine q1x2 ok λvs hv ra=>?_;exact⟨vs,hv,gH q1 ra λd _ e v=>m5 hw hn 30 d e v⟩
    | succ i=>exact hr i m m' a e1 e2 ok
 | .obj c fs::r,l',h=>by
  unfold gD at h;cases q1:uA (frz n M 30) fs with
  | none=>rw[q1] at h;cases h
  | some gs=>
   cases q2:gD n M r with
   | none=>rw[q1,q2] at h;cases h
   | some r'=>
    rw[q1,q2] at h;cases h;refine q0x2 (lY hw hn r r' q2) λhl hr=>?_;refine⟨by rw[length_cons,length_cons,hl],λi m m' a e1 e2 ok=>?_⟩;cases i with
    | zero=>
     have e1:Z (MO.obj c fs)=Z m:=e1;have e2:Z (MO.obj c gs)=Z m':=e2;cases e1;cases e2;refine q3x3 ok λC dx vs kC hv ra=>?_;exact⟨C,dx,vs,kC,hv,wK q1 ra λd e v=>m5 hw hn 30 d e v⟩
    | succ i=>exact hr i m m' a e1 e2 ok
 | .dK fs::r,l',h=>by
  unfold gD at h;cases q1:o9 (frz n M 30) fs with
  | none=>rw[q1] at h;cases h
  | some gs=>
   cases q2:gD n M r with
   | none=>rw[q1,q2] at h;cases h
   | some r'=>
    rw[q1,q2] at h;cases h;refine q0x2 (lY hw hn r r' q2) λhl hr=>?_;refine⟨by rw[length_cons,length_cons,hl],λi m m' a e1 e2 ok=>?_⟩;cases i with
    | zero=>
     have e1:Z (MO.dK fs)=Z m:=e1;have e2:Z (MO.dK gs)=Z m':=e2;cases e1;cases e2;refine q1x2 ok λvs hv ra=>?_;exact⟨vs,hv,qR q1 ra λd e v=>m5 hw hn 30 d e v⟩
    | succ i=>exact hr i m m' a e1 e2 ok
 | .dT fs::r,l',h=>by
  unfold gD at h;cases q1:o9 (frz n M 30) fs with
  | none=>rw[q1] at h;cases h
  | some gs=>
   cases q2:gD n M r with
   | none=>rw[q1,q2] at h;cases h
   | some r'=>
    rw[q1,q2] at h;cases h;refine q0x2 (lY hw hn r r' q2) λhl hr=>?_;refine⟨by rw[length_cons,length_cons,hl],λi m m' a e1 e2 ok=>?_⟩;cases i with
    | zero=>
     have e1:Z (MO.dT fs)=Z m:=e1;have e2:Z (MO.dT gs)=Z m':=e2;cases e1;cases e2;refine q1x2 ok λvs hv ra=>?_;exact⟨vs,hv,qR q1 ra λd e v=>m5 hw hn 30 d e v⟩
    | succ i=>exact hr i m m' a e1 e2 ok
def AU {H0:Hp}{M2:aF}{n:Nat}(hn:θ0.length=n)(g:Go K θ0 H0 θ' H' M')(h:gD n M' (M'.take n)=Z M2):Go K θ0 H0 θ0 H' M2:=by
 refine q1x2 g.ext λm em hm=>?_;have hw:=g.wr;rw[em] at hw;refine q0x2 (lY hw hn _ _ h) λhl hr=>?_;have hlen:n<=M'.length:=by rw[<-g.wr.len,em,length_append];omega
 refine⟨⟨⟨[],by simp,λ_ z=>by cases z⟩,g.keep,g.tkeep⟩,by rw[hl,length_take];omega,(nodup_append.mp hw.nd).1,λi a mo e1 e2=>?_,g.wr.tb⟩;have hi:i<n:=by rw[<-hn];exact(Lj.mp e1).1
 have hiM:i<M'.length:=by omega
 refine hr i M'[i] mo a (by rw[getElem?_take_of_lt hi];exact getElem?_eq_getElem hiM) e2 (hw.at_ i a _ ?_ (getElem?_eq_getElem hiM));rw[getElem?_append_left (by rw[hn];exact hi)];exact e1
end
def Fx {K:W.Frag}{k:Nat}(h:fA P w K mg base CX k f fd ps (pG K n F)) :
  fA P w K mg base CX k f fd ps (pG K n λds M=>jO M.length (F ds M)):=h.imp λvs H Q E hxx=>by
 refine q3x4 hxx λθ M ds hl r hw q=>?_;refine⟨θ,M,ds,hl,r,hw,?_⟩;have q:vp K θ H Q E (jO M.length (F ds M)):=q;cases e:F ds M with
 | bad=>rw[e] at q;exact q
 | err c M1=>
  rw[e] at q;have q:vp K θ H Q E (if M1.length=M.length then .err c M1 else match gD M.length M1 (M1.take M.length) with|some M'=>.err c M'|none=>.bad):=q;split at q
  ·exact q
  ·split at q
   ·rename_i M2 e2;exact λC θ' H' a kC g=>q C θ H' a kC (AU hw.len g e2)
   ·exact q.elim
 | ok d M1=>
  rw[e] at q;have q:vp K θ H Q E (if M1.length=M.length then .ok d M1 else match frz M.length M1 30 d,gD M.length M1 (M1.take M.length) with|some d',Z M'=>.ok d' M'|_,_=>.bad):=q;split at q
  ·exact q
  ·split at q
   ·rename_i d' M2 e1 e2;intro v θ' H' g rd;refine q v θ H' (AU hw.len g e2) ?_;refine q1x2 g.ext λm em _=>?_;have hw':=g.wr;rw[em] at hw' rd;exact m5 hw' hw.len 30 d d' v e1 rd
   ·exact q.elim
structure Fn (K:W.Frag)(mg:Str->Option Value)(x:Str)(st:Stmt)(f:Addr)(fd:FuncData)(ps:List Str):Prop where
 F:BC K x x st f fd
 m:mg x=Z (.ref f)
 b:j1 K fd ps []
section
variable {X:Cx}
def vv (i:Nat)(hN:X.N[i]?=Z x:=by rfl)(hv:Gs X.env.scope x:=by first|exact TB rfl|exact So (TB rfl)|exact So (So rfl))(hd:(x==("__debug__":Str))=false:=by decide)
  (hcd:(x==("__classdict__":Str))=false:=by decide):PE X (.Name x pos) (tE X (ae i)):=Gk (EN hN hv hd hcd)
def ss (i:Nat)(hN:X.N.Nodup)(he:PE X e (tE X g))(hi:X.N[i]?=Z x:=by rfl)(hx:zm X.env.scope x:=by first|exact TB rfl|exact So rfl)
  (hs:swapsWith e (Z (.Name x pos')) pos.line X.env=pure false:=by rfl) (hf:X.fn x=true\/X.env.scope.names.lookup x=Z .local:=by first|exact .inl rfl|exact .inr rfl) :
  PS X (.Assign [.Name x pos'] e pos) (tS X (aD i g)):=El hN hi hx he hs hf
def gg (i:Nat)(hN:X.N.Nodup)(hi:X.N[i]?=Z x:=by rfl)(hx:zm X.env.scope x:=by first|exact TB rfl|exact So rfl)(hf:X.fn x=true\/X.env.scope.names.lookup x=Z .local:=by first|exact .inl rfl|exact .inr rfl):PG X (.Name x pos) (tG X (aX i)):=lQ hN hi hx hf
end
def ET {K:W.Frag}{a:Addr}{ns:List Int}(tb:kI K H)(hS:gG K H a (ns.map V.int))(h:∃M',F [.ro (ns.map D.int)] []=.ok (.bl true) M'):pG K 1 F [.ref a] H (λv _=>v=.bl true) E:=by
 refine q1x1 h λM' e=>?_;refine⟨[],[],[.ro (ns.map D.int)],rfl,⟨_,[],rfl,⟨a,ns.map V.int,rfl,?_,?_⟩,rfl⟩,⟨rfl,nodup_nil,λi a m e=>by simp at e,tb⟩,?_⟩
 ·rcases hS with h|h
  ·exact .inl ⟨h,by simp⟩
  ·exact .inr h
 ·clear e
  induction ns with
  | nil=>exact rfl
  | cons n ns ih=>
   refine⟨.int n,ns.map V.int,rfl,rfl,?_⟩;have gen:∀l:List Int,aR K [] H (l.map D.int) (l.map V.int):=by
    intro l
    induction l with
    | nil=>exact rfl
    | cons m l ih=>exact⟨_,_,rfl,rfl,ih⟩
   exact gen ns
 ·rw[e];exact λv θ' H' g r=>r
def bA:Expr->Bool
 | .Starred _ _=>false
 | _=>true
def dA (es:List Expr):Bool:=es.all bA
def sE (h:bA e=true):starEach (e::es) env=(false,eval e env)::starEach es env:=by
 cases e <;> first|rfl|(simp[bA] at h)
theorem sS:∀{es:List Expr},dA es=true->(backTo pos (starEach es env)).any (·.1)=false
 | [],_=>rfl
 | e::es,h=>by
  unfold dA at h;rw[all_cons,LN] at h;have ih:=sS (pos:=pos) (env:=env) (es:=es) h.2;rw[sE h.1];unfold backTo at ih ⊢;rw[map_cons,any_cons,ih];rfl
section
variable {X:Cx}{e:Expr}{es:List Expr}{x:Str}{p pos:Pos}{k n:Nat}{f:Addr}{fd:FuncData}{ps:List Str}{F:FD}{ga:GA}{g:GE}{tg:Expr}
def JG {gr:GA}(ha:PE X e (tE X g))(hr:PA X es (tA X gr))(h:bA e=true:=by rfl):PA X (e::es) (tA X (aa g gr)):=B6 ha hr (sE h)
def Ij (Fn:fA X.prog X.w X.K X.mg X.base (iJ X.prog X.w) k f fd ps (pG X.K n F))(hr:bE k X.A)(hg:Gl X x)(hm:X.mg x=Z (.ref f))(hk:W.keepIn X.K (.ref f)=true)(hb:j1 X.K fd ps [])
  (ha:PA X (e::es) (tA X ga)) (hdb:(x==("__debug__":Str))=false:=by decide) (h1:bA e=true:=by rfl) (h2:dA es=true:=by rfl) :
  PE X (.Call (.Name x p) (e::es) [] pos) (tE X (av n F ga)):=CD Fn hr hg hm hk hb ha hdb (sE h1) (sS h2)
def Hh {id:String}(hc:cG X (.builtin id) (rC X F))(hg:Gl X x)(hm:X.mg x=Y)(hv:bootBuiltins x=Z (.builtin id))(ha:PA X (e::es) (tA X ga))(hn:x≠"__name__":=by decide)(hdb:(x==("__debug__":Str))=false:=by decide)
  (h1:bA e=true:=by rfl) (h2:dA es=true:=by rfl):PE X (.Call (.Name x p) (e::es) [] pos) (tE X (aE F ga)):=Aw hc hg hm hv ha hn hdb (sE h1) (sS h2)
def Jg (hc:cG X (.type T) (rC X F))(hg:Gl X x)(hm:X.mg x=Y)(hv:bootBuiltins x=Z (.type T))(ha:PA X (e::es) (tA X ga))(hn:x≠"__name__":=by decide)(hdb:(x==("__debug__":Str))=false:=by decide)
  (h1:bA e=true:=by rfl) (h2:dA es=true:=by rfl):PE X (.Call (.Name x p) (e::es) [] pos) (tE X (aE F ga)):=xw hc hg hm hv ha hn hdb (sE h1) (sS h2)
def GP (hT:lR T)(hv:bootBuiltins x=Z (.type T))(hg:Gl X x)(hm:X.mg x=Y)(hgi:Gl X "isinstance")(hmi:X.mg "isinstance"=Y)(he:PE X e (tE X g))
  (h1:bA e=true:=by rfl) (hn:x≠"__name__":=by decide) (hd:(x==("__debug__":Str))=false:=by decide):PE X (.Call (.Name "isinstance" p) [e,.Name x p2] [] pos) (tE X (jA T g)):=
 DY hT hv hg hm hgi hmi he hn hd boot_isinstance (sE h1) (sE rfl) (sS rfl)
def Ha {a:Expr}(hg:Gl X "range")(hm:X.mg "range"=Y)(ha:PA X [a] (tA X ga))(h1:bA a=true:=by rfl):PI X tg (.Call (.Name "range" p) [a] [] pos) (tI X (bt ga)):=xo hg hm ha (sE h1)
def Ib {a:Expr}(hg:Gl X "range")(hm:X.mg "range"=Y)(ha:PA X [a,b] (tA X ga))(h1:bA a=true:=by rfl)(h2:bA b=true:=by rfl):PI X tg (.Call (.Name "range" p) [a,b] [] pos) (tI X (fP ga)):=xH hg hm ha (by rw[sE h1,sE h2];rfl) (sE h2)
end
end DL
namespace DL
open PySem L2
def sj (h:-(2 ^ 62)<=j/\j<2 ^ 62)(M:aF):zi [.int j] M=.ok ⟨aw 0 j.toNat,Y⟩ M:=by
 unfold zi;exact if_pos h
def AQ {n:Nat}(h:n<=1000000)(M:aF):zi [.int (n:Int)] M=.ok ⟨aw 0 n,Y⟩ M:=by
 have:=sj (j:=(n:Int)) (by omega) M;rw[this];rfl
def BZ (h:-(2 ^ 62)<=i/\i<2 ^ 62/\-(2 ^ 62)<=j/\j<2 ^ 62)(M:aF):CM [.int i,.int j] M=.ok ⟨aw i (j-i).toNat,Y⟩ M:=by
 unfold CM;exact if_pos h
theorem jR:jx.ok ⟨ds,Y⟩ M=true:=rfl
theorem ft {P:aF->Prop}{Q:D->Prop}:∀(ds:List D),(∀d∈ds,∀M,P M->∃e M',P M'/\Q e/\ge (Z d::ρ) M=.ok e M')->∀M,P M->
  ∃es M',P M'/\es.length=ds.length/\(∀e∈es,Q e)/\bJ ⟨ds0,Y⟩ aW ge ds ρ M=.ok es M'
 | [],h,M,hM=>⟨[],M,hM,rfl,(λe he=>by cases he),rfl⟩
 | d::ds,h,M,hM=>by
  refine q2x3 (h d Lz M hM) λe M1 h1 q1 e1=>?_;refine q2x4 (ft (ds0:=ds0) ds (λd' hd=>h d' (LH _ hd)) M1 h1) λes M2 h2 l2 q2 e2=>?_;refine⟨e::es,M2,h2,by simp[l2],λx hx=>?_,?_⟩
  ·rcases L1.mp hx with z|z
   ·subst z;exact q1
   ·exact q2 x z
  ·simp[bJ,jR,aW,e1,e2]
theorem iN:∀(ds:List D),(∀d∈ds,ge (Z d::ρ) M=.ok (f d) M)->bJ ⟨ds0,Y⟩ aW ge ds ρ M=.ok (ds.map f) M
 | [],h=>rfl
 | d::ds,h=>by
  have e1:=h d Lz;have e2:=iN (ds0:=ds0) ds λd' hd=>h d' (LH _ hd)
  simp[bJ,jR,aW,e1,e2]
def jb (h:d∈aw lo n):∃k:Int,d=.int k/\lo<=k/\k<lo+n:=by
 unfold aw at h;refine q1x2 (OP.mp h) λk hk e=>?_;have:=OJ.mp hk;exact⟨lo+k,e.symm,by omega,by omega⟩
def bq (lo:Int)(n:Nat):(aw lo n).length=n:=by simp[aw]
def wa {Q:Int->Prop}(h:∀d∈ds,∃k,d=.int k/\Q k):∃ks:List Int,ds=ks.map D.int/\∀k∈ks,Q k:=by
 induction ds with
 | nil=>exact⟨[],rfl,λk hk=>by cases hk⟩
 | cons d ds ih=>
  refine q1x2 (h d Lz) λk e q=>?_;refine q1x2 (ih λd' hd=>h d' (LH _ hd)) λks e2 q2=>?_
  refine⟨k::ks,by rw[e,e2];rfl,λx hx=>?_⟩;rcases L1.mp hx with z|z
  ·subst z;exact q
  ·exact q2 x z
def CP {Q:List Int->Prop}(h:∀d∈ds,∃ks:List Int,d=.tup (ks.map D.int)/\Q ks):∃rs:List (List Int),ds=rs.map (λr=>D.tup (r.map D.int))/\∀r∈rs,Q r:=by
 induction ds with
 | nil=>exact⟨[],rfl,λk hk=>by cases hk⟩
 | cons d ds ih=>
  refine q1x2 (h d Lz) λk e q=>?_;refine q1x2 (ih λd' hd=>h d' (LH _ hd)) λks e2 q2=>?_
  refine⟨k::ks,by rw[e,e2];rfl,λx hx=>?_⟩;rcases L1.mp hx with z|z
  ·subst z;exact q
  ·exact q2 x z
def bI (h:n<=1000000):n<=LW:=LG h (by rw[Oo];decide)
theorem iV:∀ks ls:List Int,dG (ks.map D.int) (ls.map D.int)=decide (ks=ls)
 | [],[]=>rfl
 | [],l::ls=>rfl
 | k::ks,[]=>rfl
 | k::ks,l::ls=>by
  show((k==l)&&dG (ks.map D.int) (ls.map D.int))=_;rw[iV ks ls]
  by_cases h:k=l <;> simp[h]
end DL
namespace DL
@[simp] theorem KQ (i j:Int):pq (.int i) (.int j)=(i==j):=rfl
@[simp] theorem J7 (i j:Bool):pq (.bl i) (.bl j)=(i==j):=rfl
@[simp] theorem KS (i j:PySem.Str):pq (.str i) (.str j)=(i==j):=rfl
@[simp] theorem JT:pq .non .non=true:=rfl
@[simp] theorem Ku (i:Int):pq (.int i) .non=false:=rfl
@[simp] theorem JM (i:Int):pq .non (.int i)=false:=rfl
@[simp] theorem JO (xs ys:List D):pq (.tup xs) (.tup ys)=dG xs ys:=rfl
@[simp] theorem KI (xs ys:List D):pq (.lst xs) (.lst ys)=dG xs ys:=rfl
@[simp] theorem HS:dG [] []=true:=rfl
@[simp] theorem JC (y:D) (ys:List D):dG [] (y::ys)=false:=rfl
@[simp] theorem Ju (y:D) (ys:List D):dG (y::ys) []=false:=rfl
@[simp] theorem Jt (x y:D) (xs ys:List D):dG (x::xs) (y::ys)=(pq x y&&dG xs ys):=rfl
@[simp] theorem Gx (n:Nat) (i:Int):bN n (.int i)=true:=by cases n <;> rfl
@[simp] theorem Im (n:Nat) (i:Bool):bN n (.bl i)=true:=by cases n <;> rfl
@[simp] theorem Gz (n:Nat):bN n .non=true:=by cases n <;> rfl
@[simp] theorem Gy (n:Nat) (x:PySem.Str):bN n (.str x)=PySem.PyData.strOk x:=by cases n <;> rfl
@[simp] theorem yq (n:Nat) (xs:List D):bN (n+1) (.tup xs)=a9 n xs:=rfl
@[simp] theorem xZ (n:Nat) (xs:List D):bN (n+1) (.lst xs)=a9 n xs:=rfl
@[simp] theorem Dq (xs:List D):bN 40 (.tup xs)=a9 39 xs:=yq 39 xs
@[simp] theorem Ds (xs:List D):bN 40 (.lst xs)=a9 39 xs:=xZ 39 xs
@[simp] theorem E3 (n:Nat):a9 n []=true:=by cases n <;> rfl
@[simp] theorem Dg (n:Nat) (x:D) (xs:List D):a9 n (x::xs)=(bN n x&&a9 n xs):=by cases n <;> rfl
@[simp] theorem JF (i:Int) (M:aF):now (.int i) M=.int i:=rfl
@[simp] theorem J6 (i:Bool) (M:aF):now (.bl i) M=.bl i:=rfl
@[simp] theorem Jy (M:aF):now .non M=.non:=rfl
@[simp] theorem Jr (x:PySem.Str) (M:aF):now (.str x) M=.str x:=rfl
@[simp] theorem JA (xs:List D) (M:aF):now (.tup xs) M=.tup xs:=rfl
@[simp] theorem JB (xs:List D) (M:aF):now (.lst xs) M=.lst xs:=rfl
end DL
namespace DL
open PySem PySem.Spec PyProof.Rows L2 PySem.W PySem.Builtin PySem.Builtin.ObjectAttr PySem.Builtin.Getset_descriptor List
structure Kg (K:LX)(C:LA):Prop where
 cl:(clsIn K C).isSome=true
 ca:Tr K (.ref C) "__class__"=Z (Z (.builtin "object.__class__"))
 sp:specialIn K (.builtin "object.__class__") "__get__"=Z (Z (.builtin "getset_descriptor.__get__"))
 tk:takesIn K (.builtin "object.__class__")=Z true
 ob:V2 K C (.type "object")=Z true
 ga:Tr K (.ref C) "__getattribute__"=Z (Z (.builtin "BaseException.__getattribute__"))
 gh:Tr K (.ref C) "__getattr__"=Z Y
 be:V2 K C (.type "BaseException")=Z true
end DL
namespace DL
open PySem PySem.Spec PyProof.Rows L2 List
abbrev JX:List Lk:=[.type "ValueError",.type "Exception",.type "BaseException",.type "object"]
structure Ec (K:LX)(mg:Str->Option Lk)(c:Str)(C:LA):Prop where
 at_:oj K c C
 m:mg c=Z (.ref C)
 k:Kg K C
 ex:W.excIn K C JX "ValueError.__new__"=true
 ty:W.typeIn K (.ref C)=Z (.type "type")
 sf:V2 K C (.ref C)=Z true
def mT (i:Nat):Fl->Fl
 | .nx ρ=>.nx (ρ.set i Y)
 | .bk ρ=>.bk (ρ.set i Y)
 | .ct ρ=>.ct (ρ.set i Y)
 | .rt d=>.rt d
section
variable {X:Cx}
section
variable {o e:MT}{go ge:GE}{apos cpos:Pos}
def F8 (h:bA e=true):((P6 cpos (Mt [e] env)).all (λx=>!x.1)&&(Wz cpos (Tu [] env)).all (λx=>x.1.isSome)
   && decide ([e].length+([]:List SR).length+(if([]:List SR).isEmpty then 0 else 1)<30))=true:=by
 rw[sE h];rfl
end
end
end DL
namespace DL
open PySem L2
def Jc (z:iJ P w [] H s (λ_ _ _=>False) e s'):False:=by
 obtain⟨_,_,_,_,_,_,_,_,_,_,_,_,_,_,h⟩:=z;exact h
end DL
namespace DL
open PySem PySem.Spec PyProof.Rows L2 List
structure Kc (K:LX)(mg:Str->Option Lk)(c:Str)(C:LA):Prop where
 at_:oj K c C
 m:mg c=Z (.ref C)
 cl:K7 K C
end DL
namespace DL
open PySem PySem.Spec PyProof.Rows L2 List
section
variable {prog:Mi}{w:My}{A:MX}{E:Lk->Lm->Prop}{s:Lm}
def vJ {I a:LA}{k:Nat}(st:s.heap.IsTupleIter I a k)(ta:s.heap.IsTuple a its)(hx:its[k]?=Z x)
  (q:∀h',h'.IsTupleIter I a (k+1)->Nh I s.heap h'->Q x {s with heap:=h'}):Lp (LD prog w) A (L9 (.ref I)) Q E s:=by
 refine q1x3 (id st) λu hu uc ud=>?_;obtain⟨oa,hoa,_,na,da⟩:=ta;unfold L9;refine Le (MP (name:=NG "__next__") st.typeIs O1 (MW O1 st.typeIs RJ ?_ (Rz _)));show Lp _ _ (RV (.ref I) 0 >>= _) _ _ s;refine Le (MC hu ud (x:=.ref a) rfl ?_);show Lp _ _ (if(NJ a==MJ)=true then _ else _) _ _ s;rw[if_neg (show¬((NJ a==MJ)=true) from Ly)];show Lp _ _ (RV (.ref I) 1 >>= _) _ _ s;refine Le (MC hu ud (x:=.int k 0) rfl ?_);show Lp _ _ (Rc (.ref a) >>= _) _ _ s;refine Le (MZ hoa da ?_);simp only[Mq,hx];refine Le (WB hu ud (by simp) (Lf ⟨x,rfl,Lf (q _ ?_ (Qi ..))⟩));exact⟨_,O3 _ hu (Obj.isFreed_of_fields (UH ud _)),(Obj.cls_mapFields ..).trans uc,by rw[UH ud];simp[OZ]⟩
def jK {I a:LA}{k:Nat}(hh:A.handled=Y)(st:s.heap.IsTupleIter I a k)(ta:s.heap.IsTuple a its)(hx:its[k]?=Y)
  (q:∀h' e,TC I s.heap h'->(∃o,h'.get? e=Z o/\o.cls=.type "StopIteration")->E (.ref e) {s with heap:=h'}):Lp (LD prog w) A (L9 (.ref I)) Q E s:=by
 refine q1x3 (id st) λu hu uc ud=>?_;obtain⟨oa,hoa,_,na,da⟩:=ta;unfold L9;refine Le (MP (name:=NG "__next__") st.typeIs O1 (MW O1 st.typeIs RJ ?_ (Rz _)));show Lp _ _ (RV (.ref I) 0 >>= _) _ _ s;refine Le (MC hu ud (x:=.ref a) rfl ?_);show Lp _ _ (if(NJ a==MJ)=true then _ else _) _ _ s;rw[if_neg (show¬((NJ a==MJ)=true) from Ly)];show Lp _ _ (RV (.ref I) 1 >>= _) _ _ s;refine Le (MC hu ud (x:=.int k 0) rfl ?_);show Lp _ _ (Rc (.ref a) >>= _) _ _ s;refine Le (MZ hoa da ?_);simp only[Mq,hx];refine Le (Oy (Le (WB hu ud (by simp) ?_)));show Lp _ _ (Yy (.type "StopIteration") [] >>= _) _ _ _;refine Le ?_;simp only[Yy,WC];refine Le (Nt ?_ (by size_fits));refine Le (m:=RW _ _) (Pr (a:=MJ) (by first|rfl|(simp only[RW];rfl)) ?_);refine Nt ?_ (by size_fits);simp only[X7];refine Le (Xc ?_)
 first|rw[show A.in1.handled=Y from hh]|rw[hh]
 exact Le (Lf (wpAny_throw (q _ _ (((Qi ..).extBut.push _).push _) ⟨_,LJ _ rfl,rfl⟩)))
end
def xu {prog:Mi}{w:My}{A:MX}(hh:A.handled=Y)(I a:LA)(hne:a≠I)(its:Array Lk) :
  Draws prog w A I [I,a] its.size (λi v=>its[i]?=Z v) (λi h=>h.IsTupleIter I a i/\h.IsTuple a its) where
 live:=λ_ _ st=>let ⟨o,ho,_⟩:=st.1;⟨o,ho⟩
 frame:=λ_ _ _ st hk=>⟨st.1.at λo e=>hk I (by simp) o e,let ⟨o,ho,r⟩:=st.2;⟨o,hk a (by simp) o ho,r⟩⟩
 item:=λi s Q E hi st hQ=>vJ st.1 st.2 (x:=its[i]) (by simp[hi]) λh' hit' hs'=>hQ _ h' s.toks (by simp[hi]) ⟨hit',st.2.extBut hs'.extBut hne⟩ hs'
 done:=λs Q E st hE=>jK hh st.1 st.2 (by simp) hE
open AutoSeq1 (wpAny_loadPart')
def qV (a:LA)(its:Array Lk)(n:Nat)(dct:Option LA)(sl:Array (Option Lk)) :
  Meets (O2.«enumerate.__new__» ⟨[.type "enumerate",.ref a],[]⟩) (λ_ R s=>s.heap.get? a=Z {cls:=.type "tuple",dict:=dct,data:=.seq its n,slots:=sl}/\
   R (.ok (.ret (.ref (s.heap.push {cls:=.type "tuple_iterator",data:=.fields #[.ref a,.int 0 0]}).objs.size)))
    {s with heap:=(s.heap.push {cls:=.type "tuple_iterator",data:=.fields #[.ref a,.int 0 0]}).push {cls:=.type "enumerate",data:=.fields #[.none,.bool false,.ref s.heap.objs.size,OZ 0,.none,.none]}}):=
 .of_wp λprog w A R s hh=>by
  obtain⟨hp,g,d,tk,os⟩:=s;refine q0x2 hh λha hr=>?_;have hsub:=Xd;have hT:Heap.IsTuple (VO ⟨hp,g,d,tk,os⟩) a its:=⟨_,ha,rfl,n,rfl⟩
  wp_walk using NV ha
  refine V3 λst=>Lf ?_
  split
  ·rename_i c _ _ _ _ _;cases (c==Px "enumerate")
   all_goals
    wp_walk using NV ha,UI hT
    exact⟨_,rfl,hr⟩
  ·wp_walk using NV ha,UI hT
   exact⟨_,rfl,hr⟩
def o6 {a:LA}(hT:s.heap.IsTuple a its)
  (q:∀h',Rf h' (s.heap.objs.size+1) s.heap.objs.size 0 .none->h'.IsTupleIter s.heap.objs.size a 0->h'.objs.size=s.heap.objs.size+2->
   (∀b o,s.heap.get? b=Z o->h'.get? b=Z o)->Q (.ref (s.heap.objs.size+1)) {s with heap:=h'}):Lp (LD prog w) A (call (.type "enumerate") [.ref a]) Q E s:=by
 obtain⟨⟨c,dct,dt,sl⟩,ha,hc,n,hd⟩:=hT;have hc:c=.type "tuple":=hc;have hd:dt=.seq its n:=hd;subst hc hd;refine XH UJ (by decide) (SS _) (Td _) (λobj=>TF obj _) Te (qV a its n dct sl) ⟨ha,?_⟩;have hz:(s.heap.push {cls:=.type "tuple_iterator",data:=.fields #[.ref a,.int 0 0]}).objs.size=s.heap.objs.size+1:=OC ..;show _/\_;rw[hz];have he:Rf ((s.heap.push {cls:=.type "tuple_iterator",data:=.fields #[.ref a,.int 0 0]}).push {cls:=.type "enumerate",data:=.fields #[.none,.bool false,.ref s.heap.objs.size,OZ 0,.none,.none]}) (s.heap.objs.size+1) s.heap.objs.size 0 .none:=by
  have z:=LJ (s.heap.push {cls:=.type "tuple_iterator",data:=.fields #[.ref a,.int 0 0]}) (o:={cls:=.type "enumerate",data:=.fields #[.none,.bool false,.ref s.heap.objs.size,OZ 0,.none,.none]}) rfl;rw[hz] at z;exact z
 exact⟨⟨_,he,rfl⟩,q _ he ⟨_,Lg _ (LJ _ rfl),rfl,rfl⟩ (by rw[OC,hz]) λb o z=>Lg _ (Lg _ z)⟩
section
variable {X:Cx}{af:List (LA×Obj)}{σ:L2.St}{H:Hp}{s:Lm}
def fW {ch:List LA}{a:LA}(I:L2.Inv X af σ H s)(hf:∀b∈ch,df X af H b)(k:∀b u,b∉ch->s.heap.get? b=Z u->h'.get? b=Z u)
  (hp:s.heap.objs.size<=a) (new:cP X.prog X.w (bG H a o) h' a o):L2.Inv X af σ (bG H a o) {s with heap:=h',toks:=t'}:=by
 have hn:H a=Y:=I.hok.fresh hp;have ne:∀{b:LA} {u:HO},H b=Z u->b≠a:=λ{b u} e z=>by rw[z,hn] at e;cases e
 have nch:∀b u,H b=Z u->b∉ch:=λb u e z=>by rw[(hf b z).1] at e;cases e
 refine I.step (g':=s.gens) (d':=s.drawn) (ch:=ch) (λb hb=>⟨(hf b hb).2.2.2.1,(hf b hb).2.1,(hf b hb).2.2.2.2.1,(hf b hb).2.2.2.2.2⟩) (λb u _ _ hc e _=>k b u hc e) (λb u _ _ hc e _=>⟨u.slots,k b u hc e⟩)
  (λb u _ e n=>by rw[au (LR (LB (Lq e) hp))];exact n) (λb u hc e=>⟨u,k b u hc e⟩) (λb xs e=>by rw[au (ne e)];exact e) (λb u v e=>by rw[au (ne e)];exact e)
  (λb ps e=>⟨#[],by rw[au (ne e),e];simp⟩) (λm hm=>?_) (λb u e=>?_) I.bare
 ·refine q3x2 hm λu es ep ho r=>?_;exact⟨u,es,ep,k _ u (λz=>(hf _ z).2.1 rfl) ho,r⟩
 ·by_cases hb:b=a
  ·subst hb;rw[bZ] at e;cases e;exact new
  ·rw[au hb] at e;refine(I.hok b u e).stay (λc v hc q=>k c v ?_ q) (λc q=>by rw[au (ne q)];exact q) λc xs q=>by rw[au (ne q)];exact q
   rcases hc with z|z
   ·rw[z];exact nch b u e
   ·exact nch c _ z
def mR {ch:List LA}(I:L2.Inv X af σ H s)(hf:∀b∈ch,df X af H b)(k:∀b u,b∉ch->s.heap.get? b=Z u->h'.get? b=Z u):L2.Inv X af σ H {s with heap:=h',toks:=t'}:=by
 have nch:∀b u,H b=Z u->b∉ch:=λb u e z=>by rw[(hf b z).1] at e;cases e
 refine I.step (g':=s.gens) (d':=s.drawn) (ch:=ch) (λb hb=>⟨(hf b hb).2.2.2.1,(hf b hb).2.1,(hf b hb).2.2.2.2.1,(hf b hb).2.2.2.2.2⟩) (λb u _ _ hc e _=>k b u hc e) (λb u _ _ hc e _=>⟨u.slots,k b u hc e⟩)
  (λb u _ e n=>n) (λb u hc e=>⟨u,k b u hc e⟩) (λb xs e=>e) (λb u v e=>e) (λb ps e=>⟨#[],by rw[e];simp⟩) (λm hm=>?_) (λb u e=>?_) I.bare
 ·refine q3x2 hm λu es ep ho r=>?_;exact⟨u,es,ep,k _ u (λz=>(hf _ z).2.1 rfl) ho,r⟩
 ·refine(I.hok b u e).stay (λc v hc q=>k c v ?_ q) (λc q=>q) λc xs q=>q
  rcases hc with z|z
  ·rw[z];exact nch b u e
  ·exact nch c _ z
end
def GK (K:LX)(b:Bool)(H:Hp)(a:LA)(xs:List V):Prop:=match b with
 | true=>nH K H a xs
 | false=>gG K H a xs
def ya (K:LX)(b:Bool)(a:LA):It:=
 ⟨λi H=>∃xs x,GK K b H a xs/\xs[i]?=Z x,λi H x H'=>∃p y,H p=Y/\H'=bG H p (.tup [.int (i:Int),y])/\x=.ref p/\∀xs,GK K b H a xs->xs[i]?=Z y,λi H=>∃xs,GK K b H a xs/\xs.length<=i⟩
def fU (b:Bool)(h:Nu)(it a:LA)(i:Nat):Prop:=match b with
 | true=>h.IsTupleIter it a i
 | false=>h.IsListIter it a i
def fU.at {a:LA}(x:fU b h it a i)(e:∀o,h.get? it=Z o->h'.get? it=Z o):fU b h' it a i:=by
 cases b with
 | true=>exact Ys x e
 | false=>exact Yz x e
def fU.obj {a:LA}(x:fU b h it a i):∃o,h.get? it=Z o/\(o.cls=.type "tuple_iterator"\/o.cls=.type "list_iterator")/\∃vs,o.data=.fields vs:=by
 cases b with
 | true=>refine q1x3 x λo e c d=>?_;exact⟨o,e,.inl c,_,d⟩
 | false=>refine q1x3 x λo e c d=>?_;exact⟨o,e,.inr c,_,d⟩
def xW {P:Mi}{w:My}{K:LX}{es:List MT}{kt:Nat}{pos:Pos}(b:Bool)(a e it:LA):oq P w K (.Tuple es kt pos) (ya K b a) [e,it] e (λi h=>(∃old,Rf h e it (i:Int) old)/\fU b h it a i) where
 mem:=by simp
 obj:=λi h st c hc=>by
  obtain⟨⟨old,he⟩,hs⟩:=st;obtain⟨o,ho,_,vs,hd⟩:=hs.obj;rcases L1.mp hc with q|q
  ·subst q;exact⟨_,he,λv z=>by cases z⟩
  ·rw[LK.mp q];exact⟨o,ho,λv z=>by rw[hd] at z;cases z⟩
 keep:=λi h h' st k=>⟨st.1.imp λold he=>k e (by simp) _ he,st.2.at λo q=>k it (by simp) o q⟩
 item:=by
  intro X hP hw hK hc i af s σ H E I hf st hg;subst hP hw hK;obtain⟨⟨old,he⟩,hs⟩:=st;refine q2x2 hg λxs x hq hx=>?_;have hei:e≠it:=λz=>by
   refine q1x3 hs.obj λo ho hcl _=>?_;rw[<-z,he] at ho;cases ho;rcases hcl with q|q <;> simp at q
  have main:∀(its:List Lk) (fp:List LA) (St:Nat->Nu->Prop),aS xs its->Draws X.prog X.w X.A.in1 it fp its.length (λi v=>its[i]?=Z v) St->e∉fp->St i s.heap->(∀h,St (i+1) h->fU b h it a (i+1))->
    Lp (LD X.prog X.w) X.A (O5 (.ref e)) (λr s1=>∃u,r=Z u/\
     Lp (LD X.prog X.w) X.A (Om (.Tuple es kt pos) (.ref e) u) (λ_ s2=>∃x H',L2.Inv X af σ H' s2/\bg x u/\(ya X.K b a).yld i H x H'/\((∃old,Rf s2.heap e it ((i+1:Nat):Int) old)/\fU b s2.heap it a (i+1))/\∀b∈[e,it],H' b=Y) E s1) E s:=by
   intro its fp St rv D hef hst hback;have hil:i<its.length:=by rw[<-rv.length];exact(Lj.mp hx).1
   refine q1x2 (rv.get hx) λu hu ru=>?_;refine wpAny_pyNext_enum_itemD D he hst hil hei hef λy h' tk hP ho hs' hT hsz hk=>?_
   have ey:y=u:=by
    have hP:its[i]?=Z y:=hP;rw[hu] at hP;exact(LZ hP).symm
   subst ey;have helt:e<s.heap.objs.size:=Lq he;refine⟨_,rfl,RX ho λh2 he2 hs2=>?_⟩;have hs2:Nh e h' h2:=hs2;have hT2:h2.get? s.heap.objs.size=Z {cls:=.type "tuple",data:=.seq #[.int i tk,y]}:=(hs2.2 _ (Oa helt)).trans hT;have fr:H s.heap.objs.size=Y:=I.hok.fresh (Lr _);have new:cP X.prog X.w (bG H s.heap.objs.size (.tup [.int (i:Int),x])) h2 s.heap.objs.size (.tup [.int (i:Int),x]):=
    ⟨LG (by decide:2<=1000) (by rw[Oo];decide),[.int i tk,y],.cons ⟨tk,rfl⟩ (.cons ru .nil),⟨_,hT2,rfl,_,rfl⟩⟩
   have I2:=fW (t':=tk+1) I hf (λc o hc q=>(hs2.2 c (λz=>hc (by simp[z]))).trans (hk c o (λz=>hc (by simp[z])) (λz=>hc (by simp[z])) q)) (Lr _) new;have inj:∀ys,GK X.K b H a ys->ys[i]?=Z x:=λys hy=>by
    cases b with
    | true=>rw[I.tuple_inj hy hq];exact hx
    | false=>rw[I.list_inj hy hq];exact hx
   refine⟨.ref s.heap.objs.size,_,I2,rfl,⟨_,x,fr,rfl,rfl,inj⟩,⟨⟨y,by simpa using he2⟩,(hback h' hs').at λo q=>(hs2.2 it (NL hei)).trans q⟩,λc hc=>?_⟩;have:c≠s.heap.objs.size:=by
    refine q1x2 hs.obj λo ho2 _=>?_;rcases L1.mp hc with q|q
    ·rw[q];exact LR helt
    ·rw[LK.mp q];exact LR (Lq ho2)
   rw[au this];exact(hf c hc).1
  cases b with
  | false=>
   refine q1x3 (I.list (show gG X.K H a xs from hq)) λits rv p hz=>?_;have hli:a≠it:=λz=>by
    refine q1x3 hs.obj λo ho hcl _=>?_;refine q1x3 p.isList λol hol hlc _=>?_;rw[z,ho] at hol;cases hol;rw[hlc] at hcl;rcases hcl with q|q <;> simp at q
   have hle:e≠a:=λz=>by
    refine q1x3 p.isList λol hol hlc _=>?_;rw[<-z,he] at hol;cases hol;simp at hlc
   have D:=Draws.list (prog:=X.prog) (w:=X.w) (A:=X.A.in1) (show X.A.in1.handled=Y from I.ok.hd hc) it a hli its.toArray;rw[L5] at D;exact main its [it,a] (λi h=>h.IsListIter it a i/\h.IsList a its.toArray) rv (by simpa using D) (by simp[hei,hle]) (show s.heap.IsListIter it a i/\s.heap.IsList a its.toArray from⟨hs,p.isList⟩) λh q=>q.1
  | true=>
   refine q1x3 (I.tuple (show nH X.K H a xs from hq)) λits rv p hz=>?_;have p:s.heap.IsTuple a its.toArray:=p;have hli:a≠it:=λz=>by
    refine q1x3 hs.obj λo ho hcl _=>?_;refine q1x3 (id p) λol hol hlc _=>?_;rw[z,ho] at hol;cases hol;rw[hlc] at hcl;rcases hcl with q|q <;> simp at q
   have hle:e≠a:=λz=>by
    refine q1x3 (id p) λol hol hlc _=>?_;rw[<-z,he] at hol;cases hol;simp at hlc
   have D:=xu (prog:=X.prog) (w:=X.w) (A:=X.A.in1) (show X.A.in1.handled=Y from I.ok.hd hc) it a hli its.toArray;rw[L5] at D;exact main its [it,a] (λi h=>h.IsTupleIter it a i/\h.IsTuple a its.toArray) rv (by simpa using D) (by simp[hei,hle]) (show s.heap.IsTupleIter it a i/\s.heap.IsTuple a its.toArray from⟨hs,p⟩) λh q=>q.1
 done:=by
  intro X hP hw hK hc i af s σ H E I hf st hg;subst hP hw hK;obtain⟨⟨old,he⟩,hs⟩:=st;refine q1x2 hg λxs hq hx=>?_;have hnx:∀h',TC it s.heap h'->(Y:Option Lk)=Y/\L2.Inv X af σ H {s with heap:=h'}:=λh' hb=>
   ⟨rfl,mR (t':=s.toks) I hf λc o hc q=>hb c o (λz=>hc (by simp[z])) q⟩
  have hT:s.TypeIs (.ref e) "enumerate":=⟨_,he,rfl⟩;unfold O5;refine Le (PR (MP (name:=NG "__next__") hT Ov (MW Ov hT QN ?_ (Qx _))));show Lp _ _ (RV (.ref e) 2 >>= _) _ _ _;refine Le (MC he rfl (x:=.ref it) rfl (Le ?_));have stp:∀h' x,TC it s.heap h'->(∃o,h'.get? x=Z o/\o.cls=.type "StopIteration")->Lp (LD X.prog X.w) X.A (isInstance (.ref x) (.type "StopIteration") >>= λb=>if b=true then pure Y else throw (NJ x)) (λ(r:Option Lk) s1=>r=Y/\L2.Inv X af σ H s1) E {s with heap:=h'}:=λh' x hb hx'=>by
   refine q1x2 hx' λo ho hcl=>?_;refine Le (Rg (T:="StopIteration") (b:=true) ⟨o,ho,hcl⟩ TH ?_);exact Lf (hnx _ hb)
  cases b with
  | false=>
   refine q1x3 (I.list (show gG X.K H a xs from hq)) λits rv p hz=>?_;have hl:=rv.length;exact Q6 (show X.A.in1.handled=Y from I.ok.hd hc) hs p.isList (by simp;omega) stp
  | true=>
   refine q1x3 (I.tuple (show nH X.K H a xs from hq)) λits rv p hz=>?_;have p:s.heap.IsTuple a its.toArray:=p;have hl:=rv.length;exact jK (show X.A.in1.handled=Y from I.ok.hd hc) hs p (by simp;omega) stp
 self:=λ_ _ _ _ _ st h=>by
  obtain⟨⟨old,he⟩,_⟩:=st;exact QQ he h
def BL (hg:Gl X "enumerate")(hm:X.mg "enumerate"=Y)(hv:Mp "enumerate"=Z (.type "enumerate"))(hl:PA X [l] tl)(hs:Mt [l] X.env=[(false,Ou l X.env)]:=by rfl) :
  PI X (.Tuple es kt tp) (.Call (.Name "enumerate" p) [l] [] pos) (λσ H R=>tl σ H λxs H1=>∃a,xs=[.ref a]/\(((∃xs,gG X.K H1 a xs)/\R (ya X.K false a) H1)\/((∃xs,nH X.K H1 a xs)/\R (ya X.K true a) H1))):=by
 intro af s σ H R I h;refine X2 (iI I hg hm hv (Nn (bR (hl pos af s σ H _ I h) λus s1 hxx=>?_) hs rfl));obtain⟨vs,H1,I1,r1,q1⟩:=hxx;obtain⟨a,e,q1⟩:=q1;subst e;cases r1 with
 | cons r rr=>
  cases rr;have r:_=NJ a:=r;subst r;have fin:∀(b:Bool) (h':Nu),Rf h' (s1.heap.objs.size+1) s1.heap.objs.size 0 .none->fU b h' s1.heap.objs.size a 0->h'.objs.size=s1.heap.objs.size+2->(∀c o,s1.heap.get? c=Z o->h'.get? c=Z o)->R (ya X.K b a) H1->
    Lp (LD X.prog X.w) X.A (Rx (.ref (s1.heap.objs.size+1))) (JP X af σ (.Tuple es kt tp) R) X.xe {s1 with heap:=h'}:=λb h' he hi hz hk q=>by
   refine QQ he ⟨_,[s1.heap.objs.size+1,s1.heap.objs.size],_,_,H1,rfl,I1.kept (t':=s1.toks) hk,xW b a _ _,⟨⟨_,he⟩,hi⟩,λc hc=>?_,q⟩;have hb:s1.heap.objs.size<=c:=by
    rcases L1.mp hc with z|z
    ·rw[z];exact VP _
    ·rw[LK.mp z];exact Lr _
   exact I1.fpOk hb (I1.hok.fresh hb)
  rcases q1 with⟨⟨xs,hq⟩,q⟩|⟨⟨xs,hq⟩,q⟩
  ·obtain⟨its,rv,p,hz⟩:=I1.list hq;exact call_enumerate_list p.isList λh' he hi hz hk=>fin false h' he hi hz hk q
  ·obtain⟨its,rv,p,hz⟩:=I1.tuple hq;exact o6 (show s1.heap.IsTuple a its.toArray from p) λh' he hi hz hk=>fin true h' he hi hz hk q
def dL (ds:List D):List D:=(Lw ds.length).zipWith (λ(k:Nat) d=>D.tup [.int (k:Int),d]) ds
def kj {i:Nat}(h:(dL ds)[i]?=Z d):∃x,ds[i]?=Z x/\d=.tup [.int (i:Int),x]:=by
 unfold dL at h;rw[Sz] at h;cases q:ds[i]? with
 | none=>rw[q] at h;simp at h
 | some x=>
  have hi:=(Lj.mp q).1;rw[q,Ob hi] at h;exact⟨x,rfl,(LZ h).symm⟩
def dW (ds:List D):(dL ds).length=ds.length:=by simp[dL]
def zV (ds:List D)(M:aF):aQ jx:=match ds with
 | [.lst xs]=>.ok ⟨dL xs,Y⟩ M
 | [.ro xs]=>.ok ⟨dL xs,Y⟩ M
 | [.tup xs]=>.ok ⟨dL xs,Y⟩ M
 | _=>.bad
def m7 (g:GA):GI:=λρ M=>(g ρ M).bind zV
def oD {K:LX}{a:LA}(ta:∀θ1 H1,Grow θ H θ1 H1->GK K b H1 a vs)(r:aR K θ H ds vs):sB K (ya K b a) θ H ⟨dL ds,Y⟩:=by
 intro θ1 H1 M1 g _ i;have t1:=ta θ1 H1 g.toGrow;have r1:=r.go g;refine⟨λd e=>?_,λhl=>⟨vs,t1,by rw[<-aq r1];rw[dW] at hl;exact hl⟩⟩;refine q1x2 (kj e) λx ex ed=>?_;subst ed;refine q1x2 (bY r1 ex) λv e1 rv=>?_;refine⟨⟨vs,v,t1,e1⟩,λx' H2 y=>?_⟩;refine q2x4 y λp y' np eH exr hy=>?_;have e2:=hy vs t1;rw[e1] at e2;cases e2;subst eH exr;exact⟨cq g.wr np,dY (ds:=[.int (i:Int),x]) g.wr np ⟨_,_,rfl,rfl,_,_,rfl,rv,rfl⟩⟩
def Cr (hg:Gl X "enumerate")(hm:X.mg "enumerate"=Y)(hv:Mp "enumerate"=Z (.type "enumerate"))(hl:PA X [l] (tA X g))(hs:Mt [l] X.env=[(false,Ou l X.env)]:=by rfl) :
  PI X (.Tuple es kt tp) (.Call (.Name "enumerate" p) [l] [] pos) (tI X (m7 g)):=by
 intro af s σ H R I h;refine BL hg hm hv hl hs af s σ H R I ?_;refine q3x3 h λρ θ M hd hw h=>?_;refine jS hd hw (tL X θ H R) (λc M' h=>h) (λh=>h) h λds M1 vs θ1 H1 g1 r1 h1=>?_
 unfold zV at h1;split at h1
 ·obtain⟨v,r,e,⟨a,us,e2,ta,rs⟩,rr⟩:=r1;have rr:r=[]:=rr;subst rr e2;exact⟨a,e,.inl ⟨⟨us,ta.sq⟩,h1 _ θ1 H1 g1 (oD (b:=false) (λθ2 H2 g2=>(ta.grow g2).sq) rs)⟩⟩
 ·obtain⟨v,r,e,⟨a,us,e2,ta,rs⟩,rr⟩:=r1;have rr:r=[]:=rr;subst rr e2;exact⟨a,e,.inl ⟨⟨us,ta.sq⟩,h1 _ θ1 H1 g1 (oD (b:=false) (λθ2 H2 g2=>(ta.grow g2).sq) rs)⟩⟩
 ·obtain⟨v,r,e,⟨a,us,e2,ta,rs⟩,rr⟩:=r1;have rr:r=[]:=rr;subst rr e2;exact⟨a,e,.inr ⟨⟨us,ta.sq⟩,h1 _ θ1 H1 g1 (oD (b:=true) (λθ2 H2 g2=>(ta.grow g2).sq) rs)⟩⟩
 ·exact h1.elim
end DL
namespace DL
open PySem PySem.Spec PyProof.Rows L2 List
def H0 (K:LX)(a:LA)(so:Obj)(xs:List V)(ts:List LA)(bm:LA)(ob:Obj):Hp:=λb=>
 if b=a then(if K.lookup a=Y then Z (.frz so (.lst xs)) else Y) else if b∈ts then Z (.tbl #[]) else if b=bm then Z (J8 ob) else Y
structure JV (K:LX)(h:Nu)(ts:List LA)(bm:LA)(ob:Obj):Prop where
 tab:∀P∈ts,h.get? P=Z (YB #[])/\isCodeTable h P/\K.lookup P=Y
 names:∀x,x∈bU->∀c P,Pd K x=Z (c,P)->P∈ts
 bmk:Po K LV "__builtins__"=Z (Z (.ref bm))
 bmh:h.get? bm=Z ob
 bmc:ob.cls=.type "module"/\ob.dict=Z Q9/\ob.data=.plain
 bmn:bm≠Q9/\bm≠LV
 bml:K.lookup bm=Y
def zD {K:LX}{a:LA}(L:JV K h ts bm ob)(ha:h.get? a=Z so)(sc:so.cls=.type "list"):kI K (H0 K a so xs ts bm ob):=by
 have neT:∀P∈ts,P≠a:=λP hP e=>by
  have:=(L.tab P hP).1;rw[e,ha] at this;cases this;cases sc
 have neB:bm≠a:=λe=>by
  have:=L.bmh;rw[e,ha] at this;cases this;have:=L.bmc.1;rw[sc] at this;simp at this
 have nBT:bm∉ts:=λhb=>by
  have:=(L.tab bm hb).1;rw[L.bmh] at this;cases this;have:=L.bmc.1;simp at this
 refine⟨λx hx c P e=>?_,λx hx c P e=>⟨bm,ob,L.bmk,?_,L.bmc.1,L.bmc.2.1,L.bmc.2.2,L.bmn⟩⟩
 ·have hP:=L.names x hx c P e;refine⟨#[],?_,by simp[Xs],λpos cv q=>by simp[SA] at q⟩;unfold H0;rw[if_neg (neT P hP),if_pos hP]
 ·unfold H0;rw[if_neg neB,if_neg nBT,if_pos rfl]
def xi {K:LX}{k:Nat}{a:LA}
  (KX:K.In s₁.heap) (hns:s₁.heap.Ns LV mg) (hb:s₁.heap.Ns Q9 mb) (hbb:∀x:Str,x≠"__name__"->mb x=Mp x) (hlim:s₁.heap.NoLimit) (hg:s₁.gens=#[])
  (ha:s₁.heap.get? a=Z {cls:=.type "list",data:=.seq vs.toArray}) (hi:N5 vs ns) (hl:ns.length<=LW) (hr:bE k Uc) (L:JV K s₁.heap ts bm ob)
  (F:∀base:Nu,K.In base->base.Ns LV mg->fA P w K mg base CX k fa fd [x] sp) (hbind:∀(s:Lm) (u:Lk),Rp s fd ⟨[u],[]⟩ [(x,u)])
  (hsp:∀H:Hp,kI K H->gG K H a (ns.map V.int)->sp [.ref a] H (λv _=>v=.bl true) λ_ _ _=>False)
  (hCX:∀H e s',CX [] H s₁ (λ_ _ _=>False) e s'->False) :
  Oq (LD P w) Uc (.call (.ref fa) ⟨[.ref a],[]⟩) (λr s'=>r=.ok (.ret (.bool true))/\OldK s₁.heap s'.heap/\s'.os=s₁.os/\Sa s'.gens) s₁:=by
 have rv:=pO hi;have lenV:=hi.length;have hH:∃H:Hp,H=H0 K a {cls:=.type "list",data:=.seq vs.toArray} (ns.map V.int) ts bm ob:=⟨_,rfl⟩;refine q1x1 hH λH eH=>?_;have tb:kI K H:=by rw[eH];exact zD L ha rfl
 have at_:∀b u,H b=Z u->(b=a/\K.lookup a=Y/\u=.frz {cls:=.type "list",data:=.seq vs.toArray} (.lst (ns.map V.int)))\/(b≠a/\b∈ts/\u=.tbl #[])\/(b=bm/\u=J8 ob):=λb u e=>by
  rw[eH] at e;unfold H0 at e
  by_cases h1:b=a
  ·rw[if_pos h1] at e
   by_cases h2:K.lookup a=Y
   ·rw[if_pos h2] at e;cases e;exact .inl ⟨h1,h2,rfl⟩
   ·rw[if_neg h2] at e;cases e
  ·rw[if_neg h1] at e
   by_cases h2:b∈ts
   ·rw[if_pos h2] at e;cases e;exact .inr (.inl ⟨h1,h2,rfl⟩)
   ·rw[if_neg h2] at e
    by_cases h3:b=bm
    ·rw[if_pos h3] at e;cases e;exact .inr (.inr ⟨h3,rfl⟩)
    ·rw[if_neg h3] at e;cases e
 have hok:jt P w H s₁.heap:=λb u e=>by
  rcases at_ b u e with⟨h1,_,h3⟩|⟨_,h2,h3⟩|⟨h1,h3⟩
  ·subst h1 h3;exact⟨ha,by rw[Lu];exact hl,vs,_,rv,ha⟩
  ·subst h3;exact(L.tab b h2).1
  ·subst h1 h3;exact⟨L.bmh,trivial,⟨_,L.bmh⟩,λ_ _ _ _=>trivial⟩
 have hS:gG K H a (ns.map V.int):=by
  cases hk:K.lookup a with
  | some o=>
   have e:=KX a o hk;rw[ha] at e;cases e;exact .inr ⟨_,vs.toArray,_,hk,rfl,rfl,rfl,by rw[L5,lenV];exact hl,by simpa using rv⟩
  | none=>exact .inl (.inr ⟨{cls:=.type "list",data:=.seq vs.toArray},by rw[eH];unfold H0;rw[if_pos rfl,if_pos hk]⟩)
 have base_of:∀{b:LA} {o:Obj},s₁.heap.get? b=Z o->H b=Y->(rG s₁.heap H).get? b=Z o:=λe n=>zN e n
 have noA:∀{b:LA} {o:Obj} {es:Array DictEntry} {ep:Nat},s₁.heap.get? b=Z o->o.data=.dict es ep->H b=Y:=λ{b o es ep} e d=>by
  cases q:H b with
  | none=>rfl
  | some u=>
   exfalso;rcases at_ b u q with⟨h1,_,_⟩|⟨_,h2,_⟩|⟨h1,_⟩
   ·subst h1;rw[ha] at e;cases e;have d':Data.seq vs.toArray _=Data.dict es ep:=d;cases d'
   ·rw[(L.tab b h2).1] at e;cases e;cases d
   ·subst h1;rw[L.bmh] at e;cases e;rw[L.bmc.2.2] at d;cases d
 have nsK:∀{b:LA} {m:Str->Option Lk},s₁.heap.Ns b m->(rG s₁.heap H).Ns b m:=λ{b m} ⟨o,es,ep,e,d,r⟩=>⟨o,es,ep,base_of e (noA e d),d,r⟩
 have hKb:K.In (rG s₁.heap H):=λb o e=>base_of (KX b o e) (by
  cases q:H b with
  | none=>rfl
  | some u=>
   exfalso;rcases at_ b u q with⟨h1,h2,_⟩|⟨_,h2,_⟩|⟨h1,_⟩
   ·subst h1;rw[h2] at e;cases e
   ·rw[(L.tab b h2).2.2] at e;cases e
   ·subst h1;rw[L.bml] at e;cases e)
 have hM:Mod K mg (rG s₁.heap H):=⟨hKb,nsK hns,⟨mb,nsK hb,hbb⟩,let ⟨mc,h1,h2⟩:=hlim;⟨mc,nsK h1,h2⟩⟩;have e0:vn P w K mg (rG s₁.heap H) Uc [] s₁ H:=⟨rfl,hM,λb o e=>CV e,Nj (xb _ _),trivial,λb hb=>absurd (show b∈([]:List LA) from hb) (by simp),hok,.of_eq hg⟩;refine Py ((F _ hKb (nsK hns)).run Uc [] s₁ H ⟨[.ref a],[]⟩ [.ref a] [.ref a] _ _ hr e0 (hbind s₁ (.ref a)) (.cons rfl .nil) (hsp H tb hS)) λr s' h=>?_
 cases r with
 | error e=>exact(hCX H e s' h).elim
 | ok fl=>
  cases fl with
  | next=>exact O0 h
  | brk=>exact O0 h
  | cont=>exact O0 h
  | ret u=>
   refine q2x6 h λv H' os bare un hok' r' q=>?_;have q':v=.bl true:=q;subst q';obtain rfl:u=Uy true:=r';refine⟨rfl,⟨λb o e=>?_,λb o e=>?_⟩,os,bare⟩
   ·cases q:H b with
    | none=>exact .inl (un.keep b o e q (by intro z;exact absurd (show b∈([]:List LA) from z) (by simp)) (by simp))
    | some u=>
     rcases at_ b u q with⟨h1,_,h3⟩|⟨_,h2,h3⟩|⟨h1,h3⟩
     ·subst h3;have z2:=un.frzs b _ _ q;refine q0x2 (hok b _ q) λe1 _=>?_;refine q0x2 (hok' b _ z2) λe2 _=>?_;rw[e] at e1;cases e1;exact .inl e2
     ·subst h3;refine q1x1 (un.tbls b _ q) λmore z2=>?_;have e1:s₁.heap.get? b=Z {cls:=.none,data:=.fields #[]}:=hok b _ q;have e2:s'.heap.get? b=Z {cls:=.none,data:=.fields (#[]++more)}:=hok' b _ z2;rw[e] at e1;cases e1;exact .inr (.inl ⟨(L.tab b h2).2.1,rfl,#[],more,rfl,e2⟩)
     ·subst h3;have z2:=un.frzs b _ _ q;refine q0x2 (hok b _ q) λe1 _=>?_;refine q0x2 (hok' b _ z2) λe2 _=>?_;rw[e] at e1;cases e1;exact .inl e2
   ·exact un.there b o e (by simp)
def DN {l:Tw}{k:Nat}{K:UK->LX}{CX:My->DZ}{sp:My->Sp}
  (hn:l.most=Z n) (hn2:n<=LW) (hdf:d.params.defaults=[]) (hr:bE k Uc)
  (hY:∀(w:My) (h:Nu),YP w h->(K w.params).In h)
  (F:∀(w:My) (mg:Str->Option Lk) (fa:LA) (h:Nu),(K w.params).In h->h.Ns LV mg->mg d.name=Z (.ref fa)->
   ∃fd:OM,(∀(s:Lm) (u:Lk),Rp s fd ⟨[u],[]⟩ [(x,u)])/\
    ∀base:Nu,(K w.params).In base->base.Ns LV mg->fA l.prog w (K w.params) mg base (CX w) k fa fd [x] (sp w))
  (tabs:∀w:My,∃(ls:List (Str×XI×LA×LA)) (bm:LA),(∀p∈ls,(SU q).find? (λe=>e.name==p.1)=Z p.2.1/\Pd (K w.params) p.1=Z (p.2.2.1,p.2.2.2)/\(K w.params).lookup p.2.2.2=Y)/\
   (∀y,y∈bU->Po (K w.params) LV y=Z Y\/∃p∈ls,p.1=y)/\Po (K w.params) LV "__builtins__"=Z (Z (.ref bm))/\(K w.params).lookup bm=Y)
  (hsp:∀(w:My) (H:Hp) (a:LA) (ns:List Int),ns.length<=n->kI (K w.params) H->gG (K w.params) H a (ns.map V.int)->sp w [.ref a] H (λv _=>v=.bl true) λ_ _ _=>False)
  (hCX:∀(w:My) (H:Hp) (s:Lm) (e:Lk) (s':Lm),CX w [] H s (λ_ _ _=>False) e s'->False) :
  YU q loose XP YP l.row.toRowW d [] (λf vs=>PySem.call f vs):=by
 refine Att.attach_call hn hdf λw s₀ s₁ mg mb fa o pm cd doc a vs ns G Y ho hd hcd hmg hobj hints hlen hg=>?_
 have KX:=hY w _ Y;refine q1x2 (F w mg fa _ KX G.T.g hmg) λfd hb hF=>?_;refine q2x4 (tabs w) λls bm hls hnm hbm hbl=>?_;refine q2x6 G.T.bmain λbm' ob b1 b2 b3 b4 b5 b6=>?_;have eb:bm'=bm:=by
  have:=Wj KX G.T.g hbm;rw[b1] at this;cases this;rfl
 subst eb;have L:JV (K w.params) s₁.heap (ls.map (·.2.2.2)) bm' ob:=by
  refine⟨λP hP=>?_,λy hy c P e=>?_,hbm,?_,?_,?_,hbl⟩
  ·refine q1x2 (OP.mp hP) λp hp zz2=>?_;subst zz2;refine q0x3 (hls p hp) λh1 h2 h3=>?_;refine q0x2 (W.tab_of G.T KX h1 h2) λc1 c2=>?_;exact⟨c2,(c1.tab c2).isCodeTable,h3⟩
  ·rcases hnm y hy with q|⟨p,hp,q⟩
   ·unfold Pd at e;rw[q] at e;cases e
   ·subst q;refine q0x3 (hls p hp) λh1 h2 h3=>?_;rw[h2] at e;cases e;exact OP.mpr ⟨p,hp,rfl⟩
  ·exact b3
  ·exact⟨b4,b5,b6⟩
  ·refine⟨b2,λz=>?_⟩;refine q3x3 G.T.g λo' es ep e1 e2 _=>?_;rw[<-z,b3] at e1;cases e1;rw[b6] at e2;cases e2
 exact xi KX G.T.g G.T.b G.T.builtins G.T.nolimit hg hobj hints (LG hlen hn2) hr L hF hb (λH hT hS=>hsp w H a ns hlen hT hS) λH e s'=>hCX w H s₁ e s'
def wI (q:LA)(fd:OM):HO:=.ext λh=>h.get? q=Z {cls:=.type "function",data:=.func fd}
abbrev qx (qual:Str)(params:Xr)(body:MT)(scope:PY)(pm cv ctv:Lk):OM:=W.kla_fn "<lambda>" qual params body scope [] pm cv ctv
def Cz (ok:jt P w H h)(e:H c=Z (iu c q)):h.CodeRec (.ref c) q:=(ok c _ e).1
def IC (ok:jt P w H h)(e:H q=Z (wI q fd)):h.get? q=Z {cls:=.type "function",data:=.func fd}:=(ok q _ e).1
def uP (k:Nat)(g:GE):FD:=λds M=>g (j2 k ds) M
def Ga {K:LX}{k:Nat}
  (S:dB N ps scope) (hn:ps.length=n)
  (hbody:∀(A:MX) (outer:List Env) (s:Lm) (H:Hp) (E:XK),bE k (A.deeper (Pz qual scope s.heap.objs.size q (.ref c)))->
   PE (fZ (iJ P w) P w K mg base N qual scope q (.ref c) A outer s H E) body (tE (fZ (iJ P w) P w K mg base N qual scope q (.ref c) A outer s H E) g)) :
  fA P w K mg base (iJ P w) (k+1) q (qx qual params body scope pm (.ref c) ctv) ps (λvs H Q E=>H q=Z (wI q (qx qual params body scope pm (.ref c) ctv))/\H c=Z (iu c qual)/\pG K n (uP (N.length-n) g) vs H Q E):=by
 refine⟨λvs H Q E h=>nL hn vs H Q E h.2.2,λA outer s H args us vs Q E hr e0 hb r hsp=>?_⟩;refine q0x3 hsp λhq hc hsp=>?_;have hl:vs.length=ps.length:=nL hn vs H Q E hsp;have lim:s.heap.NoLimit:=e0.mod.nolimit.keeps λb o e=>(e0.bs b o e).1
 have hkind:∀y∈ps.zip us,scope.names.lookup y.1=Z .local\/(scope.names.lookup y.1=Z .cell/\((Rb (s.heap.objs.size+1) scope.names []).lookup y.1).isSome=true):=λ⟨m,v⟩ hy=>by
  rcases S.par m (UA hy).1 with z|z
  ·exact .inl z
  ·exact .inr ⟨z,Sx _ _ _ (.inl z)⟩
 refine W.kla_callFunE hr.depth (IC e0.hok hq) rfl S.co S.gen rfl (Cz e0.hok hc) (hb _ _ _ _ ?_);refine RS S.kind hkind λenv he s1 x=>?_
 subst he;refine⟨lim.keeps x.toInCall.keep,W.kla_codeExpr ?_⟩;have I:L2.Inv (fZ (iJ P w) P w K mg base N qual scope q (.ref c) A outer s H E) [] (L2.start N vs) H s1:=qa S hr.hd e0 hl r x;refine q3x4 hsp λθ M ds hld rd hw h=>?_;have hv:vs.length=n:=by rw[<-aq rd];exact hld
 refine MY (hbody A outer s H E (hr.deeper _) [] s1 (L2.start N vs) H Q I ⟨j2 (N.length-n) ds,θ,M,by rw[<-hv];exact FK rd N,hw,?_⟩) (λu s' hs=>?_) λe s' hs=>hs
 ·have h:vp K θ H Q E (g (j2 (N.length-n) ds) M):=h;cases q:g (j2 (N.length-n) ds) M with
  | bad=>rw[q] at h;exact h
  | err c M1=>
   rw[q] at h;have h:Ay K θ H E c M1:=h;exact λC θ' H' a s' kC g1 fl=>kP fl (h C θ' H' a kC g1)
  | ok d M1=>rw[q] at h;exact h
 ·refine q2x3 hs λv H' J rv q=>?_;exact⟨v,H',J.os,J.bare,J.base,J.hok,rv,q⟩
structure ug (K:LX)(x:Str)(c P:LA):Prop where
 mem:x∈bU
 tab:Pd K x=Z (c,P)
 uniq:∀y,y∈bU->y≠x->∀c2,Pd K y≠Z (c2,P)
 hd:∃o vs file tf flags tg inF text tt,K.lookup c=Z o/\o.cls=.type "code"/\o.data=.fields vs/\vs[11]?=Z (.ref P)/\vs.getD 11 .none=.ref P/\vs.getD 18 .none=.str file tf/\
  vs.getD 7 .none=.int flags tg/\vs.getD 9 .none=.bool inF/\vs.getD 10 .none=.int text tt/\c≠P
def vj {a:Int}(l:List Lk)(h:Xs l)(e:SA pos (l++[OZ a,OZ b,c])=Z cv):SA pos l=Z cv\/cv=c:=by
 fun_induction Xs l with
 | case1=>
  simp only[nil_append,SA,OZ] at e;split at e
  ·exact .inr (LZ e).symm
  ·cases e
 | case2 a' t b' u x rest ih=>
  simp only[TJ,SA] at e ⊢;split at e
  ·rename_i hc;rw[if_pos hc];exact .inl e
  ·rename_i hc;rw[if_neg hc];exact ih h e
 | case3 l h1 h2=>exact h.elim
structure Kf (X:Cx)(θ:List LA)(H:Hp)(M:aF)(qual:Str)(params:Xr)(body:MT)(scope:PY)(u:Lk)(H':Hp):Prop where
 ex:∃q c pm ctv,u=.ref q/\H q=Y/\H' q=Z (wI q (qx qual params body scope pm (.ref c) ctv))/\H' c=Z (iu c qual)
 go:Go X.K θ H θ H' M
def nT {a:LA}(h1:φ h)(h2:∃o,h.get? a=Z o)(h3:∀h1 h2:Nu,φ h1->(∀o,h1.get? a=Z o->h2.get? a=Z o)->φ h2):cP P w H h a (.ext φ):=⟨h1,h2,h3⟩
def AG
  (I:L2.Inv X af σ H s) (hw:Wr X.K θ H M) (T:ug X.K x c P) (hcode:X.env.code=.ref c) (hglob:X.env.globals=LV) (hq:X.env.qual++("<lambda>":Str)=bP x)
  (hcl:UL scope X.env=pure []) (hd:WD params X.env=([],[])) :
  Lp (LD X.prog X.w) X.A (Ou (.Lambda params body scope pos) X.env) (λu s'=>∃H',L2.Inv X af σ H' s'/\Kf X θ H M (bP x) params body scope u H') X.xe s:=by
 refine q1x3 (hw.tb.tab x T.mem c P T.tab) λps hP hT hC=>?_;obtain⟨bm,ob,b1,b2,b3,b4,b5,b6,b7⟩:=hw.tb.bm x T.mem c P T.tab;have hPo:s.heap.get? P=Z (YB ps):=I.hok P _ hP;have CH:W.CodeHd s.heap c P:=by
  obtain⟨o,vs,file,tf,flags,tg,inF,text,tt,e,r⟩:=T.hd;exact⟨o,vs,file,tf,flags,tg,inF,text,tt,I.kIn _ _ e,r⟩
 have hbo:s.heap.get? bm=Z ob:=(I.hok bm _ b2).1;have hg:s.heap.Ns LV X.mg:=I.mod.glob.keeps I.bk;have hmgb:X.mg "__builtins__"=Z (.ref bm):=Wj I.kIn hg b1;have nbP:bm≠P:=λz=>by rw[z,hP] at b2;cases b2
 have hb:s.heap.BuiltinsAt X.mg P:=⟨bm,ob,hmgb,b6,b7,nbP,hbo,b3,b4,b5⟩;have hgP:LV≠P:=λz=>by
  refine q3x3 hg λo es ep e1 e2 _=>?_;rw[z,hPo] at e1;cases e1;cases e2
 rw[arm_eval_Lambda,hd];refine Le (wpAny_evalAll_nil ?_);refine Le (Mc (Lf ?_));rw[hq];have neP:∀b u,H b=Z u->(∀ps,u≠.tbl ps)->b≠P:=λb u e n z=>by rw[z,hP] at e;cases e;exact n _ rfl
 cases hf:SA pos ps.toList with
 | some cv=>
  refine q1x2 (hC pos cv hf) λc' zz1 hc'=>?_;subst zz1;refine W.kla_makeFunctionHit hcl hglob hg hcode CH hPo hT hf hb λctv h' tk hk hz=>?_
  have nq:H h'.objs.size=Y:=I.hok.fresh hz;have nec:c'≠h'.objs.size:=λz=>by rw[<-z,hc'] at nq;cases nq
  refine⟨bG H h'.objs.size (wI h'.objs.size _),I.laid (t':=tk) (λb o e=>Lg _ (hk b o e)) hz (nT (LJ _ rfl) ⟨_,LJ _ rfl⟩ λh1 h2 e k=>k _ e),⟨_,c',_,ctv,rfl,nq,bZ,by rw[au nec];exact hc'⟩,cq hw nq⟩
 | none=>
  refine W.kla_makeFunction hcl hglob hg hcode CH hPo hT hf hgP hb λc' ctv h' tk hx hge hlt hrec htab=>?_
  have szle:s.heap.objs.size<=h'.objs.size:=Np (Nv hge hlt);have nq:H h'.objs.size=Y:=I.hok.fresh szle;have nc:H c'=Y:=I.hok.fresh hge;have ncq:c'≠h'.objs.size:=LR hlt;have nPc:P≠c':=λz=>by rw[<-z,hP] at nc;cases nc
  have nPq:P≠h'.objs.size:=λz=>by rw[<-z,hP] at nq;cases nq
  let fd:OM:=qx (bP x) params body scope ((X.mg "__name__").getD .none) (.ref c') ctv
  let H':Hp:=bG (bG (bG H P (.tbl (ps++#[OZ pos.line,OZ pos.col,.ref c']))) c' (iu c' (bP x))) h'.objs.size (wI h'.objs.size fd)
  have atq:H' h'.objs.size=Z (wI h'.objs.size fd):=bZ;have atc:H' c'=Z (iu c' (bP x)):=by show bG _ _ _ c'=_;rw[au ncq,bZ]
  have atP:H' P=Z (.tbl (ps++#[OZ pos.line,OZ pos.col,.ref c'])):=by show bG _ _ _ P=_;rw[au nPq,au nPc,bZ]
  have atb:∀b u,H b=Z u->b≠P->H' b=Z u:=λb u e n=>by
   have n1:b≠h'.objs.size:=λz=>by rw[z,nq] at e;cases e
   have n2:b≠c':=λz=>by rw[z,nc] at e;cases e
   show bG _ _ _ b=_;rw[au n1,au n2,au n];exact e
  have kp:∀b o,b≠P->s.heap.get? b=Z o->(h'.push (Xu "<lambda>" (bP x) params body scope [] ((X.mg "__name__").getD .none) c' ctv)).get? b=Z o:=λb o n e=>Lg _ (hx b o n e)
  have un:Un X.fs [] H H' s.heap (h'.push (Xu "<lambda>" (bP x) params body scope [] ((X.mg "__name__").getD .none) c' ctv)):=by
   have ne:∀b o,s.heap.get? b=Z o->H b=Y->b≠P:=λb o _ n z=>by rw[z,hP] at n;cases n
   refine⟨λb o e n _ _=>kp b o (ne b o e n) e,λb o e n _ _=>⟨o.slots,kp b o (ne b o e n) e⟩,λb o e n _=>?_,λb o e _=>?_,λb xs e=>atb b _ e (neP b _ e (by intro _ z;cases z)),λb o u e=>atb b _ e (neP b _ e (by intro _ z;cases z)),λb qs e=>?_⟩
   ·have n1:b≠h'.objs.size:=LR (LB (Lq e) szle);have n2:b≠c':=LR (LB (Lq e) hge);show bG _ _ _ b=_;rw[au n1,au n2,au (ne b o e n)];exact n
   ·by_cases hb:b=P
    ·exact⟨_,by rw[hb];exact Lg _ htab⟩
    ·exact⟨o,kp b o hb e⟩
   ·by_cases hb:b=P
    ·subst hb;rw[hP] at e;cases e;exact⟨_,atP⟩
    ·exact⟨#[],by rw[atb b _ e hb];simp⟩
  have hok:jt X.prog X.w H' (h'.push (Xu "<lambda>" (bP x) params body scope [] ((X.mg "__name__").getD .none) c' ctv)):=λb u e=>by
   by_cases h1:b=h'.objs.size
   ·subst h1;rw[atq] at e;cases e;exact nT (LJ _ rfl) ⟨_,LJ _ rfl⟩ λh1 h2 e k=>k _ e
   ·by_cases h2:b=c'
    ·subst h2;rw[atc] at e;cases e;refine nT (hrec.keeps λb o e=>Lg _ e) ?_ λh1 h2 e k=>e.at k
     refine q4x3 hrec λc2 o vs t e1 e2 _=>?_;cases e1;exact⟨o,Lg _ e2⟩
    ·by_cases h3:b=P
     ·subst h3;rw[atP] at e;cases e;exact Lg _ htab
     ·have e:bG (bG (bG H P _) c' _) h'.objs.size _ b=Z u:=e;rw[au h1,au h2,au h3] at e;refine(I.hok b u e).stay (λb' v hb' z=>kp b' v ?_ z) (λb' z=>atb b' _ z (neP b' _ z (by intro _ y;cases y))) λb' xs z=>atb b' _ z (neP b' _ z (by intro _ y;cases y))
      rcases hb' with z|z
      ·rw[z];exact h3
      ·exact neP b' _ z (by intro _ y;cases y)
  refine⟨H',I.un (t':=tk) un hok,⟨h'.objs.size,c',_,ctv,rfl,nq,atq,atc⟩,?_⟩;have gr:Grow θ H θ H':=⟨⟨[],by simp,λ_ z=>by cases z⟩,λb u e _ n=>atb b u e (neP b u e n),λb qs e=>by
   by_cases hb:b=P
   ·rw[hb];exact⟨_,atP⟩
   ·exact⟨qs,atb b _ e hb⟩⟩
  refine⟨gr,hw.len,hw.nd,λi a m h1 h2=>?_,?_,?_⟩
  ·have ok:=hw.at_ i a m h1 h2;refine q1x2 ok.plain λo eo po=>?_;have e:H' a=H a:=by
    rw[eo];exact atb a o eo (neP a o eo (by intro qs z;subst z;cases po))
   exact ok.grow gr e
  ·intro y hy c2 P2 e2;refine q1x3 (hw.tb.tab y hy c2 P2 e2) λqs q1 q2 q3=>?_
   by_cases hPP:P2=P
   ·have hyx:y=x:=by
     refine O7 λz=>?_
     rw[hPP] at e2;exact T.uniq y hy z c2 e2
    subst hyx hPP;rw[hP] at q1;cases q1;refine⟨_,atP,?_,λpos' cv z=>?_⟩
    ·rw[Mn];exact TriplesOk_snoc _ _ _ _ q2
    ·rw[Mn] at z;rcases vj _ q2 z with z|z
     ·refine q1x2 (q3 pos' cv z) λc3 e3 e4=>?_;exact⟨c3,e3,atb c3 _ e4 (neP c3 _ e4 (by intro _ y;cases y))⟩
     ·exact⟨c',z,atc⟩
   ·refine⟨qs,atb P2 _ q1 hPP,q2,λpos' cv z=>?_⟩;refine q1x2 (q3 pos' cv z) λc3 e3 e4=>?_;exact⟨c3,e3,atb c3 _ e4 (neP c3 _ e4 (by intro _ y;cases y))⟩
  ·intro y hy c2 P2 e2;refine q2x3 (hw.tb.bm y hy c2 P2 e2) λbm2 ob2 z1 z2 r=>?_;exact⟨bm2,ob2,z1,atb bm2 _ z2 (neP bm2 _ z2 (by intro _ y;cases y)),r⟩
def kW:List D->Option (List Int)
 | []=>Z []
 | .int i::r=>(kW r).map (i::·)
 | _=>Y
def fG:D->Option (List Int)
 | .tup ds=>kW ds
 | _=>Y
theorem sT {K:LX}:∀{ds:List D} {ks:List Int} {vs:List V},kW ds=Z ks->aR K θ H ds vs->vs=ks.map V.int
 | [],ks,vs,h,r=>by cases h;exact r
 | d::ds,ks,vs,h,r=>by
  refine q2x3 r λv rr e h1 h2=>?_;cases d with
  | int i=>
   cases q:kW ds with
   | none=>simp[kW,q] at h
   | some l=>
    simp[kW,q] at h;subst h;have h1:v=.int i:=h1;rw[e,h1,sT q h2];rfl
  | _=>cases h
def iT {K:LX}(h:fG d=Z ks)(r:dj K θ H d v):∃a,v=.ref a/\gJ K θ H a (ks.map V.int):=by
 cases d with
 | tup ds=>
  refine q2x3 r λa vs e t rs=>?_;have:=sT (show kW ds=Z ks from h) rs;subst this;exact⟨a,e,t⟩
 | _=>cases h
def ni (F:FD):List D->D->List Int->aF->aQ D
 | [],b,_,M=>.ok b M
 | d::r,b,kb,M=>match F [d] M with
  | .ok k M1=>match fG k with
   | some ks=>if HT.lexLt ks kb then ni F r d ks M1 else ni F r b kb M1
   | none=>.bad
  | _=>.bad
def mN (F:FD)(ds:List D)(M:aF):aQ D:=match ds with
 | []=>.bad
 | d::r=>match F [d] M with
  | .ok k M1=>match fG k with
   | some ks=>ni F r d ks M1
   | none=>.bad
  | _=>.bad
section
variable {X:Cx}{af:List (LA×Obj)}{σ:L2.St}{q c:LA}{fd:OM}{px qual:Str}{k:Nat}{F:FD}
def tK {M M1:aF}
  (Fn:fA X.prog X.w X.K X.mg X.base (iJ X.prog X.w) k q fd [px] (λvs H Q E=>H q=Z (wI q fd)/\H c=Z (iu c qual)/\pG X.K 1 F vs H Q E)) (hr:bE k X.A.in1) (hb:∀(s:Lm) (u:Lk),Rp s fd ⟨[u],[]⟩ [(px,u)])
  (I:L2.Inv X af σ H s) (hq:H q=Z (wI q fd)) (hc:H c=Z (iu c qual)) (hw:Wr X.K θ H M) (rv:bg v u) (rd:dj X.K θ H d v) (e:F [d] M=.ok kd M1)
  (hQ:∀v' θ' H',Go X.K θ H θ' H' M1->dj X.K θ' H' kd v'->Q v' H'):Lp (LD X.prog X.w) X.A.in1 (call (.ref q) [u]) (EP X af σ Q) E s:=by
 refine Ws (Py (Fn.run X.A.in1 X.stack s H ⟨[u],[]⟩ [u] [v] Q (λ_ _ _=>False) hr I.env0.in1 (hb s u) (.cons rv .nil) ⟨hq,hc,θ,M,[d],rfl,⟨v,[],rfl,rd,rfl⟩,hw,by rw[e];exact hQ⟩) λr s' hq=>?_);cases r with
 | error e=>
  have hq:iJ X.prog X.w X.stack H s (λ_ _ _=>False) e s':=hq;obtain⟨_,_,_,_,_,_,_,_,_,_,_,_,_,_,z⟩:=hq;exact z.elim
 | ok fl=>
  cases fl with
  | ret u=>exact I.after hq
  | next=>exact O0 hq
  | brk=>exact O0 hq
  | cont=>exact O0 hq
def wt (h:df X af H b)(n:H' b=Y):df X af H' b:=⟨n,h.2⟩
def IG {a:LA}(I:L2.Inv X af σ H s)(fa:df X af H a)(fb:df X af H b)(ea:s.heap.get? a=Z oa)(eb:s.heap.get? b=Z ob)(da:∀v,oa.data≠.cell v)(db:∀v,ob.data≠.cell v) :
  L2.Inv X (af++[(a,oa),(b,ob)]) σ H s:=I.pins_of λp hp=>by
 rcases MR.mp hp with z|z
 ·exact I.pin p (Lo _ z)
 ·simp only[L1,mem_nil_iff,or_false] at z;rcases z with z|z <;> subst z
  ·exact⟨ea,fa.1,fa.2.1,fa.2.2.1,da⟩
  ·exact⟨eb,fb.1,fb.2.1,fb.2.2.1,db⟩
def AS {a:LA}(I:L2.Inv X (af++[(a,oa),(b,ob)]) σ H s):L2.Inv X af σ H s/\(s.heap.get? a=Z oa/\H a=Y)/\(s.heap.get? b=Z ob/\H b=Y):=by
 have p1:=I.pin (a,oa) (Lo _ (Lo _ (by simp)));have p2:=I.pin (b,ob) (Lo _ (Lo _ (by simp)));exact⟨I.unpinned,⟨p1.1,p1.2.1⟩,p2.1,p2.2.1⟩
def yC {S:LA}{R:Sh->Lm->Prop}
  (Fn:fA X.prog X.w X.K X.mg X.base (iJ X.prog X.w) k q fd [px] (λvs H Q E=>H q=Z (wI q fd)/\H c=Z (iu c qual)/\pG X.K 1 F vs H Q E)) (hr:bE (k+1) X.A) (hb:∀(s:Lm) (u:Lk),Rp s fd ⟨[u],[]⟩ [(px,u)]) (hcalm:X.calm=true)
  (hnI:S≠it) (hR:∀u s',EP X af σ Q u s'->R (.ok (.ret u)) s') :
  ∀(rest:List D) (j:Nat) (s:Lm) (H:Hp) (θ:List LA) (M:aF) (b:D) (kb:List Int) (vb ukb:V) (ub ukv:Lk) (n:Nat) (vs:List V),ds0.drop j=rest->L2.Inv X af σ H s->df X af H it->df X af H S->s.heap.IsListIter it l j->s.heap.get? S=Z (NX "list" #[ub,ukv] n)->
   Wr X.K θ H M->nE X.K θ H l vs->aR X.K θ H ds0 vs->H q=Z (wI q fd)->H c=Z (iu c qual)->dj X.K θ H b vb->bg vb ub->(∃a,ukb=.ref a/\gJ X.K θ H a (kb.map V.int))->bg ukb ukv->aN X θ H Q (ni F rest b kb M)->
   Oq (LD X.prog X.w) X.A (.builtin "min.loop" ⟨[.ref it,.ref q,.ref S],[]⟩) R s:=by
 have hname:(toString "min"++toString ".loop":String)="min.loop":=by decide
 have hr1:bE k X.A.in1:=hr.in1;intro rest
 induction rest with
 | nil=>
  intro j s H θ M b kb vb ukb ub ukv n vs hd I fi fS st eS hw ta r hq hc rb rvb rk rvk h;refine Nz PySem.F.entry_min_loop ?_;rw[MV PySem.F.plain_min_loop _];show Lp _ X.A.in1 (Rc (.ref S) >>= _) _ _ _;refine Le (MZ eS rfl ?_);refine q1x3 (I.list ta.sq) λits rv p hz=>?_;have hlen:vs.length<=j:=by rw[<-aq r];exact V4.mp hd
  have hl:=rv.length;show Lp _ X.A.in1 (tryCatch (O5 (.ref it)) _ >>= _) _ _ _;refine Le (Oc (Q5 (show X.A.in1.handled=Y from I.ok.hd hcalm) st p.isList (by simp;omega) λh' eb=>?_));have I1:L2.Inv X af σ H {s with heap:=h'}:=I.turned (t':=s.toks) (λb o hb e=>eb b o hb e) fi.1 fi.2.1 fi.2.2.2.1 fi.2.2.2.2.1 fi.2.2.2.2.2;have eS':h'.get? S=Z (NX "list" #[ub,ukv] n):=eb S _ hnI eS;show Lp _ X.A.in1 (SD S (λ_=>#[]) >>= _) _ _ _;refine Le (OH eS' rfl (Le (OU (Lf ?_))));have I2:L2.Inv X af σ H {s with heap:=h'.update S (MK λ_=>#[])}:=I1.turned (t':=s.toks) (λb o hb e=>(Mz h' _ (NL hb)).trans e) fS.1 fS.2.1 fS.2.2.2.1 fS.2.2.2.2.1 fS.2.2.2.2.2;exact hR ub _ ⟨vb,H,I2,rvb,h vb θ H (.refl hw) rb⟩
 | cons d rest ih=>
  intro j s H θ M b kb vb ukb ub ukv n vs hd I fi fS st eS hw ta r hq hc rb rvb rk rvk h;have hj:ds0[j]?=Z d:=by
   have:=congrArg (·[0]?) hd;simpa using this
  have hd':ds0.drop (j+1)=rest:=by
   rw[<-Tf,hd];rfl
  refine q1x2 (bY r hj) λv ev rdv=>?_;refine Nz PySem.F.entry_min_loop ?_;rw[MV PySem.F.plain_min_loop _];show Lp _ X.A.in1 (Rc (.ref S) >>= _) _ _ _;refine Le (MZ eS rfl ?_);refine q1x3 (I.list ta.sq) λits rv p hz=>?_;refine q1x2 (rv.get ev) λu eu ru=>?_;show Lp _ X.A.in1 (tryCatch (O5 (.ref it)) _ >>= _) _ _ _;refine Le (Oc (OO st p.isList (x:=u) (by simpa using eu) λh' st' sb=>?_));have I1:L2.Inv X af σ H {s with heap:=h'}:=I.turned (t':=s.toks) (λb o hb e=>(sb.2 b hb).trans e) fi.1 fi.2.1 fi.2.2.2.1 fi.2.2.2.2.1 fi.2.2.2.2.2;have eS1:h'.get? S=Z (NX "list" #[ub,ukv] n):=(sb.2 S hnI).trans eS;refine q1x3 (id st') λoI hoI cI dI=>?_;have I1p:=IG I1 fS fi eS1 hoI (by intro v z;cases z) (by intro v z;rw[dI] at z;cases z);unfold ni at h;cases eF:F [d] M with
  | bad=>rw[eF] at h;exact h.elim
  | err _ _=>rw[eF] at h;exact h.elim
  | ok kd M1=>
   rw[eF] at h;dsimp only at h;cases eK:fG kd with
   | none=>rw[eK] at h;exact h.elim
   | some ks=>
    rw[eK] at h;dsimp only at h;show Lp _ X.A.in1 (tryCatch (PZ [u] (call (.ref q) [u])) _ >>= _) _ _ _;refine Le (Oc (Mc (bR (tK (Q:=λv' H'=>∃θ',Go X.K θ H θ' H' M1/\dj X.K θ' H' kd v') Fn hr1 hb I1p hq hc hw ru rdv eF λv' θ' H' g rd=>⟨θ',g,rd⟩) λuk s2 hxx=>?_)));obtain⟨vk,H2,I2p,rvk2,θ2,g2,rk2⟩:=hxx;obtain⟨I2,⟨eS2,nS2⟩,eI2,nI2⟩:=AS I2p;have fS2:=wt fS nS2;have fi2:=wt fi nI2;have st2:s2.heap.IsListIter it l (j+1):=⟨oI,eI2,cI,dI⟩;refine q1x2 (iT eK rk2) λak eak tk2=>?_;refine q1x2 rk λab eab tb2=>?_;have tb2:=tb2.grow g2.toGrow;subst eak eab;have ek:uk=.ref ak:=rvk2;have eb':ukv=.ref ab:=rvk;subst ek eb';refine q1x3 (I2.tuple tk2.sq) λi1 r1 p1 _=>?_;refine q1x3 (I2.tuple tb2.sq) λi2 r2 p2 _=>?_;have hq2:H2 q=Z (wI q fd):=g2.keep q _ hq (λz=>by
     obtain⟨i,hi,e⟩:=RC.mp z;refine q1x2 (hw.plain (i:=i) (by rw[Lh hi,e])) λo eo po=>?_;rw[hq] at eo;cases eo;cases po) (by intro _ z;cases z)
    have hc2:H2 c=Z (iu c qual):=g2.keep c _ hc (λz=>by
     obtain⟨i,hi,e⟩:=RC.mp z;refine q1x2 (hw.plain (i:=i) (by rw[Lh hi,e])) λo eo po=>?_;rw[hc] at eo;cases eo;cases po) (by intro _ z;cases z)
    have h2:=aN.go g2 h;show Lp _ X.A.in1 (tryCatch (PZ [u,.ref ak] (Ts .Lt (.ref ak) (.ref ab) >>= _)) _ >>= _) _ _ _;refine Le (Oc (Mc (Le (HT.lt_tupInts p1 p2 (ig r1) (ig r2) hr1.units0 ?_))));refine Le (Mc (Pc ?_));refine Le (OU (Lf ?_))
    by_cases hlt:HT.lexLt ks kb=true
    ·rw[if_pos hlt] at h2;simp only[hlt,if_true];refine Le (OH eS2 rfl (Le (OU ?_)));rw[hname];obtain⟨n3,eS3⟩:∃n3,(s2.heap.update S (MK λ_=>#[u,.ref ak])).get? S=Z (NX "list" #[u,.ref ak] n3):=⟨_,O8 eS2 λ_=>#[u,.ref ak]⟩;have kp:∀b o,b≠S->s2.heap.get? b=Z o->(s2.heap.update S (MK λ_=>#[u,.ref ak])).get? b=Z o:=λb o hb e=>(Mz s2.heap _ (NL hb)).trans e
     have I3:L2.Inv X af σ H2 {s2 with heap:=s2.heap.update S (MK λ_=>#[u,.ref ak])}:=I2.turned (t':=s2.toks) kp fS2.1 fS2.2.1 fS2.2.2.2.1 fS2.2.2.2.2.1 fS2.2.2.2.2.2;exact Lf ⟨NM PySem.F.plain_min_loop _,ih (j+1) _ H2 θ2 M1 d ks v _ u (.ref ak) n3 vs hd' I3 fi2 fS2 ⟨oI,kp it oI (NL hnI) eI2,cI,dI⟩ eS3 g2.wr (ta.grow g2.toGrow) (r.go g2) hq2 hc2 (rdv.go g2) ru ⟨ak,rfl,tk2⟩ rfl h2⟩
    ·have hlt':HT.lexLt ks kb=false:=by simpa using hlt
     rw[if_neg hlt] at h2;simp only[hlt',Ma,if_false];refine Le (OU ?_);rw[hname];exact Lf ⟨NM PySem.F.plain_min_loop _,ih (j+1) s2 H2 θ2 M1 b kb vb _ ub (.ref ab) n vs hd' I2 fi2 fS2 st2 eS2 g2.wr (ta.grow g2.toGrow) (r.go g2) hq2 hc2 (rb.go g2) rvb ⟨ab,rfl,tb2⟩ rfl h2⟩
end
section
variable {X:Cx}{af:List (LA×Obj)}{σ:L2.St}{q c:LA}{fd:OM}{px qual:Str}{k:Nat}{F:FD}
def zd
  (Fn:fA X.prog X.w X.K X.mg X.base (iJ X.prog X.w) k q fd [px] (λvs H Q E=>H q=Z (wI q fd)/\H c=Z (iu c qual)/\pG X.K 1 F vs H Q E)) (hr:bE (k+1) X.A) (hb:∀(s:Lm) (u:Lk),Rp s fd ⟨[u],[]⟩ [(px,u)]) (hcalm:X.calm=true)
  (I:L2.Inv X af σ H s) (hw:Wr X.K θ H M) (ta:nE X.K θ H l vs) (r:aR X.K θ H ds0 vs) (hq:H q=Z (wI q fd)) (hc:H c=Z (iu c qual)) (h:aN X θ H Q (mN F ds0 M)) :
  Lp (LD X.prog X.w) X.A (call (.builtin "min") [.ref l] [(NG "key",.ref q)]) (EP X af σ Q) X.xe s:=by
 have hname:(toString "min"++toString ".loop":String)="min.loop":=by decide
 have hr1:bE k X.A.in1:=hr.in1;cases ds0 with
 | nil=>exact h.elim
 | cons d rest=>
  unfold mN at h;dsimp only at h;cases eF:F [d] M with
  | bad=>rw[eF] at h;exact h.elim
  | err _ _=>rw[eF] at h;exact h.elim
  | ok kd M1=>
   rw[eF] at h;dsimp only at h;cases eK:fG kd with
   | none=>rw[eK] at h;exact h.elim
   | some ks=>
    rw[eK] at h;dsimp only at h;refine q1x2 (bY (i:=0) r rfl) λv ev rdv=>?_;refine q1x3 (I.list ta.sq) λits rv p hz=>?_;refine q1x2 (rv.get ev) λu eu ru=>?_;refine kmk_tree PySem.F.kind_min PySem.F.plain_min PySem.F.entry_min (kmk_min_key _ _) ?_;show Lp _ X.A.in1 (OQ "min" ["key","default"] 0 ⟨[],[(NG "key",.ref q)]⟩ >>= _) _ _ s;refine Le (Pr (show OQ "min" ["key","default"] 0 ⟨[],[(NG "key",.ref q)]⟩=pure [Z (.ref q),Y] from rfl) ?_);refine Le (Lf ?_);refine Le (Sd p.isList ?_);refine Le (Sq ?_ (Ni _));rw[hname];have hS:(s.heap.push {cls:=.type "list_iterator",data:=.fields #[.ref l,.int 0 0]}).objs.size=s.heap.objs.size+1:=WE ..;have fi:df X af H s.heap.objs.size:=I.fpOk (Lr _) (I.hok.fresh (Lr _));have leS:s.heap.objs.size<=(s.heap.push {cls:=.type "list_iterator",data:=.fields #[.ref l,.int 0 0]}).objs.size:=by rw[hS];exact VP _
    have fS:df X af H (s.heap.push {cls:=.type "list_iterator",data:=.fields #[.ref l,.int 0 0]}).objs.size:=I.fpOk leS (I.hok.fresh leS);have hnI:(s.heap.push {cls:=.type "list_iterator",data:=.fields #[.ref l,.int 0 0]}).objs.size≠s.heap.objs.size:=by rw[hS];exact Oa (OX _)
    have gI:((s.heap.push {cls:=.type "list_iterator",data:=.fields #[.ref l,.int 0 0]}).push (NX "list" #[] 0)).get? s.heap.objs.size=Z {cls:=.type "list_iterator",data:=.fields #[.ref l,.int 0 0]}:=Lg _ (LJ _ rfl);have gS:((s.heap.push {cls:=.type "list_iterator",data:=.fields #[.ref l,.int 0 0]}).push (NX "list" #[] 0)).get? (s.heap.push {cls:=.type "list_iterator",data:=.fields #[.ref l,.int 0 0]}).objs.size=Z (NX "list" #[] 0):=LJ _ rfl;have I0:L2.Inv X af σ H {s with heap:=(s.heap.push {cls:=.type "list_iterator",data:=.fields #[.ref l,.int 0 0]}).push (NX "list" #[] 0)}:=I.kept (t':=s.toks) λb o e=>Lg _ (Lg _ e)
    generalize (s.heap.push {cls:=.type "list_iterator",data:=.fields #[.ref l,.int 0 0]}).objs.size=S at *;generalize hit:s.heap.objs.size=it at *;refine Lf ⟨NM PySem.F.plain_min_loop _,?_⟩;refine Nz PySem.F.entry_min_loop ?_;rw[MV PySem.F.plain_min_loop _];show Lp _ X.A.in1 (Rc (.ref S) >>= _) _ _ _;refine Le (MZ gS rfl ?_);refine q1x3 (I0.list ta.sq) λits' rv' p' hz'=>?_;refine q1x2 (rv'.get ev) λu' eu' ru'=>?_;show Lp _ X.A.in1 (tryCatch (O5 (.ref it)) _ >>= _) _ _ _;refine Le (Oc (OO (i:=0) ⟨_,gI,rfl,rfl⟩ p'.isList (x:=u') (by simpa using eu') λh' st' sb=>?_));have I1:L2.Inv X af σ H {s with heap:=h'}:=I0.turned (t':=s.toks) (λb o hb e=>(sb.2 b hb).trans e) fi.1 fi.2.1 fi.2.2.2.1 fi.2.2.2.2.1 fi.2.2.2.2.2;have eS1:h'.get? S=Z (NX "list" #[] 0):=(sb.2 S hnI).trans gS;refine q1x3 (id st') λoI hoI cI dI=>?_;have I1p:=IG I1 fS fi eS1 hoI (by intro v z;cases z) (by intro v z;rw[dI] at z;cases z);show Lp _ X.A.in1 (tryCatch (PZ [u'] (call (.ref q) [u'])) _ >>= _) _ _ _;refine Le (Oc (Mc (bR (tK (Q:=λv' H'=>∃θ',Go X.K θ H θ' H' M1/\dj X.K θ' H' kd v') Fn hr1 hb I1p hq hc hw ru' rdv eF λv' θ' H' g rd=>⟨θ',g,rd⟩) λuk s2 hxx=>?_)));obtain⟨vk,H2,I2p,rvk2,θ2,g2,rk2⟩:=hxx;obtain⟨I2,⟨eS2,nS2⟩,eI2,nI2⟩:=AS I2p;have fS2:=wt fS nS2;have fi2:=wt fi nI2;refine q1x2 (iT eK rk2) λak eak tk2=>?_;have notin:∀(a:LA) (φ:Nu->Prop),H a=Z (.ext φ)->a∉θ:=λa φ e z=>by
     obtain⟨i,hi,e'⟩:=RC.mp z;refine q1x2 (hw.plain (i:=i) (by rw[Lh hi,e'])) λo eo po=>?_;rw[e] at eo;cases eo;cases po
    have hq2:H2 q=Z (wI q fd):=g2.keep q _ hq (notin q _ hq) (by intro _ z;cases z);have hc2:H2 c=Z (iu c qual):=g2.keep c _ hc (notin c _ hc) (by intro _ z;cases z);have h2:=aN.go g2 h;refine Le ?_;show Lp _ X.A.in1 (SD S (λ_=>#[u',uk])) _ _ _;refine OH eS2 rfl ?_;rw[hname];obtain⟨n3,eS3⟩:∃n3,(s2.heap.update S (MK λ_=>#[u',uk])).get? S=Z (NX "list" #[u',uk] n3):=⟨_,O8 eS2 λ_=>#[u',uk]⟩;have kp:∀b o,b≠S->s2.heap.get? b=Z o->(s2.heap.update S (MK λ_=>#[u',uk])).get? b=Z o:=λb o hb e=>(Mz s2.heap _ (NL hb)).trans e
    have I3:L2.Inv X af σ H2 {s2 with heap:=s2.heap.update S (MK λ_=>#[u',uk])}:=I2.turned (t':=s2.toks) kp fS2.1 fS2.2.1 fS2.2.2.2.1 fS2.2.2.2.2.1 fS2.2.2.2.2.2;exact Lf ⟨NM PySem.F.plain_min_loop _,yC (ds0:=d::rest) Fn hr hb hcalm hnI (λu s' e=>e) rest 1 _ H2 θ2 M1 d ks v vk u' uk n3 vs rfl I3 fi2 fS2 ⟨oI,kp it oI (NL hnI) eI2,cI,dI⟩ eS3 g2.wr (ta.grow g2.toGrow) (r.go g2) hq2 hc2 (rdv.go g2) ru' ⟨ak,eak,tk2⟩ rvk2 h2⟩
end
def kU (F:FD)(g:GE):GE:=λρ M=>(g ρ M).bind λd M1=>match d with
 | .lst ds=>mN F ds M1
 | .ro ds=>mN F ds M1
 | _=>.bad
def Bx {k:Nat}
  (T:ug X.K x c P) (hr:bE (k+2) X.A) (hg:Gl X "min") (hm:X.mg "min"=Y) (hv:Mp "min"=Z (.builtin "min")) (he:PE X e (tE X g)) (hcode:X.env.code=.ref c) (hglob:X.env.globals=LV) (hq:X.env.qual++("<lambda>":Str)=bP x)
  (hcl:UL scope X.env=pure []) (hd:WD params X.env=([],[])) (hcalm:X.calm=true) (S:dB N [px] scope)
  (hbody:∀(q c':LA) (A:MX) (outer:List Env) (s:Lm) (H:Hp) (E:XK),bE k (A.deeper (Pz (bP x) scope s.heap.objs.size q (.ref c')))->
   PE (fZ (iJ X.prog X.w) X.prog X.w X.K X.mg X.base N (bP x) scope q (.ref c') A outer s H E) body (tE (fZ (iJ X.prog X.w) X.prog X.w X.K X.mg X.base N (bP x) scope q (.ref c') A outer s H E) gb))
  (hb:∀(pm cv ctv:Lk) (s:Lm) (u:Lk),Rp s (qx (bP x) params body scope pm cv ctv) ⟨[u],[]⟩ [(px,u)]) (h1:bA e=true) :
  PE X (.Call (.Name "min" p) [e] [⟨Z "key",.Lambda params body scope lpos,kpos⟩] pos) (tE X (kU (uP (N.length-1) gb) g)):=by
 intro af s σ H Q I h;refine q3x3 h λρ θ M hden hw h=>?_;have hs:Mt [e] X.env=[(false,Ou e X.env)]:=by rw[sE h1];rfl
 refine Qs (iI I hg hm hv ?_);refine callWith_kw (e:=e) (rest:=[]) (bR ((io he kM hs) pos af s σ H _ I (show Dj (tE X g) Hy σ H (λxs H1=>∃v d θ1 M1,xs=[v]/\Go X.K θ H θ1 H1 M1/\dj X.K θ1 H1 d v/\aN X θ H Q (match d with | .lst ds=>mN (uP (N.length-1) gb) ds M1 | .ro ds=>mN (uP (N.length-1) gb) ds M1|_=>.bad)) from
  cU hden hw (aN X θ H Q) (λc M' h=>h) (λh=>h) h λd M1 v θ1 H1 g1 r1 h1=>⟨v,d,θ1,M1,rfl,g1,r1,h1⟩)) λus s1 hxx=>?_) (by rw[hs];rfl) (by rw[hs];rfl)
 obtain⟨xs,H1,I1,rx,v,d,θ1,M1,ex,g1,r1,h1⟩:=hxx;subst ex;refine q1x2 (js rx) λu zz1 ru=>?_;subst zz1;refine kws_cons (bR (AG I1 g1.wr T hcode hglob hq hcl hd) λuq s2 ⟨H2,I2,Md⟩=>kws_nil ?_);obtain⟨⟨q,c',pm,ctv,rfl,nq,hfq,hfc⟩,g2⟩:=Md;have h2:=aN.go (g1.trans g2) h1;have Fn:=Ga (P:=X.prog) (w:=X.w) (K:=X.K) (mg:=X.mg) (base:=X.base) (qual:=bP x) (params:=params) (body:=body) (scope:=scope) (pm:=pm) (ctv:=ctv) (q:=q) (c:=c') (n:=1) S rfl (λA outer s H E hr=>hbody q c' A outer s H E hr);have run:∀(l:LA) (ds:List D) (vs:List V),u=.ref l->nE X.K θ1 H2 l vs->aR X.K θ1 H2 ds vs->aN X θ1 H2 Q (mN (uP (N.length-1) gb) ds M1)->Lp (LD X.prog X.w) X.A (call (.builtin "min") [u] [(NG "key",.ref q)]) (EP X af σ Q) X.xe s2:=λl ds vs eu ta r hh=>by
  rw[eu];exact zd Fn hr (hb pm _ ctv) hcalm I2 g2.wr ta r hfq hfc hh
 show Lp _ X.A (call (.builtin "min") [u] [(NG "key",.ref q)]) _ _ s2;cases d with
 | lst ds=>
  refine q2x3 (r1.go g2) λa vs ea ta rs=>?_;subst ea;exact run a ds vs ru (.inl ⟨.inl ta.1,ta.2⟩) rs h2
 | ro ds=>
  refine q2x3 (r1.go g2) λa vs ea ta rs=>?_;subst ea;exact run a ds vs ru ta rs h2
 | _=>exact h2.elim
def HU {K:LX}{st:P5}{k:Nat}(F:BC K x x st f fd)(hns:Po K LV x=Z (Z (.ref f)))(T:ug K x c Pt)(S:dB N ps (aH st))(hn:ps.length=n)
  (hbody:∀(A:MX) (outer:List Env) (s:Lm) (H:Hp) (E:XK),bE k (A.deeper (Pz x (aH st) s.heap.objs.size f (.ref c)))->PSs (fZ (iJ P w) P w K mg base N x (aH st) f (.ref c) A outer s H E) (cF st) (tS (fZ (iJ P w) P w K mg base N x (aH st) f (.ref c) A outer s H E) g)) :
  fA P w K mg base (iJ P w) (k+1) f fd ps (pG K n (cz (N.length-n) g)):=by
 refine q9x3 F.ex λoc od kV doc pm an cdv ct osl zz9 lk hcd=>?_;subst zz9;have ec:cdv=.ref c:=by
  have t:=T.tab;unfold Pd at t;rw[hns] at t;dsimp only at t;rw[lk] at t;dsimp only at t;cases cdv with
  | ref c'=>
   dsimp only at t;split at t
   ·split at t
    ·cases t;rfl
    ·cases t
   ·cases t
  | _=>cases t
 subst ec;refine C8 lk hcd S (nL hn) λA outer s H vs Q E hr h=>⟨_,hbody A outer s H E hr,?_⟩
 refine q3x4 h λθ M ds hl r hw h=>?_;have hv:vs.length=n:=by rw[<-aq r];exact hl
 refine⟨j2 (N.length-n) ds,θ,M,by rw[<-hv];exact FK r N,hw,?_⟩;have h:vp K θ H Q E (aI (g (j2 (N.length-n) ds) M)):=h;unfold aI at h;cases q:g (j2 (N.length-n) ds) M with
 | bad=>rw[q] at h;exact h
 | err c M1=>
  rw[q] at h;have h:Ay K θ H E c M1:=h;exact λC θ' H' a s' kC g1 fl=>kP fl (h C θ' H' a kC g1)
 | ok fl M1=>
  rw[q] at h;cases fl with
  | rt d=>exact h
  | nx ρ1=>exact λσ1 θ1 H1 g1 _=>h .non θ1 H1 g1 rfl
  | bk ρ1=>exact h.elim
  | ct ρ1=>exact h.elim
end DL
namespace DL
open PySem PySem.Spec PyProof.Rows L2 List
def Av (A:MX)(s:Lm)(a:Int)(t:Tok)(c:Int)(u:Tok)(prog:Mi)(w:My)(E:Lk->Lm->Prop)(Q:Lk->Lm->Prop)(h:Q (.bool (decide (c<a))) s) :
  Lp (LD prog w) A (Ts .Gt (.int a t) (.int c u)) Q E s:=(Xp h:Lp (LD prog w) A (MI .Gt (.int a t) (.int c u)) Q E s)
section
open PySem.SeqAt
open PySem.AutoSeq1 (wpAny_loadPart')
open PySem.MeetsSeq PySem.MeetsSeq2 PySem.MeetsSeq3
def oZ (l b:LA)(items items2:Array Lk)(n n2:Nat)(dd dd2:Option LA)(sl sl2:Array (Option Lk))(ns ms:List Int)(hi:N5 items.toList ns)(hj:N5 items2.toList ms) :
  Meets (O2.«tuple.__gt__» ⟨[.ref l,.ref b],[]⟩)
   (λ_ R s=>s.heap.get? l=Z {cls:=.type "tuple",dict:=dd,data:=.seq items n,slots:=sl}/\s.heap.get? b=Z {cls:=.type "tuple",dict:=dd2,data:=.seq items2 n2,slots:=sl2}/\
    R (.ok (.ret (.bool (HT.lexLt ms ns)))) s):=
 .of_wp λprog w A R s h=>by
  obtain⟨hp,g,d,tk,os⟩:=s;refine q0x3 h λhl hb h=>?_;have f2:=Sj;have z1:items.size=ns.length:=by rw[<-hi.length];simp
  have z2:items2.size=ms.length:=by rw[<-hj.length];simp
  wp_walk using NV hl,NV hb,Qd _ (λrest b s'=>b.1=Y/\s'=⟨hp,g,d,tk,os⟩/\∃(vs ws:List Lk) (ns' ms':List Int),rest=vs.zip ws/\
   N5 vs ns'/\N5 ws ms'/\ns'.length+items2.size=ms'.length+items.size/\R (.ok (.ret (.bool (HT.lexLt ms' ns')))) ⟨hp,g,d,tk,os⟩) _
  case turn=>
   rintro ⟨y,x⟩ rest b s' ⟨hb',rfl,vs,ws,ns',ms',hz,hvi,hwi,hlen,hR⟩;cases hvi with
   | nil=>rw[Sb] at hz;cases hz
   | cons a t hvi'=>
    cases hwi with
    | nil=>rw[Tc] at hz;cases hz
    | cons c u hwi'=>
     rw[PU] at hz;injection hz with hyx hrest
     injection hyx with hy hx
     subst hy hx;rw[HT.lexLt_cons] at hR;simp only[Mm] at hlen;refine q1x2 (HT.eqAt_int A.in1 ⟨hp,g,d,tk,os⟩ a t c u) λe he hiff=>?_;refine Le (he prog w _ _ ?_);cases e with
     | true=>
      rw[if_pos (hiff.mp rfl).symm] at hR
      wp_walk
      exact⟨rfl,rfl,_,_,_,_,hrest,hvi',hwi',by omega,hR⟩
     | false=>
      rw[if_neg (λq=>absurd (hiff.mpr q.symm) Ly)] at hR;have hri:=Av A.in1 ⟨hp,g,d,tk,os⟩ a t c u prog w
      wp_walk using hri
      exact⟨_,rfl,by simpa using hR⟩
  case fin=>
   rintro ⟨b1,b2⟩ s' ⟨hb',rfl,vs,ws,ns',ms',hz,hvi,hwi,hlen,hR⟩;simp only at hb';subst hb';have hv:HT.lexLt ms' ns'=decide (items2.size<items.size):=by
    cases hvi with
    | nil=>
     cases hwi with
     | nil=>
      simp only[NK] at hlen;rw[HT.lexLt_nil_nil];exact(decide_eq_false (by omega)).symm
     | cons c u hw=>
      simp only[NK,Mm] at hlen;rw[HT.lexLt_cons_nil];exact(decide_eq_false (by omega)).symm
    | cons a t hv=>
     cases hwi with
     | nil=>
      simp only[NK,Mm] at hlen;rw[HT.lexLt_nil_cons];exact(decide_eq_true (by omega)).symm
     | cons c u hw=>
      rw[PU] at hz;cases hz
   rw[hv] at hR
   wp_walk
   exact⟨_,rfl,by simpa[Q4] using hR⟩
  case h=>
   exact⟨rfl,rfl,items.toList,items2.toList,ns,ms,rfl,hi,hj,by omega,h⟩
end
def vO (hl:VJ s.heap l items)(hb:VJ s.heap b items2)(hi:N5 items.toList ns)(hj:N5 items2.toList ms)
  (hu:A.units<Qv) (h:Q (.bool (HT.lexLt ms ns)) s):Lp (LD prog w) A (MI .Gt (.ref l) (.ref b)) Q E s:=by
 obtain⟨⟨cls,dd,data,sl⟩,ho,hc,n,hd⟩:=id hl;obtain⟨⟨cls2,dd2,data2,sl2⟩,ho2,hc2,n2,hd2⟩:=id hb;simp only at hc hd hc2 hd2;subst hc hd hc2 hd2;exact SN (op:=.Gt) ⟨_,ho,rfl⟩ ⟨_,ho2,rfl⟩ PySem.F.slot_tuple_gt PySem.F.entry_tuple_gt (PySem.F.args_tuple_gt_2 _ _) (oZ l b items items2 n n2 dd dd2 sl sl2 ns ms hi hj)
  ⟨ho,ho2,show Uy (HT.lexLt ms ns)≠Tt/\Q (.bool (HT.lexLt ms ns)) s from⟨(λx=>nomatch x),h⟩⟩ hu
def nB:List D->D->List Int->Option D
 | [],b,_=>Z b
 | d::r,b,kb=>match fG d with
  | some ks=>if HT.lexLt kb ks then nB r d ks else nB r b kb
  | none=>Y
def AZ (ds:List D):Option D:=match ds with
 | []=>Y
 | d::r=>match fG d with
  | some ks=>nB r d ks
  | none=>Y
section
variable {X:Cx}{af:List (LA×Obj)}{σ:L2.St}
def AO {S:LA}{R:Sh->Lm->Prop}{k:Nat}
  (hr:bE (k+1) X.A) (hcalm:X.calm=true) (hw:Wr X.K θ H M) (ta:nE X.K θ H l vs) (r:aR X.K θ H ds0 vs)
  (hnI:S≠it) (hR:∀u s',EP X af σ Q u s'->R (.ok (.ret u)) s') (fi:df X af H it) (fS:df X af H S) (hQ:∀v,dj X.K θ H db v->Q v H) :
  ∀(rest:List D) (j:Nat) (s:Lm) (b:D) (kb:List Int) (vb:V) (ub:Lk) (n:Nat),ds0.drop j=rest->L2.Inv X af σ H s->s.heap.IsListIter it l j->s.heap.get? S=Z (NX "list" #[ub,ub] n)->
   dj X.K θ H b vb->bg vb ub->fG b=Z kb->nB rest b kb=Z db->
   Oq (LD X.prog X.w) X.A (.builtin "max.loop" ⟨[.ref it,.none,.ref S],[]⟩) R s:=by
 have hname:(toString "max"++toString ".loop":String)="max.loop":=by decide
 have hr1:bE k X.A.in1:=hr.in1;intro rest
 induction rest with
 | nil=>
  intro j s b kb vb ub n hd I st eS rb rvb hk h;refine Nz PySem.F.entry_max_loop ?_;rw[MV PySem.F.plain_max_loop _];show Lp _ X.A.in1 (Rc (.ref S) >>= _) _ _ _;refine Le (MZ eS rfl ?_);refine q1x3 (I.list ta.sq) λits rv p hz=>?_;have hlen:vs.length<=j:=by rw[<-aq r];exact V4.mp hd
  have hl:=rv.length;show Lp _ X.A.in1 (tryCatch (O5 (.ref it)) _ >>= _) _ _ _;refine Le (Oc (Q5 (show X.A.in1.handled=Y from I.ok.hd hcalm) st p.isList (by simp;omega) λh' eb=>?_));have I1:L2.Inv X af σ H {s with heap:=h'}:=I.turned (t':=s.toks) (λb o hb e=>eb b o hb e) fi.1 fi.2.1 fi.2.2.2.1 fi.2.2.2.2.1 fi.2.2.2.2.2;have eS':h'.get? S=Z (NX "list" #[ub,ub] n):=eb S _ hnI eS;show Lp _ X.A.in1 (SD S (λ_=>#[]) >>= _) _ _ _;refine Le (OH eS' rfl (Le (OU (Lf ?_))));have I2:L2.Inv X af σ H {s with heap:=h'.update S (MK λ_=>#[])}:=I1.turned (t':=s.toks) (λb o hb e=>(Mz h' _ (NL hb)).trans e) fS.1 fS.2.1 fS.2.2.2.1 fS.2.2.2.2.1 fS.2.2.2.2.2;have h:Z b=Z db:=h;cases h;exact hR ub _ ⟨vb,H,I2,rvb,hQ vb rb⟩
 | cons d rest ih=>
  intro j s b kb vb ub n hd I st eS rb rvb hk h;have hj:ds0[j]?=Z d:=by
   have:=congrArg (·[0]?) hd;simpa using this
  have hd':ds0.drop (j+1)=rest:=by
   rw[<-Tf,hd];rfl
  refine q1x2 (bY r hj) λv ev rdv=>?_;refine Nz PySem.F.entry_max_loop ?_;rw[MV PySem.F.plain_max_loop _];show Lp _ X.A.in1 (Rc (.ref S) >>= _) _ _ _;refine Le (MZ eS rfl ?_);refine q1x3 (I.list ta.sq) λits rv p hz=>?_;refine q1x2 (rv.get ev) λu eu ru=>?_;show Lp _ X.A.in1 (tryCatch (O5 (.ref it)) _ >>= _) _ _ _;refine Le (Oc (OO st p.isList (x:=u) (by simpa using eu) λh' st' sb=>?_));have I1:L2.Inv X af σ H {s with heap:=h'}:=I.turned (t':=s.toks) (λb o hb e=>(sb.2 b hb).trans e) fi.1 fi.2.1 fi.2.2.2.1 fi.2.2.2.2.1 fi.2.2.2.2.2;have eS1:h'.get? S=Z (NX "list" #[ub,ub] n):=(sb.2 S hnI).trans eS;unfold nB at h;cases eK:fG d with
  | none=>rw[eK] at h;cases h
  | some ks=>
   rw[eK] at h;dsimp only at h;refine q1x2 (iT eK rdv) λak eak tk2=>?_;refine q1x2 (iT hk rb) λab eab tb2=>?_;subst eak eab;have ek:u=.ref ak:=ru;have eb':ub=.ref ab:=rvb;subst ek eb';refine q1x3 (I1.tuple tk2.sq) λi1 r1 p1 _=>?_;refine q1x3 (I1.tuple tb2.sq) λi2 r2 p2 _=>?_;refine Le (Lf ?_);show Lp _ X.A.in1 (tryCatch (PZ [.ref ak,.ref ak] (Ts .Gt (.ref ak) (.ref ab) >>= _)) _ >>= _) _ _ _;refine Le (Oc (Mc (Le (vO p1 p2 (ig r1) (ig r2) hr1.units0 ?_))));refine Le (Mc (Pc ?_));refine Le (OU (Lf ?_))
   by_cases hlt:HT.lexLt kb ks=true
   ·rw[if_pos hlt] at h;simp only[hlt,if_true];refine Le (OH eS1 rfl (Le (OU ?_)));rw[hname];obtain⟨n3,eS3⟩:∃n3,(h'.update S (MK λ_=>#[.ref ak,.ref ak])).get? S=Z (NX "list" #[.ref ak,.ref ak] n3):=⟨_,O8 eS1 λ_=>#[.ref ak,.ref ak]⟩;have kp:∀b o,b≠S->h'.get? b=Z o->(h'.update S (MK λ_=>#[.ref ak,.ref ak])).get? b=Z o:=λb o hb e=>(Mz h' _ (NL hb)).trans e
    have I3:L2.Inv X af σ H {s with heap:=h'.update S (MK λ_=>#[.ref ak,.ref ak])}:=I1.turned (t':=s.toks) kp fS.1 fS.2.1 fS.2.2.2.1 fS.2.2.2.2.1 fS.2.2.2.2.2;refine q1x3 (id st') λoI hoI cI dI=>?_;exact Lf ⟨NM PySem.F.plain_max_loop _,ih (j+1) _ d ks _ (.ref ak) n3 hd' I3 ⟨oI,kp it oI (NL hnI) hoI,cI,dI⟩ eS3 rdv rfl eK h⟩
   ·have hlt':HT.lexLt kb ks=false:=by simpa using hlt
    rw[if_neg hlt] at h;simp only[hlt',Ma,if_false];refine Le (OU ?_);rw[hname];exact Lf ⟨NM PySem.F.plain_max_loop _,ih (j+1) _ b kb _ (.ref ab) n hd' I1 st' eS1 rb rfl hk h⟩
def xx (a:Lk):WG "max" ⟨[a],[]⟩:=by unfold WG;kernel_rfl
def tZ {k:Nat}
  (hr:bE (k+1) X.A) (hcalm:X.calm=true) (I:L2.Inv X af σ H s) (hw:Wr X.K θ H M) (ta:nE X.K θ H l vs) (r:aR X.K θ H ds0 vs) (h:AZ ds0=Z db) (hQ:∀v,dj X.K θ H db v->Q v H) :
  Lp (LD X.prog X.w) X.A (call (.builtin "max") [.ref l] []) (EP X af σ Q) X.xe s:=by
 have hname:(toString "max"++toString ".loop":String)="max.loop":=by decide
 cases ds0 with
 | nil=>cases h
 | cons d rest=>
  unfold AZ at h;dsimp only at h;cases eK:fG d with
  | none=>rw[eK] at h;cases h
  | some ks=>
   rw[eK] at h;dsimp only at h;refine q1x2 (bY (i:=0) r rfl) λv ev rdv=>?_;refine q1x3 (I.list ta.sq) λits rv p hz=>?_;refine kmk_tree PySem.F.kind_max PySem.F.plain_max PySem.F.entry_max (xx _) ?_;show Lp _ X.A.in1 (OQ "max" ["key","default"] 0 ⟨[],[]⟩ >>= _) _ _ s;refine Le (Pr (show OQ "max" ["key","default"] 0 ⟨[],[]⟩=pure [Y,Y] from rfl) ?_);refine Le (Lf ?_);refine Le (Sd p.isList ?_);refine Le (Sq ?_ (Ni _));rw[hname];have hS:(s.heap.push {cls:=.type "list_iterator",data:=.fields #[.ref l,.int 0 0]}).objs.size=s.heap.objs.size+1:=WE ..;have fi:df X af H s.heap.objs.size:=I.fpOk (Lr _) (I.hok.fresh (Lr _));have leS:s.heap.objs.size<=(s.heap.push {cls:=.type "list_iterator",data:=.fields #[.ref l,.int 0 0]}).objs.size:=by rw[hS];exact VP _
   have fS:df X af H (s.heap.push {cls:=.type "list_iterator",data:=.fields #[.ref l,.int 0 0]}).objs.size:=I.fpOk leS (I.hok.fresh leS);have hnI:(s.heap.push {cls:=.type "list_iterator",data:=.fields #[.ref l,.int 0 0]}).objs.size≠s.heap.objs.size:=by rw[hS];exact Oa (OX _)
   have gI:((s.heap.push {cls:=.type "list_iterator",data:=.fields #[.ref l,.int 0 0]}).push (NX "list" #[] 0)).get? s.heap.objs.size=Z {cls:=.type "list_iterator",data:=.fields #[.ref l,.int 0 0]}:=Lg _ (LJ _ rfl);have gS:((s.heap.push {cls:=.type "list_iterator",data:=.fields #[.ref l,.int 0 0]}).push (NX "list" #[] 0)).get? (s.heap.push {cls:=.type "list_iterator",data:=.fields #[.ref l,.int 0 0]}).objs.size=Z (NX "list" #[] 0):=LJ _ rfl;have I0:L2.Inv X af σ H {s with heap:=(s.heap.push {cls:=.type "list_iterator",data:=.fields #[.ref l,.int 0 0]}).push (NX "list" #[] 0)}:=I.kept (t':=s.toks) λb o e=>Lg _ (Lg _ e)
   generalize (s.heap.push {cls:=.type "list_iterator",data:=.fields #[.ref l,.int 0 0]}).objs.size=S at *;generalize hit:s.heap.objs.size=it at *;refine Lf ⟨NM PySem.F.plain_max_loop _,?_⟩;refine Nz PySem.F.entry_max_loop ?_;rw[MV PySem.F.plain_max_loop _];show Lp _ X.A.in1 (Rc (.ref S) >>= _) _ _ _;refine Le (MZ gS rfl ?_);refine q1x3 (I0.list ta.sq) λits' rv' p' hz'=>?_;refine q1x2 (rv'.get ev) λu' eu' ru'=>?_;show Lp _ X.A.in1 (tryCatch (O5 (.ref it)) _ >>= _) _ _ _;refine Le (Oc (OO (i:=0) ⟨_,gI,rfl,rfl⟩ p'.isList (x:=u') (by simpa using eu') λh' st' sb=>?_));have I1:L2.Inv X af σ H {s with heap:=h'}:=I0.turned (t':=s.toks) (λb o hb e=>(sb.2 b hb).trans e) fi.1 fi.2.1 fi.2.2.2.1 fi.2.2.2.2.1 fi.2.2.2.2.2;have eS1:h'.get? S=Z (NX "list" #[] 0):=(sb.2 S hnI).trans gS;refine q1x3 (id st') λoI hoI cI dI=>?_;refine Le (Lf ?_);refine Le ?_;show Lp _ X.A.in1 (SD S (λ_=>#[u',u'])) _ _ _;refine OH eS1 rfl ?_;rw[hname];obtain⟨n3,eS3⟩:∃n3,(h'.update S (MK λ_=>#[u',u'])).get? S=Z (NX "list" #[u',u'] n3):=⟨_,O8 eS1 λ_=>#[u',u']⟩;have kp:∀b o,b≠S->h'.get? b=Z o->(h'.update S (MK λ_=>#[u',u'])).get? b=Z o:=λb o hb e=>(Mz h' _ (NL hb)).trans e
   have I3:L2.Inv X af σ H {s with heap:=h'.update S (MK λ_=>#[u',u'])}:=I1.turned (t':=s.toks) kp fS.1 fS.2.1 fS.2.2.2.1 fS.2.2.2.2.1 fS.2.2.2.2.2;exact Lf ⟨NM PySem.F.plain_max_loop _,AO hr hcalm hw ta r hnI (λu s' e=>e) fi fS hQ rest 1 _ d ks v u' n3 rfl I3 ⟨oI,kp it oI (NL hnI) hoI,cI,dI⟩ eS3 rdv ru' eK h⟩
def iR:FD:=λds M=>match ds with
 | [.lst xs]=>match AZ xs with
  | some d=>.ok d M
  | none=>.bad
 | [.ro xs]=>match AZ xs with
  | some d=>.ok d M
  | none=>.bad
 | ds=>uT ds M
def CC {k:Nat}(hr:bE (k+1) X.A)(hc:X.calm=true):cG X (.builtin "max") (rC X iR):=by
 intro af s σ H xs us Q I r h;obtain⟨θ,M,ds,hw,rd,h⟩:=h;have two:aN X θ H Q (uT ds M)->Lp (LD X.prog X.w) X.A (call (.builtin "max") us) (EP X af σ Q) X.xe s:=λh=>Fy hc af s σ H xs us Q I r ⟨θ,M,ds,hw,rd,h⟩
 unfold iR at h;split at h
 ·rename_i ys;split at h
  ·rename_i d q;obtain⟨v,rr,e,⟨a,vs,ea,ta,rs⟩,er⟩:=rd;have er:rr=[]:=er;subst er e ea;obtain⟨u,rfl,ru⟩:=js r;have ru:u=.ref a:=ru;subst ru;exact tZ hr hc I hw (.inl ⟨.inl ta.1,ta.2⟩) rs q λv rv=>h v θ H (.refl hw) rv
  ·exact h.elim
 ·rename_i ys;split at h
  ·rename_i d q;obtain⟨v,rr,e,⟨a,vs,ea,ta,rs⟩,er⟩:=rd;have er:rr=[]:=er;subst er e ea;obtain⟨u,rfl,ru⟩:=js r;have ru:u=.ref a:=ru;subst ru;exact tZ hr hc I hw ta rs q λv rv=>h v θ H (.refl hw) rv
  ·exact h.elim
 ·exact two h
end
def CQ {K:LX}
  (hm:x∈bU) (a:Po K LV x=Z (Z (.ref f))) (l:K.lookup f=Z ⟨oc,od,.func fd,sl⟩) (ec:fd.code=.ref c) (lc:K.lookup c=Z ⟨occ,odc,.fields vs,slc⟩) (hcc:occ=.type "code")
  (h11:vs[11]?=Z (.ref P)) (h18:vs.getD 18 .none=.str file tf) (h7:vs.getD 7 .none=.int flags tg) (h9:vs.getD 9 .none=.bool inF) (h10:vs.getD 10 .none=.int text tt) (ne:c≠P)
  (un:∀y,y∈bU->y≠x->Po K LV y=Z Y\/∃c' P',Pd K y=Z (c',P')/\P'≠P):ug K x c P:=by
 have g11:vs.getD 11 .none=.ref P:=by rw[NH,h11];rfl
 refine⟨hm,?_,λy hy nx c2 e=>?_,_,vs,file,tf,flags,tg,inF,text,tt,lc,hcc,rfl,h11,g11,h18,h7,h9,h10,ne⟩
 ·unfold Pd;rw[a];dsimp only;rw[l];dsimp only;rw[ec];dsimp only;rw[lc];dsimp only;rw[h11]
 ·rcases un y hy nx with q|⟨c',P',q,n⟩
  ·unfold Pd at e;rw[q] at e;cases e
  ·rw[q] at e;cases e;exact n rfl
end DL
namespace DL
open PySem PySem.Spec PyProof.Rows L2 List
end DL
namespace DL
open PySem PySem.Spec PyProof.Rows L2 List
section
open Builtin Builtin.Str
end
end DL
namespace DL
open PySem PySem.Spec PyProof.Rows L2 List
section
variable {M:Model}{A:MX}{E:Lk->Lm->Prop}{s:Lm}{env:Env}
def Du (M:Model)(A:MX)(E:Lk->Lm->Prop)(use:Option (Lk->Sem Unit))(Q:Lk->Lm->Prop)(acc:Lk)(ce:Env)(r:Sh)(s':Lm):Prop:=
 match r with
 | .ok f=>X8 M A E use Q acc ce.locals (.ok f) s'
 | .error x=>∃m,s'.heap.Ns ce.locals m/\∀h',Nh ce.locals s'.heap h'->Lp M A (passOn "comprehension.variables-let-go" x ce:Sem Lk) (λ_ _=>False) E {s' with heap:=h'}
def uR
  (k1:clausesOf e=c0::cs) (k2:∀x,Mj c0.iter env x=pure x) (k3:UL scope env=pure cl) (k4:scope.kind=.function) (k5:∀x∈scope.names,x.2=.local->scope.names.lookup x.1=Z .local)
  (go:Lp M A fst (λx s1=>Lp M A (Rx x) (λit s2=>Lp M A mk (λacc s3=>Lp M A (QR scope env.globals cl [] env.qual Y .none (Z env)) (λce s4=>
   Oq M A (.compStart e 0 it acc {ce with scope:=Pm scope env}) (Du M A E use Q acc {ce with scope:=Pm scope env}) s4) E s3) E s2) E s1) E s) :
  Lp M A (Sr e scope env pos mk false fst use) Q E s:=by
 unfold Sr;rw[k3,k1];refine Le (MY go (λx s1 g1=>?_) λ_ _ z=>z);refine Le (Pg (Le (Pr (k2 x) (Le (Mc (MY g1 (λit s2 g2=>?_) λ_ _ z=>z))))));refine wpAny_standIf (Le (MY g2 (λacc s3 g3=>?_) λ_ _ z=>z));refine Le (Lf (Le (MY g3 (λce s4 g4=>?_) λ_ _ z=>z)));dsimp only;have loc:∀y∈(scope.names.filter λy=>(y.2==.local||y.2==.cell)&&y.1 != (".0":Str)).reverse,y.2=.local->YC {ce with scope:=Pm scope env} y.1=Z .local:=
  λy hy hl=>TK (k5 y (Q8.mp (MN.mp hy)).1 hl)
 have loc2:∀y∈(scope.names.filter λy=>(y.2==.local||y.2==.cell)&&y.1 != (".0":Str)).reverse.drop 1++(scope.names.filter λy=>(y.2==.local||y.2==.cell)&&y.1 != (".0":Str)).reverse.take 1,
   y.2=.local->YC {ce with scope:=Pm scope env} y.1=Z .local:=λy hy hl=>by
  rcases MR.mp hy with z|z
  ·exact loc y (OA z) hl
  ·exact loc y (OB z) hl
 refine Mc (Le (PR (Mc (wpAny_run (Py g4 λr s5 g5=>?_)))));cases r with
 | ok f=>
  cases use with
  | none=>
   refine q1x2 g5 λm hn g6=>?_;exact Le (Mc (SE (cenv:={ce with scope:=Pm scope env}) k4 _ s5 m loc hn λh' m' _ sb=>Lf (g6 h' sb)))
  | some u=>
   refine Le (Oy (Le (Mc (MY g5 (λ_ s6 g6=>?_) λ_ _ z=>z))));refine q1x2 g6 λm hn g7=>?_;exact Le (SE (cenv:={ce with scope:=Pm scope env}) k4 _ s6 m loc2 hn λh' m' _ sb=>Lf (g7 h' sb))
 | error x=>
  refine q1x2 g5 λm hn g6=>?_;exact Le (Mc (SE (cenv:={ce with scope:=Pm scope env}) k4 _ s5 m loc hn λh' m' _ sb=>MY (g6 h' sb) (λ_ _ z=>z.elim) λ_ _ z=>z))
end
structure QE (X:Cx)(e:MT)(g:GE):Prop where
 h:PE X e (tE X g)
structure QT (X:Cx)(e:MT)(g:GT):Prop where
 h:PT X e (tT X g)
structure QW (X:Cx)(e:MT)(g:GT):Prop where
 h:PW X e (tT X g)
structure QA (X:Cx)(es:List MT)(g:GA):Prop where
 h:PA X es (tA X g)
structure QS (X:Cx)(st:P5)(g:GS):Prop where
 h:PS X st (tS X g)
structure QB (X:Cx)(st:List P5)(g:GS):Prop where
 h:PSs X st (tS X g)
structure QI (X:Cx)(tg e:MT)(g:GI):Prop where
 h:PI X tg e (tI X g)
structure QG (X:Cx)(tg:MT)(s:GG):Prop where
 h:PG X tg (tG X s)
structure IH (X:Cx)(tgs:List MT)(is:List Nat):Prop where
 h:wg X tgs (IV X is)
structure QP (X:Cx)(e:Option MT)(g:GO):Prop where
 h:PO X e (tO X g)
structure Q2 (X:Cx)(f:Lk->Lk->Sem Lk)(F:F2):Prop where
 h:iH X f (rD X F)
structure QC (X:Cx)(f:Lk)(F:FD):Prop where
 h:cG X f (rC X F)
structure A3 (X:Cx)(scope:PY)(xs:List Str)(R:List Str)(ifs:List MT)(gc:GT):Prop where
 h:dN X scope xs R ifs gc
structure Jd (X:Cx)(tgs:List MT)(ss:List GG):Prop where
 h:wg X tgs (zM X ss)
structure QO (n:Nat)(sg:GG):Prop where
 h:jB n sg
structure IF (n:Nat)(ss:List GG):Prop where
 h:qE n ss
section
variable {X:Cx}{e a b c o i:MT}{es rest:List MT}{x:Str}{p p2 pos pos':Pos}{g ga gb gc go gi ge:GE}{ta tb:GT}{gA:GA}
def ID:Q2 X (OL .Add) bQ:=⟨EF⟩
def Hn:Q2 X (OL .Sub) eM:=⟨E8⟩
def IS:Q2 X (OL .Mult) gf:=⟨FV⟩
def Fi:Q2 X (OL .FloorDiv) dg:=⟨A6⟩
def II:Q2 X (OL .Mod) dq:=⟨Ei⟩
def GU:Q2 X (OL .Pow) oT:=⟨DQ⟩
def Kh:Q2 X (MI .Lt) oQ:=⟨IZ⟩
def KP:Q2 X (MI .LtE) wn:=⟨Ig⟩
def Kl:Q2 X (MI .Gt) vI:=⟨Hs⟩
def Ky:Q2 X (MI .GtE) wj:=⟨Je⟩
def KJ {k:Nat}(hr:bE k X.A):Q2 X (MI .Eq) (cD false):=⟨Iq hr.units⟩
def JQ {k:Nat}(hr:bE k X.A):Q2 X (MI .NotEq) (cD true):=⟨HC hr.units⟩
def Bn:Q2 X (MI .IsNot) (nW true):=⟨z8⟩
def JR:Q2 X (MI .In) (oy false):=⟨Jn⟩
def Hc:QC X (.builtin "len") bh:=⟨F1⟩
def HB (hc:X.calm=true:=by rfl):QC X (.builtin "min") uY:=⟨DS hc⟩
def Ez {k:Nat}(hr:bE (k+1) X.A)(hc:X.calm=true:=by rfl):QC X (.builtin "max") iR:=⟨CC hr hc⟩
def Jk (hc:X.calm=true:=by rfl):QC X (.builtin "all") oX:=⟨EC hc⟩
def GF:QC X (.type "int") uU:=⟨Fd⟩
def Fp:QC X (.type "list") kH:=⟨Ci⟩
def Bq:QC X (.type "tuple") bW:=⟨Am⟩
def qv (i:Nat){x:Str}{pos:Pos}(hN:X.N[i]?=Z x:=by rfl)(hv:Gs X.env.scope x:=by first|exact TB rfl|exact So (TB rfl)|exact So (So rfl))(hd:(x==("__debug__":Str))=false:=by decide)
  (hcd:(x==("__classdict__":Str))=false:=by decide):QE X (.Name x pos) (ae i):=⟨vv i hN hv hd hcd⟩
def EK {i:Int}{j pos}:QE X (.Constant (.int i) j pos) (gC (.int i)):=⟨Ej⟩
def IE {b j pos}:QE X (.Constant (.bool b) j pos) (gC (.bl b)):=⟨HZ⟩
def Gg {j pos}:QE X (.Constant .none j pos) (gC .non):=⟨DO⟩
def Fg {x j pos}:QE X (.Constant (.str x) j pos) (gC (.str x)):=⟨FO⟩
def DJ (h:QE X a g):QE X (.UnaryOp .USub a pos) (uS g):=⟨F0 h.h⟩
def Hf (ho:Q2 X (OL op) f)(ha:QE X a ga)(hb:QE X b gb):QE X (.BinOp a op b pos) (g2 f ga gb):=⟨HW ho.h ha.h hb.h⟩
def DT:CmpOp->Bool
 | .In=>false
 | .NotIn=>false
 | _=>true
def qI {b:MT}(h:DT op=true):Ql op b=false:=by
 cases op <;> first|exact FW _|(cases h)
def D7 (ho:Q2 X (MI op) f)(ha:QE X a ga)(hb:QE X b gb)(hm:DT op=true:=by rfl):QE X (.Compare a [op] [b] pos) (g2 f ga gb):=⟨FP ho.h ha.h hb.h (qI hm)⟩
def Et (ho:Q2 X (MI op) f)(ha:QE X a ga)(hb:QE X b gb)(hm:DT op=true:=by rfl):QT X (.Compare a [op] [b] pos) (aK (g2 f ga gb)):=⟨yZ ho.h ha.h hb.h (qI hm)⟩
def CS (ho:Q2 X (MI op) f)(ha:QE X a ga)(hb:QE X b gb)(hm:Ql op b=false:=by with_unfolding_all rfl):QT X (.Compare a [op] [b] pos) (aK (g2 f ga gb)):=⟨yZ ho.h ha.h hb.h hm⟩
def yL (ho:Q2 X (MI op) f)(ho':Q2 X (MI op') f')(ha:QE X a ga)(hb:QE X b gb)(hc:QE X c gc)(hm:lastMarks [op,op'] [b,c]=false:=by with_unfolding_all rfl):QT X (.Compare a [op,op'] [b,c] pos) (aK (xq f f' ga gb gc)):=⟨y7 ho.h ho'.h ha.h hb.h hc.h hm⟩
def HD (hc:QT X c ta)(ha:QE X a ga)(hb:QE X b gb):QE X (.IfExp c a b pos) (nY ta ga gb):=⟨Jm hc.h ha.h hb.h⟩
def B0 (ha:QT X a ta):QW X (.BoolOp .And [a] pos) ta:=⟨A7 ha.h⟩
def Eg (ha:QT X a ta):QW X (.BoolOp .Or [a] pos) ta:=⟨D9 ha.h⟩
def FT (ha:QT X a ta)(hb:QW X (.BoolOp .And (b::rest) pos) tb):QW X (.BoolOp .And (a::b::rest) pos) (cH ta tb):=⟨EQ ha.h hb.h⟩
def HJ (ha:QT X a ta)(hb:QW X (.BoolOp .Or (b::rest) pos) tb):QW X (.BoolOp .Or (a::b::rest) pos) (fK ta tb):=⟨G8 ha.h hb.h⟩
def HP (h:QW X a ta):QT X a ta:=⟨PW.pt h.h⟩
def FX (h:QT X a ta):QT X (.UnaryOp .Not a pos) (fv ta):=⟨Ek h.h⟩
def EZ (h:QE X a g)(he:∀whole,SM a X.env whole=(do let v <-whole;P1 a.pos;PZ [v] (truthy v)):=by intro _;rfl):QT X a (gK g):=⟨FH h.h he⟩
def Gi:QA X [] ag:=⟨Fc⟩
def Ko {gr:GA}(ha:QE X e g)(hr:QA X es gr)(h:bA e=true:=by rfl):QA X (e::es) (aa g gr):=⟨JG ha.h hr.h h⟩
def Fm {x1}(h:QA X es gA):QE X (.Tuple es x1 pos) (bC gA):=⟨Er h.h⟩
def E0 (h:QA X es gA):QE X (.List es pos) (eU gA):=⟨FE h.h⟩
def DW (h:QA X es gA):QE X (.List es pos) (jw gA):=⟨FG h.h⟩
def D6 {i:Int}{j p1 p2 p3 pos}(hi:i=1)(he:QE X e g):QE X (.Subscript e (.Slice Y Y (Z (.UnaryOp .USub (.Constant (.int i) j p1) p2)) p3) pos) (vZ g):=⟨DH hi he.h⟩
def CN:QP X Y eE:=⟨B7⟩
def Bv (h:QE X e g):QP X (Z e) (jH g):=⟨Bf h.h⟩
def AI {lo hi:Option MT}(he:QE X e g)(hl:QP X lo gl)(hh:QP X hi gh):QE X (.Subscript e (.Slice lo hi Y p2) pos) (yh g gl gh):=⟨AC he.h hl.h hh.h⟩
def HH (ha:QE X a ga)(hb:QE X b gb)(hs:rO b:=by intro _ _;rfl):QE X (.Subscript a b pos) (g2 aB ga gb):=⟨GW ha.h hb.h hs⟩
section
variable {apos cpos:Pos}{k n:Nat}{f:LA}{fd:OM}{ps:List Str}{F:FD}{T:String}{id:String}
def yw (ho:QE X o go)(he:QE X e ge)(h1:bA e=true:=by rfl)(hbase:Sk o "append" X.env (Ou o X.env)=Ou o X.env:=by rfl)(hline:(apos.endLine==cpos.line)=true:=by rfl):QE X (.Call (.Attribute o "append" apos) [e] [] cpos) (jC go ge):=⟨xD ho.h he.h hbase (F8 h1) hline (sE h1) rfl⟩
def Hi (Fn:fA X.prog X.w X.K X.mg X.base (iJ X.prog X.w) k f fd ps (pG X.K n F))(hr:bE k X.A)(hg:Gl X x)(hm:X.mg x=Z (.ref f))(hk:Rr X.K (.ref f)=true)(hb:j1 X.K fd ps [])(ha:QA X (e::es) gA)
  (hdb:(x==("__debug__":Str))=false:=by decide) (h1:bA e=true:=by rfl) (h2:dA es=true:=by rfl):QE X (.Call (.Name x p) (e::es) [] pos) (av n F gA):=⟨Ij Fn hr hg hm hk hb ha.h hdb h1 h2⟩
def Dp (hc:QC X (.builtin id) F)(hg:Gl X x)(hm:X.mg x=Y)(hv:Mp x=Z (.builtin id))(ha:QA X (e::es) gA)(hn:x≠"__name__":=by decide)(hdb:(x==("__debug__":Str))=false:=by decide)
  (h1:bA e=true:=by rfl) (h2:dA es=true:=by rfl):QE X (.Call (.Name x p) (e::es) [] pos) (aE F gA):=⟨Hh hc.h hg hm hv ha.h hn hdb h1 h2⟩
def IA (hc:QC X (.type T) F)(hg:Gl X x)(hm:X.mg x=Y)(hv:Mp x=Z (.type T))(ha:QA X (e::es) gA)(hn:x≠"__name__":=by decide)(hdb:(x==("__debug__":Str))=false:=by decide)
  (h1:bA e=true:=by rfl) (h2:dA es=true:=by rfl):QE X (.Call (.Name x p) (e::es) [] pos) (aE F gA):=⟨Jg hc.h hg hm hv ha.h hn hdb h1 h2⟩
def GL (hT:lR T)(hv:Mp x=Z (.type T))(hg:Gl X x)(hm:X.mg x=Y)(hgi:Gl X "isinstance")(hmi:X.mg "isinstance"=Y)(he:QE X e g)
  (h1:bA e=true:=by rfl) (hn:x≠"__name__":=by decide) (hd:(x==("__debug__":Str))=false:=by decide):QE X (.Call (.Name "isinstance" p) [e,.Name x p2] [] pos) (jA T g):=⟨GP hT hv hg hm hgi hmi he.h h1 hn hd⟩
end
def Iv (hg:Gl X "range")(hm:X.mg "range"=Y)(ha:QA X [a] gA)(h1:bA a=true:=by rfl):QI X tg (.Call (.Name "range" p) [a] [] pos) (bt gA):=⟨Ha hg hm ha.h h1⟩
def GX (hg:Gl X "range")(hm:X.mg "range"=Y)(ha:QA X [a,b] gA)(h1:bA a=true:=by rfl)(h2:bA b=true:=by rfl):QI X tg (.Call (.Name "range" p) [a,b] [] pos) (fP gA):=⟨Ib hg hm ha.h h1 h2⟩
def Ex (h:QE X e g):QI X tg e (cN g):=⟨Gd h.h⟩
def Co {es:List MT}(hg:Gl X "enumerate")(hm:X.mg "enumerate"=Y)(hv:Mp "enumerate"=Z (.type "enumerate"))(ha:QA X [a] gA)(h1:bA a=true:=by rfl):QI X (.Tuple es kt tp) (.Call (.Name "enumerate" p) [a] [] pos) (m7 gA):=⟨Cr hg hm hv ha.h (sE h1)⟩
section
variable {scope:PY}{R:List Str}{Ng elt:MT}{ifs:List MT}{gI:GI}{gC:GT}{px:Pos}{mk:List D->aF->aQ D}
def xO:A3 X scope xs R [] aW:=⟨zq⟩
def ym (h:∀fp s2 H2 C,QT (ah X scope xs R fp s2 H2 C) c ta):A3 X scope xs R [c] ta:=⟨A1 λfp s2 H2 C=>(h fp s2 H2 C).h⟩
def v7 (hS:cj scope X.env.kindOf [x] R X.N=true)(hm:mk=aC\/mk=bM)(hi:QI X (.Name x px) Ng gI)(hts:A3 X scope [x] R ifs gC)(he:∀fp s H C,QE (ah X scope [x] R fp s H C) elt ge)
  (hc:X.calm=true:=by rfl) (hs:∀x,Mj Ng X.env x=pure x:=by intro _;rfl):QE X (.ListComp elt [⟨.Name x px,Ng,ifs,0⟩] scope pos) (aP gI gC ge mk):=⟨Ct hS hc hm hi.h hts.h (λfp s H C=>(he fp s H C).h) hs⟩
def v4 (hS:cj scope X.env.kindOf [x] R X.N=true)(hm:mk=aC\/mk=bM)(hN:X.N.Nodup)(hi:QI X (.Name x px) Ng gI)(hts:A3 X scope [x] R ifs gC)(he:∀fp s H C,QE (ah X scope [x] R fp s H C) elt ge)
  (hc:X.calm=true:=by rfl) (hj:X.N[j]?=Z y:=by rfl) (hy:X.env.scope.names.lookup y=Z .local:=by rfl) (hsw:Ra (.ListComp elt [⟨.Name x px,Ng,ifs,0⟩] scope pos) (Z (.Name y py)) spos.line X.env=pure true:=by rfl)
  (hs:∀x,Mj Ng X.env x=pure x:=by intro _;rfl):QS X (.Assign [.Name y py] (.ListComp elt [⟨.Name x px,Ng,ifs,0⟩] scope pos) spos) (aD j (aP gI gC ge mk)):=⟨vc hS hc hm hi.h hts.h (λfp s H C=>(he fp s H C).h) hN hj hy hsw hs⟩
def Ft (n i:Nat)(h:i<n:=by decide):QO n (aX i):=⟨lC h⟩
def DP (n:Nat)(h:is.all (λi=>decide (i<n))=true:=by rfl):QO n (cb is):=⟨Bd h⟩
def CI:IF n []:=⟨.nil⟩
def Hg {ss:List GG}(h:QO n sg)(t:IF n ss):IF n (sg::ss):=⟨.cons h.h t.h⟩
def CB {ss:List GG}(h:IF n ss):QO n (jW ss):=⟨AL h.h⟩
def p8 (hS:cj scope X.env.kindOf xs R X.N=true)(h:y∈xs):(ah X scope xs R fp s H C).env.scope.names.lookup y=Z .local:=TK ((bH.of hS).own y h)
def K3 (i:Nat)(hS:cj scope X.env.kindOf xs R X.N=true)(hi:(xs++R)[i]?=Z y:=by rfl)(hx:y∈xs:=by simp):QG (ah X scope xs R fp s H C) (.Name y pos) (aX i):=
 ⟨lQ (X:=ah X scope xs R fp s H C) (bH.of hS).nd hi (.inl (p8 hS hx)) (.inr (p8 hS hx))⟩
end
def lJ:MT->Bool
 | .ListComp ..=>false
 | .SetComp ..=>false
 | .DictComp ..=>false
 | _=>true
def k9 {t:Option MT}(h:lJ e=true):Ra e t l env=pure false:=by
 cases e <;> first|rfl|exact ff h
section
variable {st:P5}{stmts:List P5}{t u:GS}
def EU:QB X [] bf:=⟨Ee⟩
def BU (h1:QS X st t)(h2:QB X stmts u):QB X (st::stmts) (ay t u):=⟨Cw h1.h h2.h⟩
def Fj (h1:QS X st t):QB X [st] t:=⟨Eh h1.h⟩
def FI (i:Nat){x:Str}(hN:X.N.Nodup)(he:QE X e g)(hi:X.N[i]?=Z x:=by rfl)(hx:zm X.env.scope x:=by first|exact TB rfl|exact So rfl)(hs:lJ e=true:=by rfl)(hf:X.fn x=true\/X.env.scope.names.lookup x=Z .local:=by first|exact .inl rfl|exact .inr rfl) :
  QS X (.Assign [.Name x pos'] e pos) (aD i g):=⟨ss i hN he.h hi hx (k9 hs) hf⟩
def wb (i:Nat){x:Str}(hN:X.N.Nodup)(he:QE X e g)(hi:X.N[i]?=Z x:=by rfl)(hx:zm X.env.scope x:=by first|exact TB rfl|exact So rfl)(hs:Ra e (Z (.Name x pos')) pos.line X.env=pure false:=by rfl)(hf:X.fn x=true\/X.env.scope.names.lookup x=Z .local:=by first|exact .inl rfl|exact .inr rfl) :
  QS X (.Assign [.Name x pos'] e pos) (aD i g):=⟨ss i hN he.h hi hx hs hf⟩
def FA (he:QE X e g):QS X (.Return (Z e) pos) (bo g):=⟨FJ he.h⟩
def Bi (he:QE X e g)(hs:lJ e=true:=by rfl):QS X (.Expr e pos) (gP g):=⟨Be he.h (k9 hs)⟩
def Hl {a b:List P5}(hc:QT X c tc)(ha:QB X a t)(hb:QB X b u):QS X (.If c a b pos) (gW tc t u):=⟨Il hc.h ha.h hb.h⟩
def qn (i:Nat){x:Str}(hN:X.N.Nodup)(hi:X.N[i]?=Z x:=by rfl)(hx:zm X.env.scope x:=by first|exact TB rfl|exact So rfl)(hf:X.fn x=true\/X.env.scope.names.lookup x=Z .local:=by first|exact .inl rfl|exact .inr rfl):QG X (.Name x pos) (aX i):=⟨gg i hN hi hx hf⟩
def BJ:IH X [] []:=⟨Cb⟩
def Ie {i:Nat}(h1:QG X e (aX i))(h2:IH X es is)(hs:(N9 (e::es) X.env).map (·.2)=Qh e X.env::(N9 es X.env).map (·.2):=by rfl):IH X (e::es) (i::is):=⟨zj h1.h h2.h hs⟩
def DF {k:Nat}(h:IH X es is)(hc:X.calm=true:=by rfl)(hl:is.length=n:=by rfl)(hn:(N9 es X.env).length=n:=by rfl)(hst:(N9 es X.env).findIdx? (·.1)=Y:=by rfl):QG X (.Tuple es k pos) (cb is):=⟨Fk hc h.h hl hn hst⟩
def Cm:Jd X [] []:=⟨Af⟩
def HY {ss:List GG}(h1:QG X e sg)(h2:Jd X es ss)(hs:(N9 (e::es) X.env).map (·.2)=Qh e X.env::(N9 es X.env).map (·.2):=by rfl):Jd X (e::es) (sg::ss):=⟨yx h1.h h2.h hs⟩
def BW {ss:List GG}{k:Nat}(h:Jd X es ss)(hc:X.calm=true:=by rfl)(hl:ss.length=n:=by rfl)(hn:(N9 es X.env).length=n:=by rfl)(hst:(N9 es X.env).findIdx? (·.1)=Y:=by rfl):QG X (.Tuple es k pos) (jW ss):=⟨Ba hc h.h hl hn hst⟩
def D0 (he:QE X e g)(hg:QG X tg s)(hs:lJ e=true:=by rfl)(hw:Uk [tg] e X.env=pure Y:=by rfl)(h1:(N9 [tg] X.env).map (·.2)=[Qh tg X.env]:=by rfl):QS X (.Assign [tg] e pos) (dH s g):=⟨EE he.h hg.h (k9 hs) hw h1⟩
def Ff (he:QE X e g)(ho:QE X o go)(hi:QE X i gi)
  (ha:∀v,Qh (.Subscript o i ip) X.env v=(do
   let ov <-PZ [v] (Ou o X.env)
   let iv <-PZ [v,ov] (Ou i X.env)
   P1 ip
   PZ [v,ov,iv] (YH ov iv v)
   release [v,ov,iv] []):=by intro _;rfl)
  (hs:lJ e=true:=by rfl) (hw:Uk [.Subscript o i ip] e X.env=pure Y:=by rfl):QS X (.Assign [.Subscript o i ip] e pos) (jv go gi g):=⟨FU he.h ho.h hi.h ha (by unfold W6;exact k9 hs) hw rfl⟩
def EG {Ng:MT}(hp:PassesOwn (LD X.prog X.w) X.A X.env X.xe)(hi:QI X tg Ng gI)(hg:QG X tg sg)(hb:QB X body gB)(hc:X.calm=true:=by rfl)(hs:∀x,Mj Ng X.env x=pure x:=by intro _;rfl) :
  QS X (.For tg Ng body [] pos) (dJ gI sg gB):=⟨EO hp hc hi.h hg.h hb.h hs⟩
end
end
structure Mf (K:LX)(C:LA)(x qual:Str)(st:P5)(f:LA)(fd:OM)(ps:List Str):Prop where
 F:BC K x qual st f fd
 me:JL K C x f
 b:j1 K fd ps []
def Hv {K:LX}{st:P5}{k:Nat}(F:BC K x qual st f fd)(S:dB N ps (aH st))(hn:ps.length=n)
  (hbody:∀(cdv:Lk) (A:MX) (outer:List Env) (s:Lm) (H:Hp) (E:XK),bE k (A.deeper (Pz qual (aH st) s.heap.objs.size f cdv))->QB (fZ (iJ P w) P w K mg base N qual (aH st) f cdv A outer s H E) (cF st) g) :
  fA P w K mg base (iJ P w) (k+1) f fd ps (pG K n (cz (N.length-n) g)):=Kt F S hn λcdv A outer s H E hr=>(hbody cdv A outer s H E hr).h
def DG {K:LX}{st:P5}{k:Nat}(F:BC K x x st f fd)(hns:Po K LV x=Z (Z (.ref f)))(T:ug K x c Pt)(S:dB N ps (aH st))(hn:ps.length=n)
  (hbody:∀(A:MX) (outer:List Env) (s:Lm) (H:Hp) (E:XK),bE k (A.deeper (Pz x (aH st) s.heap.objs.size f (.ref c)))->QB (fZ (iJ P w) P w K mg base N x (aH st) f (.ref c) A outer s H E) (cF st) g) :
  fA P w K mg base (iJ P w) (k+1) f fd ps (pG K n (cz (N.length-n) g)):=HU F hns T S hn λA outer s H E hr=>(hbody A outer s H E hr).h
def CJ {k:Nat}
  (T:ug X.K x c P) (hr:bE (k+2) X.A) (hg:Gl X "min") (hm:X.mg "min"=Y) (hv:Mp "min"=Z (.builtin "min")) (S:dB N [px] scope) (he:QE X e g)
  (hbody:∀(q c':LA) (A:MX) (outer:List Env) (s:Lm) (H:Hp) (E:XK),bE k (A.deeper (Pz (bP x) scope s.heap.objs.size q (.ref c')))->
   QE (fZ (iJ X.prog X.w) X.prog X.w X.K X.mg X.base N (bP x) scope q (.ref c') A outer s H E) body gb)
  (hb:∀(pm cv ctv:Lk) (s:Lm) (u:Lk),Rp s (qx (bP x) params body scope pm cv ctv) ⟨[u],[]⟩ [(px,u)]:=by intros;exact .of_eq rfl)
  (hcode:X.env.code=.ref c:=by rfl) (hglob:X.env.globals=LV:=by rfl) (hq:X.env.qual++("<lambda>":Str)=bP x:=by rfl)
  (hcl:UL scope X.env=pure []:=by rfl) (hd:WD params X.env=([],[]):=by rfl) (hcalm:X.calm=true:=by rfl) (h1:bA e=true:=by rfl) :
  QE X (.Call (.Name "min" p) [e] [⟨Z "key",.Lambda params body scope lpos,kpos⟩] pos) (kU (uP (N.length-1) gb) g):=⟨Bx T hr hg hm hv he.h hcode hglob hq hcl hd hcalm S (λq c' A outer s H E hr=>(hbody q c' A outer s H E hr).h) hb h1⟩
def Bs {l:Tw}{k:Nat}{K:UK->LX}
  (hn:l.most=Z n) (hn2:n<=LW) (hdf:d.params.defaults=[]) (hr:bE k Uc) (hY:∀(w:My) (h:Nu),YP w h->(K w.params).In h)
  (hF:∀(w:My) (mg:Str->Option Lk) (fa:LA) (h:Nu),(K w.params).In h->h.Ns LV mg->mg d.name=Z (.ref fa)->
   ∃fd:OM,(∀(s:Lm) (u:Lk),Rp s fd ⟨[u],[]⟩ [(x,u)])/\∀base:Nu,(K w.params).In base->base.Ns LV mg->fA l.prog w (K w.params) mg base (iJ l.prog w) k fa fd [x] (pG (K w.params) 1 F))
  (tabs:∀w:My,∃(ls:List (Str×XI×LA×LA)) (bm:LA),(∀p∈ls,(SU q).find? (λe=>e.name==p.1)=Z p.2.1/\Pd (K w.params) p.1=Z (p.2.2.1,p.2.2.2)/\(K w.params).lookup p.2.2.2=Y)/\
   (∀y,y∈bU->Po (K w.params) LV y=Z Y\/∃p∈ls,p.1=y)/\Po (K w.params) LV "__builtins__"=Z (Z (.ref bm))/\(K w.params).lookup bm=Y)
  (ht:∀ns:List Int,ns.length<=n->∃M',F [.ro (ns.map D.int)] []=.ok (.bl true) M') :
  YU q loose XP YP l.row.toRowW d [] (λf vs=>PySem.call f vs):=
 DN (CX:=λw=>iJ l.prog w) (sp:=λw=>pG (K w.params) 1 F) hn hn2 hdf hr hY hF tabs (λw H a ns hl tb hS=>ET tb hS (ht ns hl)) λw H s e s' z=>Jc z
def Ad {K:LX}:∀p∈([]:List (Str×XI×LA×LA)),(SU q).find? (λe=>e.name==p.1)=Z p.2.1/\Pd K p.1=Z (p.2.2.1,p.2.2.2)/\K.lookup p.2.2.2=Y:=λ_ h=>by cases h
def xY {K:LX}(h1:(SU q).find? (λe=>e.name==x)=Z d)(h2:Pd K x=Z (c,P))(h3:K.lookup P=Y)
  (h:∀p∈ls,(SU q).find? (λe=>e.name==p.1)=Z p.2.1/\Pd K p.1=Z (p.2.2.1,p.2.2.2)/\K.lookup p.2.2.2=Y) :
  ∀p∈(x,d,c,P)::ls,(SU q).find? (λe=>e.name==p.1)=Z p.2.1/\Pd K p.1=Z (p.2.2.1,p.2.2.2)/\K.lookup p.2.2.2=Y:=λp hp=>by
 rcases L1.mp hp with rfl|hp
 ·exact⟨h1,h2,h3⟩
 ·exact h p hp
def sM {φ:Str->Prop}(h1:φ "ink_shown")(h2:φ "table_within")(h3:φ "slots_given")(h4:φ "cast_on_slots"):∀y,y∈bU->φ y:=λy hy=>by
 simp only[bU,L1,NS,or_false] at hy;rcases hy with rfl|rfl|rfl|rfl <;> assumption
def B1 {K:LX}{ls:List (Str×XI×LA×LA)}(h:∀p∈ls,(SU q).find? (λe=>e.name==p.1)=Z p.2.1/\Pd K p.1=Z (p.2.2.1,p.2.2.2)/\K.lookup p.2.2.2=Y)
  (h2:∀y,y∈bU->Po K LV y=Z Y\/∃p∈ls,p.1=y) (h3:Po K LV "__builtins__"=Z (Z (.ref bm))) (h4:K.lookup bm=Y) :
  ∃(ls:List (Str×XI×LA×LA)) (bm:LA),(∀p∈ls,(SU q).find? (λe=>e.name==p.1)=Z p.2.1/\Pd K p.1=Z (p.2.2.1,p.2.2.2)/\K.lookup p.2.2.2=Y)/\
   (∀y,y∈bU->Po K LV y=Z Y\/∃p∈ls,p.1=y)/\Po K LV "__builtins__"=Z (Z (.ref bm))/\K.lookup bm=Y:=⟨ls,bm,h,h2,h3,h4⟩
def DV {K:LX}
  (a:Po K LV x=Z (Z (.ref f))) (l:K.lookup f=Z ⟨oc,od,.func fd,sl⟩) (ec:fd.code=.ref c) (lc:K.lookup c=Z ⟨occ,odc,.fields vs,slc⟩) (h11:vs[11]?=Z (.ref P)):Pd K x=Z (c,P):=by
 unfold Pd;rw[a];dsimp only;rw[l];dsimp only;rw[ec];dsimp only;rw[lc];dsimp only;rw[h11]
end DL
namespace PySem
end PySem
namespace L2
open PySem PySem.Spec PyProof.Rows List
end L2
namespace DL
open PySem PySem.Spec PyProof.Rows L2 List
section
variable {X:Cx}{pos apos cpos:Pos}{o e f:MT}
theorem mK {K:LX}:∀ns:List Int,aR K θ H (ns.map D.int) (ns.map V.int)
 | []=>rfl
 | n::ns=>⟨_,_,rfl,rfl,mK ns⟩
end
end DL
namespace L2
open PySem PySem.Spec PyProof.Rows List
end L2
namespace DL
open PySem PySem.Spec PyProof.Rows L2 List
end DL
namespace L2
open PySem PySem.Spec PyProof.Rows List
end L2
namespace DL
open PySem PySem.Spec PyProof.Rows L2 List
def cx (h1:sc.kind=.function:=by rfl)(h2:sc.isCoroutine=false:=by rfl)(h3:sc.isGenerator=false:=by rfl)(h4:N.Nodup:=by decide +kernel)(h5:N.take ps.length=ps:=by rfl)
  (h6:∀x∈ps,sc.names.lookup x=Z .local\/sc.names.lookup x=Z .cell:=by decide +kernel) (h7:∀y∈sc.names,y.2≠.free:=by decide +kernel):dB N ps sc:=⟨h1,h2,h3,h4,h5,h6,h7⟩
section
variable {X:Cx}{e:MT}{es:List MT}{x:Str}{p pos:Pos}{gA:GA}{k k' n:Nat}{f:LA}{fd:OM}{ps:List Str}{F:FD}{st:P5}{id:String}{T:String}
def G4 (hc:QC X (.builtin id) F)(hm:X.mg x=Y)(hv:Mp x=Z (.builtin id))(ha:QA X (e::es) gA)(hg:Gl X x:=by rfl)(hn:x≠"__name__":=by decide)(hdb:(x==("__debug__":Str))=false:=by decide)
  (h1:bA e=true:=by rfl) (h2:dA es=true:=by rfl):QE X (.Call (.Name x p) (e::es) [] pos) (aE F gA):=Dp hc hg hm hv ha hn hdb h1 h2
end
def FF (K:LX)(mg:Str->Option Lk)(x:Str)(st:P5)(ps:List Str):Prop:=∃f fd,Fn K mg x st f fd ps
def KC (K:LX)(mg:Str->Option Lk)(c:Str)(C:LA):Prop:=Kc K mg c C/\W.makesIn K C=true/\Rr K (.ref C)=true
def MF (K:LX)(mg:Str->Option Lk)(c m q:Str)(st:P5)(ps:List Str):Prop:=∃C f fd,KC K mg c C/\Mf K C m q st f fd ps
def LF (K:LX)(mg:Str->Option Lk)(x:Str)(st:P5)(ps:List Str):Prop:=∃f fd c P,Fn K mg x st f fd ps/\Po K LV x=Z (Z (.ref f))/\ug K x c P
def NA (K:LX)(mg:Str->Option Lk)(c f:Str):Prop:=∃C,KC K mg c C/\Gb K C f
def EX (K:LX)(mg:Str->Option Lk)(x:Str):Prop:=∃C,Ec K mg x C
def IX (K:LX)(mg:Str->Option Lk)(x:Str)(tab:List (Str×Bool)):Prop:=∃G,Ec K mg x G/\∀p∈tab,∃C,Ec K mg p.1 C/\V2 K C (.ref G)=Z p.2
def IB (K:LX)(mg:Str->Option Lk)(x:String)(tab:List (Str×Bool)):Prop:=∀p∈tab,∃C,Ec K mg p.1 C/\V2 K C (.type x)=Z p.2
def Ls {α:Type}(P:α->Prop)(l:List α):Prop:=∀t∈l,P t
section
variable {α β γ:Type}{P:α->Prop}{l:List α}{a:α}
def Ls.nil:Ls P []:=λ_ h=>by cases h
def Ls.cons (h:P a)(t:Ls P l):Ls P (a::l):=λx hx=>by
 rcases L1.mp hx with e|e
 ·rw[e];exact h
 ·exact t x e
end
structure RN (l c:Nat)(xs R:List Str):Prop
def rn (l c:Nat)(xs R:List Str):RN l c xs R:=⟨⟩
def Ok (P:Mi)(w:My)(K:LX)(mg:Str->Option Lk)(base:Nu)(x:Str)(k n:Nat)(F:FD):Prop:=
 ∃f fd ps,fA P w K mg base (iJ P w) k f fd ps (pG K n F)/\mg x=Z (.ref f)/\Rr K (.ref f)=true/\j1 K fd ps []
section
variable {P:Mi}{w:My}{K:LX}{mg:Str->Option Lk}{base:Nu}{x c m q:Str}{st:P5}{N ps:List Str}{k n:Nat}{g:GS}{F:FD}
def nR (h:Ok P w K mg base x k n F):Ok P w K mg base x k n λds M=>jO M.length (F ds M):=by
 refine q3x4 h λf fd ps h1 h2 h3 h4=>?_;exact⟨f,fd,ps,Fx h1,h2,h3,h4⟩
def fz (T:FF K mg x st ps)(N:List Str)(S:dB N ps (aH st))(hn:ps.length=n)
  (hb:∀(f:LA) (cdv:Lk) (A:MX) (outer:List Env) (s:Lm) (H:Hp) (E:XK),N.Nodup->bE k (A.deeper (Pz x (aH st) s.heap.objs.size f cdv))->QB (fZ (iJ P w) P w K mg base N x (aH st) f cdv A outer s H E) (cF st) g) :
  Ok P w K mg base x (k+1) n (cz (N.length-n) g):=by
 refine q2x1 T λf fd T=>?_;exact⟨f,fd,ps,Hv T.F S hn λcdv A outer s H E hr=>hb f cdv A outer s H E S.nd hr,T.m,T.F.kp,T.b⟩
def Ke (T:LF K mg x st ps)(N:List Str)(S:dB N ps (aH st))(hn:ps.length=n)
  (hb:∀(f c Pt:LA) (A:MX) (outer:List Env) (s:Lm) (H:Hp) (E:XK),N.Nodup->ug K x c Pt->bE k (A.deeper (Pz x (aH st) s.heap.objs.size f (.ref c)))->QB (fZ (iJ P w) P w K mg base N x (aH st) f (.ref c) A outer s H E) (cF st) g) :
  Ok P w K mg base x (k+1) n (cz (N.length-n) g):=by
 refine q4x3 T λf fd c Pt T hns tb=>?_;exact⟨f,fd,ps,DG T.F hns tb S hn λA outer s H E hr=>hb f c Pt A outer s H E S.nd tb hr,T.m,T.F.kp,T.b⟩
end
section
variable {X:Cx}{e a o value:MT}{es:List MT}{x c m f:Str}{p p2 pos apos pos':Pos}{gA:GA}{g go gv:GE}{k k' n:Nat}{F:FD}{tab:List (Str×Bool)}{bs:List Str}
def GQ (h:Ok X.prog X.w X.K X.mg X.base x k n F)(hr:bE k' X.A)(ha:QA X (e::es) gA)(hk:k<=k':=by first|decide|omega)(hg:Gl X x:=by rfl)
  (hdb:(x==("__debug__":Str))=false:=by decide) (h1:bA e=true:=by rfl) (h2:dA es=true:=by rfl):QE X (.Call (.Name x p) (e::es) [] pos) (av n F gA):=by
 refine q3x4 h λf fd ps h1' h2' h3 h4=>?_;exact Hi h1' (hr.mono hk) hg h2' h3 h4 ha hdb h1 h2
end
section
variable {X:Cx}{x:Str}{pos px:Pos}{ge:GE}{scope:PY}{xs R:List Str}{Ng elt tg:MT}{ifs:List MT}{gI:GI}{gC:GT}{sg:GG}{mk:List D->aF->aQ D}{j:Nat}{y:Str}{py spos:Pos}{n:Nat}
def AJ (hS:cj scope X.env.kindOf [x] X.N X.N=true)(hm:mk=aC\/mk=bM)(hi:QI X (.Name x px) Ng gI)(hts:A3 X scope [x] X.N ifs gC)(he:∀fp s H C,QE (ah X scope [x] X.N fp s H C) elt ge)
  (hc:X.calm=true:=by rfl) (hs:∀x,Mj Ng X.env x=pure x:=by intro _;rfl):QE X (.ListComp elt [⟨.Name x px,Ng,ifs,0⟩] scope pos) (aP gI gC ge mk):=v7 hS hm hi hts he hc hs
def Ak (_:RN pos.line pos.col [x] R)(hS:cj scope X.env.kindOf [x] R X.N=true)(hm:mk=aC\/mk=bM)(hi:QI X (.Name x px) Ng gI)(hts:A3 X scope [x] R ifs gC)(he:∀fp s H C,QE (ah X scope [x] R fp s H C) elt ge)
  (hc:X.calm=true:=by rfl) (hs:∀x,Mj Ng X.env x=pure x:=by intro _;rfl):QE X (.ListComp elt [⟨.Name x px,Ng,ifs,0⟩] scope pos) (aP gI gC ge mk):=v7 hS hm hi hts he hc hs
def uI (hS:cj scope X.env.kindOf [x] X.N X.N=true)(hm:mk=aC\/mk=bM)(hN:X.N.Nodup)(hi:QI X (.Name x px) Ng gI)(hts:A3 X scope [x] X.N ifs gC)(he:∀fp s H C,QE (ah X scope [x] X.N fp s H C) elt ge)
  (hc:X.calm=true:=by rfl) (hj:X.N[j]?=Z y:=by rfl) (hy:X.env.scope.names.lookup y=Z .local:=by rfl) (hsw:Ra (.ListComp elt [⟨.Name x px,Ng,ifs,0⟩] scope pos) (Z (.Name y py)) spos.line X.env=pure true:=by rfl)
  (hs:∀x,Mj Ng X.env x=pure x:=by intro _;rfl):QS X (.Assign [.Name y py] (.ListComp elt [⟨.Name x px,Ng,ifs,0⟩] scope pos) spos) (aD j (aP gI gC ge mk)):=v4 hS hm hN hi hts he hc hj hy hsw hs
end
structure Tx (tab:List (Str×P5×List Str))(mtab:List (Str×Str×Str×P5×List Str))(ls:List (Str×P5×List Str))(zs es:List Str)(rs:List (Str×List (Str×Bool)))(vt:List (Str×Bool))(nas:List (Str×Str))(cs:List (Str×Str))(ci:List (Str×Int))
  (P:Mi) (w:My) (K:LX) (mg:Str->Option Lk) (base:Nu):Prop where
 f:Ls (λt=>FF K mg t.1 t.2.1 t.2.2) tab
 m:Ls (λt=>MF K mg t.1 t.2.1 t.2.2.1 t.2.2.2.1 t.2.2.2.2) mtab
 l:Ls (λt=>LF K mg t.1 t.2.1 t.2.2) ls
 z:∀x∈zs,mg x=Y
 e:∀x∈es,EX K mg x
 r:Ls (λt=>IX K mg t.1 t.2) rs
 b:IB K mg "ValueError" vt
 a:∀t∈nas,NA K mg t.1 t.2
 s:Ls (λt=>∃tk,mg t.1=Z (.str t.2 tk)) cs
 i:Ls (λt=>∃tk,mg t.1=Z (.int t.2 tk)) ci
def C4 {K:LX}{t:List (Str×Bool)}(h:Ls (λt=>IX K mg t.1 t.2) l)(e:l.lookup x=Z t):IX K mg x t:=by
 refine h (x,t) ?_
 induction l with
 | nil=>cases e
 | cons p l ih=>
  obtain⟨y,u⟩:=p;rw[Pw] at e;split at e
  ·rename_i q;cases e;rw[eq_of_beq q];exact .head _
  ·exact .tail _ (ih (λt ht=>h t (.tail _ ht)) e)
section
variable {K:LX}{mg:Str->Option Lk}{x c m q:Str}{st:P5}{ps:List Str}{l:List (Str×P5×List Str)}{l':List (Str×Str×Str×P5×List Str)}
def fq (h:Ls (λt=>FF K mg t.1 t.2.1 t.2.2) l)(i:Nat)(e:l[i]?=Z (x,st,ps):=by rfl):FF K mg x st ps:=h _ (LU e)
def J4 (h:Ls (λt=>LF K mg t.1 t.2.1 t.2.2) l)(i:Nat)(e:l[i]?=Z (x,st,ps):=by rfl):LF K mg x st ps:=h _ (LU e)
end
section
variable {K:LX}{h:Nu}{mg:Str->Option Lk}{x c m q f':Str}{st:P5}{ps:List Str}{f C G:LA}{oc kV dc pm cd ct:Lk}{od an:Option LA}{sl:Array (Option Lk)}
def Hz (X:K.In h)(Gm:h.Ns LV mg)(a:Po K LV x=Z (Z (.ref f)))(l:K.lookup f=Z ⟨oc,od,.func (Si x x (fX st) (cF st) (aH st) .none kV dc pm an cd ct),sl⟩)(c:U2 K cd x=true)(k:Rr K (.ref f)=true)
  (b:∀(kV doc pm:Lk) (an:Option LA) (cdv ct:Lk) (us:List Lk),us.length=ps.length->U1 (Si x x (fX st) (cF st) (aH st) .none kV doc pm an cdv ct) ⟨us,[]⟩=pure (ps.zip us)):FF K mg x st ps:=
 ⟨f,_,rY (st:=st) l c k,Wj X Gm a,(rY (st:=st) l c k).binds b⟩
def Iy (kC:KC K mg c C)(a:Tr K (.ref C) f'=Z Y):NA K mg c f':=⟨C,kC,a⟩
def Ip (h:Ec K mg x C):EX K mg x:=⟨C,h⟩
def GN (h:Ec K mg x G)(t:Ls (λp=>∃C,Ec K mg p.1 C/\V2 K C (.ref G)=Z p.2) tab):IX K mg x tab:=⟨G,h,t⟩
def Kz (X:K.In h)(Gm:h.Ns LV mg)(e:Po K LV x=Z Y):mg x=Y:=W.mg_none_of X Gm e
def HK {u:Tok->Lk}(X:K.In h)(Gm:h.Ns LV mg)(e:Po K LV x=Z (Z (u tk))):∃tk,mg x=Z (u tk):=⟨tk,Wj X Gm e⟩
end
def Hu {K:LX}{st:P5}{oc occ kV dc pm ct:Lk}
  (X:K.In h) (Gm:h.Ns LV mg) (a:Po K LV x=Z (Z (.ref f))) (l:K.lookup f=Z ⟨oc,od,.func (Si x x (fX st) (cF st) (aH st) .none kV dc pm an (.ref c) ct),sl⟩) (cc:U2 K (.ref c) x=true) (k:Rr K (.ref f)=true)
  (lc:K.lookup c=Z ⟨occ,odc,.fields vs,slc⟩) (hcc:occ=.type "code") (h11:vs[11]?=Z (.ref P)) (h18:vs.getD 18 .none=.str file tf) (h7:vs.getD 7 .none=.int flags tg) (h9:vs.getD 9 .none=.bool inF) (h10:vs.getD 10 .none=.int text tt) (ne:c≠P)
  (hm:x∈bU) (un:∀y,y∈bU->y≠x->Po K LV y=Z Y)
  (b:∀(kV doc pm:Lk) (an:Option LA) (cdv ct:Lk) (us:List Lk),us.length=ps.length->U1 (Si x x (fX st) (cF st) (aH st) .none kV doc pm an cdv ct) ⟨us,[]⟩=pure (ps.zip us)):LF K mg x st ps:=
 ⟨f,_,c,P,⟨rY (st:=st) l cc k,Wj X Gm a,(rY (st:=st) l cc k).binds b⟩,a,CQ hm a l rfl lc hcc h11 h18 h7 h9 h10 ne λy hy n=>.inl (un y hy n)⟩
section
variable {P:List Lk->Prop}
def FR (h:∀a b,P [a,b])(us:List Lk)(hl:us.length=2):P us:=by
 match us,hl with
 | [a,b],_=>exact h a b
end
def Fs {l:Tw}{K:LX}{st:P5}{k:Nat}(hfa:mg "law"=Z (.ref fa))(L:FF K mg "law" st ["script"])
  (h:∀(base:Nu) (f:LA) (fd:OM),Fn K mg "law" st f fd ["script"]->fA l.prog w K mg base (iJ l.prog w) k f fd ["script"] (pG K 1 F))
  (hb:∀(kV doc pm:Lk) (an:Option LA) (cdv ct:Lk) (v:Lk),U1 (Si "law" "law" (fX st) (cF st) (aH st) .none kV doc pm an cdv ct) ⟨[v],[]⟩=pure [(("script":Str),v)]) :
  ∃fd:OM,(∀(s:Lm) (v:Lk),Rp s fd ⟨[v],[]⟩ [("script",v)])/\∀base:Nu,K.In base->base.Ns LV mg->fA l.prog w K mg base (iJ l.prog w) k fa fd ["script"] (pG K 1 F):=by
 refine q2x1 L λf fd L=>?_;have e:=hfa.symm.trans L.m;cases e;refine⟨fd,λs v=>?_,λbase _ _=>h base _ fd L⟩;refine q9x3 L.F.ex λoc od kV doc pm an cdv ct osl zz9 lk hcd=>?_;subst zz9;exact .of_eq (hb kV doc pm an cdv ct v)
end DL
namespace DL
open PySem PySem.Spec PyProof.Rows PySem.W L2 List
section
variable {key:Nat->Int}{N:Nat}{s:Lm}{cmp:Nat->Nat->(Bool->Lm->Prop)->Lm->Prop}
def kp (key:Nat->Int)(p:Array Nat)(k:Nat):Int:=key (p.getD k 0)
def up (key:Nat->Int)(p:Array Nat)(n:Nat):Prop:=∀k,k+1<n->kp key p k<=kp key p (k+1)
def rev_at (hj:j<=p.size)(k:Nat):(kas_rev p i j)[k]?=if i<=k/\k<j then p[i+j-1-k]? else p[k]?:=Ui hj k
end
section
theorem lB:∀a:List Int,HT.lexLt a a=false
 | []=>rfl
 | x::a=>by rw[HT.lexLt_cons,if_pos rfl];exact lB a
theorem nK:∀a b:List Int,HT.lexLt a b=false->HT.lexLt b a=false->a=b
 | [],[],_,_=>rfl
 | [],_::_,h,_=>by cases h
 | _::_,[],_,h=>by cases h
 | x::a,y::b,h1,h2=>by
  rw[HT.lexLt_cons] at h1 h2
  by_cases e:x=y
  ·subst e;rw[if_pos rfl] at h1 h2;rw[nK a b h1 h2]
  ·rw[if_neg e,decide_eq_false_iff_not] at h1;rw[if_neg (λz=>e z.symm),decide_eq_false_iff_not] at h2;omega
theorem iY:∀a b c:List Int,HT.lexLt a b=true->HT.lexLt b c=true->HT.lexLt a c=true
 | [],[],_,h,_=>by cases h
 | [],_::_,[],_,h=>by cases h
 | [],_::_,_::_,_,_=>rfl
 | _::_,[],_,h,_=>by cases h
 | _::_,_::_,[],_,h=>by cases h
 | x::a,y::b,z::c,h1,h2=>by
  rw[HT.lexLt_cons] at h1 h2 ⊢
  by_cases e:x=y
  ·subst e;rw[if_pos rfl] at h1
   by_cases e2:x=z
   ·subst e2;rw[if_pos rfl] at h2 ⊢;exact iY a b c h1 h2
   ·rw[if_neg e2] at h2 ⊢;exact h2
  ·rw[if_neg e,decide_eq_true_iff] at h1
   by_cases e2:y=z
   ·subst e2;rw[if_neg e,decide_eq_true_iff];exact h1
   ·rw[if_neg e2,decide_eq_true_iff] at h2;rw[if_neg (by omega),decide_eq_true_iff];omega
def rank (zs:List (List Int))(z:List Int):Int:=(zs.countP λy=>HT.lexLt y z:Nat)
theorem wU {p q:α->Bool}:∀{l:List α} {x:α},(∀y,p y=true->q y=true)->x∈l->p x=false->q x=true->l.countP p<l.countP q
 | a::l,x,hs,hx,h1,h2=>by
  rw[countP_cons,countP_cons];rcases L1.mp hx with e|e
  ·subst e;have:=Vv (l:=l) (λy _=>hs y);rw[if_neg (by simp[h1]),if_pos h2];omega
  ·have:=wU hs e h1 h2;have h3:=hs a;cases q1:p a with
   | true=>rw[h3 q1];simp only[if_true];omega
   | false=>cases q a <;> simp <;> omega
def As {a:List Int}(ha:a∈zs):HT.lexLt a b=decide (rank zs a<rank zs b):=by
 cases h:HT.lexLt a b with
 | true=>
  have:=wU (l:=zs) (x:=a) (p:=λy=>HT.lexLt y a) (q:=λy=>HT.lexLt y b) (λy q=>iY y a b q h) ha (lB a) h;exact(decide_eq_true (by unfold rank;omega)).symm
 | false=>
  have:zs.countP (λy=>HT.lexLt y b)<=zs.countP (λy=>HT.lexLt y a):=Vv (l:=zs) (p:=λy=>HT.lexLt y b) (q:=λy=>HT.lexLt y a) λy _ q=>by
   have q:HT.lexLt y b=true:=q;show HT.lexLt y a=true;cases h2:HT.lexLt b a with
   | true=>exact iY y b a q h2
   | false=>rw[nK a b h h2];exact q
  exact(decide_eq_false (by unfold rank;omega)).symm
def gV (zs:List (List Int)):List (List Int):=zs.mergeSort λa b=>!HT.lexLt b a
def ii (zs:List (List Int)):(gV zs).Perm zs:=mergeSort_perm zs _
def lF (zs:List (List Int)):(gV zs).Pairwise λa b=>HT.lexLt b a=false:=by
 have h:(gV zs).Pairwise (λa b=>(!HT.lexLt b a)=true):=pairwise_mergeSort (le:=λa b=>!HT.lexLt b a) (λa b c h1 h2=>by
  simp only[QM] at h1 h2 ⊢;cases q:HT.lexLt c a with
  | false=>rfl
  | true=>
   cases q2:HT.lexLt a b with
   | true=>rw[iY c a b q q2] at h2;cases h2
   | false=>have:=nK a b q2 h1;subst this;rw[q] at h2;cases h2) (λa b=>by
  cases q:HT.lexLt b a with
  | false=>rfl
  | true=>
   cases q2:HT.lexLt a b with
   | false=>rfl
   | true=>have:=iY a b a q2 q;rw[lB] at this;cases this) zs
 exact h.imp λh=>by simpa using h
theorem ji:∀{a b:List (List Int)},a.Perm b->a.Pairwise (λx y=>HT.lexLt y x=false)->b.Pairwise (λx y=>HT.lexLt y x=false)->a=b
 | [],b,p,_,_=>(YR p)
 | x::a,[],p,_,_=>absurd p.symm.nil_eq (by simp)
 | x::a,y::b,p,ha,hb=>by
  have h1:HT.lexLt y x=false:=by
   rcases L1.mp (p.symm.subset (Lz ..):y∈x::a) with e|e
   ·rw[e];exact lB x
   ·exact(OK.mp ha).1 y e
  have h2:HT.lexLt x y=false:=by
   rcases L1.mp (p.subset (Lz ..):x∈y::b) with e|e
   ·rw[e];exact lB y
   ·exact(OK.mp hb).1 x e
  have e:=nK x y h2 h1;subst e;rw[ji (perm_cons x |>.mp p) (OK.mp ha).2 (OK.mp hb).2]
end
section
variable {prog:Mi}{w:My}{A:MX}{E:Lk->Lm->Prop}{s:Lm}
theorem tW {fin:Bool}:∀{vs ws:List Lk} {ns ms:List Int} (i:Nat),N5 vs ns->N5 ws ms->fin=decide (ns.length<ms.length)->Q (HT.lexLt ns ms) s->KatLex prog w A b fin Q (vs.zip ws) i s
 | _,_,_,_,i,.nil,.nil,e,h=>by
  rw[Sb];refine YJ ?_;rw[e];exact h
 | _,_,_,_,i,.nil,.cons _ _ _,e,h=>by
  rw[Sb];refine YJ ?_;rw[e,decide_eq_true (by simp)];exact h
 | _,_,_,_,i,.cons _ _ _,.nil,e,h=>by
  rw[Tc];refine YJ ?_;rw[e,decide_eq_false (by simp)];exact h
 | _,_,_,_,i,.cons (ns:=ns) x t r1,.cons (ns:=ms) y u r2,e,h=>by
  rw[PU];refine kat_cons (Vo ?_);rw[HT.lexLt_cons] at h
  by_cases q:x=y
  ·rw[if_pos q] at h;rw[show(x==y)=true by simp[q]];exact kat_yes (tW (i+1) r1 r2 (by rw[e];simp) h)
  ·rw[if_neg q] at h;rw[show(x==y)=false by simp[q]];refine kat_no ?_;cases (b&&i==0) with
   | true=>exact oneLt_int h
   | false=>exact kat_one _ _ (Tb (show W.BoolBack _ (.bool _) _ from h))
def lG (h:Nu):List Lk->List (List Int)->Prop
 | [],[]=>True
 | v::vs,z::zs=>(∃b o xs k,v=.ref b/\h.get? b=Z o/\o.cls=.type "tuple"/\o.data=.seq xs k/\N5 xs.toList z/\z≠[])/\lG h vs zs
 | _,_=>False
theorem lG.keep (k:∀b o,h.get? b=Z o->h'.get? b=Z o):∀{vs:List Lk} {zs:List (List Int)},lG h vs zs->lG h' vs zs
 | [],[],_=>trivial
 | [],_::_,t=>t.elim
 | _::_,[],t=>t.elim
 | _::_,_::_,⟨⟨b,o,xs,n,e,g,r⟩,t⟩=>⟨⟨b,o,xs,n,e,k _ _ g,r⟩,t.keep k⟩
theorem lG.firsts:∀{vs:List Lk} {zs:List (List Int)},lG h vs zs->∃fs,KatTups h vs fs/\fs.length=vs.length/\∀v∈fs,∃n t,v=RM n t
 | [],[],_=>⟨[],.nil,rfl,λv hv=>by cases hv⟩
 | [],_::_,t=>t.elim
 | _::_,[],t=>t.elim
 | _::_,z::_,⟨⟨b,o,xs,n,e,g,c,d,r,z0⟩,t⟩=>by
  refine q1x3 t.firsts λfs k l f=>?_;subst e;cases r':xs.toList with
  | nil=>rw[r'] at r;cases r;exact absurd rfl z0
  | cons x ys=>
   rw[r'] at r;cases r with
   | cons m tk r2=>
    refine⟨RM m tk::fs,.cons g c d (by rw[<-Li,r'];rfl) k,by rw[Mm,Mm,l],λv hv=>?_⟩;rcases L1.mp hv with e|e
    ·exact⟨m,tk,e⟩
    ·exact f v e
end
def aV (z:List Int):D:=.tup (z.map D.int)
def bO:List D->Option (List (List Int))
 | []=>Z []
 | d::ds=>match fG d,bO ds with
  | some (i::z),Z zs=>Z ((i::z)::zs)
  | _,_=>Y
theorem pM {K:LX}:∀l:List Nat,(∀i∈l,dj K θ H (f i) (g i))->aR K θ H (l.map f) (l.map g)
 | [],_=>rfl
 | i::l,h=>⟨_,_,rfl,h i (.head _),pM l λj hj=>h j (.tail _ hj)⟩
theorem pR:∀l:List Nat,(∀i∈l,bg (g i) (u i))->aS (l.map g) (l.map u)
 | [],_=>.nil
 | i::l,h=>.cons (h i (.head _)) (pR l λj hj=>h j (.tail _ hj))
section
variable {X:Cx}{af:List (LA×Obj)}{σ:L2.St}{H:Hp}{s:Lm}{θ:List LA}
theorem sO (I:L2.Inv X af σ H s):∀{xs:List D} {zs:List (List Int)} {vs:List V} {us:List Lk},bO xs=Z zs->aR X.K θ H xs vs->aS vs us->
  lG s.heap us zs/\us.length=zs.length/\∀i,i<zs.length->dj X.K θ H (aV (zs.getD i [])) (vs.getD i .non)/\bg (vs.getD i .non) (us.getD i MJ)
 | [],zs,vs,us,e,r,v=>by
  simp only[bO,U6] at e;subst e;have:vs=[]:=r;subst this;cases v;exact⟨trivial,rfl,λi h=>absurd h (by simp)⟩
 | d::xs,zs,vs,us,e,r,v=>by
  simp only[bO] at e;split at e
  ·rename_i i z zs' q1 q2;cases e;refine q2x3 r λv1 vr e1 r1 r2=>?_;subst e1;cases v with
   | cons h1 h2=>
    refine q0x3 (sO I q2 r2 h2) λt l f=>?_;refine q1x2 (iT q1 r1) λb eb tb=>?_;subst eb;have eu:_=NJ b:=h1;subst eu;obtain⟨its,rr,⟨o,ho,hc,n,hd⟩,_⟩:=I.tuple tb.sq;refine⟨⟨⟨b,o,its.toArray,n,rfl,ho,hc,hd,ig rr,by simp⟩,t⟩,by rw[Mm,Mm,l],λk hk=>?_⟩;cases k with
    | zero=>exact⟨⟨b,_,rfl,tb,mK _⟩,rfl⟩
    | succ k=>exact f k (by simpa using hk)
  ·cases e
end
end DL
namespace DL
open PySem PySem.Spec PyProof.Rows L2 List
end DL
namespace DL
open PySem PySem.Spec PyProof.Rows PySem.W L2 List
end DL
namespace DL
open PySem PySem.Spec PyProof.Rows L2 List
def fM (xs ys:List D):List D:=xs.zipWith (λx y=>D.tup [x,y]) ys
def n8 {i:Nat}(h:(fM xs ys)[i]?=Z d):∃x y,xs[i]?=Z x/\ys[i]?=Z y/\d=.tup [x,y]:=by
 unfold fM at h;rw[Sz] at h;cases q:xs[i]? with
 | none=>rw[q] at h;cases h
 | some x=>
  cases q2:ys[i]? with
  | none=>rw[q,q2] at h;cases h
  | some y=>rw[q,q2] at h;exact⟨x,y,rfl,rfl,(LZ h).symm⟩
end DL
namespace DL
open PySem PySem.Spec PyProof.Rows PySem.W L2 List
end DL
namespace TS
open PySem PyProof.Rows PySem.W
def gallop':Bool->Keyed->Array Keyed->Nat->Nat->Nat->StateT SortSt Sem (Option Nat):=sortPriv% PySem.Builtin.gallop
section
variable {prog:Mi}{w:My}{A:MX}{E:Lk->Lm->Prop}{s:Lm}{κ:P7}{G:LO->Prop}{key:LO->Int}
def LtOk (prog:Mi)(w:My)(A:MX)(s:Lm)(κ:P7)(G:LO->Prop)(key:LO->Int):Prop:=∀x y,G x->G y->∀C:Bool->Lm->Prop,C (decide (key x<key y)) s->Lp (LD prog w) A (keyLt' κ x.1 y.1) C (λ_ _=>False) s
def wpS_lt (hL:LtOk prog w A s κ G key)(hx:G x)(hy:G y){st:L4}(hk:kindOf st=κ)(h:Q (Z (decide (key x<key y))) st):wpS (LD prog w) A E s (lt' x y) Q st:=by
 rw[lt'_eq];refine LM (Se ?_);rw[hk];refine LM (SF (PR (MY (hL x y hx hy (λb s'=>b=decide (key x<key y)/\s'=s) ⟨rfl,rfl⟩) (λb s' hb=>?_) λ_ _ hF=>hF.elim)));refine q0x2 hb λzz0 zz1=>?_;subst zz0;subst zz1;exact⟨rfl,LP h⟩
def wpS_elem (hi:arr[i]?=Z x){st:L4}(h:Q x st):wpS (LD prog w) A E s (elem' arr i) Q st:=by
 rw[elem'_eq,hi];exact LP h
def bey (key:LO->Int)(left:Bool)(k x:LO):Bool:=if left then decide (key x<key k) else !decide (key k<key x)
def wpS_bey (hL:LtOk prog w A s κ G key){k:LO}(hk:G k)(hx:G x)(hi:arr[i]?=Z x){st:L4}(hst:kindOf st=κ)(h:Q (Z (bey key l k x)) st) :
  wpS (LD prog w) A E s (do let x <-elem' arr i;if l=true then lt' x k else do let r <-lt' k x;pure (WH (λx=>!x) r)) Q st:=by
 refine LM (wpS_elem hi ?_);cases l with
 | true=>
  rw[if_pos rfl];exact wpS_lt hL hx hk hst h
 | false=>
  rw[if_neg Ly];exact LM (wpS_lt hL hk hx hst (LP h))
structure Seek (key:LO->Int)(G:LO->Prop)(l:Bool)(k:LO)(arr:Array LO)(b n:Nat)(B:Nat->Bool):Prop where
 at_:∀i,i<n->∃x,arr[b+i]?=Z x/\G x/\B i=bey key l k x
 mono:∀i j,i<=j->j<n->B j=true->B i=true
def Found (n:Nat)(B:Nat->Bool)(m:Nat):Prop:=m<=n/\(∀i,i<m->B i=true)/\∀i,m<=i->i<n->B i=false
def wpS_ite [Decidable c]{x y:StateT L4 Sem α}{Q:α->L4->Prop}{st:L4}(h1:c->wpS (LD prog w) A E s x Q st)(h2:¬c->wpS (LD prog w) A E s y Q st):wpS (LD prog w) A E s (if c then x else y) Q st:=by
 by_cases h:c
 ·rw[if_pos h];exact h1 h
 ·rw[if_neg h];exact h2 h
def LQ (I:Nat->ρ->L4->Prop)(D:R'->L4->Prop)(N:ρ->L4->Prop)(x:Nat):ForInStep (Option R'×ρ)->L4->Prop
 | .yield c,st'=>c.1=Y/\I (x+1) c.2 st'
 | .done (Z r,_),st'=>D r st'
 | .done (Y,c),st'=>N c st'
def LQ.y {I:Nat->ρ->L4->Prop}{D:R'->L4->Prop}{N:ρ->L4->Prop}{x:Nat}{c:ρ}{st':L4}(h:I (x+1) c st'):LQ I D N x (.yield (Y,c)) st':=⟨rfl,h⟩
def LQ.n {I:Nat->ρ->L4->Prop}{D:R'->L4->Prop}{N:ρ->L4->Prop}{x:Nat}{c:ρ}{st':L4}(h:N c st'):LQ I D N x (.done (Y,c)) st':=h
def wpS_loop {ρ R' α:Type}{a n:Nat}{f:Nat->Option R'×ρ->StateT L4 Sem (ForInStep (Option R'×ρ))}{g:Option R'×ρ->StateT L4 Sem α}{Q:α->L4->Prop}{c0:ρ}{st:L4}
  (I:Nat->ρ->L4->Prop) (D:R'->L4->Prop) (N:ρ->L4->Prop) (init:I a c0 st) (step:∀x c st',x<n->I x c st'->wpS (LD prog w) A E s (f x (Y,c)) (LQ I D N x) st') (fin:∀c st',I (max a n) c st'->N c st')
  (hs:∀r c st',D r st'->wpS (LD prog w) A E s (g (Z r,c)) Q st') (hn:∀c st',N c st'->wpS (LD prog w) A E s (g (Y,c)) Q st'):wpS (LD prog w) A E s (forIn [a:n] (Y,c0) f >>= g) Q st:=by
 refine LM (SG (QU (I:=λx c st'=>c.1=Y/\I x c.2 st') (Q:=λc st'=>match c.1 with|some r=>D r st'|none=>N c.2 st') (λx c st' _ hx h=>?_) (λc st' h=>?_) ⟨rfl,init⟩) (λc st' h=>?_))
 ·obtain⟨o,c⟩:=c;cases h.1;refine SG (step x c st' hx h.2) λr st2 q=>?_
  match r,q with
  | .yield c2,q=>exact q
  | .done (Z r,c2),q=>exact q
  | .done (Y,c2),q=>exact q
 ·obtain⟨o,c⟩:=c;cases h.1;exact fin c st' h.2
 ·obtain⟨o,c⟩:=c;cases o with
  | some r=>exact hs r c st' h
  | none=>exact hn c st' h
def wpS_cut1 {st:L4}{m:StateT L4 Sem α}{Q:α->L4->Prop}{j:Unit->β->StateT L4 Sem α}(P:β->L4->Prop)(h1:∀b st',P b st'->wpS (LD prog w) A E s (j () b) Q st')(h2:(∀b st',P b st'->wpS (LD prog w) A E s (j () b) Q st')->wpS (LD prog w) A E s m Q st):wpS (LD prog w) A E s m Q st:=h2 h1
def wpS_cut2 {st:L4}{m:StateT L4 Sem α}{Q:α->L4->Prop}{j:Unit->β->δ->StateT L4 Sem α}(P:β->δ->Prop)(h1:∀b d,P b d->wpS (LD prog w) A E s (j () b d) Q st)(h2:(∀b d,P b d->wpS (LD prog w) A E s (j () b d) Q st)->wpS (LD prog w) A E s m Q st):wpS (LD prog w) A E s m Q st:=h2 h1
def wpS_cut0 {st:L4}{m:StateT L4 Sem α}{Q:α->L4->Prop}{j:Unit->StateT L4 Sem α}(P:L4->Prop)(h1:∀st',P st'->wpS (LD prog w) A E s (j ()) Q st')(h2:(∀st',P st'->wpS (LD prog w) A E s (j ()) Q st')->wpS (LD prog w) A E s m Q st):wpS (LD prog w) A E s m Q st:=h2 h1
def not_t {b:Bool}(h:(!b)=true):b=false:=by cases b;rfl;cases h
def not_f {b:Bool}(h:¬(!b)=true):b=true:=by cases b;exact absurd rfl h;rfl
structure G1 (B:Nat->Bool)(n hint x la o:Nat)(st st':L4):Prop where
 e:st'=st
 lt:la<o
 ge:x+1<=o
 inn:hint+la<n
 yes:B (hint+la)=true
structure N1 (B:Nat->Bool)(n hint la o:Nat)(st st':L4):Prop where
 e:st'=st
 lt:la<o
 inn:hint+la<n
 yes:B (hint+la)=true
 no:hint+o<n->B (hint+o)=false
structure G2 (B:Nat->Bool)(n x lo hi:Nat)(st st':L4):Prop where
 e:st'=st
 le:lo<=hi
 len:hi<=n
 sz:hi+x<=lo+n
 yes:∀i,i<lo->B i=true
 no:∀i,hi<=i->i<n->B i=false
structure G3 (B:Nat->Bool)(hint x la o:Nat)(st st':L4):Prop where
 e:st'=st
 lt:la<o
 ge:x+1<=o
 le:la<=hint
 no:B (hint-la)=false
structure N3 (B:Nat->Bool)(hint la o:Nat)(st st':L4):Prop where
 e:st'=st
 lt:la<o
 le:la<=hint
 no:B (hint-la)=false
 yes:o<=hint->B (hint-o)=true
def grow {x o:Nat}(h:x+1<=o):o<2*o+1/\x+1+1<=2*o+1:=by omega
def mid {a b:Nat}(h:a<b):a+(b-a) / 2<b:=by omega
def gallop_ok (hL:LtOk prog w A s κ G key){k:LO}(hk:G k)(hS:Seek key G l k arr b n B)(hh:hint<n){st:L4}(hst:kindOf st=κ)
  (h:∀m,Found n B m->Q (Z m) st):wpS (LD prog w) A E s (gallop' l k arr b n hint) Q st:=by
 have be:∀i,i<n->∀{Q:Option Bool->L4->Prop},Q (Z (B i)) st->wpS (LD prog w) A E s (do let x <-elem' arr (b+i);if l=true then lt' x k else do let r <-lt' k x;pure (WH (λx=>!x) r)) Q st:=λi hi Q hq=>by
  refine q1x3 (hS.at_ i hi) λx e gx eb=>?_;rw[eb] at hq;exact wpS_bey hL hk gx e hst hq
 have no:∀i j,i<=j->j<n->B i=false->B j=false:=λi j h1 h2 h3=>by
  cases q:B j with
  | false=>rfl
  | true=>rw[hS.mono i j h1 h2 q] at h3;cases h3
 refine LM (be hint hh ?_);dsimp (config:={zeta:=false,zetaHave:=false}) only
 extract_lets +onlyGivenNames jp
 have hj:∀la o lo hi,G2 B n 0 lo hi st st->wpS (LD prog w) A E s (jp () la o lo hi) Q st:=λla o lo hi g=>by
  refine wpS_loop (I:=λx c=>G2 B n x c.1 c.2 st) (D:=λ_ _=>False) (N:=λc st'=>st'=st/\Found n B c.2) g (λx c st' _ g=>?_) (λc st' g=>?_) (λ_ _ _ z=>z.elim) (λc st' q=>?_)
  ·cases g.e;refine wpS_ite (λhm=>LP (LQ.n ⟨rfl,g.len,λi hi=>g.yes i (LB hi hm),g.no⟩)) (λhm=>?_);have m1:c.1<=c.1+(c.2-c.1) / 2:=Mu ..;have m2:c.1+(c.2-c.1) / 2<c.2:=mid (Qe hm);generalize hm3:c.1+(c.2-c.1) / 2=m at m1 m2;refine LM (be m (LB m2 g.len) ?_);refine wpS_ite (λr=>LP (LQ.y ⟨rfl,m2,g.len,?_,λi hi=>hS.mono i m (QV hi) (LB m2 g.len) r,g.no⟩)) (λr=>LP (LQ.y ⟨rfl,m1,LG (Np m2) g.len,?_,g.yes,λi z1 z2=>no m i z1 z2 (Rh _▸r)⟩))
   ·have:=g.sz;exact LG (Oz this) (by rw[UM];exact Oz (TL m1 n))
   ·exact LG (by rw[<-NN,UM];exact TL m2 x) g.sz
  ·cases g.e;have z:c.2<=c.1:=Nat.le_of_add_le_add_right (LG (MS (OY 0 n) _) g.sz);exact⟨rfl,g.len,λi hi=>g.yes i (LB hi z),g.no⟩
  ·cases q.1;exact LP (h _ q.2)
 clear_value jp
 refine wpS_ite (λq=>?_) (λq=>?_)
 ·refine wpS_loop (I:=λx c=>G1 B n hint x c.1 c.2 st) (D:=λ_ _=>False) (N:=λc=>N1 B n hint c.1 c.2 st) ⟨rfl,Ru,Lr _,hh,q⟩ (λx c st' _ g=>?_) (λc st' g=>⟨g.e,g.lt,g.inn,g.yes,λz=>absurd (Nv (O9 ..) z) (Qf (LG (OY 0 n) (OF g.ge)))⟩) (λ_ _ _ z=>z.elim) (λc st' g=>?_)
  ·cases g.e;refine wpS_ite (λhm=>LP (LQ.n ⟨rfl,g.lt,g.inn,g.yes,λz=>absurd z (Qf (Nat.sub_le_iff_le_add'.mp hm))⟩)) (λhm=>?_);refine LM (be (hint+c.2) (PV (Qe hm)) ?_);exact wpS_ite (λr=>LP (LQ.n ⟨rfl,g.lt,g.inn,g.yes,λ_=>not_t r⟩)) (λr=>LP (LQ.y ⟨rfl,(grow g.ge).1,(grow g.ge).2,PV (Qe hm),not_f r⟩))
  ·cases g.e;refine hj _ _ _ _ ⟨rfl,MS (WI.mpr ⟨g.lt,Nat.le_sub_of_add_le' g.inn⟩) hint,LG (MS (Sy ..) _) (Nj (Oj (Np hh))),?_,λi hi=>hS.mono i _ (QV hi) g.inn g.yes,λi h6 h7=>?_⟩
   ·exact LG (MS (Sy ..) _) (LG (Nj (Oj (Np hh))) (O9 ..))
   ·by_cases z:c.2<=n-hint
    ·rw[V5 z] at h6;exact no (hint+c.2) i h6 h7 (g.no (Nv h6 h7))
    ·rw[Vw (Nat.le_of_not_le z),Oj (Np hh)] at h6;exact absurd h7 (Qf h6)
 ·refine wpS_loop (I:=λx c=>G3 B hint x c.1 c.2 st) (D:=λ_ _=>False) (N:=λc=>N3 B hint c.1 c.2 st) ⟨rfl,Ru,Lr _,Ni _,Rh _▸q⟩ (λx c st' _ g=>?_) (λc st' g=>⟨g.e,g.lt,g.le,g.no,λz=>absurd (Nv z hh) (Qf (LG (OY 0 n) (OF g.ge)))⟩) (λ_ _ _ z=>z.elim) (λc st' g=>?_)
  ·cases g.e;refine wpS_ite (λhm=>LP (LQ.n ⟨rfl,g.lt,g.le,g.no,λz=>absurd z (Nat.not_le_of_gt hm)⟩)) (λhm=>?_);refine LM (be (hint-c.2) (Nv (P8 ..) hh) ?_);exact wpS_ite (λr=>LP (LQ.n ⟨rfl,g.lt,g.le,g.no,λ_=>r⟩)) (λr=>LP (LQ.y ⟨rfl,(grow g.ge).1,(grow g.ge).2,QV (Qe hm),Rh _▸r⟩))
  ·cases g.e;refine hj _ _ _ _ ⟨rfl,?_,LG (P8 ..) (Np hh),LG (P8 ..) (LG (Np hh) (O9 ..)),λi hi=>?_,λi h6 h7=>no _ i h6 h7 g.no⟩
   ·have z1:=g.lt;have z2:=g.le;clear g hS hst hj no be;show hint+1-min c.2 (hint+1)<=hint-c.1;omega
   ·by_cases z:c.2<=hint
    ·rw[V5 (Nk z)] at hi;exact hS.mono i (hint-c.2) (QV (by rw[Nat.succ_sub z] at hi;exact hi)) (Nv (P8 ..) hh) (g.yes z)
    ·rw[Vw (Qe z),PB] at hi;exact absurd hi (Ta _)
end
end TS
namespace TS
open PySem PyProof.Rows PySem.W
structure Mg (R:LO->LO->Prop)(W out RA RB:List LO):Prop where
 perm:(out++(RA++RB)).Perm W
 up:out.Pairwise R
 le:∀x∈out,∀y∈RA++RB,R x y
section
variable {R:LO->LO->Prop}{W out RA RB XS:List LO}{x:LO}
def Mg.swap (h:Mg R W out RA RB):Mg R W out RB RA:=⟨(Ow _ List.perm_append_comm).trans h.perm,h.up,λx hx y hy=>h.le x hx y (by
 rcases MR.mp hy with z|z
 ·exact Lo _ z
 ·exact Ml _ z)⟩
def Mg.as (h:Mg R W out (XS++RA) RB)(hs:(XS++RA).Pairwise R)(hx:∀x∈XS,∀y∈RB,R x y):Mg R W (out++XS) RA RB:=by
 rw[Mh] at hs;refine⟨?_,?_,λx hx' y hy=>?_⟩
 ·have:=h.perm;rw[LC,<-LC XS];exact this
 ·rw[Mh];exact⟨h.up,hs.1,λx h1 y h2=>h.le x h1 y (Ml _ (Ml _ h2))⟩
 ·rcases MR.mp hx' with z|z
  ·refine h.le x z y ?_;rcases MR.mp hy with u|u
   ·exact Ml _ (Lo _ u)
   ·exact Lo _ u
  ·rcases MR.mp hy with u|u
   ·exact hs.2.2 x z y u
   ·exact hx x z y u
def Mg.a (h:Mg R W out (x::RA) RB)(hs:(x::RA).Pairwise R)(hx:∀y∈RB,R x y):Mg R W (out++[x]) RA RB:=
 Mg.as (XS:=[x]) h hs λz hz y hy=>by rw[LK.mp hz];exact hx y hy
def Mg.fin (h:Mg R W out RA [])(hs:RA.Pairwise R):(out++RA).Perm W/\(out++RA).Pairwise R:=by
 refine⟨by have:=h.perm;rwa [Mo] at this,?_⟩;rw[Mh];exact⟨h.up,hs,λx h1 y h2=>h.le x h1 y (Ml _ h2)⟩
end
def drop_at {a:Array LO}(h:a[i]?=Z x):a.toList.drop i=x::a.toList.drop (i+1):=by
 rw[<-Li] at h;refine q1x1 (Lj.mp h) λhi e=>?_;rw[N7 hi,e]
def at_of {a:Array LO}(h:i<a.size):∃x,a[i]?=Z x/\x∈a.toList:=⟨a[i],getElem?_pos _ i h,by simp⟩
def mem_drop {a:Array LO}(h:x∈a.toList.drop i):∃j,a[i+j]?=Z x:=by
 obtain⟨j,hj,e⟩:=Ny h;refine⟨j,?_⟩;rw[<-Li,<-e,<-Q3,Lh hj]
def mem_drop' {a:Array LO}(h:x∈a.toList.drop i):∃j,i+j<a.size/\a[i+j]?=Z x:=by
 refine q1x1 (mem_drop h) λj e=>?_;exact⟨j,(Od.mp e).1,e⟩
def pred_lt {n m:Nat}(h:1<=n)(h2:n<=m):n-1<m:=LB (UN h Ru) h2
def mem_take {a:Array LO}{k:Nat}(h:x∈(a.toList.drop i).take k):∃j,j<k/\a[i+j]?=Z x:=by
 obtain⟨j,hj,e⟩:=Ny h;rw[Nd] at hj;refine⟨j,by omega,?_⟩;rw[<-Li,<-e,<-Q3,SV,Lh]
def leK (key:LO->Int)(x y:LO):Prop:=key x<=key y
section
variable {key:LO->Int}{G:LO->Prop}
def up_at {a:Array LO}(h:a.toList.Pairwise (leK key)){i j:Nat}(hij:i<=j)(hx:a[i]?=Z x)(hy:a[j]?=Z y):key x<=key y:=by
 rw[<-Li] at hx hy;refine q1x1 (Lj.mp hx) λhi ex=>?_;refine q1x1 (Lj.mp hy) λhj ey=>?_
 by_cases e:i=j
 ·subst e;rw[<-ex,<-ey];exact Qy _
 ·rw[<-ex,<-ey];exact(NU.mp h) i j hi hj (by omega)
def seekB (key:LO->Int)(l:Bool)(k:LO)(a:Array LO)(b i:Nat):Bool:=match a[b+i]? with
 | some x=>bey key l k x
 | none=>false
def seek_of {a:Array LO}{k:LO}(hG:∀i x,b<=i->i<b+n->a[i]?=Z x->G x)(hU:∀i j x y,b<=i->i<=j->j<b+n->a[i]?=Z x->a[j]?=Z y->key x<=key y)(hn:b+n<=a.size):Seek key G l k a b n (seekB key l k a b):=by
 refine⟨λi hi=>?_,λi j hij hj h=>?_⟩
 ·refine q1x2 (at_of (a:=a) (i:=b+i) (by omega)) λx e _=>?_;exact⟨x,e,hG _ x (by omega) (by omega) e,by unfold seekB;rw[e]⟩
 ·refine q1x2 (at_of (a:=a) (i:=b+i) (by omega)) λx e _=>?_;refine q1x2 (at_of (a:=a) (i:=b+j) (by omega)) λy e2 _=>?_;have le:=hU (b+i) (b+j) x y (by omega) (by omega) (by omega) e e2;unfold seekB at h ⊢;rw[e2] at h;rw[e];dsimp only at h ⊢;unfold bey at h ⊢;cases l with
  | true=>
   rw[if_pos rfl] at h ⊢;have:=of_decide_eq_true h;exact decide_eq_true (by omega)
  | false=>
   rw[if_neg Ly] at h ⊢;rw[QM,decide_eq_false_iff_not] at h ⊢;omega
def found_r {a:Array LO}{k:LO}(h:Found n (seekB key false k a b) m):(∀i x,i<m->a[b+i]?=Z x->key x<=key k)/\∀i x,m<=i->i<n->a[b+i]?=Z x->key k<key x:=by
 refine⟨λi x hi e=>?_,λi x h1 h2 e=>?_⟩
 ·have:=h.2.1 i hi;unfold seekB at this;rw[e] at this;dsimp only at this;unfold bey at this;rw[if_neg Ly,QM,decide_eq_false_iff_not] at this;omega
 ·have:=h.2.2 i h1 h2;unfold seekB at this;rw[e] at this;dsimp only at this;unfold bey at this;rw[if_neg Ly,Bool.not_eq_false',decide_eq_true_eq] at this;exact this
def found_l {a:Array LO}{k:LO}(h:Found n (seekB key true k a b) m):(∀i x,i<m->a[b+i]?=Z x->key x<key k)/\∀i x,m<=i->i<n->a[b+i]?=Z x->key k<=key x:=by
 refine⟨λi x hi e=>?_,λi x h1 h2 e=>?_⟩
 ·have:=h.2.1 i hi;unfold seekB at this;rw[e] at this;dsimp only at this;unfold bey at this;rw[if_pos rfl,decide_eq_true_eq] at this;exact this
 ·have:=h.2.2 i h1 h2;unfold seekB at this;rw[e] at this;dsimp only at this;unfold bey at this;rw[if_pos rfl,decide_eq_false_iff_not] at this;omega
end
structure Sm (st st':L4):Prop where
 kind:kindOf st'=kindOf st
 arr:Nl st'=Nl st
 pend:L8 st'=L8 st
 fail:Ox st'=Ox st
def Sm.refl (st:L4):Sm st st:=⟨rfl,rfl,rfl,rfl⟩
def mergeLo':Array Keyed->Array Keyed->StateT SortSt Sem (Array Keyed):=sortPriv% PySem.Builtin.mergeLo
def mergeHi':Array Keyed->Array Keyed->StateT SortSt Sem (Array Keyed):=sortPriv% PySem.Builtin.mergeHi
structure Two (key:LO->Int)(G:LO->Prop)(a b:Array LO):Prop where
 ua:a.toList.Pairwise (leK key)
 ub:b.toList.Pairwise (leK key)
 ga:∀x∈a.toList,G x
 gb:∀x∈b.toList,G x
 na:1<=a.size
 nb:1<=b.size
 first:∀y,b[0]?=Z y->∀x∈a.toList,key y<=key x
 last:∀x,a[a.size-1]?=Z x->∀y∈b.toList,key y<=key x
def Good (key:LO->Int)(a b:Array LO)(r:Array LO):Prop:=r.toList.Perm (a.toList++b.toList)/\r.toList.Pairwise (leK key)
section
variable {key:LO->Int}{G:LO->Prop}{a b out:Array LO}{ia ib:Nat}
def ext_l (a:Array LO)(i:Nat):(a.extract i a.size).toList=a.toList.drop i:=by
 rw[Pe,Ot,PC];rw[OE,Ln];exact Lr _
def ext_m (a:Array LO)(i k:Nat):(a.extract i (i+k)).toList=(a.toList.drop i).take k:=by
 simp[Pe,Ot]
def LI (key:LO->Int)(a b out:Array LO)(ia ib:Nat):Prop:=Mg (leK key) (a.toList++b.toList) out.toList (a.toList.drop ia) (b.toList.drop ib)/\out.size=ia+ib
def LI.pb (T:Two key G a b)(h:LI key a b out ia ib)(hy:b[ib]?=Z y)(hle:∀x∈a.toList.drop ia,key y<=key x):LI key a b (out.push y) ia (ib+1):=by
 refine⟨?_,by rw[NB,h.2];omega⟩;have m:=h.1;rw[drop_at hy] at m;rw[OG];exact(Mg.a m.swap (by rw[<-drop_at hy];exact T.ub.drop) hle).swap
def LI.pa (T:Two key G a b)(h:LI key a b out ia ib)(hx:a[ia]?=Z x)(hle:∀y∈b.toList.drop ib,key x<=key y):LI key a b (out.push x) (ia+1) ib:=by
 refine⟨?_,by rw[NB,h.2];omega⟩;have m:=h.1;rw[drop_at hx] at m;rw[OG];exact Mg.a m (by rw[<-drop_at hx];exact T.ua.drop) hle
def LI.as (T:Two key G a b)(h:LI key a b out ia ib){k:Nat}(hk:ia+k<=a.size)(hle:∀x∈(a.toList.drop ia).take k,∀y∈b.toList.drop ib,key x<=key y):LI key a b (out++a.extract ia (ia+k)) (ia+k) ib:=by
 refine⟨?_,by rw[Oe,h.2,Qt];omega⟩;have m:=h.1;have e:a.toList.drop ia=(a.toList.drop ia).take k++a.toList.drop (ia+k):=by rw[<-Tf,MH]
 rw[e] at m;rw[Mn,ext_m];exact Mg.as m (by rw[<-e];exact T.ua.drop) hle
def LI.bs (T:Two key G a b)(h:LI key a b out ia ib){k:Nat}(hk:ib+k<=b.size)(hle:∀y∈(b.toList.drop ib).take k,∀x∈a.toList.drop ia,key y<=key x):LI key a b (out++b.extract ib (ib+k)) ia (ib+k):=by
 refine⟨?_,by rw[Oe,h.2,Qt];omega⟩;have m:=h.1;have e:b.toList.drop ib=(b.toList.drop ib).take k++b.toList.drop (ib+k):=by rw[<-Tf,MH]
 rw[e] at m;rw[Mn,ext_m];exact(Mg.as m.swap (by rw[<-e];exact T.ub.drop) hle).swap
def LI.doneB (T:Two key G a b)(h:LI key a b out ia ib)(hb:ib=b.size):Good key a b (out++a.extract ia a.size++b.extract ib b.size):=by
 have m:=h.1;have e:b.toList.drop ib=[]:=PD (by rw[Ln];omega);rw[e] at m;have f:=m.fin T.ua.drop;unfold Good;rw[Mn,Mn,ext_l,ext_l,e,Mo];exact f
def LI.doneA (T:Two key G a b)(h:LI key a b out ia ib)(hb:ia=a.size):Good key a b (out++a.extract ia a.size++b.extract ib b.size):=by
 have m:=h.1;have e:a.toList.drop ia=[]:=PD (by rw[Ln];omega);rw[e] at m;have f:=m.swap.fin T.ub.drop;unfold Good;rw[Mn,Mn,ext_l,ext_l,e,Mo];exact f
def LI.last (T:Two key G a b)(h:LI key a b out ia ib)(hb:ia+1=a.size):Good key a b (out++b.extract ib b.size++a.extract ia a.size):=by
 refine q1x2 (at_of (a:=a) (i:=ia) (by omega)) λx e _=>?_;have hl:=T.last x (by rw[<-hb];exact e);have m:=h.1.swap;have e1:a.toList.drop ia=[x]:=by
  rw[drop_at e,PD (by rw[Ln];omega)]
 have u:(b.toList.drop ib++[]).Pairwise (leK key):=by rw[Mo];exact T.ub.drop
 have m2:=Mg.as (XS:=b.toList.drop ib) (RA:=[]) (RB:=a.toList.drop ia) (by rw[Mo];exact m) u λz hz y hy=>by
  rw[e1] at hy;rw[LK.mp hy];exact hl z (OA hz)
 have f:=m2.swap.fin T.ua.drop;unfold Good;rw[Mn,Mn,ext_l,ext_l];exact f
end
end TS
namespace TS
open PySem PyProof.Rows PySem.W
section
variable {prog:Mi}{w:My}{A:MX}{E:Lk->Lm->Prop}{s:Lm}{κ:P7}{G:LO->Prop}{key:LO->Int}
def setMG':Nat->StateT SortSt Sem Unit:=sortPriv% PySem.Builtin.setMinGallop
def wpS_mg {st:L4}(h:∀st',Sm st st'->Q () st'):wpS (LD prog w) A E s (setMG' g) Q st:=by
 refine RY (h _ ⟨rfl,rfl,rfl,rfl⟩)
def Sm.trans {a:L4}(h1:Sm a b)(h2:Sm b c):Sm a c:=⟨h2.kind.trans h1.kind,h2.arr.trans h1.arr,h2.pend.trans h1.pend,h2.fail.trans h1.fail⟩
def seek_in {a:Array LO}(hu:a.toList.Pairwise (leK key))(hg:∀x∈a.toList,G x){k:LO}(h:b+n<=a.size):Seek key G l k a b n (seekB key l k a b):=
 seek_of (λi x _ _ e=>hg x (by rw[<-Li] at e;exact LU e)) (λi j x y _ hij _ ex ey=>up_at hu hij ex ey) h
structure LoI (key:LO->Int)(a b:Array LO)(st:L4)(m:Nat)(o:Array LO)(i j:Nat)(st':L4):Prop where
 li:LI key a b o i j
 pa:i+1<a.size
 pb:j<b.size
 sz:m<=o.size
 sm:Sm st st'
abbrev GS (key:LO->Int)(a b:Array LO)(st:L4)(r:Array LO)(st':L4):Prop:=Good key a b r/\Sm st st'
def mergeLo_ok (hL:LtOk prog w A s κ G key){a:Array LO}(T:Two key G a b){st:L4}(hst:kindOf st=κ)(h:∀r st',Good key a b r->Sm st st'->Q r st') :
  wpS (LD prog w) A E s (mergeLo' a b) Q st:=by
 refine LM (SF (Oy ⟨rfl,?_⟩));refine q1x2 (at_of (a:=b) (i:=0) T.nb) λy0 e0 _=>?_;refine LM (wpS_elem e0 ?_);have l0:LI key a b #[y0] 0 1:=LI.pb (out:=#[]) T ⟨⟨by simp,QL,λx hx=>by cases hx⟩,rfl⟩ e0 (T.first y0 e0);refine wpS_ite (λc1=>LP (h _ st (l0.doneB T (eq_of_beq c1)) (Sm.refl _))) (λc1=>?_);refine wpS_ite (λc2=>LP (h _ st (l0.last T (eq_of_beq c2)) (Sm.refl _))) (λc2=>?_);refine LM (Se ?_);refine wpS_loop (I:=λx c=>LoI key a b st (x+1) c.1 c.2.1 c.2.2.1) (D:=GS key a b st) (N:=λ_ _=>False) ⟨l0,ME T.na λz=>c2 (beq_iff_eq.mpr z),ME T.nb λz=>c1 (beq_iff_eq.mpr z),Lr _,Sm.refl _⟩ (λx c st1 _ l=>?_) (λc st' l=>?_) (λr c st' d=>LP (h r st' d.1 d.2)) (λc st' z=>z.elim)
 ·refine wpS_loop (I:=λx2 d=>LoI key a b st (c.1.size+x2) d.1 d.2.1 d.2.2.1) (D:=GS key a b st) (N:=λd=>LoI key a b st (c.1.size+1) d.1 d.2.1 d.2.2.1) ⟨l.li,l.pa,l.pb,Lr _,l.sm⟩ (λx2 d st2 _ l'=>?_) (λd st' l'=>⟨l'.li,l'.pa,l'.pb,LG (MS (LG (LG T.na (Mu ..)) (OY ..)) _) l'.sz,l'.sm⟩) (λr d st' q=>LP q) (λd st2 l'=>?_)
  ·refine q1x2 (at_of (a:=b) l'.pb) λy ey my=>?_;refine q1x2 (at_of (a:=a) (Pf l'.pa)) λz ez mz=>?_;refine LM (wpS_elem ey (LM (wpS_elem ez (LM (wpS_lt hL (T.gb y my) (T.ga z mz) (l'.sm.kind.trans hst) ?_)))));refine wpS_ite (λhc=>?_) (λhc=>?_)
   ·refine LM (wpS_elem ey ?_);have l2:=l'.li.pb T ey λu hu=>by
     refine q1x1 (mem_drop hu) λj ej=>?_;exact NW (UO (of_decide_eq_true hc) (up_at T.ua (Mu _ j) ez ej))
    refine wpS_ite (λk1=>LP ⟨l2.doneB T (eq_of_beq k1),l'.sm⟩) (λk1=>?_);have k1:=ME l'.pb λz=>k1 (beq_iff_eq.mpr z)
    have s2:c.1.size+(x2+1)<=(d.1.push y).size:=by rw[NB];exact Oz l'.sz
    exact wpS_ite (λ_=>LP (LQ.n ⟨l2,l'.pa,k1,LG (MS (O9 ..) _) s2,l'.sm⟩)) (λ_=>LP (LQ.y ⟨l2,l'.pa,k1,s2,l'.sm⟩))
   ·refine LM (wpS_elem ez ?_);have l2:=l'.li.pa T ez λu hu=>by
     refine q1x1 (mem_drop hu) λj ej=>?_;exact Nq (Ri.mp λq=>hc (decide_eq_true q)) (up_at T.ub (Mu _ j) ey ej)
    refine wpS_ite (λk1=>LP ⟨l2.last T (eq_of_beq k1),l'.sm⟩) (λk1=>?_);have k1:=ME l'.pa λz=>k1 (beq_iff_eq.mpr z)
    have s2:c.1.size+(x2+1)<=(d.1.push z).size:=by rw[NB];exact Oz l'.sz
    exact wpS_ite (λ_=>LP (LQ.n ⟨l2,k1,l'.pb,LG (MS (O9 ..) _) s2,l'.sm⟩)) (λ_=>LP (LQ.y ⟨l2,k1,l'.pb,s2,l'.sm⟩))
  ·refine LM (SF (Oy ⟨rfl,?_⟩));refine wpS_loop (I:=λ_ d=>LoI key a b st (c.1.size+1) d.1 d.2.1 d.2.2.1) (D:=GS key a b st) (N:=λd=>LoI key a b st (c.1.size+1) d.1 d.2.1 d.2.2.1) l' (λx3 d st3 _ l3=>?_) (λ_ _ l=>l) (λr d st' q=>LP q) (λd st3 l3=>LM (wpS_mg λst4 sm4=>LP (LQ.y ⟨l3.li,l3.pa,l3.pb,LG (Oz l.sz) l3.sz,l3.sm.trans sm4⟩)));clear l' l;refine q1x2 (at_of (a:=b) l3.pb) λy ey my=>?_;dsimp (config:={zeta:=false,zetaHave:=false}) only
   extract_lets +onlyGivenNames r_ s1 o_ s2 i_ s3 k_ s4 m_ s5 a_ b_ jp
   refine wpS_cut1 (j:=jp) (λ_ st4=>Sm st st4) (λmg3 st3 sm3=>?_) λhj=>wpS_ite (λ_=>hj _ _ l3.sm) (λ_=>hj _ _ l3.sm)
   refine LM (wpS_mg λst4 sm4=>?_);have sm5:Sm st st4:=sm3.trans sm4;have k4:kindOf st4=κ:=sm5.kind.trans hst;have pa:=Np (Pf l3.pa);refine LM (wpS_elem ey (LM (gallop_ok hL (T.gb y my) (seek_in T.ua T.ga (Nj (Oj pa))) (U7 (Pf l3.pa)) k4 λk fk=>?_)));dsimp (config:={zeta:=false,zetaHave:=false}) only
   extract_lets +onlyGivenNames a_ jp
   refine wpS_cut2 (j:=jp) (λo i=>LoI key a b st (c.1.size+1) o i d.2.2.1 st4/\∀x∈a.toList.drop i,key y<=key x) (λout3 ia3 hxx=>?_) λhj=>?_
   ·clear fk l3;refine q0x2 hxx λl3 hy=>?_;refine LM (wpS_elem ey ?_);have l4:=l3.li.pb T ey hy;refine wpS_ite (λr3=>LP ⟨l4.doneB T (eq_of_beq r3),sm5⟩) (λr3=>?_);have r3:=ME l3.pb λz=>r3 (beq_iff_eq.mpr z)
    refine q1x2 (at_of (a:=a) (Pf l3.pa)) λz ez mz=>?_;refine LM (wpS_elem ez (LM (gallop_ok hL (T.ga z mz) (seek_in T.ub T.gb (Nj (Oj (Np r3)))) (U7 r3) k4 λk' fk'=>?_)));dsimp (config:={zeta:=false,zetaHave:=false}) only
    extract_lets +onlyGivenNames b_ n_ jp
    have s5:c.1.size+1<=(out3.push y).size:=by rw[NB];exact Nk l3.sz
    refine wpS_cut2 (j:=jp) (λo i=>LoI key a b st (c.1.size+1) o ia3 i st4/\∀x∈b.toList.drop i,key z<=key x) (λout5 ib5 hxx=>?_) λhj=>?_
    ·clear fk' l3 l4;refine q0x2 hxx λl5 hz=>?_;refine LM (wpS_elem ez ?_);have l6:=l5.li.pa T ez hz;refine wpS_ite (λr5=>LP ⟨l6.last T (eq_of_beq r5),sm5⟩) (λr5=>?_);have r6:=ME l5.pa λz=>r5 (beq_iff_eq.mpr z)
     have s6:c.1.size+1<=(out5.push z).size:=by rw[NB];exact Nk l5.sz
     exact wpS_ite (λ_=>LP (LQ.n ⟨l6,r6,l5.pb,s6,sm5⟩)) (λ_=>LP (LQ.y ⟨l6,r6,l5.pb,s6,sm5⟩))
    ·refine q0x2 (found_l fk') λf3 f4=>?_;have kle':d.2.2.1+1+k'<=b.size:=LG (MS fk'.1 _) (Nj (Oj (Np r3)));have hz:∀x∈b.toList.drop (d.2.2.1+1+k'),key z<=key x:=λx hx=>by
      refine q1x2 (mem_drop' hx) λj hj ej=>?_;exact f4 (k'+j) x (Mu ..) (TN (by rw[U8,<-NN];exact hj)) (by rw[<-NN];exact ej)
     refine wpS_ite (λhk'=>?_) (λhk'=>?_)
     ·have l5:=l4.bs T kle' λx hx u hu=>by
       refine q1x2 (mem_take hx) λj hj ej=>?_;refine q1x1 (mem_drop hu) λi ei=>?_;exact Nq (NW (f3 j x hj ej)) (up_at T.ua (Mu ia3 i) ez ei)
      refine wpS_ite (λr4=>LP ⟨l5.doneB T (eq_of_beq r4),sm5⟩) (λr4=>?_);exact hj _ _ ⟨⟨l5,l3.pa,ME kle' λz=>r4 (beq_iff_eq.mpr z),by rw[Oe];exact LG s5 (Mu ..),sm5⟩,hz⟩
     ·rw[OR hk'] at hz;exact hj _ _ ⟨⟨l4,l3.pa,r3,s5,sm5⟩,hz⟩
   ·refine q0x2 (found_r fk) λf1 f2=>?_;have kle:d.2.1+k<=a.size:=LG (MS fk.1 _) (Nj (Oj pa));have hy:∀x∈a.toList.drop (d.2.1+k),key y<=key x:=λx hx=>by
     refine q1x2 (mem_drop' hx) λj hj ej=>?_;exact NW (f2 (k+j) x (Mu ..) (TN (by rw[U8,<-NN];exact hj)) (by rw[<-NN];exact ej))
    refine wpS_ite (λhk=>?_) (λhk=>?_)
    ·have l4:=l3.li.as T kle λx hx z hz=>by
      refine q1x2 (mem_take hx) λj hj ej=>?_;refine q1x1 (mem_drop hz) λi ei=>?_;exact Nq (f1 j x hj ej) (up_at T.ub (Mu _ i) ey ei)
     refine wpS_ite (λr1=>LP ⟨l4.last T (eq_of_beq r1),sm5⟩) (λr1=>?_);refine wpS_ite (λr2=>LP ⟨l4.doneA T (eq_of_beq r2),sm5⟩) (λr2=>?_);exact hj _ _ ⟨⟨l4,ME (ME kle λz=>r2 (beq_iff_eq.mpr z)) λz=>r1 (beq_iff_eq.mpr z),l3.pb,by rw[Oe];exact LG l3.sz (Mu ..),sm5⟩,hy⟩
    ·rw[OR hk] at hy;exact hj _ _ ⟨⟨l3.li,l3.pa,l3.pb,l3.sz,sm5⟩,hy⟩
 ·have:=l.li.2;have:=l.pa;have:=l.pb;have:=l.sz;rw[XJ] at this;omega
end
end TS
namespace TS
open PySem PyProof.Rows PySem.W
def geK (key:LO->Int)(x y:LO):Prop:=key y<=key x
def take_at {a:Array LO}(h1:1<=n)(h:a[n-1]?=Z x):(a.toList.take n).reverse=x::(a.toList.take (n-1)).reverse:=by
 rw[<-Li] at h;have e:a.toList.take n=a.toList.take (n-1)++[x]:=by
  rw[show n=n-1+1 by omega,Ud,h];simp
 rw[e,ON];rfl
def mem_first {a:Array LO}(h:x∈a.toList.take n):∃j,j<n/\a[j]?=Z x:=by
 refine q1x2 (mem_take (a:=a) (i:=0) (k:=n) (by rw[TQ];exact h)) λj h1 h2=>?_;rw[MB] at h2;exact⟨j,h1,h2⟩
section
variable {key:LO->Int}{G:LO->Prop}{a b out:Array LO}{na nb:Nat}
def down_of {l:List LO}(h:l.Pairwise (leK key)):l.reverse.Pairwise (geK key):=Q7.mpr h
def HI (key:LO->Int)(a b out:Array LO)(na nb:Nat):Prop:=Mg (geK key) (a.toList++b.toList) out.toList (a.toList.take na).reverse (b.toList.take nb).reverse/\out.size+na+nb=a.size+b.size
def HI.pa (T:Two key G a b)(h:HI key a b out na nb)(h1:1<=na)(hx:a[na-1]?=Z x)(hle:∀y∈b.toList.take nb,key y<=key x):HI key a b (out.push x) (na-1) nb:=by
 refine⟨?_,by rw[NB];have:=h.2;omega⟩;have m:=h.1;rw[take_at h1 hx] at m;rw[OG];exact Mg.a m (by rw[<-take_at h1 hx];exact down_of T.ua.take) λy hy=>hle y (MN.mp hy)
def HI.pb (T:Two key G a b)(h:HI key a b out na nb)(h1:1<=nb)(hy:b[nb-1]?=Z y)(hle:∀x∈a.toList.take na,key x<=key y):HI key a b (out.push y) na (nb-1):=by
 refine⟨?_,by rw[NB];have:=h.2;omega⟩;have m:=h.1;rw[take_at h1 hy] at m;rw[OG];exact(Mg.a m.swap (by rw[<-take_at h1 hy];exact down_of T.ub.take) λy hy=>hle y (MN.mp hy)).swap
def take_two (a:Array LO)(h:m<=n):(a.toList.take n).reverse=((a.toList.drop m).take (n-m)).reverse++(a.toList.take m).reverse:=by
 rw[<-ON];congr 1;have:n=m+(n-m):=by omega
 conv=>lhs;rw[this,List.take_add]
def ext_r (a:Array LO)(m n:Nat):(a.extract m n).reverse.toList=((a.toList.drop m).take (n-m)).reverse:=by
 rw[P9,Pe,Ot]
def HI.as (T:Two key G a b)(h:HI key a b out na nb)(hm:m<=na)(hn:na<=a.size)(hle:∀x∈(a.toList.drop m).take (na-m),∀y∈b.toList.take nb,key y<=key x):HI key a b (out++(a.extract m na).reverse) m nb:=by
 refine⟨?_,by rw[Oe,UP,Qt];have:=h.2;omega⟩;have t:=h.1;rw[take_two a hm] at t;rw[Mn,ext_r];exact Mg.as t (by rw[<-take_two a hm];exact down_of T.ua.take) λx hx y hy=>hle x (MN.mp hx) y (MN.mp hy)
def HI.bs (T:Two key G a b)(h:HI key a b out na nb)(hm:m<=nb)(hn:nb<=b.size)(hle:∀y∈(b.toList.drop m).take (nb-m),∀x∈a.toList.take na,key x<=key y):HI key a b (out++(b.extract m nb).reverse) na m:=by
 refine⟨?_,by rw[Oe,UP,Qt];have:=h.2;omega⟩;have t:=h.1;rw[take_two b hm] at t;rw[Mn,ext_r];exact(Mg.as t.swap (by rw[<-take_two b hm];exact down_of T.ub.take) λx hx y hy=>hle x (MN.mp hx) y (MN.mp hy)).swap
def ext_f (a:Array LO)(n:Nat):(a.extract 0 n).toList=a.toList.take n:=by
 rw[Pe,Ot,TQ,XG]
def good_rev {l:List LO}(h:l.Perm (a.toList++b.toList)/\l.Pairwise (geK key))(e:r.toList=l.reverse):Good key a b r:=by
 unfold Good;rw[e];exact⟨(QX l).trans h.1,Q7.mpr h.2⟩
def HI.doneA (T:Two key G a b)(h:HI key a b out na nb)(h0:na=0):Good key a b (a.extract 0 na++b.extract 0 nb++out.reverse):=by
 subst h0;have m:=h.1;rw[TR,Vx] at m;refine good_rev (m.swap.fin (down_of T.ub.take)) ?_;rw[Mn,Mn,ext_f,ext_f,P9,ON,Qa];rfl
def HI.doneB (T:Two key G a b)(h:HI key a b out na nb)(h0:nb=0):Good key a b (a.extract 0 na++b.extract 0 nb++out.reverse):=by
 subst h0;have m:=h.1;rw[TR,Vx] at m;refine good_rev (m.fin (down_of T.ua.take)) ?_;rw[Mn,Mn,ext_f,ext_f,P9,ON,Qa,TR,Mo]
def HI.first (T:Two key G a b)(h:HI key a b out na nb)(h0:nb=1):Good key a b (b.extract 0 nb++a.extract 0 na++out.reverse):=by
 subst h0;refine q1x2 (at_of (a:=b) (i:=0) (by have:=T.nb;omega)) λy e _=>?_;have hl:=T.first y e;have e1:(b.toList.take 1).reverse=[y]:=by
  rw[take_at (Lr 1) (by exact e)];simp
 have u:((a.toList.take na).reverse++[]).Pairwise (geK key):=by rw[Mo];exact down_of T.ua.take
 have m2:=Mg.as (XS:=(a.toList.take na).reverse) (RA:=[]) (RB:=(b.toList.take 1).reverse) (by rw[Mo];exact h.1) u λz hz x hx=>by
  rw[e1] at hx;rw[LK.mp hx];exact hl z (OB (MN.mp hz))
 refine good_rev (m2.swap.fin (down_of T.ub.take)) ?_;rw[Mn,Mn,ext_f,ext_f,P9,ON,ON,Qa,Qa,LC]
end
section
variable {prog:Mi}{w:My}{A:MX}{E:Lk->Lm->Prop}{s:Lm}{κ:P7}{G:LO->Prop}{key:LO->Int}
structure HiI (key:LO->Int)(a b:Array LO)(st:L4)(m:Nat)(na nb:Nat)(o:Array LO)(st':L4):Prop where
 li:HI key a b o na nb
 pa:1<=na
 pa':na<=a.size
 pb:2<=nb
 pb':nb<=b.size
 sz:m<=o.size
 sm:Sm st st'
def mergeHi_ok (hL:LtOk prog w A s κ G key){a:Array LO}(T:Two key G a b){st:L4}(hst:kindOf st=κ)(h:∀r st',Good key a b r->Sm st st'->Q r st') :
  wpS (LD prog w) A E s (mergeHi' a b) Q st:=by
 refine LM (SF (Oy ⟨rfl,?_⟩));refine q1x2 (at_of (a:=a) (i:=a.size-1) (UN T.na Ru)) λx0 e0 m0=>?_;refine LM (wpS_elem e0 ?_);have l0:HI key a b #[x0] (a.size-1) b.size:=HI.pa (out:=#[]) T (na:=a.size) ⟨⟨by
  rw[PC (by rw[Ln];exact Lr _),PC (by rw[Ln];exact Lr _)];exact(QX _).append (QX _),QL,λx hx=>by cases hx⟩,MB _▸rfl⟩ T.na e0 λy hy=>T.last x0 e0 y (OB hy)
 refine wpS_ite (λc1=>LP (h _ st (l0.doneA T (eq_of_beq c1)) (Sm.refl _))) (λc1=>?_);refine wpS_ite (λc2=>LP (h _ st (l0.first T (eq_of_beq c2)) (Sm.refl _))) (λc2=>?_);refine LM (Se ?_);refine wpS_loop (I:=λx c=>HiI key a b st (x+1) c.1 c.2.1 c.2.2.1) (D:=GS key a b st) (N:=λ_ _=>False) ⟨l0,PF λz=>c1 (beq_iff_eq.mpr z),P8 ..,ME T.nb λz=>c2 (beq_iff_eq.mpr z.symm),Lr _,Lr _,Sm.refl _⟩ (λx c st1 _ l=>?_) (λc st' l=>?_) (λr c st' d=>LP (h r st' d.1 d.2)) (λc st' z=>z.elim)
 ·refine wpS_loop (I:=λx2 d=>HiI key a b st (c.2.2.1.size+x2) d.1 d.2.1 d.2.2.1) (D:=GS key a b st) (N:=λd=>HiI key a b st (c.2.2.1.size+1) d.1 d.2.1 d.2.2.1) ⟨l.li,l.pa,l.pa',l.pb,l.pb',Lr _,l.sm⟩ (λx2 d st2 _ l'=>?_) (λd st' l'=>⟨l'.li,l'.pa,l'.pa',l'.pb,l'.pb',LG (MS (LG (LG T.na (Mu ..)) (OY ..)) _) l'.sz,l'.sm⟩) (λr d st' q=>LP q) (λd st2 l'=>?_)
  ·refine q1x2 (at_of (a:=b) (pred_lt (OF l'.pb) l'.pb')) λy ey my=>?_;refine q1x2 (at_of (a:=a) (pred_lt l'.pa l'.pa')) λz ez mz=>?_;refine LM (wpS_elem ey (LM (wpS_elem ez (LM (wpS_lt hL (T.gb y my) (T.ga z mz) (l'.sm.kind.trans hst) ?_)))));refine wpS_ite (λhc=>?_) (λhc=>?_)
   ·refine LM (wpS_elem ez ?_);have l2:=l'.li.pa T l'.pa ez λu hu=>by
     refine q1x2 (mem_first hu) λj hj ej=>?_;exact NW (UQ (up_at T.ub (OD hj) ej ey) (of_decide_eq_true hc))
    refine wpS_ite (λk1=>LP ⟨l2.doneA T (eq_of_beq k1),l'.sm⟩) (λk1=>?_);have k1:=PF λz=>k1 (beq_iff_eq.mpr z)
    have k2:=LG (P8 _ 1) l'.pa';have s2:c.2.2.1.size+(x2+1)<=(d.2.2.1.push z).size:=by rw[NB];exact Oz l'.sz
    exact wpS_ite (λ_=>LP (LQ.n ⟨l2,k1,k2,l'.pb,l'.pb',LG (MS (O9 ..) _) s2,l'.sm⟩)) (λ_=>LP (LQ.y ⟨l2,k1,k2,l'.pb,l'.pb',s2,l'.sm⟩))
   ·refine LM (wpS_elem ey ?_);have l2:=l'.li.pb T (OF l'.pb) ey λu hu=>by
     refine q1x2 (mem_first hu) λj hj ej=>?_;exact Nq (up_at T.ua (OD hj) ej ez) (Ri.mp λq=>hc (decide_eq_true q))
    refine wpS_ite (λk1=>LP ⟨l2.first T (eq_of_beq k1),l'.sm⟩) (λk1=>?_);have k1:=ME (OD l'.pb) λz=>k1 (beq_iff_eq.mpr z.symm)
    have k2:=LG (P8 _ 1) l'.pb';have s2:c.2.2.1.size+(x2+1)<=(d.2.2.1.push y).size:=by rw[NB];exact Oz l'.sz
    exact wpS_ite (λ_=>LP (LQ.n ⟨l2,l'.pa,l'.pa',k1,k2,LG (MS (O9 ..) _) s2,l'.sm⟩)) (λ_=>LP (LQ.y ⟨l2,l'.pa,l'.pa',k1,k2,s2,l'.sm⟩))
  ·refine LM (SF (Oy ⟨rfl,?_⟩));refine wpS_loop (I:=λ_ d=>HiI key a b st (c.2.2.1.size+1) d.1 d.2.1 d.2.2.1) (D:=GS key a b st) (N:=λd=>HiI key a b st (c.2.2.1.size+1) d.1 d.2.1 d.2.2.1) l' (λx3 d st3 _ l3=>?_) (λ_ _ l=>l) (λr d st' q=>LP q) (λd st3 l3=>LM (wpS_mg λst4 sm4=>LP (LQ.y ⟨l3.li,l3.pa,l3.pa',l3.pb,l3.pb',LG (Oz l.sz) l3.sz,l3.sm.trans sm4⟩)));clear l' l;refine q1x2 (at_of (a:=b) (pred_lt (OF l3.pb) l3.pb')) λy ey my=>?_;dsimp (config:={zeta:=false,zetaHave:=false}) only
   extract_lets +onlyGivenNames r_ s1 o_ s2 i_ s3 k_ s4 m_ s5 a_ b_ jp
   refine wpS_cut1 (j:=jp) (λ_ st4=>Sm st st4) (λmg3 st3 sm3=>?_) λhj=>wpS_ite (λ_=>hj _ _ l3.sm) (λ_=>hj _ _ l3.sm)
   refine LM (wpS_mg λst4 sm4=>?_);have sm5:Sm st st4:=sm3.trans sm4;have k4:kindOf st4=κ:=sm5.kind.trans hst;refine LM (wpS_elem ey (LM (gallop_ok hL (T.gb y my) (seek_in T.ua T.ga (by rw[MB];exact l3.pa')) (UN l3.pa Ru) k4 λm fk=>?_)));dsimp (config:={zeta:=false,zetaHave:=false}) only
   extract_lets +onlyGivenNames k_ a_ jp
   refine wpS_cut2 (j:=jp) (λn o=>HiI key a b st (c.2.2.1.size+1) n d.2.1 o st4/\∀x∈a.toList.take n,key x<=key y) (λna4 out4 hxx=>?_) λhj=>?_
   ·clear fk l3;refine q0x2 hxx λl3 hy=>?_;refine LM (wpS_elem ey ?_);have l4:=l3.li.pb T (OF l3.pb) ey hy;refine wpS_ite (λr3=>LP ⟨l4.first T (eq_of_beq r3),sm5⟩) (λr3=>?_);have r3:2<=d.2.1-1:=ME (OD l3.pb) λz=>r3 (beq_iff_eq.mpr z.symm)
    have r3':d.2.1-1<=b.size:=LG (P8 ..) l3.pb';refine q1x2 (at_of (a:=a) (pred_lt l3.pa l3.pa')) λz ez mz=>?_;refine LM (wpS_elem ez (LM (gallop_ok hL (T.ga z mz) (seek_in T.ub T.gb (by rw[MB];exact r3')) (UN (OF r3) Ru) k4 λm' fk'=>?_)));dsimp (config:={zeta:=false,zetaHave:=false}) only
    extract_lets +onlyGivenNames k_ b_ n_ jp
    have s5:c.2.2.1.size+1<=(out4.push y).size:=by rw[NB];exact Nk l3.sz
    refine wpS_cut2 (j:=jp) (λn o=>HiI key a b st (c.2.2.1.size+1) na4 n o st4/\∀x∈b.toList.take n,key x<=key z) (λnb5 out5 hxx=>?_) λhj=>?_
    ·clear fk' l3 l4;refine q0x2 hxx λl5 hz=>?_;refine LM (wpS_elem ez ?_);have l6:=l5.li.pa T l5.pa ez hz;refine wpS_ite (λr6=>LP ⟨l6.doneA T (eq_of_beq r6),sm5⟩) (λr6=>?_);have r7:=PF λz=>r6 (beq_iff_eq.mpr z)
     have r8:=LG (P8 _ 1) l5.pa';have s6:c.2.2.1.size+1<=(out5.push z).size:=by rw[NB];exact Nk l5.sz
     exact wpS_ite (λ_=>LP (LQ.n ⟨l6,r7,r8,l5.pb,l5.pb',s6,sm5⟩)) (λ_=>LP (LQ.y ⟨l6,r7,r8,l5.pb,l5.pb',s6,sm5⟩))
    ·refine q0x2 (found_l fk') λf3 f4=>?_;have hz:∀x∈b.toList.take m',key x<=key z:=λx hx=>by
      refine q1x2 (mem_first hx) λj hj ej=>?_;exact NW (f3 j x hj (by rw[MB];exact ej))
     refine wpS_ite (λhk'=>?_) (λhk'=>?_)
     ·have l5:=l4.bs T fk'.1 r3' λx hx u hu=>by
       refine q1x2 (mem_take hx) λj hj ej=>?_;refine q1x2 (mem_first hu) λi hi ei=>?_;exact Nq (up_at T.ua (OD hi) ei ez) (f4 (m'+j) x (Mu ..) (PV hj) (by rw[MB];exact ej))
      refine wpS_ite (λr4=>LP ⟨l5.first T (eq_of_beq r4),sm5⟩) (λr4=>?_);refine wpS_ite (λr5=>LP ⟨l5.doneB T (eq_of_beq r5),sm5⟩) (λr5=>?_);exact hj _ _ ⟨⟨l5,l3.pa,l3.pa',ME (PF λz=>r5 (beq_iff_eq.mpr z)) λz=>r4 (beq_iff_eq.mpr z.symm),LG fk'.1 r3',by rw[Oe];exact LG s5 (Mu ..),sm5⟩,hz⟩
     ·rw[V6 fk'.1 (Tg (OR hk'))] at hz;exact hj _ _ ⟨⟨l4,l3.pa,l3.pa',r3,r3',s5,sm5⟩,hz⟩
   ·refine q0x2 (found_r fk) λf1 f2=>?_;have hy:∀x∈a.toList.take m,key x<=key y:=λx hx=>by
     refine q1x2 (mem_first hx) λj hj ej=>?_;exact f1 j x hj (by rw[MB];exact ej)
    refine wpS_ite (λhk=>?_) (λhk=>?_)
    ·have l4:=l3.li.as T fk.1 l3.pa' λx hx z hz=>by
      refine q1x2 (mem_take hx) λj hj ej=>?_;refine q1x2 (mem_first hz) λi hi ei=>?_;exact Nq (up_at T.ub (OD hi) ei ey) (NW (f2 (m+j) x (Mu ..) (PV hj) (by rw[MB];exact ej)))
     refine wpS_ite (λr1=>LP ⟨l4.doneA T (eq_of_beq r1),sm5⟩) (λr1=>?_);exact hj _ _ ⟨⟨l4,PF λz=>r1 (beq_iff_eq.mpr z),LG fk.1 l3.pa',l3.pb,l3.pb',by rw[Oe];exact LG l3.sz (Mu ..),sm5⟩,hy⟩
    ·rw[V6 fk.1 (Tg (OR hk))] at hy;exact hj _ _ ⟨⟨l3.li,l3.pa,l3.pa',l3.pb,l3.pb',l3.sz,sm5⟩,hy⟩
 ·have:=l.li.2;have:=l.pa;have:=l.pb;have:=l.sz;rw[XJ] at this;omega
end
end TS
namespace TS
open PySem PyProof.Rows PySem.W
theorem fold_at (sa:Nat):∀(l:List α) (n:Nat) (a:Array α) (k:Nat),((l.zipIdx n).foldl (λa (p,j)=>a.setIfInBounds (sa+j) p) a)[k]?=if sa+n<=k/\k<sa+n+l.length/\k<a.size then l[k-(sa+n)]? else a[k]?
 | [],n,a,k=>by
  rw[if_neg (by simp;omega)];rfl
 | x::l,n,a,k=>by
  rw[UR,Vn,fold_at sa l (n+1)];dsimp only;rw[Qn,RD,Mm]
  by_cases h1:sa+n=k
  ·subst h1;rw[if_neg (by omega),if_pos rfl]
   by_cases h2:sa+n<a.size
   ·rw[if_pos h2,if_pos ⟨by omega,by omega,h2⟩,PB];rfl
   ·rw[if_neg h2,if_neg (by omega)];exact(OS (by omega)).symm
  ·rw[if_neg h1]
   by_cases h2:sa+(n+1)<=k/\k<sa+(n+1)+l.length/\k<a.size
   ·rw[if_pos h2,if_pos ⟨by omega,by omega,h2.2.2⟩,show k-(sa+n)=k-(sa+(n+1))+1 by omega,Rw]
   ·rw[if_neg h2,if_neg (by omega)]
def fold_list {a:Array α}{m:Array α}{P X S:List α}(ha:a.toList=P++(X++S))(hp:P.length=sa)(hx:X.length=m.size):(m.toList.zipIdx.foldl (λa (p,j)=>a.setIfInBounds (sa+j) p) a).toList=P++(m.toList++S):=by
 have hs:a.size=P.length+(X.length+S.length):=by rw[<-Ln,ha,Ll,Ll]
 apply Of;intro k;rw[Li,fold_at sa m.toList 0 a k,QY,Ln,<-Li,ha]
 by_cases h1:k<sa
 ·rw[if_neg (by omega),LY (by omega),LY (by omega)]
 ·have e1:(P++(X++S))[k]?=(X++S)[k-sa]?:=by rw[Lv (by omega),hp]
  have e2:(P++(m.toList++S))[k]?=(m.toList++S)[k-sa]?:=by rw[Lv (by omega),hp]
  rw[e1,e2]
  by_cases h2:k<sa+m.size
  ·rw[if_pos ⟨by omega,h2,by omega⟩,LY (by rw[Ln];omega)]
  ·have e3:(X++S)[k-sa]?=S[k-sa-m.size]?:=by rw[Lv (by omega),hx]
   have e4:(m.toList++S)[k-sa]?=S[k-sa-m.size]?:=by rw[Lv (by rw[Ln];omega),Ln]
   rw[if_neg (by omega),e3,e4]
def at_mid {a:Array LO}{U R:List LO}(ha:a.toList=L0++(U++R))(i:Nat)(hi:i<U.length):a[L0.length+i]?=U[i]?:=by
 rw[<-Li,ha,Lv (by omega),Qz,LY hi]
def ext_mid {a:Array LO}{U R:List LO}(ha:a.toList=L0++(U++R))(hi:i=L0.length)(hj:j=L0.length+U.length):(a.extract i j).toList=U:=by
 subst hi hj;rw[Pe,Ot,ha,List.drop_left,Qz,TV]
section
variable {prog:Mi}{w:My}{A:MX}{E:Lk->Lm->Prop}{s:Lm}{κ:P7}{G:LO->Prop}{key:LO->Int}
def wpS_set {st x:L4}(h:Q ⟨⟩ x):wpS (LD prog w) A E s (set x:StateT L4 Sem PUnit) Q st:=by
 unfold wpS;rw[StateT.run_set];exact Lf ⟨rfl,h⟩
def wpS_set' {st x:L4}(h:∀st2:L4,N6 st2=N6 x->Nl st2=Nl x->L8 st2=L8 x->Ox st2=Ox x->Q ⟨⟩ st2):wpS (LD prog w) A E s (set x:StateT L4 Sem PUnit) Q st:=wpS_set (h x rfl rfl rfl rfl)
def seek_mid {a:Array LO}{U R:List LO}(ha:a.toList=L0++(U++R))(hu:U.Pairwise (leK key))(hg:∀x∈U,G x){k:LO}(hb:b=L0.length)(hn:n=U.length):Seek key G l k a b n (seekB key l k a b):=by
 subst hb hn;have sz:a.size=L0.length+(U.length+R.length):=by rw[<-Ln,ha,Ll,Ll]
 refine seek_of (λi x h1 h2 e=>?_) (λi j x y h1 h2 h3 ex ey=>?_) (by omega)
 ·rw[show i=L0.length+(i-L0.length) by omega,at_mid ha _ (by omega)] at e;exact hg x (LU e)
 ·rw[show i=L0.length+(i-L0.length) by omega,at_mid ha _ (by omega)] at ex;rw[show j=L0.length+(j-L0.length) by omega,at_mid ha _ (by omega)] at ey;refine q1x1 (Lj.mp ex) λhi ei=>?_;refine q1x1 (Lj.mp ey) λhj ej=>?_;rw[<-ei,<-ej]
  by_cases q:i-L0.length=j-L0.length
  ·simp only[q];exact Qy _
  ·exact NU.mp hu _ _ hi hj (by omega)
def mem_t {U:List LO}{k:Nat}(h:x∈U.take k):∃i,i<k/\U[i]?=Z x:=by
 obtain⟨i,hi,e⟩:=Ny h;rw[Nd] at hi;exact⟨i,by omega,by rw[<-e,SV,Lh]⟩
def mem_d {U:List LO}{k:Nat}(h:x∈U.drop k):∃i,k<=i/\i<U.length/\U[i]?=Z x:=by
 obtain⟨i,hi,e⟩:=Ny h;rw[OE] at hi;exact⟨k+i,by omega,by omega,by rw[<-e,Wk,Lh]⟩
structure Nx (st st':L4)(L:List LO)(p:Array (Nat×Nat×Nat)):Prop where
 kind:kindOf st'=kindOf st
 arr:(Nl st').toList=L
 pend:L8 st'=p
 fail:Ox st'=Ox st
def mergeAt_ok (hL:LtOk prog w A s κ G key){st:L4}(hst:kindOf st=κ)(hf:Ox st=Y){U V R:List LO}(hp1:(L8 st)[i]?=Z (sa,na,pw))(hp2:(L8 st)[i+1]?=Z (sb,nb,pw2))
  (ha:(Nl st).toList=L0++(U++(V++R))) (h0:sa=L0.length) (h1:na=U.length) (h2:nb=V.length) (h3:sb=sa+na) (hu:U.Pairwise (leK key)) (hv:V.Pairwise (leK key)) (hU:U≠[]) (hV:V≠[]) (gu:∀x∈U,G x) (gv:∀x∈V,G x)
  (h:∀Z st',Z.Perm (U++V)->Z.Pairwise (leK key)->Nx st st' (L0++(Z++R)) (((L8 st).setIfInBounds i (sa,na+nb,pw)).eraseIdxIfInBounds (i+1))->Q true st'):wpS (LD prog w) A E s (mergeAt' i) Q st:=by
 have u1:=List.length_pos_iff.mpr hU;have v1:=List.length_pos_iff.mpr hV;refine wpS_bind (wpS_get ?_);dsimp only;have e1:(sortPriv% PySem.Builtin.SortState.pending) st=pendingOf st:=rfl;rw[hp1,hp2];dsimp only;refine wpS_bind (wpS_set' λst2 k2 a2 p2 f2=>?_);have k2:kindOf st2=κ:=k2.trans hst;have a2:arrOf st2=arrOf st:=a2;have p2:pendingOf st2=((pendingOf st).setIfInBounds i (sa,na+nb,pw)).eraseIdxIfInBounds (i+1):=p2;have f2:failedOf st2=Y:=f2.trans hf;obtain⟨y,ey⟩:∃y,V[0]?=Z y:=⟨V[0],List.getElem?_eq_getElem v1⟩;have haV:(arrOf st).toList=(L0++U)++(V++R):=by rw[ha,List.append_assoc]
 have ey2:(Nl st)[sb]?=Z y:=by
  have:=at_mid haV 0 v1;rw[Ll,QY] at this;rw[h3,h0,h1,this];exact ey
 refine LM (wpS_elem ey2 (LM (gallop_ok (n:=na) (hint:=0) hL (gv y (LU ey)) (seek_mid (L0:=L0) (U:=U) ha hu gu h0 h1) (by omega) k2 λk fk=>?_)));dsimp only;refine q0x2 (found_r fk) λq1 q2=>?_;have kle:=fk.1;have at1:∀j x,U[j]?=Z x->(Nl st)[sa+j]?=Z x:=λj x e=>by
  rw[h0,at_mid ha j (Lj.mp e).1];exact e
 have at2:∀j x,V[j]?=Z x->(Nl st)[sb+j]?=Z x:=λj x e=>by
  have:=at_mid haV j (Lj.mp e).1;rw[Ll] at this;rw[h3,h0,h1,this];exact e
 have vy:∀v∈V,key y<=key v:=λv hv'=>by
  cases V with
  | nil=>cases hv'
  | cons v0 V=>
   have:y=v0:=(LZ ey).symm;subst this;rcases L1.mp hv' with rfl|z
   ·exact Qy _
   ·exact(OK.mp hv).1 v z
 have lo1:∀u∈U.take k,key u<=key y:=λu hu'=>by
  refine q1x2 (mem_t hu') λj hj e=>?_;exact q1 j u hj (at1 j u e)
 have hi1:∀u∈U.drop k,key y<key u:=λu hu'=>by
  refine q1x3 (mem_d hu') λj hj hj2 e=>?_;exact q2 j u hj (by omega) (at1 j u e)
 have same:(U++V).Pairwise (leK key)->wpS (LD prog w) A E s (pure true) Q st2:=λhs=>LP (h (U++V) st2 (TY _) hs ⟨by rw[k2,hst],by rw[a2,ha,LC],p2,by rw[f2,hf]⟩)
 refine wpS_ite (λz1=>?_) (λz1=>?_)
 ·have z1:=eq_of_beq z1;refine same (Mh.mpr ⟨hu,hv,λu hu' v hv'=>?_⟩);have:=lo1 u (by rw[PC (by omega)];exact hu');exact Nq this (vy v hv')
 have z1:na-k≠0:=λz=>z1 (beq_iff_eq.mpr z)
 obtain⟨x,ex⟩:∃x,U[na-1]?=Z x:=⟨U[na-1]'(by omega),Lh _⟩;have ex2:(Nl st)[sa+k+(na-k)-1]?=Z x:=by
  rw[show sa+k+(na-k)-1=sa+(na-1) by omega];exact at1 _ x ex
 refine LM (wpS_elem ex2 (LM (gallop_ok (n:=nb) (hint:=nb-1) hL (gu x (LU ex)) (seek_mid (L0:=L0++U) (U:=V) haV hv gv (by rw[Ll];omega) h2) (by omega) k2 λk' fk'=>?_)));dsimp only;refine q0x2 (found_l fk') λq3 q4=>?_;have kle':=fk'.1;have ux:∀u∈U,key u<=key x:=λu hu'=>by
  obtain⟨j,hj,e⟩:=Ny hu';refine q1x1 (Lj.mp ex) λhn en=>?_;rw[<-e,<-en]
  by_cases q:j=na-1
  ·simp only[q];exact Qy _
  ·exact NU.mp hu _ _ hj hn (by omega)
 have lo2:∀v∈V.take k',key v<key x:=λv hv'=>by
  refine q1x2 (mem_t hv') λj hj e=>?_;exact q3 j v hj (at2 j v e)
 have hi2:∀v∈V.drop k',key x<=key v:=λv hv'=>by
  refine q1x3 (mem_d hv') λj hj hj2 e=>?_;exact q4 j v hj (by omega) (at2 j v e)
 refine wpS_ite (λz2=>?_) (λz2=>?_)
 ·have z2:=eq_of_beq z2;refine same (Mh.mpr ⟨hu,hv,λu hu' v hv'=>?_⟩);subst z2;exact Nq (ux u hu') (hi2 v (by rw[TQ];exact hv'))
 have z2:k'≠0:=λz=>z2 (beq_iff_eq.mpr z)
 have haX:(Nl st).toList=(L0++U.take k)++(U.drop k++(V++R)):=by rw[ha,LC,<-LC (U.take k),MH]
 have haY:(Nl st).toList=(L0++U)++(V.take k'++(V.drop k'++R)):=by rw[haV,<-LC (V.take k'),MH]
 have lt1:(U.take k).length=k:=by rw[Nd];omega
 have lt2:(V.take k').length=k':=by rw[Nd];omega
 have ld1:(U.drop k).length=na-k:=by rw[OE];omega
 have eX:((Nl st).extract (sa+k) sb).toList=U.drop k:=ext_mid haX (by rw[Ll,lt1,h0]) (by rw[Ll,lt1,ld1];omega);have eY:((Nl st).extract sb (sb+k')).toList=V.take k':=ext_mid haY (by rw[Ll];omega) (by rw[Ll,lt2];omega);generalize hX:(Nl st).extract (sa+k) sb=XA at *;generalize hY:(Nl st).extract sb (sb+k')=YA at *;have sX:XA.size=na-k:=by rw[<-Ln,eX,ld1]
 have sY:YA.size=k':=by rw[<-Ln,eY,lt2]
 have T:Two key G XA YA:=by
  refine⟨by rw[eX];exact hu.drop,by rw[eY];exact hv.take,λx hx=>gu x ?_,λx hx=>gv x ?_,by omega,by omega,λy' e x' hx=>?_,λx' e y' hy=>?_⟩
  ·rw[eX] at hx;exact OA hx
  ·rw[eY] at hx;exact OB hx
  ·rw[<-Li,eY,List.getElem?_take,if_pos (by omega),ey] at e;cases e;rw[eX] at hx;exact NW (hi1 x' hx)
  ·rw[<-Li,eX,Q3,sX,show k+(na-k-1)=na-1 by omega,ex] at e;cases e;rw[eY] at hy;exact NW (lo2 y' hy)
 have fin:∀(r:Array LO) (st3:L4),Good key XA YA r->Sm st2 st3->wpS (LD prog w) A E s (do
   modify λst=>setArr st (r.toList.zipIdx.foldl (λa (p,j)=>a.setIfInBounds (sa+k+j) p) (Nl st))
   let st <-get
   pure (Ox st).isNone) Q st3:=λr st3 g sm=>by
  refine q0x2 g λgp gs=>?_;rw[eX,eY] at gp;have rl:r.size=(na-k)+k':=by rw[<-Ln,gp.length_eq,Ll,ld1,lt2]
  have fl:=fold_list (a:=Nl st3) (m:=r) (sa:=sa+k) (P:=L0++U.take k) (X:=U.drop k++V.take k') (S:=V.drop k'++R) (by
   rw[sm.arr,a2,haX,LC (U.drop k),<-LC (V.take k'),MH]) (by rw[Ll,lt1,h0]) (by rw[Ll,ld1,lt2,rl])
  refine LM (RY (LM (Se ?_)));have ff:Ox st3=Y:=by rw[sm.fail,f2]
  show wpS _ _ _ _ (pure (Ox st3).isNone) Q _;rw[ff];refine LP (h (U.take k++(r.toList++V.drop k')) _ ?_ ?_ ⟨?_,?_,?_,?_⟩)
  ·refine(Ow _ (QZ _ gp)).trans (.of_eq ?_);rw[LC,MH,<-LC,MH]
  ·rw[Mh,Mh];refine⟨hu.take,⟨gs,hv.drop,λc hc v hv'=>?_⟩,λu hu' c hc=>?_⟩
   ·rcases MR.mp (gp.subset hc) with z|z
    ·exact Nq (ux c (OA z)) (hi2 v hv')
    ·exact Nq (NW (lo2 c z)) (hi2 v hv')
   ·rcases MR.mp hc with z|z
    ·rcases MR.mp (gp.subset z) with z|z
     ·have:=lo1 u hu';have:=hi1 c z;exact(show key u<=key c by omega)
     ·exact Nq (lo1 u hu') (vy c (OB z))
    ·exact Nq (lo1 u hu') (vy c (OA z))
  ·show kindOf st3=_;rw[sm.kind,k2,hst]
  ·show(r.toList.zipIdx.foldl (λa (p,j)=>a.setIfInBounds (sa+k+j) p) (Nl st3)).toList=_;rw[fl,LC,LC,LC]
  ·show L8 st3=_;rw[sm.pend,p2]
  ·show Ox st3=_;rw[ff,hf]
 refine wpS_ite (λ_=>?_) (λ_=>?_)
 ·exact LM (mergeLo_ok hL T k2 λr st3 g sm=>fin r st3 g sm)
 ·exact LM (mergeHi_ok hL T k2 λr st3 g sm=>fin r st3 g sm)
end
end TS
namespace TS
open PySem PyProof.Rows PySem.W
def at_next {a:Array LO}{D R:List LO}(ha:a.toList=L0++(D++y::R))(hi:i=L0.length+D.length):a[i]?=Z y:=by
 subst hi;rw[<-Li,ha,Lv (by omega),Qz,Lv (Lr _),PB];rfl
def at_last {a:Array LO}{D R:List LO}(ha:a.toList=L0++(D++[z]++R))(hi:i=L0.length+D.length):a[i]?=Z z:=
 at_next (R:=R) (by rw[ha,LC D];rfl) hi
def mirror_list {a:Array LO}{S R:List LO}(ha:a.toList=P++(S++R))(hi:i=P.length)(hj:j=P.length+S.length):(mirror a i j ((j-i) / 2)).toList=P++(S.reverse++R):=by
 have hs:a.size=P.length+(S.length+R.length):=by rw[<-Ln,ha,Ll,Ll]
 apply Of;intro k;rw[Li,Ui (by omega)];subst hi hj
 by_cases h1:P.length<=k/\k<P.length+S.length
 ·rw[if_pos h1,<-Li,ha,Lv (by omega),LY (by omega)];have e2:(P++(S.reverse++R))[k]?=(S.reverse++R)[k-P.length]?:=Lv (by omega);rw[e2,LY (by rw[NI];omega),List.getElem?_reverse (by omega)];congr 1;omega
 ·rw[if_neg h1,<-Li,ha]
  by_cases h2:k<P.length
  ·rw[LY h2,LY h2]
  ·have e1:(P++(S++R))[k]?=(S++R)[k-P.length]?:=Lv (by omega);have e2:(P++(S.reverse++R))[k]?=(S.reverse++R)[k-P.length]?:=Lv (by omega);rw[e1,e2,Lv (by omega),Lv (by rw[NI];omega),NI]
def bubble_list {a:Array LO}{S R:List LO}(ha:a.toList=P++(X++(S++y::R)))(h1:src=P.length+X.length+S.length)(h2:d=S.length):(bubble a src d).toList=P++(X++(y::(S++R))):=by
 have hs:a.size=P.length+(X.length+(S.length+(R.length+1))):=by rw[<-Ln,ha];simp
 have hy:a[src]?=Z y:=at_next (L0:=P++X) (D:=S) (R:=R) (by rw[ha,LC]) (by rw[Ll];omega);apply Of;intro k;rw[Li,getElem?_bubble (by omega) d (by omega) k];have e0:P++(X++(y::(S++R)))=(P++X)++([y]++(S++R)):=by rw[LC];rfl
 have e1:P++(X++(S++y::R))=(P++X)++(S++([y]++R)):=by rw[LC];rfl
 have lp:(P++X).length=src-d:=by rw[Ll];omega
 rw[e0];rw[e1] at ha;generalize P++X=PX at *
 by_cases q1:k=src-d
 ·subst q1;rw[if_pos rfl,hy,Lv (by omega),lp,PB];rfl
 rw[if_neg q1]
 by_cases q2:src-d<k/\k<=src
 ·rw[if_pos q2,<-Li,ha];have r1:(PX++(S++([y]++R)))[k-1]?=S[k-1-PX.length]?:=by rw[Lv (by omega),LY (by omega)]
  have r2:(PX++([y]++(S++R)))[k]?=(S++R)[k-PX.length-1]?:=by rw[Lv (by omega),Lv (show [y].length<=_ by rw[NO];omega),NO]
  rw[r1,r2,LY (by omega)];congr 1;omega
 ·rw[if_neg q2,<-Li,ha]
  by_cases q3:k<PX.length
  ·rw[LY q3,LY q3]
  ·have r1:(PX++(S++([y]++R)))[k]?=R[k-PX.length-S.length-1]?:=by
    rw[Lv (by omega),Lv (by omega),Lv (show [y].length<=_ by rw[NO];omega),NO]
   have r2:(PX++([y]++(S++R)))[k]?=R[k-PX.length-1-S.length]?:=by
    rw[Lv (by omega),Lv (show [y].length<=_ by rw[NO];omega),NO,Lv (by omega)]
   rw[r1,r2];congr 1;omega
section
variable {prog:Mi}{w:My}{A:MX}{E:Lk->Lm->Prop}{s:Lm}{κ:P7}{G:LO->Prop}{key:LO->Int}
def wpS_at (hL:LtOk prog w A s κ G key){st:L4}(hst:kindOf st=κ)(hi:(Nl st)[i]?=Z x)(hj:(Nl st)[j]?=Z y)(hx:G x)(hy:G y)(h:Q (Z (decide (key x<key y))) st):wpS (LD prog w) A E s (ltAt' i j) Q st:=by
 rw[ltAt'_eq];refine LM (Se ?_);exact LM (wpS_elem hi (LM (wpS_elem hj (wpS_lt hL hx hy hst h))))
def up_snoc {D:List LO}(h:(D++[z]).Pairwise (leK key))(hy:key z<=key y):(D++[z]++[y]).Pairwise (leK key):=by
 rw[Mh];refine⟨h,NP _ _,λd hd u hu=>?_⟩;rw[LK.mp hu];rcases MR.mp hd with q|q
 ·exact Nq ((Mh.mp h).2.2 d q z (LK.mpr rfl)) hy
 ·rw[LK.mp q];exact hy
def down_snoc {D:List LO}(h:(D++[z]).Pairwise (geK key))(hy:key y<=key z):(D++[z]++[y]).Pairwise (geK key):=by
 rw[Mh];refine⟨h,NP _ _,λd hd u hu=>?_⟩;rw[LK.mp hu];rcases MR.mp hd with q|q
 ·exact Nq hy ((Mh.mp h).2.2 d q z (LK.mpr rfl))
 ·rw[LK.mp q];exact hy
def AllEq (key:LO->Int)(l:List LO):Prop:=∀e∈l,∀f∈l,key e=key f
def eq_rev {Eq:List LO}(h:(P++Eq).Pairwise (geK key))(he:AllEq key Eq):(P++Eq.reverse).Pairwise (geK key):=by
 rw[Mh] at h ⊢;refine⟨h.1,Ss (R:=λ_ _=>True) (λ{a b} ha hb _=>?_) (SH λ_ _=>trivial),λa ha b hb=>h.2.2 a ha b (MN.mp hb)⟩;exact U9 (he b (MN.mp hb) a (MN.mp ha))
def snoc_of {D:List LO}(h:D≠[]):∃D' z,D=D'++[z]:=⟨D.dropLast,D.getLast h,(List.dropLast_concat_getLast h).symm⟩
def Rn (st:L4)(L0 R D R':List LO)(st':L4):Prop:=Nx st st' (L0++(D++R')) (L8 st)/\(D++R').Perm R
def wpS_rev (hL:LtOk prog w A s κ G key){st st1:L4}{R S:List LO}(hr:Rn st L0 R (P++S) R' st1)(hi:i=L0.length+P.length)(hj:j=L0.length+P.length+S.length)(h:∀st2,Rn st L0 R (P++S.reverse) R' st2->Q () st2):wpS (LD prog w) A E s (reverseSlice' i j) Q st1:=by
 refine wpS_reverse (h _ ⟨⟨hr.1.kind,?_,hr.1.pend,hr.1.fail⟩,?_⟩)
 ·have:=mirror_list (a:=Nl st1) (P:=L0++P) (S:=S) (R:=R') (by rw[hr.1.arr,LC,LC]) (i:=i) (j:=j) (by rw[Ll];exact hi) (by rw[Ll];exact hj);show(mirror (Nl st1) i j ((j-i) / 2)).toList=_;rw[this,LC,LC]
 ·refine RE ?_ hr.2;exact QZ _ (Ow _ (QX S))
def Rn.mem {st st':L4}{R D:List LO}(h:Rn st L0 R D R' st'){P:LO->Prop}(hP:∀x∈R,P x):∀x∈D++R',P x:=λx hx=>hP x (h.2.subset hx)
inductive C1 (key:LO->Int) (L:List LO) (n:Nat) (st st2:L4):Prop
 | mk (D R':List LO) (e:st2=st) (l:D.length=n) (ne:D≠[]) (eq:D++R'=L) (up:D.Pairwise (leK key)):C1 key L n st st2
inductive C2 (key:LO->Int) (L:List LO) (n:Nat) (st st2:L4):Prop
 | mk (D R':List LO) (e:st2=st) (l:D.length=n) (ne:D≠[]) (eq:D++R'=L) (up:D.Pairwise (leK key)) (br:n<L.length->∃D2 z y R2,D=D2++[z]/\R'=y::R2/\key y<key z):C2 key L n st st2
def C1.fin {st:L4}{L:List LO}(h:C1 key L n st st2)(hn:L.length<=n):C2 key L n st st2:=by
 obtain⟨D,R',e,l,ne,eq,up⟩:=h;exact⟨D,R',e,l,ne,eq,up,λz=>absurd z (Qf hn)⟩
def C1.step {lo:Nat}{st:L4}{L:List LO}(h:C1 key L n st st2)(ha:(Nl st).toList=L0++L)(hlo:lo=L0.length)(hn:n<L.length)(gR:∀x∈L,G x) :
  ∃y z,(Nl st2)[lo+n]?=Z y/\(Nl st2)[lo+n-1]?=Z z/\G y/\G z/\(key y<key z->C2 key L n st st2)/\(¬key y<key z->C1 key L (n+1) st st2):=by
 obtain⟨D,R',e,l,ne,eq,up⟩:=h;subst e l eq hlo;cases R' with
 | nil=>rw[Mo] at hn;exact absurd hn (N8 _)
 | cons y R2=>
  refine q2x1 (snoc_of ne) λD3 z zz2=>?_;subst zz2;exact⟨y,z,at_next ha rfl,at_last ha (by rw[Ll];rfl),gR y (Lo _ Lz),gR z (Ml _ (Lo _ (LK.mpr rfl))),λhc=>⟨D3++[z],y::R2,rfl,rfl,ne,rfl,up,λ_=>⟨D3,z,y,R2,rfl,rfl,hc⟩⟩,
   λhc=>⟨D3++[z]++[y],R2,rfl,Ll,List.append_ne_nil_of_right_ne_nil _ (R7 _ _),LC ..,up_snoc up (Ri.mp hc)⟩⟩
inductive C3 (key:LO->Int) (L0 L:List LO) (n neq:Nat) (st st5:L4):Prop
 | mk (P S R2:List LO) (rn:Rn st L0 L (P++S) R2 st5) (len:P.length+S.length=n) (ls:S.length=neq+1) (dn:(P++S).Pairwise (geK key)) (eq:AllEq key S):C3 key L0 L n neq st st5
def one_eq (y:LO):AllEq key [y]:=λe he g hg=>by rw[LK.mp he,LK.mp hg]
def Rn.next {st:L4}{R T R2:List LO}(q:Rn st L0 R T (y::R2) st3):Rn st L0 R (T++[y]) R2 st3:=⟨⟨q.1.kind,by rw[q.1.arr,LC T];rfl,q.1.pend,q.1.fail⟩,by rw[LC];exact q.2⟩
def C3.step {lo:Nat}{st:L4}{L:List LO}(h:C3 key L0 L n neq st st5)(hlo:lo=L0.length)(hn:n<L.length)(gR:∀x∈L,G x) :
  ∃y z P S R2,(Nl st5)[lo+n]?=Z y/\(Nl st5)[lo+n-1]?=Z z/\G y/\G z/\Rn st L0 L (P++S) (y::R2) st5/\P.length+S.length=n/\S.length=neq+1/\
   (key y<key z->∀st3,Rn st L0 L (P++S.reverse) (y::R2) st3->C3 key L0 L (n+1) 0 st st3)/\(key y=key z->C3 key L0 L (n+1) (neq+1) st st5):=by
 obtain⟨P,S,R2,rn,len,ls,dn,eq⟩:=h;subst len hlo;cases R2 with
 | nil=>
  have:=rn.2.length_eq;rw[Mo,Ll] at this;exact absurd hn (this▸N8 _)
 | cons y R2=>
  refine q2x1 (snoc_of (show S≠[] from λq=>by rw[q] at ls;cases ls)) λS' z zz2=>?_;subst zz2;have gm:=rn.mem gR;have ha:(Nl st5).toList=L0++((P++S')++[z]++y::R2):=by rw[rn.1.arr,LC P S']
  have e1:P.length+(S'++[z]).length=(P++S').length+1:=by rw[Ll,Ll,NN];rfl
  refine⟨y,z,P,S'++[z],R2,at_next rn.1.arr (by rw[Ll (as:=P)]),at_last ha (by rw[e1];rfl),gm y (Lo _ Lz),gm z (Ml _ (Lo _ (Lo _ (LK.mpr rfl)))),rn,rfl,ls,λhc st3 r3=>?_,λhc=>?_⟩
  ·refine⟨P++(S'++[z]).reverse,[y],R2,r3.next,by rw[Ll,NI];rfl,rfl,?_,one_eq y⟩;rw[Mh];refine⟨eq_rev dn eq,NP _ _,λd hd u hu=>?_⟩;rw[LK.mp hu];rcases MR.mp hd with q|q
   ·exact Nq (NW hc) ((Mh.mp dn).2.2 d q z (Lo _ (LK.mpr rfl)))
   ·refine NW (show key y<key d from ?_);rw[<-eq z (Lo _ (LK.mpr rfl)) d (MN.mp q)];exact hc
  ·refine⟨P,S'++[z]++[y],R2,by rw[<-LC];exact rn.next,by rw[Ll (as:=S'++[z]),<-NN];rfl,by rw[Ll,ls];rfl,?_,λe he g hg=>?_⟩
   ·have:=down_snoc (D:=P++S') (z:=z) (y:=y) (key:=key) (by rw[LC];exact dn) (U9 hc);rw[LC P] at this;rw[<-LC P];exact this
   ·have kz:∀u∈S'++[z]++[y],key u=key z:=λu hu=>by
     rcases MR.mp hu with q|q
     ·exact eq u q z (Lo _ (LK.mpr rfl))
     ·rw[LK.mp q];exact hc
    rw[kz e he,kz g hg]
def all_same {D2:List LO}(e4:(D2++[z]).Pairwise (leK key))(e0:(D2++[z])[0]?=Z z0)(hc:¬key z0<key z):∀u∈D2++[z],key u=key z:=λu hu=>by
 refine V7 ?_ (Nq (Ri.mp hc) ?_)
 ·rcases MR.mp hu with q|q
  ·exact(Mh.mp e4).2.2 u q z (LK.mpr rfl)
  ·rw[LK.mp q];exact Qy _
 ·generalize D2++[z]=DD at e4 e0 hu;cases DD with
  | nil=>cases hu
  | cons d0 DD=>
   cases e0;rcases L1.mp hu with rfl|q
   ·exact Qy _
   ·exact(OK.mp e4).1 u q
def C3.first {st:L4}{L T:List LO}(r:Rn st L0 L T (y::R2) st3)(l:T.length=n)(dn:T.Pairwise (geK key))(hy:∀t∈T,key y<=key t):C3 key L0 L (n+1) 0 st st3:=by
 refine⟨T,[y],R2,r.next,by rw[l];rfl,rfl,?_,one_eq y⟩;rw[Mh];exact⟨dn,NP _ _,λd hd u hu=>by rw[LK.mp hu];exact hy d hd⟩
def rev_one {S:List LO}(h:S.length=neq+1)(hq:¬neq>0):S.reverse=S:=by
 rw[OR hq] at h;cases S with
 | nil=>rfl
 | cons x S=>
  rw[List.eq_nil_of_length_eq_zero (Nat.succ.inj h)];rfl
def rev_at {lo n neq:Nat}{L0 P S:List LO}(hlo:lo=L0.length)(len:P.length+S.length=n)(ls:S.length=neq+1):lo+n-(neq+1)=L0.length+P.length:=by rw[hlo,<-len,ls,<-NN,Nat.add_sub_cancel]
def rev_to {lo n:Nat}{L0 P S:List LO}(hlo:lo=L0.length)(len:P.length+S.length=n):lo+n=L0.length+P.length+S.length:=by rw[hlo,<-len,NN]
def countRun_ok (hL:LtOk prog w A s κ G key){st:L4}(hst:kindOf st=κ){R:List LO}{lo nrem:Nat}(ha:(Nl st).toList=L0++R)(hlo:lo=L0.length)(hn:nrem=R.length)(hR:R≠[])(gR:∀x∈R,G x)
  (h:∀D R' st',D≠[]->D.Pairwise (leK key)->Rn st L0 R D R' st'->Q (Z D.length) st'):wpS (LD prog w) A E s (countRun' lo nrem) Q st:=by
 have r0:∀D R',D++R'=R->Rn st L0 R D R' st:=λD R' e=>⟨⟨rfl,by rw[ha,e],rfl,rfl⟩,by rw[e]⟩
 have C0:C1 key R 1 st st:=by
  cases R with
  | nil=>exact absurd rfl hR
  | cons x R=>exact⟨[x],R,rfl,rfl,R7 _ _,rfl,NP _ _⟩
 refine wpS_loop (I:=λx c st2=>c=x/\C1 key R c st st2) (D:=λ_ _=>False) (N:=λc=>C2 key R c st) ⟨rfl,C0⟩ (λx c st2 hx l=>?_) (λc st2 l=>l.2.fin (l.1▸hn▸OY ..)) (λ_ _ _ z=>z.elim) (λc st2 l=>?_)
 ·refine q2x6 (l.2.step ha hlo (l.1▸hn▸hx) gR) λy z iy iz gy gz q1 q2=>?_;refine LM (wpS_at hL (by cases l.2;rename_i e _ _ _ _;rw[e];exact hst) iy iz gy gz ?_);exact wpS_ite (λhc=>LP (LQ.n (q1 (of_decide_eq_true hc)))) (λhc=>LP (LQ.y ⟨congrArg _ l.1,q2 λq=>hc (decide_eq_true q)⟩))
 obtain⟨D,R',e,l,ne,eq,up,br⟩:=l;cases e;subst l;refine wpS_ite (λq=>LP (h D R' st ne up (r0 D R' eq))) (λq=>?_);have q:D.length≠nrem:=λz=>q (beq_iff_eq.mpr z)
 refine q4x3 (br (ME (by rw[<-eq,Ll];exact Mu ..) λz=>q (z.trans hn.symm))) λD2 z y R2 zz4 zz5 hyz=>?_;subst zz4;subst zz5
 extract_lets -underBinder +onlyGivenNames jp
 refine wpS_cut0 (j:=jp) (λst3=>C3 key L0 R ((D2++[z]).length+1) 0 st st3) (λst3 c3=>?_) λhj=>?_
 ·clear br q;refine LM (SF (Oy ⟨rfl,?_⟩));refine wpS_loop (I:=λx c st5=>c.1=x/\C3 key L0 R c.1 c.2 st st5) (D:=λ_ _=>False) (N:=λc st5=>C3 key L0 R c.1 c.2 st st5) ⟨rfl,c3⟩ (λx c st5 hx l=>?_) (λc st5 l=>l.2) (λ_ _ _ z=>z.elim) (λc st5 l=>?_)
  ·obtain⟨y,z,P,S,R2,iy,iz,gy,gz,rn,len,ls,k1,k2⟩:=l.2.step hlo (l.1▸hn▸hx) gR;have hk:=rn.1.kind.trans hst;refine LM (wpS_at hL hk iy iz gy gz ?_);refine wpS_ite (λhc=>?_) (λhc=>?_)
   ·have k1:=k1 (of_decide_eq_true hc);exact wpS_ite (λhq=>LM (wpS_rev (P:=P) (S:=S) hL rn (rev_at hlo len ls) (rev_to hlo len) λst3 r3=>LP (LQ.y ⟨congrArg _ l.1,k1 st3 r3⟩))) (λhq=>LP (LQ.y ⟨congrArg _ l.1,k1 st5 (by rw[rev_one ls hq];exact rn)⟩))
   ·refine LM (wpS_at hL hk iz iy gz gy ?_);exact wpS_ite (λhg=>LP (LQ.n l.2)) (λhg=>LP (LQ.y ⟨congrArg _ l.1,k2 (V7 (Ri.mp λq=>hg (decide_eq_true q)) (Ri.mp λq=>hc (decide_eq_true q)))⟩))
  ·obtain⟨P,S,R2,rn,len,ls,dn,eq⟩:=l;dsimp (config:={zeta:=false,zetaHave:=false}) only
   extract_lets -underBinder +onlyGivenNames r_ s_ n_ k_
   subst r_ s_ n_ k_;dsimp (config:={zeta:=false,zetaHave:=false}) only
   extract_lets -underBinder +onlyGivenNames jp
   refine wpS_cut0 (j:=jp) (λst6=>Rn st L0 R (P++S.reverse) R2 st6) (λst6 r6=>?_) λhj=>wpS_ite (λhq=>LM (wpS_rev (P:=P) (S:=S) hL rn (rev_at hlo len ls) (rev_to hlo len) λst6 r6=>hj st6 r6)) (λhq=>hj st5 (by rw[rev_one ls hq];exact rn))
   have ln:(P++S.reverse).length=c.1:=by rw[Ll,NI];exact len
   have nn:(P++S.reverse).reverse≠[]:=λz=>by rw[<-NI,z,NK] at ln;rw[ls,<-ln] at len;cases len
   have d7:=Q7.mpr (eq_rev dn eq);refine LM (wpS_rev (P:=[]) (S:=P++S.reverse) hL r6 (by rw[hlo];rfl) (by rw[hlo,ln];rfl) λst7 r7=>?_);have r7:Rn st L0 R (P++S.reverse).reverse R2 st7:=r7;rw[<-NI] at ln;generalize (P++S.reverse).reverse=DD at r7 ln nn d7;have l7:(DD++R2).length=nrem:=by rw[hn];exact r7.2.length_eq
   refine wpS_loop (I:=λx c st8=>c=x/\C1 key (DD++R2) c st7 st8) (D:=λ_ _=>False) (N:=λc=>C2 key (DD++R2) c st7) ⟨rfl,DD,R2,rfl,ln,nn,rfl,d7⟩ (λx c st8 hx l=>?_) (λc st2 l=>l.2.fin (l.1▸l7▸OY ..)) (λ_ _ _ z=>z.elim) (λc st8 l=>?_)
   ·refine q2x6 (l.2.step r7.1.arr hlo (l.1▸l7▸hx) (r7.mem gR)) λy z iy iz gy gz q1 q2=>?_;refine LM (wpS_at hL (by cases l.2;rename_i e _ _ _ _;rw[e];exact r7.1.kind.trans hst) iy iz gy gz ?_);exact wpS_ite (λhc=>LP (LQ.n (q1 (of_decide_eq_true hc)))) (λhc=>LP (LQ.y ⟨congrArg _ l.1,q2 λq=>hc (decide_eq_true q)⟩))
   ·obtain⟨D,R',e,l,ne,eq,up,br⟩:=l;subst e l;exact LP (h D R' _ ne up ⟨⟨r7.1.kind,by rw[r7.1.arr,eq],r7.1.pend,r7.1.fail⟩,by rw[eq];exact r7.2⟩)
 ·refine wpS_ite (λhg=>?_) (λhg=>hj _ (C3.first (T:=D2++[z]) (r0 _ _ eq) rfl ?_ ?_))
  ·obtain⟨z0,e0⟩:∃z0,(D2++[z])[0]?=Z z0:=⟨_,Lh (Pf hg)⟩;rw[<-eq] at ha gR;have i0:(Nl st)[lo]?=Z z0:=by
    have:=at_mid ha 0 (Pf hg);rw[QY,e0] at this;rw[hlo];exact this
   have iz:(Nl st)[lo+(D2++[z]).length-1]?=Z z:=at_last ha (by rw[hlo,Ll];rfl);refine LM (wpS_at hL hst i0 iz (gR z0 (Ml _ (LU e0))) (gR z (Ml _ (Lo _ (LK.mpr rfl)))) ?_);refine wpS_ite (λ_=>LP (h _ _ st ne up (r0 _ _ eq))) (λhc=>?_);have kall:=all_same up e0 λq=>hc (decide_eq_true q)
   refine LM (wpS_rev (P:=[]) (S:=D2++[z]) hL (r0 _ _ eq) (by rw[hlo];rfl) (by rw[hlo];rfl) λst3 hr3=>hj _ (C3.first (T:=(D2++[z]).reverse) hr3 NI ?_ λt ht=>?_))
   ·refine Ss (R:=λ_ _=>True) (λ{p q} hp hq' _=>?_) (SH λ_ _=>trivial);exact U9 ((kall q (MN.mp hq')).trans (kall p (MN.mp hp)).symm)
   ·rw[kall t (MN.mp ht)];exact NW hyz
  ·cases D2 with
   | nil=>exact NP _ _
   | cons d D2=>exact absurd (by rw[Ll];exact Vy (Vz _)) hg
  ·cases D2 with
   | nil=>exact λt ht=>by rw[LK.mp ht];exact NW hyz
   | cons d D2=>exact absurd (by rw[Ll];exact Vy (Vz _)) hg
end
end TS
namespace TS
open PySem PyProof.Rows PySem.W
section
variable {prog:Mi}{w:My}{A:MX}{E:Lk->Lm->Prop}{s:Lm}{κ:P7}{G:LO->Prop}{key:LO->Int}
def binarySort_ok (hL:LtOk prog w A s κ G key){st:L4}(hst:kindOf st=κ){R:List LO}{lo n ok:Nat}(hlo:lo=L0.length)(hn:n<=R.length)(gR:∀x∈R,G x){D:List LO}(hr:Rn st L0 R D R' st1)(hD:D.length=ok)(h1:1<=ok)(hok:ok<=n)(hu:D.Pairwise (leK key))
  (h:∀D2 R2 st2,D2.length=n->D2.Pairwise (leK key)->Rn st L0 R D2 R2 st2->Q true st2):wpS (LD prog w) A E s (binarySort' lo n ok) Q st1:=by
 refine LM (SG (QU
  (I:=λk c st2=>c=(Y,())/\∃D2 R2,D2.length=k/\D2.Pairwise (leK key)/\Rn st L0 R D2 R2 st2)
  (Q:=λc st2=>c=(Y,())/\∃D2 R2,D2.length=n/\D2.Pairwise (leK key)/\Rn st L0 R D2 R2 st2) ?_ ?_ ⟨rfl,D,R',by omega,hu,hr⟩) ?_)
 ·rintro k c st2 hk1 hk2 ⟨rfl,D2,R2,l2,u2,r2⟩
  try dsimp only
  have ln:D2.length+R2.length=R.length:=by rw[<-Ll,r2.2.length_eq]
  cases R2 with
  | nil=>rw[NK] at ln;omega
  | cons y R2=>
   have gm:=r2.mem gR;have gy:=gm y (Lo _ Lz);have iy:(Nl st2)[lo+k]?=Z y:=at_next r2.1.arr (by rw[hlo,l2]);refine LM (SG (QU
    (I:=λx c st3=>st3=st2/\∃l r,c=(Y,l,r)/\l<=r/\r<=k/\r-l<=k-x/\(∀d∈D2.take l,key d<=key y)/\∀d∈D2.drop r,key y<=key d)
    (Q:=λc st3=>st3=st2/\∃l r,c=(Y,l,r)/\l<=k/\(∀d∈D2.take l,key d<=key y)/\∀d∈D2.drop l,key y<=key d) ?_ ?_ ⟨rfl,0,k,rfl,by omega,by omega,by omega,λd hd=>by simp at hd,λd hd=>by rw[PD (by omega)] at hd;cases hd⟩) ?_)
   ·rintro x c st3 _ hx ⟨rfl,l,r,rfl,g1,g2,g3,g4,g5⟩
    try dsimp only
    refine wpS_ite (λhc=>?_) (λhc=>?_)
    ·exact LP ⟨rfl,l,r,rfl,by omega,g4,by rw[show l=r by omega];exact g5⟩
    ·obtain⟨z,ez⟩:∃z,D2[(l+r) / 2]?=Z z:=⟨D2[(l+r) / 2]'(by omega),Lh _⟩;have iz:(Nl st3)[lo+(l+r) / 2]?=Z z:=by rw[hlo,at_mid r2.1.arr _ (by omega)];exact ez
     have gz:=gm z (Ml _ (LU ez));refine q1x1 (Lj.mp ez) λhz ezz=>?_;refine LM (wpS_at hL (r2.1.kind.trans hst) iy iz gy gz ?_)
     try dsimp only
     refine wpS_ite (λhq=>?_) (λhq=>?_)
     ·have hq:=of_decide_eq_true hq;refine LP ⟨rfl,_,_,rfl,by omega,by omega,by omega,g4,λd hd=>?_⟩;refine q1x3 (mem_d hd) λi i1 i2 ei=>?_;refine q1x1 (Lj.mp ei) λhi eii=>?_;rw[<-eii];rw[<-ezz] at hq
      by_cases e:i=(l+r) / 2
      ·simp only[e];omega
      ·have:key D2[(l+r) / 2]<=key D2[i]:=NU.mp u2 _ _ hz hi (by omega);omega
     ·have hq:¬key y<key z:=λq=>hq (decide_eq_true q)
      refine LP ⟨rfl,_,_,rfl,by omega,by omega,by omega,λd hd=>?_,g5⟩;refine q1x2 (mem_t hd) λi i1 ei=>?_;refine q1x1 (Lj.mp ei) λhi eii=>?_;rw[<-eii];rw[<-ezz] at hq
      by_cases e:i=(l+r) / 2
      ·simp only[e];omega
      ·have:key D2[i]<=key D2[(l+r) / 2]:=NU.mp u2 _ _ hi hz (by omega);omega
   ·rintro c st3 ⟨rfl,l,r,rfl,g1,g2,g3,g4,g5⟩;rw[show max 0 k=k by omega] at g3;exact⟨rfl,l,r,rfl,by omega,g4,by rw[show l=r by omega];exact g5⟩
   ·rintro c st3 ⟨rfl,l,r,rfl,g1,g4,g5⟩
    try dsimp only
    have lt:(D2.take l).length=l:=by rw[Nd];omega
    have ld:(D2.drop l).length=k-l:=by rw[OE];omega
    have bl:=bubble_list (a:=Nl st3) (P:=L0) (X:=D2.take l) (S:=D2.drop l) (R:=R2) (y:=y) (by rw[r2.1.arr,<-LC (D2.take l),MH]) (src:=lo+k) (d:=lo+k-(lo+l)) (by rw[lt,ld];omega) (by rw[ld];omega);refine LM (m:=moveDown' (lo+k) (lo+l)) (RY (LP ⟨rfl,D2.take l++y::D2.drop l,R2,?_,?_,⟨r2.1.kind,?_,r2.1.pend,r2.1.fail⟩,?_⟩))
    ·rw[Ll,Mm,lt,ld];omega
    ·rw[Mh,OK];refine⟨u2.take,⟨λd hd=>g5 d hd,u2.drop⟩,λa ha b hb=>?_⟩;rcases L1.mp hb with rfl|hb
     ·exact g4 a ha
     ·exact Nq (g4 a ha) (g5 b hb)
    ·show(bubble (Nl st3) (lo+k) (lo+k-(lo+l))).toList=_;rw[bl,LC (D2.take l)];rfl
    ·refine RE ?_ r2.2;rw[LC];refine(Ow _ (show(y::D2.drop l++R2).Perm (D2.drop l++y::R2) from US.symm)).trans (.of_eq ?_);rw[<-LC,MH]
 ·rintro c st2 ⟨rfl,D2,R2,l2,u2,r2⟩;exact⟨rfl,D2,R2,by omega,u2,r2⟩
 ·rintro c st2 ⟨rfl,D2,R2,l2,u2,r2⟩;exact LP (h D2 R2 st2 l2 u2 r2)
end
def PM (key:LO->Int):Nat->List (Nat×Nat×Nat)->List (List LO)->Prop
 | _,[],[]=>True
 | b,r::p,R::Rs=>r.1=b/\r.2.1=R.length/\R≠[]/\R.Pairwise (leK key)/\PM key (b+R.length) p Rs
 | _,_,_=>False
section
variable {key:LO->Int}
theorem PM.split:∀{q1 q2:List (Nat×Nat×Nat)} {b:Nat} {Rs:List (List LO)},PM key b (q1++q2) Rs->∃Rs1 Rs2,Rs=Rs1++Rs2/\PM key b q1 Rs1/\PM key (b+Rs1.flatten.length) q2 Rs2/\Rs1.length=q1.length
 | [],q2,b,Rs,h=>⟨[],Rs,rfl,trivial,h,rfl⟩
 | r::q1,q2,b,[],h=>h.elim
 | r::q1,q2,b,R::Rs,h=>by
  refine q0x5 h λh1 h2 h3 h4 h5=>?_;refine q2x4 (PM.split h5) λRs1 Rs2 zz2 g1 g2 g3=>?_;subst zz2;refine⟨R::Rs1,Rs2,rfl,⟨h1,h2,h3,h4,g1⟩,?_,by rw[Mm,Mm,g3]⟩;rw[Nm,Ll,<-NN];exact g2
theorem PM.app:∀{q1 q2:List (Nat×Nat×Nat)} {b:Nat} {Rs1 Rs2:List (List LO)},PM key b q1 Rs1->PM key (b+Rs1.flatten.length) q2 Rs2->PM key b (q1++q2) (Rs1++Rs2)
 | [],q2,b,[],Rs2,_,h=>h
 | [],q2,b,R::Rs1,Rs2,h,_=>h.elim
 | r::q1,q2,b,[],Rs2,h,_=>h.elim
 | r::q1,q2,b,R::Rs1,Rs2,⟨h1,h2,h3,h4,h5⟩,h=>by
  rw[Nm,Ll,<-NN] at h;exact⟨h1,h2,h3,h4,h5.app h⟩
theorem PM.len:∀{q:List (Nat×Nat×Nat)} {b:Nat} {Rs:List (List LO)},PM key b q Rs->q.length=Rs.length/\q.length<=Rs.flatten.length
 | [],b,[],_=>⟨rfl,Ni _⟩
 | [],b,R::Rs,h=>h.elim
 | r::q,b,[],h=>h.elim
 | r::q,b,R::Rs,⟨h1,h2,h3,h4,h5⟩=>by
  refine q0x2 h5.len λg1 g2=>?_;have:=Qj.mpr h3;refine⟨by rw[Mm,Mm,g1],?_⟩;rw[Nm,Ll,Mm];omega
theorem PM.same:∀{q q':List (Nat×Nat×Nat)} {b:Nat} {Rs:List (List LO)},PM key b q Rs->q'.map (λr=>(r.1,r.2.1))=q.map (λr=>(r.1,r.2.1))->PM key b q' Rs
 | [],[],b,[],_,_=>trivial
 | [],r::q',b,Rs,h,e=>by cases e
 | r::q,[],b,Rs,h,e=>by cases e
 | [],[],b,R::Rs,h,_=>h
 | r::q,r'::q',b,[],h,e=>h.elim
 | r::q,r'::q',b,R::Rs,⟨h1,h2,h3,h4,h5⟩,e=>by
  rw[Nf,Nf] at e;refine q0x2 (Pi e) λe1 e2=>?_;refine q0x2 (OV e1) λe3 e4=>?_;exact⟨e3.trans h1,e4.trans h2,h3,h4,h5.same e2⟩
end
structure SI (key:LO->Int)(κ:P7)(a0:List LO)(st:L4)(Rs:List (List LO))(Rest:List LO):Prop where
 kind:kindOf st=κ
 fail:Ox st=Y
 arr:(Nl st).toList=Rs.flatten++Rest
 perm:(Rs.flatten++Rest).Perm a0
 pm:PM key 0 (L8 st).toList Rs
section
variable {prog:Mi}{w:My}{A:MX}{E:Lk->Lm->Prop}{s:Lm}{κ:P7}{G:LO->Prop}{key:LO->Int}
def split_two (h:i+1<q.length):∃q1 r1 r2 q2,q=q1++r1::r2::q2/\q1.length=i:=by
 refine⟨q.take i,q[i],q[i+1],q.drop (i+2),?_,by rw[Nd];omega⟩;rw[<-N7 h,<-N7 (by omega),MH]
def merge_ok (hL:LtOk prog w A s κ G key)(hG:∀x∈a0,G x){st:L4}(hS:SI key κ a0 st Rs Rest)(hi:i+1<(L8 st).size)
  (h:∀st' Rs',SI key κ a0 st' Rs' Rest->Rs'.flatten.length=Rs.flatten.length->(L8 st').size+1=(L8 st).size->Q true st'):wpS (LD prog w) A E s (mergeAt' i) Q st:=by
 refine q4x2 (split_two (q:=(L8 st).toList) (i:=i) (by rw[Ln];exact hi)) λq1 r1 r2 q2 eq l1=>?_;have pm:=hS.pm;rw[eq] at pm;refine q2x4 pm.split λRs1 Rs2 zz2 p1 p2 ln=>?_;subst zz2
 match Rs2,p2 with
 | [],p2=>exact p2.elim
 | [U],p2=>exact p2.2.2.2.2.elim
 | U::V::Rs2,⟨h1,h2,h3,h4,h5,h6,h7,h8,h9⟩=>
  have i1:(L8 st)[i]?=Z r1:=by
   rw[<-Li,eq,Lv (by omega),l1,PB];rfl
  have i2:(L8 st)[i+1]?=Z r2:=by
   rw[<-Li,eq,Lv (by omega),l1,show i+1-i=1 by omega];rfl
  have ar:=hS.arr;rw[Ol,Nm,Nm] at ar;have ar2:(Nl st).toList=Rs1.flatten++(U++(V++(Rs2.flatten++Rest))):=by rw[ar];simp only[LC]
  have pe:=hS.perm;rw[<-hS.arr,ar2] at pe;have gA:∀x∈Rs1.flatten++(U++(V++(Rs2.flatten++Rest))),G x:=λx hx=>hG x (pe.subset hx)
  rw[MB] at h1 h5;obtain⟨a1,b1,c1⟩:=r1;obtain⟨a2,b2,c2⟩:=r2;refine mergeAt_ok hL hS.kind hS.fail i1 i2 ar2 h1 h2 h6 (by
   have h1:a1=Rs1.flatten.length:=h1;have h2:b1=U.length:=h2;have h5:a2=Rs1.flatten.length+U.length:=h5;omega) h4 h8 h3 h7 (λx hx=>gA x (Lo _ (Ml _ hx))) (λx hx=>gA x (Lo _ (Lo _ (Ml _ hx)))) λZ st' z1 z2 nx=>?_
  have lz:Z.length=U.length+V.length:=by rw[z1.length_eq,Ll]
  have ep:(((L8 st).setIfInBounds i (a1,b1+b2,c1)).eraseIdxIfInBounds (i+1)).toList=q1++(a1,b1+b2,c1)::q2:=by
   have:i+1<((L8 st).setIfInBounds i (a1,b1+b2,c1)).size:=by rw[Qn];exact hi
   rw[Array.eraseIdxIfInBounds,dif_pos this,Array.toList_eraseIdx,RZ,eq,<-l1,Ul _ _ (Lr _),PB,List.set_cons_zero,List.eraseIdx_append_of_length_le (by omega),show q1.length+1-q1.length=1 by omega];rfl
  refine h st' (Rs1++Z::Rs2) ⟨nx.kind.trans hS.kind,nx.fail.trans hS.fail,?_,?_,?_⟩ ?_ ?_
  ·rw[nx.arr,Ol,Nm];simp only[LC]
  ·refine RE ?_ pe;rw[Ol,Nm];simp only[LC];refine Ow _ ?_;have:=QZ (Rs2.flatten++Rest) z1;simp only[LC] at this;exact this
  ·rw[nx.pend,ep];refine p1.app ⟨by rw[MB];exact h1,?_,λz=>?_,z2,?_⟩
   ·show b1+b2=Z.length;have h2:b1=U.length:=h2;have h6:b2=V.length:=h6;omega
   ·rw[z] at lz;have:=Qj.mpr h3;simp at lz;omega
   ·rw[lz,<-NN];exact h9
  ·rw[Ol,Ol,Nm,Nm,Nm];simp only[Ll];omega
  ·rw[nx.pend,<-Ln,<-Ln,ep,eq];simp only[Ll,Mm];omega
end
end TS
namespace TS
open PySem PyProof.Rows PySem.W
section
variable {prog:Mi}{w:My}{A:MX}{E:Lk->Lm->Prop}{s:Lm}{κ:P7}{G:LO->Prop}{key:LO->Int}
def flat_snoc (Rs:List (List LO))(D:List LO):(Rs++[D]).flatten.length=Rs.flatten.length+D.length:=by
 rw[Ol,Ll,Nm,VA,Mo]
def ite_lt [Decidable c]{a:Nat}(h1:a+1<n)(h2:b+1<n):(if c then a else b)+1<n:=by
 split
 ·exact h1
 ·exact h2
def wpS_pw {st:L4}(h:∀st':L4,N6 st'=N6 st->Nl st'=Nl st->Ox st'=Ox st->(L8 st').toList.map (λr=>(r.1,r.2.1))=(L8 st).toList.map (λr=>(r.1,r.2.1))->Q ⟨⟩ st') :
  wpS (LD prog w) A E s (modify λs=>setPending s ((L8 s).modify ((L8 s).size-1) λx=>(x.1,x.2.1,pw)):StateT L4 Sem PUnit) Q st:=by
 refine RY (h _ rfl rfl rfl ?_);show(((L8 st).modify ((L8 st).size-1) λx=>(x.1,x.2.1,pw)).toList).map (λr=>(r.1,r.2.1))=_;apply Of;intro k;rw[LL,LL,Li,Li,Array.getElem?_modify];split
 ·cases (L8 st)[k]? <;> rfl
 ·rfl
def SI.rn {st st':L4}{D:List LO}(h:SI key κ a0 st Rs Rest)(r:Rn st Rs.flatten Rest D R' st'):SI key κ a0 st' Rs (D++R'):=
 ⟨r.1.kind.trans h.kind,r.1.fail.trans h.fail,r.1.arr,(Ow _ r.2).trans h.perm,by rw[r.1.pend];exact h.pm⟩
def SI.push {st st':L4}{D:List LO}(h:SI key κ a0 st Rs (D++R'))(hD:D≠[])(hu:D.Pairwise (leK key)){lo n pw:Nat}(h1:lo=Rs.flatten.length)(h2:n=D.length)(k:kindOf st'=kindOf st)(f:Ox st'=Ox st)(a:Nl st'=Nl st)(p:(L8 st').toList=(L8 st).toList++[(lo,n,pw)]):SI key κ a0 st' (Rs++[D]) R':=by
 have e:(Rs++[D]).flatten++R'=Rs.flatten++(D++R'):=by rw[Ol];simp
 refine⟨k.trans h.kind,f.trans h.fail,by rw[a,h.arr,e],by rw[e];exact h.perm,?_⟩;rw[p];exact h.pm.app ⟨by rw[MB];exact h1,h2,hD,hu,trivial⟩
def sortRuns_ok (hL:LtOk prog w A s κ G key)(hG:∀x∈a0,G x){st:L4}(hk:kindOf st=κ)(hf:Ox st=Y)(hp:L8 st=#[])(ha:(Nl st).toList=a0)
  (h:∀st',Ox st'=Y->(Nl st').toList.Perm a0->(Nl st').toList.Pairwise (leK key)->Q () st'):wpS (LD prog w) A E s sortRuns' Q st:=by
 have sz:(Nl st).size=a0.length:=by rw[<-Ln,ha]
 have S0:SI key κ a0 st [] a0:=⟨hk,hf,ha,TY _,by rw[hp];trivial⟩;refine LM (Se ?_)
 try dsimp only
 refine LM (SG (QU
  (I:=λx c st'=>∃lo Rs Rest,c=(Y,lo)/\SI key κ a0 st' Rs Rest/\Rs.flatten.length=lo/\x<=lo)
  (Q:=λc st'=>∃lo Rs,c=(Y,lo)/\SI key κ a0 st' Rs []) ?_ ?_ ⟨0,[],a0,rfl,S0,rfl,Lr _⟩) ?_)
 ·rintro x c st1 _ hx ⟨lo,Rs,Rest,rfl,S1,l1,x1⟩;have tl:Rs.flatten.length+Rest.length=(Nl st).size:=by rw[sz,<-Ll,S1.perm.length_eq]
  try dsimp only
  refine wpS_ite (λhc=>?_) (λhc=>?_)
  ·have e:Rest=[]:=O4.mp (by have hc:lo≥(Nl st).size:=hc;omega);rw[e] at S1;exact LP ⟨lo,Rs,rfl,S1⟩
  ·have hc:¬lo≥(Nl st).size:=hc;have gR:∀x∈Rest,G x:=λx hx=>hG x (S1.perm.subset (Lo _ hx))
   refine LM (countRun_ok hL S1.kind (L0:=Rs.flatten) (R:=Rest) S1.arr l1.symm (show(Nl st).size-lo=Rest.length by omega) (λz=>by rw[z,NK] at tl;omega) gR λD R' st2 d1 d2 r2=>?_)
   try dsimp only
   have ld:D.length+R'.length=Rest.length:=by rw[<-Ll,r2.2.length_eq]
   have dp:=Qj.mpr d1;apply wpS_ite
   case' h1=>
    intro hm;refine LM (SF (Oy ⟨rfl,?_⟩));refine LM (binarySort_ok hL S1.kind l1.symm (LG (Qp _ _) (show(Nl st).size-lo<=Rest.length by omega)) gR r2 rfl dp (WI.mpr ⟨show D.length<=(Nl st).size-lo by omega,Np hm⟩) d2 λD5 R5 st5 d5 u5 r5=>?_);refine wpS_ite (λz=>by cases z) (λ_=>?_);have n5:D5≠[]:=λz=>by
     have q:D.length<=D5.length:=by rw[d5];exact WI.mpr ⟨show D.length<=(Nl st).size-lo by omega,Np hm⟩
     rw[z,NK] at q;omega
    have S5:=S1.rn r5
   case' h2=>
    intro hm;obtain⟨D5,R5,st5,d5,u5,n5,S5⟩:∃D5 R5 st5,D5.length=D.length/\D5.Pairwise (leK key)/\D5≠[]/\SI key κ a0 st5 Rs (D5++R5)/\st5=st2:=⟨D,R',st2,rfl,d2,d1,S1.rn r2,rfl⟩;obtain⟨S5,rfl⟩:=S5
   all_goals
    rw[<-d5];have np:=Qj.mpr n5;refine LM (Se ?_);cases hb:(L8 st5).back? with
    | none=>
     try dsimp only
     refine LM (RY (LP ⟨_,Rs++[D5],R5,rfl,S5.push (pw:=0) n5 u5 l1.symm rfl rfl rfl rfl ?_,by rw[flat_snoc,l1],by omega⟩));show((L8 st5).push (lo,D5.length,0)).toList=_;rw[OG]
    | some r=>
     obtain⟨s1,n1,p1⟩:=r
     try dsimp only
     refine LM (SG (QU
      (I:=λ_ c st6=>c=(Y,())/\∃Rs6,SI key κ a0 st6 Rs6 (D5++R5)/\Rs6.flatten.length=Rs.flatten.length)
      (Q:=λc st6=>c=(Y,())/\∃Rs6,SI key κ a0 st6 Rs6 (D5++R5)/\Rs6.flatten.length=Rs.flatten.length) ?_ (λ_ _ q=>q) ⟨rfl,Rs,S5,rfl⟩) ?_)
     ·rintro x c st6 _ _ ⟨rfl,Rs6,S6,l6⟩;refine LM (Se ?_)
      by_cases hs:(L8 st6).size>1
      ·rw[if_pos hs];obtain⟨r,er⟩:∃r,(L8 st6)[(L8 st6).size-2]?=Z r:=⟨(L8 st6)[(L8 st6).size-2]'(by omega),getElem?_pos _ _ (by omega)⟩;obtain⟨a1,a2,a3⟩:=r;rw[er]
       try dsimp only
       refine wpS_ite (λ_=>LP ⟨rfl,Rs6,S6,l6⟩) (λ_=>?_);refine LM (merge_ok hL hG S6 (show(L8 st6).size-2+1<(L8 st6).size by omega) λst7 Rs7 S7 l7 _=>?_);exact wpS_ite (λz=>by cases z) (λ_=>LP ⟨rfl,Rs7,S7,l7.trans l6⟩)
      ·rw[if_neg hs];exact LP ⟨rfl,Rs6,S6,l6⟩
     ·rintro c st6 ⟨rfl,Rs6,S6,l6⟩
      try dsimp only
      refine LM (wpS_pw λst7 k7 a7 f7 p7=>?_);have S7:SI key κ a0 st7 Rs6 (D5++R5):=⟨k7.trans S6.kind,f7.trans S6.fail,by rw[a7];exact S6.arr,S6.perm,S6.pm.same p7⟩;refine LM (RY (LP ⟨_,Rs6++[D5],R5,rfl,S7.push (pw:=0) n5 u5 (l6.trans l1).symm rfl rfl rfl rfl OG,by rw[flat_snoc,l6,l1],by omega⟩))
 ·rintro c st1 ⟨lo,Rs,Rest,rfl,S1,l1,x1⟩;have tl:Rs.flatten.length+Rest.length=(Nl st).size:=by rw[sz,<-Ll,S1.perm.length_eq]
  have x1:max 0 (Nl st).size<=lo:=x1;have e:Rest=[]:=O4.mp (by omega);rw[e] at S1;exact⟨lo,Rs,rfl,S1⟩
 ·rintro c st1 ⟨lo,Rs,rfl,S1⟩
  try dsimp only
  have tl:Rs.flatten.length=(Nl st).size:=by rw[sz,<-S1.perm.length_eq,Mo]
  have pl:=S1.pm.len.2;rw[Ln] at pl;refine LM (SG (QU
   (I:=λx c st'=>c=(Y,())/\∃Rs,SI key κ a0 st' Rs []/\(L8 st').size+x<=(Nl st).size)
   (Q:=λc st'=>c=(Y,())/\∃Rs,SI key κ a0 st' Rs []/\(L8 st').size<=1) ?_ ?_ ⟨rfl,Rs,S1,by omega⟩) ?_)
  ·rintro x c st2 _ hx ⟨rfl,Rs2,S2,l2⟩;refine LM (Se ?_)
   try dsimp only
   refine wpS_ite (λhs=>LP ⟨rfl,Rs2,S2,hs⟩) (λhs=>?_);have hs:¬(L8 st2).size<=1:=hs;refine LM (merge_ok hL hG S2 ?_ λst7 Rs7 S7 _ l7=>?_)
   ·exact ite_lt (show(L8 st2).size-2-1+1<(L8 st2).size by omega) (show(L8 st2).size-2+1<(L8 st2).size by omega)
   ·exact wpS_ite (λz=>by cases z) (λ_=>LP ⟨rfl,Rs7,S7,by omega⟩)
  ·rintro c st2 ⟨rfl,Rs2,S2,l2⟩;have l2:(L8 st2).size+max 0 (Nl st).size<=(Nl st).size:=l2;exact⟨rfl,Rs2,S2,by omega⟩
  ·rintro c st2 ⟨rfl,Rs2,S2,l2⟩;have pl:=S2.pm.len.1;rw[Ln] at pl;have pm:=S2.pm;refine LP (h st2 S2.fail (by rw[S2.arr];exact S2.perm) ?_);rw[S2.arr,Mo]
   match Rs2,pl,pm with
   | [],_,_=>exact QL
   | [R],pl,pm=>
    rw[Nm,VA,Mo];generalize (L8 st2).toList=q at pm
    match q,pm with
    | [],pm=>exact pm.elim
    | r::q,pm=>exact pm.2.2.2.1
   | _::_::_,pl,_=>simp at pl;omega
end
end TS
namespace DL
open PySem PySem.Spec PyProof.Rows PySem.W L2 List
def tu {f:α->β}{l l2:List β}(h:l.Perm l2):∀L:List α,l2=L.map f->∃p:List α,p.Perm L/\l=p.map f:=by
 induction h with
 | nil=>intro L e;exact⟨L,.refl _,e⟩
 | cons x h ih=>
  intro L e;cases L with
  | nil=>cases e
  | cons a L=>
   refine q0x2 (Pi e) λzz0 e2=>?_;subst zz0;refine q1x2 (ih L e2) λp hp zz2=>?_;subst zz2;exact⟨a::p,hp.cons a,rfl⟩
 | swap x y l=>
  intro L e
  match L,e with
  | [],e=>cases e
  | [_],e=>cases e
  | a::b::L,e=>
   refine q0x2 (Pi e) λzz0 e2=>?_;subst zz0;refine q0x2 (Pi e2) λzz0 zz1=>?_;subst zz0;subst zz1;exact⟨b::a::L,.swap _ _ _,rfl⟩
 | trans _ _ ih1 ih2=>
  intro L e;refine q1x2 (ih2 L e) λp hp e2=>?_;refine q1x2 (ih1 p e2) λq hq e3=>?_;exact⟨q,hq.trans hp,e3⟩
abbrev su (h:Nu)(a:LA)(vs:List Lk):Nu:=((h.update a (MK λ_=>#[])).push (NX "tuple" vs.toArray 0)).push (NX "list" #[] 0)
section
variable {prog:Mi}{w:My}{A:MX}{E:Lk->Lm->Prop}{s:Lm}
def qT {a:LA}(tup:Lk->List Int)(ho:s.heap.get? a=Z (NX "list" vs.toArray n))(hz:vs.map tup=zs)(hl:vs.length<=100000)
  (hk:2<=vs.length->∀Q:P7->Lm->Prop,Q κ {s with heap:=su s.heap a vs}->Lp (LD prog w) A (keyKind' vs.toArray) Q E {s with heap:=su s.heap a vs})
  (hc:∀x∈vs,∀y∈vs,∀C:Bool->Lm->Prop,C (HT.lexLt (tup x) (tup y)) {s with heap:=su s.heap a vs}->Lp (LD prog w) A (keyLt' κ x y) C (λ_ _=>False) {s with heap:=su s.heap a vs})
  (h:∀(p:List Nat) (h':Nu) (n':Nat),p.Perm (Lw vs.length)->p.map (λi=>zs.getD i [])=gV zs->(∀b o,b≠a->s.heap.get? b=Z o->h'.get? b=Z o)->h'.get? a=Z (NX "list" (RK (p.map λi=>vs.getD i MJ)) n')->P (.done (.ret .none)) {s with heap:=h'}) :
  Lp (LD prog w) A (O2.«list.sort» ⟨[.ref a],[]⟩) P E s:=by
 rw[list_sort_plain];have ha:a<s.heap.objs.size:=Lq ho;have hsz:vs.toArray.size=vs.length:=by simp
 have le:vs.length<=LW:=by rw[Oo];omega
 refine Le (listItems_at ho rfl ?_);refine Le (Um ho rfl ?_ (by rw[L5];exact le) (Ni _));obtain⟨e1,ho1⟩:∃e1,(s.heap.update a (MK λ_=>#[])).get? a=Z (NX "list" #[] e1):=⟨_,O8 ho (λ_=>#[])⟩;refine Le (VQ ho1 rfl ?_);refine Le (R0 ?_ (by show vs.length<=_;exact le));refine Le (Sq ?_ (Ni _));refine Mc ?_;have ho6:(su s.heap a vs).get? a=Z (NX "list" #[] e1):=by
  rw[Va _ _ _ (by rw[WE,VB];exact LR (Og ha)),Va _ _ _ (by rw[VB];exact LR ha)];exact ho1
 have keep:∀(out:Array Lk) (b:LA) (o:Obj),b≠a->s.heap.get? b=Z o->((su s.heap a vs).update a (MK λ_=>out)).get? b=Z o:=λout b o hb e=>by
  rw[RG _ _ _ _ hb];exact Lg _ (Lg _ (by rw[RG _ _ _ _ hb];exact e))
 have vr:vs=(Lw vs.length).map λi=>vs.getD i MJ:=by
  apply TZ
  ·simp
  ·intro i h1 h2;simp[h1]
 have zr:∀p:List Nat,p.Perm (Lw vs.length)->p.map (λi=>zs.getD i [])=(p.map λi=>vs.getD i MJ).map tup:=λp hp=>by
  rw[OT];refine Pp λi hi=>?_
  have hi:=OJ.mp (hp.subset hi);subst hz;rw[NF,LL,Lh hi];show tup vs[i]=tup (vs.getD i MJ);rw[NF,Lh hi];rfl
 show Lp (LD prog w) A _ P E {s with heap:=su s.heap a vs};dsimp only
 by_cases h2:vs.toArray.size<2
 ·rw[if_pos h2,if_pos h2];refine Le (Lf ?_);rw[StateT.run_pure];refine Le (Lf ?_);dsimp only;have e:((vs.toArray.zip vs.toArray).map λp=>p.2)=RK ((Lw vs.length).map λi=>vs.getD i MJ):=by
   match vs,hsz,h2 with
   | [],_,_=>simp
   | [x],_,_=>simp[WJ]
   | _::_::_,_,h2=>exact absurd h2 (by simp)
  refine Le (VQ ho6 rfl ?_);refine Le (Um ho6 rfl ?_ (Ni _) (by rw[T1];show(pairsOf vs).size<=_;rw[pairsOf_size];exact Nk le));simp only[bne_self_eq_false,Ma,if_false];refine Lf (h (Lw vs.length) _ _ (.refl _) ?_ (keep _) (by rw[e];exact O8 ho6 _));rw[zr _ (.refl _),<-vr,hz];refine ji (ii zs).symm ?_ (lF zs);have:zs.length<2:=by rw[<-hz,Lu];omega
  match zs,this with
  | [],_=>exact .nil
  | [_],_=>exact NP _ _
  | _::_::_,q=>exact absurd q (by simp)
 ·rw[if_neg h2,if_neg h2];refine Le (hk (by omega) _ ?_);have prs:(vs.toArray.zip vs.toArray).toList=vs.map λv=>(v,v):=by
   rw[Array.toList_zip];show vs.zip vs=_;clear hz hl hk hc h ho hsz le e1 ho1 ho6 keep vr zr h2
   induction vs with
   | nil=>rfl
   | cons v vs ih=>rw[PU,ih];rfl
  have hL:TS.LtOk prog w A {s with heap:=su s.heap a vs} κ (λx=>x.1∈vs/\x=(x.1,x.1)) (λx=>rank zs (tup x.1)):=λx y hx hy C q=>by
   refine hc x.1 hx.1 y.1 hy.1 C ?_;have mz:tup x.1∈zs:=by rw[<-hz];exact OP.mpr ⟨x.1,hx.1,rfl⟩
   rw[As mz];exact q
  refine Le (MY (TS.sortRuns_ok (E:=E) (a0:=vs.map λv=>(v,v)) hL (λx hx=>by
   refine q1x2 (OP.mp hx) λv hv zz2=>?_;subst zz2;exact⟨hv,rfl⟩) (st:=SortSt.mk' κ (vs.toArray.zip vs.toArray) #[] 7 Y) rfl rfl rfl prs
   (Q:=λ_ st'=>∃p:List Nat,p.Perm (Lw vs.length)/\p.map (λi=>zs.getD i [])=gV zs/\Ox st'=Y/\(Nl st').map (·.2)=RK (p.map λi=>vs.getD i MJ)) λst' f1 f2 f3=>?_) (λr s' hr=>?_) λ_ _ x=>x)
  ·refine q1x2 (tu f2 vs rfl) λws hw ew=>?_;refine q1x2 (tu hw (Lw vs.length) vr) λp hp ep=>?_;refine⟨p,hp,?_,f1,?_⟩
   ·rw[zr p hp,<-ep];refine ji ((hw.map tup).trans (.trans (.of_eq hz) (ii zs).symm)) ?_ (lF zs);rw[ew,XM] at f3;rw[XM];refine f3.imp_of_mem λ{x y} hx hy le=>?_
    have mz:tup y∈zs:=by rw[<-hz];exact OP.mpr ⟨y,hw.subset hy,rfl⟩
    rw[As mz];exact decide_eq_false (Ri.mpr le)
   ·apply Array.toList_inj.mp;rw[Array.toList_map,ew,OT,<-ep];exact map_id _
  ·obtain⟨⟨⟩,st'⟩:=r;obtain⟨rfl,p,p1,p2,p3,p4⟩:=hr;dsimp only at p3 p4 ⊢;rw[p4];refine Le (VQ ho6 rfl ?_);refine Le (Um ho6 rfl ?_ (Ni _) (by rw[L5,Lu,p1.length_eq,Mk];exact Nk le));rw[p3];simp only[bne_self_eq_false,Ma,if_false];exact Lf (h p _ _ p1 p2 (keep _) (O8 ho6 _))
def yk (tup:Nu->Lk->List Int)(hz:vs.map (tup s.heap)=zs)(hl:vs.length<=100000)
  (hcol:∀R:List Lk->Lm->Prop,(∀(h':Nu) (tk:Nat),(∀b o,s.heap.get? b=Z o->h'.get? b=Z o)->s.heap.objs.size<=h'.objs.size->R vs {s with heap:=h',toks:=tk})->Lp (LD prog w) A.in1 (XN x) R E s)
  (hk:2<=vs.length->∀(s':Lm),(∀b o,s.heap.get? b=Z o->s'.heap.get? b=Z o)->∀Q:P7->Lm->Prop,Q κ s'->∀E,Lp (LD prog w) A.in1.in1 (keyKind' vs.toArray) Q E s')
  (hc:∀x∈vs,∀y∈vs,∀(s':Lm),(∀b o,s.heap.get? b=Z o->s'.heap.get? b=Z o)->∀C:Bool->Lm->Prop,C (HT.lexLt (tup s.heap x) (tup s.heap y)) s'->Lp (LD prog w) A.in1.in1 (keyLt' κ x y) C (λ_ _=>False) s')
  (h:∀(p:List Nat) (h':Nu) (tk l n':Nat),p.Perm (Lw vs.length)->p.map (λi=>zs.getD i [])=gV zs->(∀b o,s.heap.get? b=Z o->h'.get? b=Z o)->s.heap.objs.size<=l->h'.get? l=Z (NX "list" (RK (p.map λi=>vs.getD i MJ)) n')->Q (.ref l) {s with heap:=h',toks:=tk}) :
  Lp (LD prog w) A (call (.builtin "sorted") [x]) Q E s:=by
 refine Calls.call_function_entry kind_sorted plain_sorted entry_sorted (args_sorted1 _) ?_;unfold O2.«sorted»;refine Le (m:=checkCount "sorted" 1 1 _) (Lf ?_);refine Le (hcol _ λh1 tk keep1 hs1=>?_);refine Le (Sq ?_ (by rw[Oo];omega));have hoL:(h1.push (NX "list" vs.toArray 0)).get? h1.objs.size=Z (NX "list" vs.toArray 0):=LJ _ rfl;have keep2:∀b o,s.heap.get? b=Z o->(h1.push (NX "list" vs.toArray 0)).get? b=Z o:=λb o e=>Lg _ (keep1 b o e)
 have ne:∀b o,s.heap.get? b=Z o->b≠h1.objs.size:=λb o e=>LR (Lq (keep1 b o e))
 have keep3:∀b o,s.heap.get? b=Z o->(su (h1.push (NX "list" vs.toArray 0)) h1.objs.size vs).get? b=Z o:=λb o e=>
  Lg _ (Lg _ (by rw[RG _ _ _ _ (ne b o e)];exact keep2 b o e))
 refine Le (Mc (MW slot_list_sort ⟨_,hoL,rfl⟩ entry_list_sort (qT (zs:=zs) (κ:=κ) (tup s.heap) hoL hz hl (λh2 Q q=>hk h2 _ keep3 Q q _) (λx hx y hy C q=>hc x hx y hy _ keep3 C q) λp h3 n3 p1 p2 k3 g3=>⟨_,rfl,?_⟩) (args_list_sort _)));exact Lf ⟨_,rfl,h p h3 tk h1.objs.size n3 p1 p2 (λb o e=>k3 b o (ne b o e) (keep2 b o e)) hs1 g3⟩
def mJ (h:Nu):Lk->List Int
 | .int n _=>[n]
 | .ref b=>match h.get? b with
  | some o=>match o.data with
   | .seq xs _=>xs.toList.map numOf
   | _=>[]
  | none=>[]
 | _=>[]
def uE (h:N5 vs ns):vs.map numOf=ns:=by
 induction h with
 | nil=>rfl
 | cons n t h ih=>rw[Nf,ih];rfl
theorem lG.tup:∀{vs:List Lk} {zs:List (List Int)},lG h vs zs->vs.map (mJ h)=zs
 | [],[],_=>rfl
 | [],_::_,t=>t.elim
 | _::_,[],t=>t.elim
 | v::vs,z::zs,⟨⟨b,o,xs,k,e,g,c,d,r,_⟩,t⟩=>by
  rw[Nf,t.tup];congr 1;subst e;show(match h.get? b with|some o=>(match o.data with | .seq xs _=>xs.toList.map numOf|_=>[])|none=>[])=z;rw[g];dsimp only;rw[d];exact uE r
theorem lG.mem:∀{vs:List Lk} {zs:List (List Int)} {v:Lk},lG h vs zs->v∈vs->∃b o xs k,v=.ref b/\h.get? b=Z o/\o.cls=.type "tuple"/\o.data=.seq xs k/\N5 xs.toList (mJ h v)
 | [],_,v,_,q=>by cases q
 | _::_,[],_,t,_=>t.elim
 | u::vs,z::zs,v,t,q=>by
  rcases L1.mp q with rfl|q
  ·have e:=lG.tup (vs:=[v]) (zs:=[z]) ⟨t.1,trivial⟩;obtain⟨⟨b,o,xs,k,e1,g,c,d,r,_⟩,_⟩:=t;have e:mJ h v=z:=(Pi e).1;exact⟨b,o,xs,k,e1,g,c,d,by rw[e];exact r⟩
  ·exact t.2.mem q
def qZ (t:lG s.heap vs zs)(hl:vs.length<=100000)
  (hcol:∀R:List Lk->Lm->Prop,(∀(h':Nu) (tk:Nat),(∀b o,s.heap.get? b=Z o->h'.get? b=Z o)->s.heap.objs.size<=h'.objs.size->R vs {s with heap:=h',toks:=tk})->Lp (LD prog w) A.in1 (XN x) R E s)
  (h:∀(p:List Nat) (h':Nu) (tk l n':Nat),p.Perm (Lw vs.length)->p.map (λi=>zs.getD i [])=gV zs->(∀b o,s.heap.get? b=Z o->h'.get? b=Z o)->s.heap.objs.size<=l->h'.get? l=Z (NX "list" (RK (p.map λi=>vs.getD i MJ)) n')->Q (.ref l) {s with heap:=h',toks:=tk}) :
  Lp (LD prog w) A (call (.builtin "sorted") [x]) Q E s:=by
 refine yk (κ:=tuples' true) mJ t.tup hl hcol (λh2 s' keep Q q E=>?_) (λx hx y hy s' keep C q=>?_) h
 ·refine q1x3 ((t.keep keep).firsts) λfs kt kl kf=>?_;refine kat_kind (T:=.type "int") kt (by omega) (λv hv=>?_) rfl q;refine q2x1 (kf v hv) λm tk zz2=>?_;subst zz2;exact .now
 ·refine q4x5 (t.mem hx) λb o xs k zz4 g1 c1 d1 r1=>?_;subst zz4;refine q4x5 (t.mem hy) λc o2 ys k2 zz4 g2 c2 d2 r2=>?_;subst zz4;exact kat_lt (keep _ _ g1) d1 (keep _ _ g2) d2 (tW 0 r1 r2 (by rw[<-r1.length,<-r2.length];simp) q)
end
section
variable {X:Cx}{af:List (LA×Obj)}{σ:L2.St}{H:Hp}{s:Lm}{θ:List LA}
theorem vA:∀{ns:List Int} {us:List Lk},aS (ns.map V.int) us->N5 us ns
 | [],_,r=>by rw[Wi] at r;cases r;exact .nil
 | n::ns,_,r=>by
  rw[Nf] at r;cases r with
  | cons h t=>
   refine q1x1 ((show∃t,_=RM n t from h)) λtk zz1=>?_;subst zz1;exact .cons n tk (vA t)
end
end DL
namespace DL
open PySem PySem.Spec PyProof.Rows PySem.W L2 List
end DL
namespace DL
open PySem L2
def bu:Nat->D->Bool
 | 0,_=>false
 | f+1,d=>match d with
  | .mr _=>false
  | .tup xs=>xs.all (bu f)
  | .lst xs=>xs.all (bu f)
  | .ro xs=>xs.all (bu f)
  | _=>true
theorem cp:∀{xs:List D},(∀x∈xs,f x=Z x)->bv f xs=Z xs
 | [],_=>rfl
 | x::xs,h=>by
  unfold bv;rw[h x Lz,cp λy hy=>h y (LH _ hy)]
theorem jD:∀(f:Nat) (d:D),bu f d=true->frz n M f d=Z d
 | 0,d,h=>by cases h
 | f+1,d,h=>by
  cases d with
  | mr k=>cases h
  | tup xs=>
   have h:xs.all (bu f)=true:=h;show(bv (frz n M f) xs).map D.tup=_;rw[cp λx hx=>jD f x (Lx.mp h x hx)];rfl
  | lst xs=>
   have h:xs.all (bu f)=true:=h;show(bv (frz n M f) xs).map D.lst=_;rw[cp λx hx=>jD f x (Lx.mp h x hx)];rfl
  | ro xs=>
   have h:xs.all (bu f)=true:=h;show(bv (frz n M f) xs).map D.ro=_;rw[cp λx hx=>jD f x (Lx.mp h x hx)];rfl
  | _=>rfl
def nk:MO->Bool
 | .lst xs=>xs.all (bu 30)
 | .obj _ fs=>fs.all λp=>bu 30 p.2
 | .dK fs=>fs.all λp=>bu 30 p.2
 | .dT fs=>fs.all λp=>bu 30 p.2
theorem m4:∀{fs:List (κ×D)},(∀p∈fs,f p.2=Z p.2)->o9 f fs=Z fs
 | [],_=>rfl
 | (x,d)::fs,h=>by
  unfold o9;rw[h (x,d) Lz,m4 λy hy=>h y (LH _ hy)]
theorem qG:∀{fs:List (Str×D)},(∀p∈fs,f p.2=Z p.2)->uA f fs=Z fs
 | [],_=>rfl
 | (x,d)::fs,h=>by
  unfold uA;rw[h (x,d) Lz,qG λy hy=>h y (LH _ hy)]
@[simp] theorem GB (f:Nat) (i:Int):bu (f+1) (.int i)=true:=rfl
@[simp] theorem Ik (f:Nat) (i:Bool):bu (f+1) (.bl i)=true:=rfl
@[simp] theorem Gw (f:Nat):bu (f+1) .non=true:=rfl
@[simp] theorem Gv (f:Nat) (x:Str):bu (f+1) (.str x)=true:=rfl
theorem mZ (f:Nat)(xs:List D):bu (f+1) (.tup xs)=xs.all (bu f):=rfl
theorem xB (f:Nat)(xs:List D):bu (f+1) (.lst xs)=xs.all (bu f):=rfl
def gF (f:Nat)(l:List Int):(l.map D.int).all (bu (f+1))=true:=by
 rw[Vb];exact Lx.mpr λx _=>rfl
end DL
namespace DL
open PySem L2
def aA {a:GS}{M M1:aF}(h:a ρ M=.ok (.nx ρ1) M1):ay a b ρ M=b ρ1 M1:=by
 unfold ay;rw[h];rfl
def nh {a:GS}{M M1:aF}(h:a ρ M=.ok (.rt d) M1):ay a b ρ M=.ok (.rt d) M1:=by
 unfold ay;rw[h];rfl
def ju {t:GT}{a:GS}{M M1:aF}(h:t ρ M=.ok true M1):gW t a b ρ M=a ρ M1:=by
 unfold gW;rw[h,am,if_pos rfl]
def fE {t:GT}{a:GS}{M M1:aF}(h:t ρ M=.ok false M1):gW t a b ρ M=b ρ M1:=by
 unfold gW;rw[h,am,if_neg Ly]
def aO {M M1:aF}(h:g ρ M=.ok d M1):aD i g ρ M=.ok (.nx (ρ.set i (Z d))) M1:=by
 unfold aD;rw[h,am]
def j8 {M M1:aF}(h:g ρ M=.ok d M1):gP g ρ M=.ok (.nx ρ) M1:=by
 unfold gP;rw[h,am]
def cu {M M1:aF}(h:g ρ M=.ok d M1):bo g ρ M=.ok (.rt d) M1:=by
 unfold bo;rw[h,am]
def c8 {a:GT}(ha:a ρ M=.ok x M)(hb:x=true->b ρ M=.ok y M):cH a b ρ M=.ok (x&&y) M:=by
 unfold cH;rw[ha,am];cases x with
 | true=>exact hb rfl
 | false=>rfl
def i4 {a:GT}(ha:a ρ M=.ok x M)(hb:x=false->b ρ M=.ok y M):fK a b ρ M=.ok (x||y) M:=by
 unfold fK;rw[ha,am];cases x with
 | true=>rfl
 | false=>exact hb rfl
def rF {a:GT}(ha:a ρ M=.ok x M):fv a ρ M=.ok (!x) M:=by
 unfold fv;rw[ha,am]
def D8 {a:GE}{M M1:aF}(ha:a ρ M=.ok (.bl x) M1):gK a ρ M=.ok x M1:=by
 unfold gK;rw[ha,am];rfl
def aT {a:GE}{M M1:aF}(ha:a ρ M=.ok (.bl x) M1):aK a ρ M=.ok x M1:=by
 unfold aK;rw[ha,am];rfl
def aj {a:GE}{M M1 M2:aF}(ha:a ρ M=.ok x M1)(hb:b ρ M1=.ok y M2)(h:f x y M2=o):g2 f a b ρ M=o:=by
 unfold g2;rw[ha,am,hb,am,h]
def gZ {a:GE}{M M1:aF}(ha:a ρ M=.ok x M1)(h:F [x] M1=o):aE F (aa a ag) ρ M=o:=by
 unfold aE aa ag;rw[ha,am,am,am,h]
def cE {a:GE}{M M1 M2:aF}(ha:a ρ M=.ok x M1)(hb:b ρ M1=.ok y M2)(h:F [x,y] M2=o):av 2 F (aa a (aa b ag)) ρ M=o:=by
 unfold av aa ag;rw[ha,am,hb,am,am,am,am,if_pos (show [x,y].length=2 from rfl),h]
def oB {a:GE}{M M1 M2 M3:aF}(ha:a ρ M=.ok x M1)(hb:b ρ M1=.ok y M2)(hc:c ρ M2=.ok z M3)(h:F [x,y,z] M3=o):av 3 F (aa a (aa b (aa c ag))) ρ M=o:=by
 unfold av aa ag;rw[ha,am,hb,am,hc,am,am,am,am,am,if_pos (show [x,y,z].length=3 from rfl),h]
def By (h:ρ[i]?=Z (Z (.tup xs))):cN (ae i) ρ M=.ok ⟨xs,Y⟩ M:=by
 unfold cN ae;rw[h];rfl
def lL (h:ρ[i]?=Z (Z (.lst xs))):cN (ae i) ρ M=.ok ⟨xs,Y⟩ M:=by
 unfold cN ae;rw[h];rfl
def wd (a b:Int)(M:aF):cD false (.int a) (.int b) M=.ok (.bl (decide (a=b))) M:=by
 show aQ.ok (D.bl ((a==b) != false)) M=_
 by_cases q:a=b <;> simp[q]
def uF (a b:Int)(M:aF):cD true (.int a) (.int b) M=.ok (.bl (!decide (a=b))) M:=by
 show aQ.ok (D.bl ((a==b) != true)) M=_
 by_cases q:a=b <;> simp[q]
def Dh {a:Str}(ha:PH a=true)(hb:PH b=true)(M:aF):cD false (.str a) (.str b) M=.ok (.bl (a==b)) M:=by
 show(if(PH a&&PH b)=true then aQ.ok (D.bl ((a==b) != false)) M else .bad)=_;rw[ha,hb,Tz];rfl
def nC (M:aF)(E:List D):(M++[MO.lst E])[M.length]?=Z (.lst E):=by simp
def zn (M:aF)(E E':List D):(M++[MO.lst E]).set M.length (.lst E')=M++[MO.lst E']:=by simp
def FC (h:E.length<1000000):sN M.length d (M++[MO.lst E])=.ok .non (M++[MO.lst (E++[d])]):=by
 have l:E.length<LW:=LB h (by rw[Oo];decide);unfold sN;rw[nC];dsimp only;rw[if_pos l,zn]
def oE {go:GE}(h1:go ρ (M++[MO.lst E])=.ok (.mr M.length) (M++[MO.lst E]))(h2:ge ρ (M++[MO.lst E])=.ok d (M++[MO.lst E]))(h:E.length<1000000) :
  jC go ge ρ (M++[MO.lst E])=.ok .non (M++[MO.lst (E++[d])]):=by
 unfold jC;rw[h1,am];dsimp only;rw[nC];dsimp only;rw[h2,am,FC h]
def gO {k:Nat}(h:xs[k]?=Z d):aB (.lst xs) (.int k) M=.ok d M:=by
 have a:=kg (xs:=xs) (j:=k) h;unfold aB bx;dsimp only;rw[a]
def aL {k:Nat}(h:xs[k]?=Z d):aB (.tup xs) (.int k) M=.ok d M:=by
 have a:=kg (xs:=xs) (j:=k) h;unfold aB bx;dsimp only;rw[a]
def kX:jw ag ρ M=.ok (.mr M.length) (M++[.lst []]):=by
 show(if([]:List D).length<=LW then aQ.ok (D.mr M.length) (M++[.lst []]) else .bad)=_;rw[if_pos (show([]:List D).length<=LW from Ni _)]
def cV {M M1:aF}(h:ga ρ M=.ok ds M1)(hl:ds.length<=100000:=by exact Th rfl):bC ga ρ M=.ok (.tup ds) M1:=by
 have:ds.length<=LW:=bI (by omega);unfold bC;rw[h,am];unfold nX;rw[if_pos this]
def kO {M M1:aF}(h:ga ρ M=.ok ds M1)(hl:ds.length<=100000:=by exact Th rfl):eU ga ρ M=.ok (.lst ds) M1:=by
 have:ds.length<=LW:=bI (by omega);unfold eU;rw[h,am];unfold aC;rw[if_pos this]
def az {M M1 M2:aF}(h:g ρ M=.ok d M1)(hr:r ρ M1=.ok ds M2):aa g r ρ M=.ok (d::ds) M2:=by
 unfold aa;rw[h,am,hr,am]
def Ge {go:GE}{M M1:aF}{k:Nat}(h1:go ρ M=.ok (.mr k) M)(h2:M[k]?=Z (.lst E))(h3:ge ρ M=.ok d M1)(h4:M1[k]?=Z (.lst E1))(h:E1.length<1000000) :
  jC go ge ρ M=.ok .non (M1.set k (.lst (E1++[d]))):=by
 have l:E1.length<LW:=LB h (by rw[Oo];decide);unfold jC;rw[h1,am];dsimp only;rw[h2];dsimp only;rw[h3,am];unfold sN;rw[h4];dsimp only;rw[if_pos l]
def cA {M M1:aF}{n:Nat}(h:ga ρ M=.ok [.int (n:Int)] M1)(hn:n<=1000000):bt ga ρ M=.ok ⟨aw 0 n,Y⟩ M1:=by
 unfold bt;rw[h,am,AQ hn]
def fL {M M1:aF}{t:jx}(h:gi ρ M=.ok t M1)(e:eO t sg b t.ds ρ M1=o):dJ gi sg b ρ M=o:=by
 unfold dJ;rw[h,am,e]
def sk (h0:0<j)(h1:j<=1000000)(M:aF):dg (.int i) (.int j) M=.ok (.int (i / j)) M:=by
 have h2:j.natAbs<2 ^ 20:=by omega
 have h3:j.natAbs≠0:=by omega
 have h4:=(VR h3).mpr h2;unfold dg;dsimp only;rw[if_pos ⟨h0,by omega⟩]
end DL
namespace DL
open PySem L2
def fN (n:Nat):Nat->D->Bool
 | 0,_=>false
 | f+1,d=>match d with
  | .mr k=>decide (k<n)
  | .tup xs=>xs.all (fN n f)
  | .lst xs=>xs.all (fN n f)
  | .ro xs=>xs.all (fN n f)
  | _=>true
theorem jj:∀(f:Nat) (d:D),fN n f d=true->frz n M f d=Z d
 | 0,d,h=>by cases h
 | f+1,d,h=>by
  cases d with
  | mr k=>
   have h:decide (k<n)=true:=h;show(if k<n then Z (D.mr k) else _)=_;rw[if_pos (of_decide_eq_true h)]
  | tup xs=>
   have h:xs.all (fN n f)=true:=h;show(bv (frz n M f) xs).map D.tup=_;rw[cp λx hx=>jj f x (Lx.mp h x hx)];rfl
  | lst xs=>
   have h:xs.all (fN n f)=true:=h;show(bv (frz n M f) xs).map D.lst=_;rw[cp λx hx=>jj f x (Lx.mp h x hx)];rfl
  | ro xs=>
   have h:xs.all (fN n f)=true:=h;show(bv (frz n M f) xs).map D.ro=_;rw[cp λx hx=>jj f x (Lx.mp h x hx)];rfl
  | _=>rfl
theorem gL:∀(f:Nat) (d:D),bu f d=true->fN n f d=true
 | 0,d,h=>by cases h
 | f+1,d,h=>by
  cases d with
  | mr k=>cases h
  | tup xs=>exact Lx.mpr λx hx=>gL f x (Lx.mp (show xs.all (bu f)=true from h) x hx)
  | lst xs=>exact Lx.mpr λx hx=>gL f x (Lx.mp (show xs.all (bu f)=true from h) x hx)
  | ro xs=>exact Lx.mpr λx hx=>gL f x (Lx.mp (show xs.all (bu f)=true from h) x hx)
  | _=>rfl
theorem gT (hn:n<=m):∀(f:Nat) (d:D),fN n f d=true->fN m f d=true
 | 0,d,h=>by cases h
 | f+1,d,h=>by
  cases d with
  | mr k=>exact decide_eq_true (LB (of_decide_eq_true (show decide (k<n)=true from h)) hn)
  | tup xs=>exact Lx.mpr λx hx=>gT hn f x (Lx.mp (show xs.all (fN n f)=true from h) x hx)
  | lst xs=>exact Lx.mpr λx hx=>gT hn f x (Lx.mp (show xs.all (fN n f)=true from h) x hx)
  | ro xs=>exact Lx.mpr λx hx=>gT hn f x (Lx.mp (show xs.all (fN n f)=true from h) x hx)
  | _=>rfl
def yc (n:Nat):MO->Bool
 | .lst xs=>xs.all (fN n 30)
 | .obj _ fs=>fs.all λp=>fN n 30 p.2
 | .dK fs=>fs.all λp=>fN n 30 p.2
 | .dT fs=>fs.all λp=>fN n 30 p.2
def xt (hn:n<=m)(h:yc n o=true):yc m o=true:=by
 cases o with
 | lst xs=>exact Lx.mpr λx hx=>gT hn 30 x (Lx.mp (show xs.all (fN n 30)=true from h) x hx)
 | obj c fs=>exact Lx.mpr λx hx=>gT hn 30 x.2 (Lx.mp (show(fs.all λp=>fN n 30 p.2)=true from h) x hx)
 | dK fs=>exact Lx.mpr λx hx=>gT hn 30 x.2 (Lx.mp (show(fs.all λp=>fN n 30 p.2)=true from h) x hx)
 | dT fs=>exact Lx.mpr λx hx=>gT hn 30 x.2 (Lx.mp (show(fs.all λp=>fN n 30 p.2)=true from h) x hx)
def pL (h:nk o=true):yc n o=true:=by
 cases o with
 | lst xs=>exact Lx.mpr λx hx=>gL 30 x (Lx.mp (show xs.all (bu 30)=true from h) x hx)
 | obj c fs=>exact Lx.mpr λx hx=>gL 30 x.2 (Lx.mp (show(fs.all λp=>bu 30 p.2)=true from h) x hx)
 | dK fs=>exact Lx.mpr λx hx=>gL 30 x.2 (Lx.mp (show(fs.all λp=>bu 30 p.2)=true from h) x hx)
 | dT fs=>exact Lx.mpr λx hx=>gL 30 x.2 (Lx.mp (show(fs.all λp=>bu 30 p.2)=true from h) x hx)
theorem iL:∀{l:List MO},l.all (yc n)=true->gD n M l=Z l
 | [],_=>rfl
 | .lst xs::r,h=>by
  rw[Pl,LN] at h;unfold gD;rw[iL h.2];have h1:xs.all (fN n 30)=true:=h.1;rw[cp λx hx=>jj 30 x (Lx.mp h1 x hx)]
 | .obj c fs::r,h=>by
  rw[Pl,LN] at h;unfold gD;rw[iL h.2];have h1:(fs.all λp=>fN n 30 p.2)=true:=h.1;rw[qG λp hp=>jj 30 p.2 (Lx.mp h1 p hp)]
 | .dK fs::r,h=>by
  rw[Pl,LN] at h;unfold gD;rw[iL h.2];have h1:(fs.all λp=>fN n 30 p.2)=true:=h.1;rw[m4 λp hp=>jj 30 p.2 (Lx.mp h1 p hp)]
 | .dT fs::r,h=>by
  rw[Pl,LN] at h;unfold gD;rw[iL h.2];have h1:(fs.all λp=>fN n 30 p.2)=true:=h.1;rw[m4 λp hp=>jj 30 p.2 (Lx.mp h1 p hp)]
def gN (M:aF):Prop:=M.all (yc M.length)=true
def gN.pure (h:M.all nk=true):gN M:=Lx.mpr λx hx=>pL (Lx.mp h x hx)
def Bh (hd:bu 30 d=true)(hM:gN M):jO M.length (.ok d (M++E))=.ok d M:=by
 unfold jO
 by_cases h:(M++E).length=M.length
 ·have:E=[]:=by
   rw[Ll] at h;exact O4.mp (by omega)
  subst this;simp
 ·simp only[if_neg h];rw[TV,jD 30 d hd,iL hM]
def mh (hx:xs.all (bu 29)=true)(hM:gN M):jO M.length (.ok (.mr M.length) (M++[.lst xs]))=.ok (.lst xs) M:=by
 have f1:=iL (n:=M.length) (M:=M++[.lst xs]) hM;have f2:frz M.length (M++[.lst xs]) 30 (.mr M.length)=Z (.lst xs):=by
  have o:bv (frz M.length (M++[.lst xs]) 29) xs=Z xs:=cp λx h=>jD 29 x (Lx.mp hx x h)
  show(if M.length<M.length then Z (D.mr M.length) else match (M++[MO.lst xs])[M.length]? with|some (MO.lst ys)=>(bv (frz M.length (M++[MO.lst xs]) 29) ys).map D.lst|_=>Y)=_;rw[if_neg (N8 _)];simp;rw[o]
 show(if(M++[MO.lst xs]).length=M.length then aQ.ok (D.mr M.length) (M++[MO.lst xs]) else match frz M.length (M++[MO.lst xs]) 30 (.mr M.length),gD M.length (M++[MO.lst xs]) ((M++[MO.lst xs]).take M.length) with|some d',Z M'=>.ok d' M'|_,_=>.bad)=_;rw[if_neg (by simp),TV,f1,f2]
end DL
namespace DL
open PySem PySem.Spec PyProof.Rows PySem.W L2 List
section
def nA {xs:Array Nat}(h:xs.toList.Pairwise (·<·)){i k x y:Nat}(hik:i<k)(hx:xs[i]?=Z x)(hy:xs[k]?=Z y):x<y:=by
 rw[<-Li] at hx hy;refine q1x1 (Lj.mp hx) λh1 zz1=>?_;subst zz1;refine q1x1 (Lj.mp hy) λh2 zz1=>?_;subst zz1;exact NU.mp h i k h1 h2 hik
def rZ (xs:Array Nat)(j k:Nat):Prop:=k<=xs.size/\(∀i x,i<k->xs[i]?=Z x->x<j)/\∀i x,k<=i->xs[i]?=Z x->j<=x
theorem oP (h:xs.toList.Pairwise (·<·)):∀(f lo hi:Nat),hi<=xs.size->lo<=hi->hi-lo<=f->(∀i x,i<lo->xs[i]?=Z x->x<j)->(∀i x,hi<=i->xs[i]?=Z x->j<=x)->rZ xs j (Vc xs j f lo hi)
 | 0,lo,hi,h1,h2,h3,h4,h5=>by
  have e:lo=hi:=by omega
  subst e;exact⟨h1,h4,h5⟩
 | f+1,lo,hi,h1,h2,h3,h4,h5=>by
  unfold Vc
  by_cases hl:lo<hi
  ·rw[if_pos hl];have hm:(lo+hi) / 2<xs.size:=by omega
   have em:xs[(lo+hi) / 2]?=Z xs[(lo+hi) / 2]:=LS hm;have eg:xs.getD ((lo+hi) / 2) j=xs[(lo+hi) / 2]:=by simp[Rj,hm]
   dsimp only;rw[eg]
   by_cases hj:xs[(lo+hi) / 2]<j
   ·rw[if_pos hj];refine oP h f _ _ h1 (by omega) (by omega) (λi x hii e=>?_) h5
    by_cases z:i=(lo+hi) / 2
    ·subst z;rw[em] at e;cases e;exact hj
    ·exact Vd (nA h (by omega) e em) hj
   ·rw[if_neg hj];refine oP h f _ _ (by omega) (by omega) (by omega) h4 λi x hii e=>?_
    by_cases z:i=(lo+hi) / 2
    ·subst z;rw[em] at e;cases e;omega
    ·have:=nA h (by omega) em e;omega
  ·rw[if_neg hl];have e:lo=hi:=by omega
   subst e;exact⟨h1,h4,h5⟩
def mj (h:xs.toList.Pairwise (·<·)):rZ xs j (MD xs j):=
 oP h _ _ _ (Lr _) (Ni _) (by omega) (λi x hi=>by omega) λi x hi e=>by
  rw[OS hi] at e;cases e
def vC {k:Nat}(h:xs.toList.Pairwise (·<·))(hk:rZ xs j k):MD xs j=k:=by
 refine q0x3 (mj (j:=j) h) λa1 a2 a3=>?_;refine q0x3 hk λb1 b2 b3=>?_;rcases Q0 (MD xs j) k with z|z|z
 ·have e:xs[MD xs j]?=Z xs[MD xs j]:=LS (by omega);have:=b2 _ _ z e;have:=a3 _ _ (Lr _) e;omega
 ·exact z
 ·have e:xs[k]?=Z xs[k]:=LS (by omega);have:=a2 _ _ z e;have:=b3 _ _ (Lr _) e;omega
def wR (j:Nat):Ve #[] j=false:=by
 unfold Ve;simp
def F7 {t:MA}(h:t.place.toList.Pairwise (·<·))(hs:t.slot j=.empty):(t.put j).1.place.toList.Pairwise (·<·):=by
 have hne:t.place[MD t.place j]?≠Z j:=λz=>by
  unfold Xe at hs;dsimp only at hs;rw[z] at hs;simp at hs
 show(Oh t.place (MD t.place j) j).toList.Pairwise (·<·);rw[Pj];refine q0x3 (mj (j:=j) h) λb1 b2 b3=>?_;generalize MD t.place j=k at *;have at_:∀{x:Nat},x∈t.place.toList.take k->x<j:=λ{x} hx=>by
  obtain⟨i,hi,e⟩:=Ny hx;rw[Nd] at hi;refine b2 i x (by omega) ?_;rw[<-Li,<-e,SV];exact Lh (by omega)
 have gt_:∀{x:Nat},x∈t.place.toList.drop k->j<x:=λ{x} hx=>by
  obtain⟨i,hi,e⟩:=Ny hx;rw[OE] at hi;have e2:t.place[k+i]?=Z x:=by
   rw[<-Li,<-e,Wk];exact Lh (by omega)
  have le:=b3 (k+i) x (by omega) e2;rcases Nat.lt_or_eq_of_le le with z|z
  ·exact z
  ·exfalso;subst z;cases i with
   | zero=>exact hne e2
   | succ i=>
    have hk:k<t.place.size:=by rw[Ln] at hi;omega
    have e3:t.place[k]?=Z t.place[k]:=LS hk;have:=nA h (by omega) e3 e2;have:=b3 k _ (Lr _) e3;omega
 refine Mh.mpr ⟨h.sublist (XD _ _),OK.mpr ⟨λx hx=>gt_ hx,h.sublist (drop_sublist _ _)⟩,λx hx y hy=>?_⟩;rcases L1.mp hy with z|z
 ·subst z;exact at_ hx
 ·exact Vd (at_ hx) (gt_ z)
theorem uZ {f:Nat->Option Nat}:∀l:List Nat,((l.filterMap λj=>(f j).map λk=>(j,k)).map (·.1)).Sublist l
 | []=>.slnil
 | j::l=>by
  cases q:f j with
  | none=>rw[filterMap_cons_none (by rw[q];rfl)];exact(uZ l).cons _
  | some k=>rw[Uj (b:=(j,k)) (by rw[q];rfl)];exact(uZ l).cons_cons _
end
section
variable {prog:Mi}{w:My}{A:MX}{E:Lk->Lm->Prop}{s:Lm}{a:LA}{o:Obj}{U:List Int}
def sC {t:MA}(ho:s.heap.get? a=Z o)(hd:o.data=.set es ep t)(es':Array (Int×Lk))(t':MA):(s.heap.update a (R3 es' t')).get? a=Z {o with data:=.set es' (ep+1) t'}:=by
 have:=O3 (R3 es' t') ho (by rw[putSet_of es' t' hd];rfl);rw[putSet_of es' t' hd] at this;exact this
end
def cf:Slot "set_iterator" "__next__" "set_iterator.__next__":=
 .of (owner:="set_iterator") (n:="__next__") (by rw[V8,Ti];kernel_rfl) (by decide +kernel) (by decide +kernel) (by decide +kernel)
  (by first|exact .inl (by decide +kernel)|exact .inr (by decide +kernel)) (by rw[T3];kernel_rfl)
def jo:Slot "set_iterator" "__iter__" "set_iterator.__iter__":=
 .of (owner:="set_iterator") (n:="__iter__") (by rw[V8,Ti];kernel_rfl) (by decide +kernel) (by decide +kernel) (by decide +kernel)
  (by first|exact .inl (by decide +kernel)|exact .inr (by decide +kernel)) (by rw[T3];kernel_rfl)
def iM:X9 table "set_iterator.__next__"=Z O2.«set_iterator.__next__»:=entryFor_of_tree (by kernel_rfl)
def mU:X9 table "set_iterator.__iter__"=Z O2.«dict_keyiterator.__iter__»:=WK (id':="dict_keyiterator.__iter__") (by kernel_rfl) rfl (by decide +kernel) (by kernel_rfl)
def oh:X9 table "set.__iter__"=Z O2.«frozenset.__iter__»:=WK (id':="frozenset.__iter__") (by kernel_rfl) rfl (by decide +kernel) (by kernel_rfl)
def ng:Manifest.owners.lookup (String.ofList ['r','o','t','a','r','e','t','i','_','t','e','s'].reverse)=Z Manifest.sig_set_iterator:=by kernel_rfl
def jq (a:Lk):WG "set_iterator.__next__" ⟨[a],[]⟩:=by
 unfold WG;rw[Xf (id:="set_iterator.__next__") (n:=['_','_','t','x','e','n','_','_']) (o:=['r','o','t','a','r','e','t','i','_','t','e','s']) (by kernel_rfl) ng];kernel_rfl
def nG (a:Lk):WG "set_iterator.__iter__" ⟨[a],[]⟩:=by
 unfold WG;rw[Xf (id:="set_iterator.__iter__") (n:=['_','_','r','e','t','i','_','_']) (o:=['r','o','t','a','r','e','t','i','_','t','e','s']) (by kernel_rfl) ng];kernel_rfl
abbrev zL (first:Lk)(i:Nat)(a:LA)(n ep:Nat):Obj:={cls:=.type "set_iterator",data:=.fields #[first,.int i 0,.ref a,.int n 0,.int ep 0]}
section
variable {prog:Mi}{w:My}{A:MX}{E:Lk->Lm->Prop}{s:Lm}{a it:LA}{o:Obj}{es:Array (Int×Lk)}{ep i:Nat}{t:MA}
def wk {slot:Nat}(hit:s.heap.get? it=Z (zL (.int slot 0) i a es.size ep))(ho:s.heap.get? a=Z o)(hd:o.data=.set es ep t)(hf:t.fits es.size=true)
  (hN:∀(A:MX) (E:Lk->Lm->Prop) (Q:Option (Lk×Nat)->Lm->Prop),Q (Z (x,nx)) s->Lp (LD prog w) A (Vf a slot i ep) Q E s)
  (hQ:∀h',h'.get? it=Z (zL (.int nx 0) (i+1) a es.size ep)->Nh it s.heap h'->Q (Z x) {s with heap:=h'}):Lp (LD prog w) A (O5 (.ref it)) Q E s:=by
 have T:s.TypeIs (.ref it) "set_iterator":=⟨_,hit,rfl⟩;unfold O5;refine Le (PR (MP (name:=NG "__next__") T cf (MW cf T iM ?_ (jq _))));unfold O2.«set_iterator.__next__»;refine Le (Lf (Le (WL hit rfl ?_)));show Lp _ _ (setEntries a >>= _) _ _ s;refine Le (RH ho hd hf ?_);dsimp only;rw[if_neg (by simp)];refine Le (hN _ _ _ ?_);dsimp only;refine Le (MG hit (by simp) λh1 he1 hs1=>?_)
 replace he1:h1.get? it=Z (zL (.int nx 0) i a es.size ep):=by simpa[OZ] using he1
 refine Le (MG (s:={s with heap:=h1}) he1 (by simp) λh2 he2 hs2=>?_)
 replace he2:h2.get? it=Z (zL (.int nx 0) (i+1) a es.size ep):=by
  unfold zL;rw[show((i+1:Nat):Int)=(i:Int)+1 by omega];simpa[OZ] using he2
 exact Lf ⟨_,rfl,Lf (hQ h2 he2 (YD hs1 hs2))⟩
def CT {s0:Lm}(hh:B.handled=Y)(hQ:∀h',(∀b o,s.heap.get? b=Z o->h'.get? b=Z o)->Q Y {s with heap:=h'}) :
  Lp (LD prog w) B (Yy (.type "StopIteration") [] >>= X7 (α:=PySem.Fin)) (λfin s'=>∃v,fin=Fin.done (Flow.ret v)/\Lp (LD prog w) A (pure (Z v)) Q E s') (λe s'=>Lp (LD prog w) A (do if <-isInstance e (.type "StopIteration") then pure Y else throw e) Q E s') s:=by
 refine Le ?_;simp only[Yy,WC];refine Le (Nt ?_ (by size_fits));refine Le (m:=RW _ _) (Pr (a:=MJ) (by first|rfl|(simp only[RW];rfl)) (Nt ?_ (by size_fits)));simp only[X7];refine Le (Xc ?_);rw[hh];refine Le (Lf (wpAny_throw ?_));exact Le (Rg (T:="StopIteration") (b:=true) ⟨_,LJ _ rfl,rfl⟩ TH (Lf (hQ _ λb o e=>Lg _ (Lg _ e))))
def zo {slot:Nat}(hh:A.handled=Y)(hit:s.heap.get? it=Z (zL (.int slot 0) i a es.size ep))(ho:s.heap.get? a=Z o)(hd:o.data=.set es ep t)(hf:t.fits es.size=true)
  (hN:∀(A:MX) (E:Lk->Lm->Prop) (Q:Option (Lk×Nat)->Lm->Prop),Q Y s->Lp (LD prog w) A (Vf a slot i ep) Q E s)
  (hQ:∀h',TC it s.heap h'->Q Y {s with heap:=h'}):Lp (LD prog w) A (O5 (.ref it)) Q E s:=by
 have T:s.TypeIs (.ref it) "set_iterator":=⟨_,hit,rfl⟩;unfold O5;refine Le (PR (MP (name:=NG "__next__") T cf (MW cf T iM ?_ (jq _))));unfold O2.«set_iterator.__next__»;refine Le (Lf (Le (WL hit rfl ?_)));show Lp _ _ (setEntries a >>= _) _ _ s;refine Le (RH ho hd hf ?_);dsimp only;rw[if_neg (by simp)];refine Le (hN _ _ _ ?_);dsimp only;refine Le (MG hit (by simp) λh1 he1 hs1=>?_);exact CT (s:={s with heap:=h1}) (s0:=s) hh λh' k=>hQ h' λb o hb e=>k b o (hs1.extBut b o hb e)
def wu {first:Lk}(hit:s.heap.get? it=Z (zL first i a n ep))(h:Q (.ref it) s):Lp (LD prog w) A (Rx (.ref it)) Q E s:=by
 have hT:s.TypeIs (.ref it) "set_iterator":=⟨_,hit,rfl⟩;refine Vg hT jo (MW jo hT mU ?_ (nG _));show Lp _ _ (ret (.ref it)) _ _ s;exact Lf ⟨_,rfl,"set_iterator",_,hT,cf.lookup,h⟩
end
def sZ (h:i<l.length):(l[i]::l.eraseIdx i).Perm l:=by
 rw[eraseIdx_eq_take_drop_succ];refine(US (l₁:=l.take i)).symm.trans (.of_eq ?_);rw[getElem_cons_drop,MH]
theorem mL:∀(f k:Nat) (l:List α) (out:Array α),l.length<=f->(XO nx f k l out).toList.Perm (out.toList++l)
 | 0,k,l,out,h=>by
  have e:l=[]:=O4.mp (by omega);subst e;rw[Mo];exact .refl _
 | f+1,k,l,out,h=>by
  unfold XO;cases l with
  | nil=>rw[Mo];exact .refl _
  | cons y ys=>
   have hm:nx k % (y::ys).length<(y::ys).length:=Rk _ (by simp);rw[Lh hm];dsimp only;refine(mL f _ _ _ (by rw[V9,if_pos hm];simp at h ⊢;omega)).trans ?_;rw[OG,LC];exact(TY _).append (sZ hm)
section
variable {prog:Mi}{w:My}{A:MX}{E:Lk->Lm->Prop}{s:Lm}
def yj (hn:n≠0)(h:∀i,i<n->Q i {s with drawn:=s.drawn.bump src}):Lp (LD prog w) A (choose src n) Q E s:=
 λΓ p _=>⟨hn,h _ (Rk _ (by omega))⟩
theorem bj:∀(n:Nat) (l:List α) {s:Lm} {Q:List α->Lm->Prop},l.length<=n->(∀ys d,ys.Perm l->Q ys {s with drawn:=d})->Lp (LD prog w) A (drawOrder n l) Q E s
 | 0,l,s,Q,hl,h=>by
  have e:l=[]:=O4.mp (by omega);subst e;exact Lf (by have:=h [] s.drawn (.refl _);exact this)
 | n+1,[],s,Q,hl,h=>Lf (by have:=h [] s.drawn (.refl _);exact this)
 | n+1,y::ys,s,Q,hl,h=>by
  unfold drawOrder;refine Le (yj (by simp) λi hi=>?_);rw[Lh hi];dsimp only;refine Le (bj n _ (by rw[V9,if_pos hi];simp at hl ⊢;omega) λzs d hz=>Lf ?_);exact h _ d ((hz.cons _).trans (sZ hi))
variable {a it:LA}{o:Obj}{es:Array (Int×Lk)}{ep i:Nat}{t:MA}{U:List Int}
def Dk {k:Nat}(hbt:w.params.followText "set-order"=false)(hpl:t.plain=true\/es.size<=1)(hled:t.led=true)(ho:s.heap.get? a=Z o)(hd:o.data=.set es ep t)(hf:t.fits es.size=true)(hk:MD t.place slot=k)
  (h:Q (match es[k]?,t.place[k]? with|some (_,x),Z j=>Z (x,j+1)|_,_=>Y) s):Lp (LD prog w) A (Vf a slot i ep) Q E s:=by
 unfold Vf UT;refine Le (NT ho hd hf ?_);dsimp only;refine Le (Le (NZ (Lf ?_)));dsimp only;rw[show(LD prog w).w.params.followText "set-order"=false from hbt,if_neg Ly];have nd:¬((!t.plain&&decide (es.size>1))=true):=by
  rcases hpl with z|z
  ·rw[z];simp
  ·rw[decide_eq_false (by omega)];simp
 refine PQ (λz=>absurd z nd) λ_=>?_
 have nl:¬((!t.led&&!es.isEmpty)=true):=by rw[hled];simp
 refine Le ?_;show Lp _ _ (if(!t.led&&!es.isEmpty)=true then _ else pure ()) _ _ _;rw[if_neg nl];refine Lf ?_;rw[hk];exact Lf h
def Dy (hbt:w.params.followText "set-order"=true)(ho:s.heap.get? a=Z o)(hd:o.data=.set es ep t)(hf:t.fits es.size=true)
  (h:Q (((QH (w.params.setOrder a ep) es)[i]?).map λe=>(e.2,slot)) s):Lp (LD prog w) A (Vf a slot i ep) Q E s:=by
 unfold Vf setWalk UT;refine Le (NT ho hd hf ?_);dsimp only;refine Le (Le (NZ (Lf ?_)));dsimp only;rw[show(LD prog w).w.params.followText "set-order"=true from hbt,if_pos rfl,if_neg (by simp)];refine Le (Le (NT ho hd hf ?_));dsimp only;refine Le (Le (NZ (Lf ?_)));dsimp only;rw[show(LD prog w).w.params.followText "set-order"=true from hbt,if_pos rfl];exact Le (NZ (Lf (Lf h)))
end
section
variable {prog:Mi}{w:My}{A:MX}{E:Lk->Lm->Prop}{s:Lm}{a:LA}{o:Obj}{U:List Int}
def Ax (hT:s.TypeIs (.ref r) "set")(h:Q false s):Lp (LD prog w) A (RL (.ref r)) Q E s:=by
 unfold RL;refine Le (Wa hT PySem.F.slot_set_len.lookup ?_);generalize hid:("set.__len__":String)=id0
 wp_delta
 rw[show splitId id0=Z ("set","__len__") from by subst hid;decide +kernel];subst hid;refine Le (Rg (T:="set") (b:=true) hT (by rw[T3];kernel_rfl) ?_);refine PQ (λhab=>absurd hab (by decide)) (λ_=>?_);refine PQ (λ_=>?_) (λhab=>absurd (by decide +kernel) hab);refine Le (SO hT ?_);exact Lf h
def yi (h:ItemsOf (λi v=>ord[i]?=Z v) acc ord.length):acc.toList=ord:=by
 apply Of;intro j;rw[Li]
 by_cases hj:j<acc.size
 ·rw[LS hj,h.2 j _ (LS hj)]
 ·rw[OS (by omega),NC (by rw[<-h.1];omega)]
end
def ky (a:LA)(o:Obj):HO:=.ext λh=>h.get? a=Z o
end DL
namespace DL
open PySem PySem.Spec PyProof.Rows PySem.W L2 List
section
def xP:Nat->Nat->Nat
 | 0,x=>x
 | n+1,x=>xP n (5*x+1)
def sP:Nat->Nat
 | 0=>0
 | n+1=>5*sP n+1
theorem zW:∀n,4*sP n+1=5 ^ n
 | 0=>rfl
 | n+1=>by
  have:=zW n;rw[PJ,<-this,sP];omega
theorem wX:∀n x,xP n x=5 ^ n*x+sP n
 | 0,x=>by simp[xP,sP]
 | n+1,x=>by
  rw[xP,wX n,PJ,sP,<-zW n]
  grind
theorem pow_two:∀k,∃a,a % 2=1/\5 ^ (2 ^ k)=1+4*2 ^ k*a
 | 0=>⟨1,rfl,rfl⟩
 | k+1=>by
  refine q1x2 (pow_two k) λa h1 h2=>?_;refine⟨a+2*2 ^ k*a*a,?_,?_⟩
  ·rw[Uo 2,Uo 2,R8];exact h1
  ·rw[PJ 2 k,Nat.pow_mul,h2,Nat.pow_two];generalize 2 ^ k=p
   grind
def Bu (k z:Nat):xP (2 ^ k) z % (2 ^ k*2)=(z+2 ^ k) % (2 ^ k*2):=by
 refine q1x2 (pow_two k) λa h1 h2=>?_;have h3:=zW (2 ^ k);rw[wX,h2];rw[h2] at h3;generalize 2 ^ k=p at *;have h4:sP p=p*a:=by
  have:4*sP p=4*(p*a):=by rw[<-Uo];omega
  omega
 obtain⟨c,rfl⟩:∃c,a=2*c+1:=⟨a / 2,by omega⟩;rw[h4];have e:(1+4*p*(2*c+1))*z+p*(2*c+1)=z+p+p*2*(2*(2*c+1)*z+c):=by grind
 rw[e,R8]
theorem Ap:∀m n x,xP (m+n) x=xP n (xP m x)
 | 0,n,x=>by rw[MB];rfl
 | m+1,n,x=>by
  rw[show m+1+n=(m+n)+1 by omega,xP,Ap m n,xP]
def Bk (hp:0<p)(h:u % p=y % p):u % (p*2)=y % (p*2)\/(u+p) % (p*2)=y % (p*2):=by
 rw[VT,VT,VT,Nat.add_mod_right,Nat.add_div_right _ hp,h];have:(u / p % 2=y / p % 2)\/((u / p+1) % 2=y / p % 2):=by omega
 rcases this with z|z
 ·exact .inl (by rw[z])
 ·exact .inr (by rw[z])
theorem KW:∀k x y,∃n,n<2 ^ k/\xP n x % 2 ^ k=y % 2 ^ k
 | 0,x,y=>⟨0,by decide,by rw[XQ,Yb,Yb]⟩
 | k+1,x,y=>by
  refine q1x2 (KW k x y) λn hn e=>?_;rw[PJ];rcases Bk (Qq k) e with z|z
  ·exact⟨n,by omega,z⟩
  ·refine⟨n+2 ^ k,by omega,?_⟩;rw[Ap,Bu,z]
def tY (m:Nat):Nat->Nat->Nat->Nat
 | 0,i,_=>i
 | n+1,i,p=>tY m n ((i*5+1+p / 32) % m) (p / 32)
theorem zc:∀(m n i j:Nat),i % m=j % m->tY m (n+1) i 0=xP (n+1) j % m
 | m,0,i,j,h=>by
  show(i*5+1+0 / 32) % m=(5*j+1) % m;rw[XR,QY,SW i 5,T4,T5,h,<-T5,<-T4]
 | m,n+1,i,j,h=>by
  rw[tY,xP,XR];refine zc m n _ _ ?_;rw[Nat.mod_mod,QY,SW i 5,T4,T5,h,<-T5,<-T4]
theorem AW:∀(m a b i p:Nat),tY m (a+b) i p=tY m b (tY m a i p) (p / 32 ^ a)
 | m,0,b,i,p=>by rw[MB,XQ,Nat.div_one];rfl
 | m,a+1,b,i,p=>by
  rw[show a+1+b=(a+b)+1 by omega,tY,AW m a b,tY,SX,PJ,SW 32]
def yM {k:Nat}(hp:p<2 ^ 64)(hj:j<2 ^ k)(hi:i<2 ^ k):∃n,n<2 ^ k+13/\tY (2 ^ k) n i p=j:=by
 refine q1x2 (KW k (tY (2 ^ k) 13 i p) j) λn hn e=>?_;have z:p / 32 ^ 13=0:=Nat.div_eq_of_lt (Vd hp (by decide));refine⟨13+n,by omega,?_⟩;rw[AW,z];rw[VC hj] at e;cases n with
 | zero=>
  have lt:tY (2 ^ k) 13 i p<2 ^ k:=Rk _ (Qq k);rw[<-e];show tY (2 ^ k) 13 i p=tY (2 ^ k) 13 i p % 2 ^ k;rw[VC lt]
 | succ n=>rw[zc _ n _ _ rfl];exact e
end
end DL
namespace DL
open PySem PySem.Spec PyProof.Rows PySem.W L2 List
section
def aU (t:MA):Nat->Nr->Nr
 | 0,p=>p
 | n+1,p=>aU t n (t.advance p)
theorem dM (t:MA):∀(a b:Nat) (p:Nr),aU t (a+b) p=aU t b (aU t a p)
 | 0,b,p=>by rw[MB];rfl
 | a+1,b,p=>by rw[show a+1+b=(a+b)+1 by omega,aU,dM t a b,aU]
theorem rK (t:MA):∀(n:Nat) (p:Nr),(aU t n p).dummy=p.dummy
 | 0,p=>rfl
 | n+1,p=>by
  rw[aU,rK t n];unfold Pq;split <;> rfl
def sW (t:MA)(p:Nr):Nr:=
 {p with j:=(p.i*5+1+p.perturb / 32) % (t.mask+1),more:=MQ t.mask ((p.i*5+1+p.perturb / 32) % (t.mask+1))-(p.i*5+1+p.perturb / 32) % (t.mask+1),i:=(p.i*5+1+p.perturb / 32) % (t.mask+1),perturb:=p.perturb / 32}
theorem nP {t:MA}:∀(c:Nat) (p:Nr),p.more=c->aU t (c+1) p=sW t p
 | 0,p,h=>by
  show t.advance p=_;unfold Pq;rw[if_neg (by omega)];rfl
 | c+1,p,h=>by
  rw[aU];have e:t.advance p={p with j:=p.j+1,more:=p.more-1}:=by
   unfold Pq;rw[if_pos (by omega)]
  rw[e,nP c {p with j:=p.j+1,more:=p.more-1} (by show p.more-1=c;omega)];rfl
def vM (m i:Nat):MQ m i-i<=9:=by
 unfold MQ;split <;> omega
theorem DB {t:MA}:∀(n:Nat) (p:Nr),p.more<=9->∃N,N<=10*(n+1)/\(aU t N p).j=tY (t.mask+1) (n+1) p.i p.perturb/\(aU t N p).more<=9/\(aU t N p).i=tY (t.mask+1) (n+1) p.i p.perturb/\(aU t N p).perturb=p.perturb / 32 ^ (n+1)
 | 0,p,h=>by
  refine⟨p.more+1,by omega,?_⟩;rw[nP p.more p rfl];exact⟨rfl,vM _ _,rfl,by rw[MB,Nat.pow_one];rfl⟩
 | n+1,p,h=>by
  obtain⟨N,h1,h2,h3,h4,h5⟩:=DB n (sW t p) (vM _ _);refine⟨p.more+1+N,by omega,?_⟩;rw[dM,nP p.more p rfl];refine⟨h2,h3,h4,h5.trans ?_⟩;show p.perturb / 32 / 32 ^ (n+1)=_;rw[SX,PJ 32 (n+1),SW 32]
theorem C5 [DecidableEq α]:∀{l k:List α},l.Nodup->(∀x,x∈l->x∈k)->l.length<=k.length
 | [],k,_,_=>Ni _
 | a::l,k,h,hs=>by
  refine q0x2 (RQ.mp h) λh1 h2=>?_;have:=C5 (k:=k.erase a) h2 λx hx=>(mem_erase_of_ne (λz:x=a=>h1 (by rw[<-z];exact hx))).mpr (hs x (LH _ hx))
  have ha:=hs a Lz;rw[length_erase_of_mem ha] at this;have:=length_pos_of_mem ha;rw[Mm];omega
structure yb (t:MA)(k:Nat):Prop where
 plain:t.plain=true
 dum:t.dummies=#[]
 up:t.place.toList.Pairwise (·<·)
 pow:t.mask+1=2 ^ k
 k3:3<=k/\k<=13
 full:t.place.size*5<t.mask*3
def gQ {t:MA}(hd:t.dummies=#[])(j:Nat):(t.slot j=.empty/\(∀k:Nat,t.place.toList.Pairwise (·<·)->t.place[k]?≠Z j))\/∃i,t.slot j=.live i/\t.place[i]?=Z j:=by
 unfold Xe;dsimp only;rw[hd,wR]
 by_cases h:t.place[MD t.place j]?=Z j
 ·refine .inr ⟨_,?_,h⟩;rw[h];simp
 ·refine .inl ⟨?_,λk up z=>?_⟩
  ·have:(t.place[MD t.place j]?==Z j)=false:=by
    cases q:(t.place[MD t.place j]?==Z j) with
    | false=>rfl
    | true=>exact absurd (eq_of_beq q) h
   rw[this];rfl
  ·refine q0x3 (mj (j:=j) up) λb1 b2 b3=>?_;rcases Q0 k (MD t.place j) with y|y|y
   ·have:=b2 k j y z;omega
   ·rw[y] at z;exact h z
   ·have hk:MD t.place j<t.place.size:=by have:=(Od.mp z).1;omega
    have e:=LS hk;have:=nA up y e z;have:=b3 _ _ (Lr _) e;omega
def AX {t:MA}{k:Nat}(T:yb t k):∃j,j<2 ^ k/\t.slot j=.empty:=by
 refine O7 λn=>?_
 have all:∀j,j∈Lw (2 ^ k)->j∈t.place.toList:=λj hj=>by
  rcases gQ T.dum j with⟨h,_⟩|⟨i,_,h⟩
  ·exact absurd ⟨j,OJ.mp hj,h⟩ n
  ·rw[<-Li] at h;exact LU h
 have:=C5 nodup_range all;rw[Mk,Ln] at this;have:=T.pow;have:=T.full;omega
def tx (t:MA)(h:Int):(t.probeStart h).more<=9/\(t.probeStart h).perturb<2 ^ 64/\(t.probeStart h).dummy=Y:=by
 refine⟨vM _ _,?_,rfl⟩;show ND h<2 ^ 64;unfold ND;have:=OI h (b:=2 ^ 64) (by decide);have:=NY h (b:=2 ^ 64) (by decide);omega
def uG {t:MA}{k:Nat}(T:yb t k)(h:Int):∃N,N<10*Na t.mask/\t.slot (aU t N (t.probeStart h)).j=.empty/\∀r,r<N->t.slot (aU t r (t.probeStart h)).j≠.empty:=by
 refine q1x2 (AX T) λj hj ej=>?_;refine q0x3 (tx t h) λs1 s2 _=>?_;have ex:∃N,N<10*Na t.mask/\t.slot (aU t N (t.probeStart h)).j=.empty:=by
  have hm:=T.pow;have lt1:((t.probeStart h).i*5+1+(t.probeStart h).perturb / 32) % 2 ^ k<2 ^ k:=Rk _ (Qq k);refine q1x2 (yM (k:=k) (i:=((t.probeStart h).i*5+1+(t.probeStart h).perturb / 32) % 2 ^ k) (p:=(t.probeStart h).perturb / 32) (j:=j) (by omega) hj lt1) λn hn e=>?_;refine q1x3 (DB (t:=t) n (t.probeStart h) s1) λN hN eN _=>?_;refine⟨N,?_,?_⟩
  ·unfold Na;omega
  ·rw[eN,hm];show t.slot (tY (2 ^ k) n _ _)=_;rw[e];exact ej
 refine q1x2 ex λN hN eN=>?_;have go:∀n,n<=N->(∀r,r<n->t.slot (aU t r (t.probeStart h)).j≠.empty)\/∃m,m<n/\t.slot (aU t m (t.probeStart h)).j=.empty/\∀r,r<m->t.slot (aU t r (t.probeStart h)).j≠.empty:=λn=>by
  induction n with
  | zero=>exact λ_=>.inl λr hr=>by omega
  | succ n ih=>
   intro hn;rcases ih (by omega) with a|⟨m,h1,h2,h3⟩
   ·by_cases e:t.slot (aU t n (t.probeStart h)).j=.empty
    ·exact .inr ⟨n,by omega,e,a⟩
    ·refine .inl λr hr=>?_
     by_cases z:r=n
     ·rw[z];exact e
     ·exact a r (by omega)
   ·exact .inr ⟨m,by omega,h2,h3⟩
 rcases go N (Lr _) with a|⟨m,h1,h2,h3⟩
 ·exact⟨N,hN,eN,a⟩
 ·exact⟨m,by omega,h2,h3⟩
theorem wB {t:MA}(hd:t.dummies=#[]):∀(N f:Nat) (p:Nr),N<f->p.dummy=Y->t.slot (aU t N p).j=.empty->(∀s,s<N->t.slot (aU t s p).j≠.empty)->
  (Oi t ha h f p=Z (.empty (aU t N p).j Y)/\∀s,s<N->∀i,t.slot (aU t s p).j=.live i->ha i≠h)\/
  ∃r i,r<N/\Oi t ha h f p=Z (.candidate (aU t r p).j i (aU t (r+1) p))/\t.slot (aU t r p).j=.live i/\ha i=h/\∀s,s<r->∀i',t.slot (aU t s p).j=.live i'->ha i'≠h
 | 0,f+1,p,_,hp,he,_=>by
  refine .inl ⟨?_,λs hs=>by omega⟩;unfold Oi;rw[show t.slot p.j=.empty from he,hp];rfl
 | N+1,f+1,p,hf,hp,he,hn=>by
  have n0:=hn 0 (by omega);rcases gQ hd p.j with⟨z,_⟩|⟨i,e,_⟩
  ·exact absurd z n0
  ·by_cases hh:ha i=h
   ·refine .inr ⟨0,i,by omega,?_,e,hh,λs hs=>by omega⟩;unfold Oi;rw[e];dsimp only;rw[if_pos (by rw[hh];exact beq_self_eq_true _)];rfl
   ·have st:Oi t ha h (f+1) p=Oi t ha h f (t.advance p):=by
     rw[Oi,e];dsimp only;rw[if_neg (by simpa using hh)]
    have hp':(t.advance p).dummy=Y:=by rw[<-hp];exact rK t 1 p
    rw[st];rcases wB hd N f (t.advance p) (by omega) hp' he (λs hs=>hn (s+1) (by omega)) with⟨a,b⟩|⟨r,i',hr,a,b,c,d⟩
    ·refine .inl ⟨a,λs hs i' hi=>?_⟩;cases s with
     | zero=>
      have hi:t.slot p.j=.live i':=hi;rw[e] at hi;cases hi;exact hh
     | succ s=>exact b s (by omega) i' hi
    ·refine .inr ⟨r+1,i',by omega,a,b,c,λs hs i'' hi=>?_⟩;cases s with
     | zero=>
      have hi:t.slot p.j=.live i'':=hi;rw[e] at hi;cases hi;exact hh
     | succ s=>exact d s (by omega) i'' hi
end
end DL
namespace DL
open PySem PySem.Spec PyProof.Rows PySem.W L2 List
section
variable {prog:Mi}{w:My}{A:MX}{E:Lk->Lm->Prop}{s:Lm}
def uu (hx:Nw (MM prog w) s.heap z x)(h:Q false s):Lp (LD prog w) A (Sf 8 (.ref x)) Q E s:=by
 have hT:=hx.typeIs;refine q3x4 hx λo items n ho _ hd hi=>?_;unfold Sf;refine Le (SO hT ?_);dsimp only;refine Le (Lf ?_);simp only[Su,Ma,if_false];refine Le (MZ ho hd ?_);dsimp only;refine Le ?_;rw[<-Qu];refine Qd _ (λrest r s'=>r.1=Y/\s'=s/\∀v∈rest,WM v=true) _ ?_ ?_ _ _ ⟨rfl,rfl,hi.byValue⟩
 ·rintro v rest r s' ⟨hr,rfl,hall⟩;have hv:=hall v Lz;have e:Sf 7 v=pure false:=by
   cases v with
   | ref a=>simp[WM] at hv
   | _=>rfl
  rw[e];refine Le (Lf ?_);simp only[Ma,if_false];exact Lf ⟨rfl,rfl,λu hu'=>hall u (LH _ hu')⟩
 ·rintro ⟨r1,r2⟩ s' ⟨hr,rfl,_⟩;simp only at hr;subst hr;exact Lf h
def Bz (hx:Nw (MM prog w) s.heap z x)(hy:∀y,y∈ys->∃b z',y=.ref b/\Nw (MM prog w) s.heap z' b)(h:Q false s):Lp (LD prog w) A (Vh (.ref x) ys) Q E s:=by
 unfold Vh;refine Le ?_;refine Qd _ (λrest r s'=>r.1=Y/\s'=s/\∀v∈rest,v∈ys) _ ?_ ?_ _ _ ⟨rfl,rfl,λ_ h=>h⟩
 ·rintro v rest r s' ⟨hr,rfl,hall⟩;refine q2x2 (hy v (hall v Lz)) λb z' zz2 hb=>?_;subst zz2;dsimp only;have go:∀u,u∈rest->u∈ys:=λu hu=>hall u (LH _ hu)
  refine PQ (λ_=>Lf ⟨rfl,rfl,go⟩) λ_=>?_
  refine Le (Tj hx ?_);simp only[Su,Ma,if_false];refine Le (Tj hb ?_);simp only[Su,Ma,if_false];refine Le (uu hx ?_);simp only[Ma,if_false];refine Le (uu hb ?_);simp only[Ma,if_false];exact Lf ⟨rfl,rfl,go⟩
 ·rintro ⟨r1,r2⟩ s' ⟨hr,rfl,_⟩;simp only at hr;subst hr;exact Lf h
def Dc (prog:Mi)(w:My)(h:Nu)(e:Int×Lk)(z:List Int):Prop:=∃b,e.2=.ref b/\Nw (MM prog w) h z b/\e.1=Nb (MM prog w) z
def EL (t:MA)(h:Int)(j:Nat):Prop:=∃N,(aU t N (t.probeStart h)).j=j/\∀r,r<N->t.slot (aU t r (t.probeStart h)).j≠.empty
structure cZ (prog:Mi)(w:My)(h:Nu)(es:Array (Int×Lk))(t:MA)(L:List (List Int)):Prop where
 tab:∃k,yb t k
 sz:t.place.size=es.size
 len:L.length=es.size
 el:∀(i:Nat) (e:Int×Lk),es[i]?=Z e->∃z,L[i]?=Z z/\Dc prog w h e z
 way:∀(i j:Nat) (e:Int×Lk),t.place[i]?=Z j->es[i]?=Z e->EL t e.1 j
def cZ.fits {t:MA}(I:cZ prog w h es t L):t.fits es.size=true:=by
 refine q1x1 I.tab λk T=>?_;unfold Up Uq;rw[T.dum,I.sz,LN,beq_iff_eq,decide_eq_true_eq];have:=T.full;rw[I.sz] at this;exact⟨rfl,by simp;omega⟩
def yt {a:LA}{t:MA}(hu:A.units<Qv)(ho:s.heap.get? a=Z o)(hd:o.data=.set es ep t)(I:cZ prog w s.heap es t L)(hx:Nw (MM prog w) s.heap z x)
 (n1:N0<10*Na t.mask) (n2:t.slot (aU t N0 (t.probeStart (Nb (MM prog w) z))).j=.empty) (n3:∀r,r<N0->t.slot (aU t r (t.probeStart (Nb (MM prog w) z))).j≠.empty)
  (h1:z∈L->Q (.there Y) s) (h2:z∉L->Q (.free (aU t N0 (t.probeStart (Nb (MM prog w) z))).j false) s) :
  ∀(d r0 fuel:Nat) (stand:Option Nr),d=N0-r0->r0<=N0->d<fuel->stand.getD (t.probeStart (Nb (MM prog w) z))=aU t r0 (t.probeStart (Nb (MM prog w) z))->
   (∀r,r<r0->∀i,t.slot (aU t r (t.probeStart (Nb (MM prog w) z))).j=.live i->L[i]?≠Z z)->Lp (LD prog w) A (Xg a (.ref x) (Nb (MM prog w) z) true fuel stand) Q E s:=by
 refine q1x1 I.tab λk T=>?_;have hfit:=I.fits;generalize hH:Nb (MM prog w) z=H at *;have odd:t.gaveWay=false:=by
  unfold SetTable.gaveWay;obtain⟨k',rfl⟩:∃k',k=k'+1:=⟨k-1,by have:=T.k3;omega⟩;have:=T.pow;rw[PJ] at this;exact beq_false_of_ne (by omega)
 intro d
 induction d using Nat.strongRecOn with
 | _ d ih=>
 intro r0 fuel stand hdd hr hf hst hno;obtain⟨f,rfl⟩:∃f,fuel=f+1:=⟨fuel-1,by omega⟩;unfold Xg;refine Le (NT ho hd hfit ?_);dsimp only;rw[odd];simp only[Ma,if_false];rw[hst];have e0:N0=r0+(N0-r0):=by omega
 have P:=wB (ha:=λi=>(es[i]?.map (·.1)).getD 0) (h:=H) T.dum (N0-r0) (10*Na t.mask) (aU t r0 (t.probeStart H)) (by omega) ((rK _ _ _).trans rfl) (by rw[<-dM,<-e0];exact n2) (λs' hs=>by rw[<-dM];exact n3 _ (by omega));rw[<-dM,<-e0] at P;have hpr:∀r,Oi t (λi=>(es[i]?.map (·.1)).getD 0) H (10*Na t.mask) (aU t r0 (t.probeStart H))=r->t.probe (λi=>(es[i]?.map (·.1)).getD 0) H (aU t r0 (t.probeStart H))=r:=λr e=>e
 rcases P with⟨e,b⟩|⟨r,i,hrN,e,sl,hi,b⟩
 ·have e:=hpr _ e;show Lp _ _ (match t.probe (λi=>(es[i]?.map (·.1)).getD 0) H (aU t r0 (t.probeStart H)) with|some met=>_|x=>_) _ _ _;rw[e];dsimp only;refine Lf (h2 λhz=>?_);obtain⟨i,hi,ei⟩:=Ny hz;have hie:i<es.size:=by rw[<-I.len];exact hi
  have ee:=LS hie;obtain⟨z',ez,b',_,_,eh⟩:=I.el i _ ee;rw[Lh hi,ei] at ez;cases ez;have hip:i<t.place.size:=by rw[I.sz];exact hie
  have ep:=LS hip;refine q1x2 (I.way i _ _ ep ee) λM m1 m2=>?_;rw[eh,hH] at m1 m2;have live:t.slot (aU t M (t.probeStart H)).j=.live i:=by
   rw[m1];rcases gQ T.dum t.place[i] with⟨_,n⟩|⟨i',e1,e2⟩
   ·exact absurd ep (n i T.up)
   ·rw[e1];congr 1;rcases Q0 i' i with y|y|y
    ·have:=nA T.up y e2 ep;omega
    ·exact y
    ·have:=nA T.up y ep e2;omega
  have hM:M<N0:=by
   rcases Q0 M N0 with y|y|y
   ·exact y
   ·rw[y,n2] at live;cases live
   ·exact absurd n2 (m2 N0 y)
  by_cases y:M<r0
  ·exact hno M y i live (by rw[Lh hi,ei])
  ·have:=b (M-r0) (by omega) i (by rw[<-dM,show r0+(M-r0)=M by omega];exact live);apply this;rw[ee];show(es[i]).1=H;rw[eh,hH]
 ·have e:=hpr _ e;rw[<-dM] at sl e;rw[<-dM] at e;show Lp _ _ (match t.probe (λi=>(es[i]?.map (·.1)).getD 0) H (aU t r0 (t.probeStart H)) with|some met=>_|x=>_) _ _ _;rw[e];dsimp only;have hip:t.place[i]?=Z (aU t (r0+r) (t.probeStart H)).j:=by
   rcases gQ T.dum (aU t (r0+r) (t.probeStart H)).j with⟨q,_⟩|⟨i',e1,e2⟩
   ·rw[q] at sl;cases sl
   ·rw[e1] at sl;cases sl;exact e2
  have hie:i<es.size:=by rw[<-I.sz];exact(Od.mp hip).1
  have ee:=LS hie;obtain⟨z',ez,b',eb,kb,eh⟩:=I.el i _ ee;have stored:∀y,y∈(es.filter (λe=>e.1==H)).toList.map (λe=>e.2)->∃b z',y=.ref b/\Nw (MM prog w) s.heap z' b:=λy hy=>by
   refine q1x2 (OP.mp hy) λe' he' zz2=>?_;subst zz2;rw[Array.toList_filter] at he';obtain⟨i',hi',ei'⟩:=Ny (Q8.mp he').1;obtain⟨z'',_,b'',q1,q2,_⟩:=I.el i' e' (by rw[<-Li,Lh hi',ei']);exact⟨b'',z'',q1,q2⟩
  rw[ee];dsimp only;rw[eb];refine PQ (λ_=>Le (Bz hx stored ?_)) (λ_=>?_)
  all_goals
   try simp only[Ma,if_false]
   refine Le (Mc (wpAny_eqBool_tuple hu kb hx ?_));refine Le (NT ho hd hfit ?_);dsimp only
   by_cases hz:z'=z
   ·rw[decide_eq_true hz];simp only[Xh,if_true];exact Lf (h1 (by rw[<-hz];exact LU ez))
   ·rw[decide_eq_false hz];simp only[T6,Ma,if_false];have sm:t.sameMemory t.moves t.mask=Z true:=by unfold SetTable.sameMemory;rw[if_pos (beq_self_eq_true _)]
    rw[sm];dsimp only;rw[if_pos rfl,sl];dsimp only;rw[ee];dsimp only;rw[eb];refine Le (Pr (a:=true) (by unfold isSame;dsimp only;rw[if_pos (beq_self_eq_true _)]) ?_);refine Le (Lf ?_);simp only[if_true];refine ih (N0-(r0+(r+1))) (by omega) (r0+(r+1)) f _ rfl (by omega) (by omega) rfl λq hq i' hl=>?_
    by_cases c1:q<r0
    ·exact hno q c1 i' hl
    ·by_cases c2:q=r0+r
     ·rw[c2,sl] at hl;cases hl;rw[ez];exact λy=>hz (LZ y)
     ·have hne:=b (q-r0) (by omega) i' (by rw[<-dM,show r0+(q-r0)=q by omega];exact hl);intro y;have hi':i'<es.size:=by rw[<-I.len];exact(Lj.mp y).1
      have e':=LS hi';obtain⟨z'',y2,_,_,_,eh'⟩:=I.el i' _ e';rw[y] at y2;cases y2;apply hne;rw[e'];show(es[i']).1=H;rw[eh',hH]
end
end DL
namespace DL
open PySem PySem.Spec PyProof.Rows PySem.W L2 List
section
theorem jZ {t:MA}(h:t.mask=t'.mask):∀(n:Nat) (p:Nr),aU t n p=aU t' n p
 | 0,p=>rfl
 | n+1,p=>by
  have e:t.advance p=t'.advance p:=by unfold Pq;rw[h]
  rw[aU,aU,e,jZ h n]
def jm {t t':MA}(h:t.mask=t'.mask)(x:Int):t.probeStart x=t'.probeStart x:=by unfold SetTable.probeStart;rw[h]
def n6 {t:MA}(hd:t.dummies=#[])(up:t.place.toList.Pairwise (·<·))(j:Nat):t.slot j≠.empty↔j∈t.place.toList:=by
 rcases gQ hd j with⟨h,n⟩|⟨i,h,e⟩
 ·rw[h];refine⟨λz=>absurd rfl z,λz=>?_⟩;obtain⟨i,hi,e⟩:=Ny z;exact absurd (by rw[<-Li,Lh hi,e]) (n i up)
 ·rw[h];refine⟨λ_=>?_,λ_ z=>by cases z⟩;rw[<-Li] at e;exact LU e
theorem qP {t:MA}:∀(k:Nat) (p:Nr),k<=p.more->(aU t k p).j=p.j+k
 | 0,p,_=>rfl
 | k+1,p,h=>by
  rw[aU];have e:t.advance p={p with j:=p.j+1,more:=p.more-1}:=by
   unfold Pq;rw[if_pos (by omega)]
  rw[e,qP k _ (by show k<=p.more-1;omega)];show p.j+1+k=_;omega
def yO (h:i<m+1):i+(MQ m i-i)<=m:=by
 unfold MQ;split <;> omega
theorem yI {t:MA}:∀(n:Nat) (p:Nr),p.j+p.more<=t.mask->(aU t n p).j<=t.mask
 | 0,p,h=>by show p.j<=_;omega
 | n+1,p,h=>by
  rw[aU];refine yI n _ ?_;unfold Pq;split
  ·show p.j+1+(p.more-1)<=_;omega
  ·exact yO (Rk _ (XT _))
def yE (t:MA)(h:Int)(n:Nat):(aU t n (t.probeStart h)).j<t.mask+1:=Nat.lt_succ_of_le (yI n _ (yO (Rk _ (XT _))))
def oG:∀(n:Nat),(∀k,(Lw n).find? P=Z k->k<n/\P k=true/\∀k',k'<k->P k'=false)/\((Lw n).find? P=Y->∀k,k<n->P k=false):=λn=>by
 constructor
 ·intro k h;obtain⟨h1,as,bs,e,h2⟩:=find?_eq_some_iff_append.mp h;have lk:as.length=k:=by
   have hl:as.length<(Lw n).length:=by rw[e];simp
   have g:(Lw n)[as.length]?=Z k:=by rw[e];simp
   rw[Mk] at hl;rw[Ob hl] at g;exact LZ g
  have kn:k<n:=by
   have:k∈Lw n:=by rw[e];simp
   exact OJ.mp this
  refine⟨kn,h1,λk' hk=>?_⟩;have g:as[k']?=Z k':=by
   have g2:(Lw n)[k']?=Z k':=Ob (by omega);rw[e,LY (by omega)] at g2;exact g2
  have:=h2 k' (LU g);simpa using this
 ·intro h k hk;have:=find?_eq_none.mp h k (OJ.mpr hk);simpa using this
theorem sV {t:MA}:∀(f:Nat) (p:Nr) (j:Nat),p.j=p.i->p.more=MQ t.mask p.i-p.i->MU t.mask owner f p.i p.perturb=Z j->
  ∃N,(aU t N p).j=j/\(owner.getD j (Z 0)).isNone=true/\∀r,r<N->(owner.getD (aU t r p).j (Z 0)).isNone=false
 | 0,p,j,_,_,e=>by cases e
 | f+1,p,j,h1,h2,e=>by
  unfold MU at e;have re:p.i<=MQ t.mask p.i:=by unfold MQ;split <;> omega
  have lr:MQ t.mask p.i+1-p.i=p.more+1:=by omega
  refine q0x2 (oG (P:=λk=>(owner.getD (p.i+k) (Z 0)).isNone) (MQ t.mask p.i+1-p.i)) λfa fb=>?_;cases q:(Lw (MQ t.mask p.i+1-p.i)).find? (λk=>(owner.getD (p.i+k) (Z 0)).isNone) with
  | some k=>
   rw[q] at e;cases e;refine q0x3 (fa k q) λa1 a2 a3=>?_;refine⟨k,by rw[qP k p (by omega),h1],a2,λr hr=>?_⟩;rw[qP r p (by omega),h1];exact a3 r hr
  | none=>
   rw[q] at e;have e:MU t.mask owner f (sW t p).i (sW t p).perturb=Z j:=e;refine q1x3 (sV f (sW t p) j rfl rfl e) λN n1 n2 n3=>?_;refine⟨p.more+1+N,by rw[dM,nP p.more p rfl];exact n1,n2,λr hr=>?_⟩
   by_cases c:r<p.more+1
   ·rw[qP r p (by omega),h1];exact fb q r (by omega)
   ·have:=n3 (r-(p.more+1)) (by omega);rwa [<-nP p.more p rfl,<-dM,show p.more+1+(r-(p.more+1))=r by omega] at this
theorem pQ:∀(n f i p:Nat),n<f->(owner.getD (tY (mask+1) n i p) (Z 0)).isNone=true->∃j,MU mask owner f i p=Z j
 | n,0,i,p,h,_=>absurd h (Ta _)
 | 0,f+1,i,p,_,e=>by
  unfold MU;cases q:(Lw (MQ mask i+1-i)).find? (λk=>(owner.getD (i+k) (Z 0)).isNone) with
  | some k=>exact⟨_,rfl⟩
  | none=>
   have re:i<=MQ mask i:=by unfold MQ;split <;> omega
   have:=(oG (P:=λk=>(owner.getD (i+k) (Z 0)).isNone) (MQ mask i+1-i)).2 q 0 (by omega);have e:(owner.getD (i+0) (Z 0)).isNone=true:=e;rw[e] at this;cases this
 | n+1,f+1,i,p,h,e=>by
  unfold MU;cases q:(Lw (MQ mask i+1-i)).find? (λk=>(owner.getD (i+k) (Z 0)).isNone) with
  | some k=>exact⟨_,rfl⟩
  | none=>exact pQ n f _ _ (by omega) e
theorem zU:∀(l:List (Option Nat)) (j:Nat),l[j]?=Z Y->((l.set j (Z c)).filterMap id).Perm (c::l.filterMap id)
 | [],j,h=>by cases h
 | x::l,0,h=>by
  cases h;exact .refl _
 | x::l,j+1,h=>by
  have ih:=zU (c:=c) l j h;rw[Xi];cases x with
  | none=>exact ih
  | some y=>exact(ih.cons y).trans (.swap _ _ _)
theorem wQ:∀(l:List (Option Nat)),(l.filterMap id).length<l.length->∃j:Nat,l[j]?=Z Y
 | [],h=>absurd h (Ta _)
 | none::l,_=>⟨0,rfl⟩
 | some y::l,h=>by
  have h:(y::l.filterMap id).length<(Z y::l).length:=h;rw[Mm,Mm] at h;refine q1x1 (wQ l (by omega)) λj e=>?_;exact⟨j+1,e⟩
structure OW (t:MA)(owner:Array (Option Nat))(hs:List Int)(c:Nat):Prop where
 sz:owner.size=t.mask+1
 perm:(owner.toList.filterMap id).Perm (Lw c)
 way:∀(j o:Nat) (h:Int),owner[j]?=Z (Z o)->hs[o]?=Z h->∃N,(aU t N (t.probeStart h)).j=j/\∀r,r<N->∃o',owner[(aU t r (t.probeStart h)).j]?=Z (Z o')
def getD_none {owner:Array (Option Nat)}(h:(owner.getD j (Z 0)).isNone=true):owner[j]?=Z Y:=by
 rw[NH] at h;cases q:owner[j]? with
 | none=>rw[q] at h;cases h
 | some x=>
  rw[q] at h;cases x with
  | none=>rfl
  | some y=>cases h
def B8 {t:MA}{k:Nat}(hm:t.mask+1=2 ^ k)(W:OW t owner hs c)(hc:c<t.mask+1)(hh:hs[c]?=Z h) :
  ∃j,MU t.mask owner (Na t.mask) (ND h % (t.mask+1)) (ND h)=Z j/\OW t (owner.setIfInBounds j (Z c)) hs (c+1):=by
 refine q0x3 (tx t h) λs1 s2 s3=>?_;refine q1x1 (wQ owner.toList (by rw[W.perm.length_eq,Mk,Ln,W.sz];exact hc)) λj0 ej=>?_;rw[Li] at ej;have lj:j0<2 ^ k:=by rw[<-hm,<-W.sz];exact(Od.mp ej).1
 refine q1x2 (yM (k:=k) (i:=ND h % (t.mask+1)) (p:=ND h) (j:=j0) s2 lj (by rw[hm];exact Rk _ (Qq k))) λn hn e=>?_;refine q1x1 (pQ (mask:=t.mask) (owner:=owner) n (Na t.mask) (ND h % (t.mask+1)) (ND h) (by unfold Na;omega) (by have e2:=e;rw[<-hm] at e2;rw[e2,NH,ej];rfl)) λj ef=>?_;refine⟨j,ef,?_⟩;refine q1x3 (sV (t:=t) (owner:=owner) (Na t.mask) (t.probeStart h) j rfl rfl ef) λN n1 n2 n3=>?_;have hj:=getD_none n2;have jl:j<owner.size:=(Od.mp hj).1;have at_:∀i:Nat,(owner.setIfInBounds j (Z c))[i]?=if j=i then Z (Z c) else owner[i]?:=λi=>by
  rw[RD]
  by_cases z:j=i
  ·rw[if_pos z,if_pos z,if_pos jl]
  ·rw[if_neg z,if_neg z]
 have up:∀(i o:Nat),owner[i]?=Z (Z o)->∃o',(owner.setIfInBounds j (Z c))[i]?=Z (Z o'):=λi o e=>by
  rw[at_]
  by_cases z:j=i
  ·rw[z,e] at hj;cases hj
  ·rw[if_neg z];exact⟨o,e⟩
 have onP:∀i:Nat,(owner.getD i (Z 0)).isNone=false->i<t.mask+1->∃o,owner[i]?=Z (Z o):=λi hi hl=>by
  rw[NH] at hi;cases q:owner[i]? with
  | none=>exact absurd (R4.mp q) (by rw[W.sz];omega)
  | some x=>
   rw[q] at hi;cases x with
   | none=>cases hi
   | some o=>exact⟨o,rfl⟩
 refine⟨by rw[Qn];exact W.sz,?_,λi o h' e1 e2=>?_⟩
 ·rw[RZ];refine(zU _ _ (by rw[Li];exact hj)).trans ((W.perm.cons c).trans ?_);rw[WJ];exact(Tn _ _).symm
 ·rw[at_] at e1
  by_cases z:j=i
  ·rw[if_pos z] at e1;cases e1;rw[hh] at e2;cases e2;refine⟨N,n1.trans z,λr hr=>?_⟩;refine q1x1 (onP _ (n3 r hr) (yE t h r)) λo eo=>?_;exact up _ o eo
  ·rw[if_neg z] at e1;refine q1x2 (W.way i o h' e1 e2) λN' a1 a2=>?_;refine⟨N',a1,λr hr=>?_⟩;refine q1x1 (a2 r hr) λo' eo=>?_;exact up _ o' eo
theorem wY {t:MA}{k:Nat}(hm:t.mask+1=2 ^ k)(hl:hs.length<=t.mask):∀(l pre:List Int) (owner:Array (Option Nat)),hs=pre++l->OW t owner hs pre.length->
  ∃owner',l.foldl (λ(acc:Option (Array (Option Nat)×Nat)) h=>do
   let (owner,k) <-acc
   let j <-MU t.mask owner (Na t.mask) (ND h % (t.mask+1)) (ND h)
   pure (owner.setIfInBounds j (Z k),k+1)) (Z (owner,pre.length))=Z (owner',hs.length)/\OW t owner' hs hs.length
 | [],pre,owner,e,W=>by
  rw[Mo] at e;subst e;exact⟨owner,rfl,W⟩
 | h::l,pre,owner,e,W=>by
  refine q1x2 (B8 hm W (h:=h) (by have:=congrArg X3 e;simp at this;omega) (by rw[e];simp)) λj ef W'=>?_;have lp:(pre++[h]).length=pre.length+1:=by simp
  rw[<-lp] at W';refine q1x2 (wY hm hl l (pre++[h]) _ (by rw[e];simp) W') λo' e' W2=>?_;refine⟨o',?_,W2⟩;rw[Vn];rw[lp] at e';refine Eq.trans ?_ e';congr 1;show(MU t.mask owner (Na t.mask) (ND h % (t.mask+1)) (ND h) >>= λj=>Z (owner.setIfInBounds j (Z pre.length),pre.length+1))=_;rw[ef];rfl
def zI {owner:Array (Option Nat)}(l:List Nat):∀(i j o:Nat),(l.filterMap λj=>(owner.getD j Y).map λk=>(j,k))[i]?=Z (j,o)->owner.getD j Y=Z o/\j∈l:=λi j o e=>by
 have:=LU e;refine q1x2 (Ro.mp this) λj' hj e2=>?_;cases q:owner.getD j' Y with
 | none=>rw[q] at e2;cases e2
 | some k=>
  rw[q] at e2;cases e2;exact⟨q,hj⟩
def xV {t:MA}{k:Nat}(hk:UU wanted=2 ^ k)(hl:hs.size<2 ^ k) :
  ∃t' order,t.relaid hs wanted=Z (t',order)/\t'.mask+1=2 ^ k/\t'.plain=t.plain/\t'.led=t.led/\t'.dummies=#[]/\t'.place.toList.Pairwise (·<·)/\order.toList.Perm (Lw hs.size)/\t'.place.size=hs.size/\
   ∀(i j o:Nat) (h:Int),t'.place[i]?=Z j->order[i]?=Z o->hs[o]?=Z h->EL t' h j:=by
 have p0:=Qq k;unfold SetTable.relaid SetTable.laid SetTable.layClean;rw[hk];have hm:2 ^ k-1+1=2 ^ k:=by omega
 obtain⟨owner,e,W⟩:=wY (t:={t with mask:=2 ^ k-1}) (k:=k) hm (hs:=hs.toList) (by rw[Ln];show hs.size<=2 ^ k-1;omega) hs.toList [] (Wb (2 ^ k-1+1) Y) rfl ⟨by rw[Array.size_replicate],by
   rw[Array.toList_replicate];have:((Ms (2 ^ k-1+1) (Y:Option Nat)).filterMap id)=[]:=filterMap_eq_nil_iff.mpr λx hx=>by rw[eq_of_mem_replicate hx];rfl
   rw[this];exact .refl _,λj o h e1 _=>by
    rw[Array.getElem?_replicate] at e1;split at e1 <;> cases e1⟩
 rw[<-Array.foldl_toList];have e2:hs.toList.foldl (λ(acc:Option (Array (Option Nat)×Nat)) h=>do
   let (owner,k') <-acc
   let j <-MU (2 ^ k-1) owner (Na (2 ^ k-1)) (ND h % (2 ^ k-1+1)) (ND h)
   pure (owner.setIfInBounds j (Z k'),k'+1)) (Z (Wb (2 ^ k-1+1) Y,0))=Z (owner,hs.toList.length):=e
 rw[e2];have osz:owner.size=2 ^ k-1+1:=W.sz;generalize hlive:((Lw (2 ^ k-1+1)).filterMap λj=>(owner.getD j Y).map λk=>(j,k))=live;have snds:live.map (λx=>x.2)=owner.toList.filterMap id:=by
  rw[<-hlive,map_filterMap];have eo:owner.toList=(Lw (2 ^ k-1+1)).map λj=>owner.getD j Y:=by
   apply TZ
   ·rw[Ln,Lu,Mk,osz]
   ·intro i h1 h2;rw[Ln] at h1;simp[Rj,h1]
  rw[eo,VM];congr 1;funext j;show WH (λx:Nat×Nat=>x.2) ((owner.getD j Y).map λk=>(j,k))=owner.getD j Y;cases owner.getD j Y <;> rfl
 have lens:live.length=hs.size:=by
  rw[<-Lu (λx:Nat×Nat=>x.2),snds,W.perm.length_eq,Mk,Ln]
 have upl:(live.map λx=>x.1).Pairwise (·<·):=by
  rw[<-hlive];exact XZ (uZ (f:=λj=>owner.getD j Y) _) pairwise_lt_range
 refine⟨{mask:=2 ^ k-1,place:=(live.map (·.1)).toArray,dummies:=#[],finger:=t.finger,led:=t.led,moves:=t.movedTo (2 ^ k-1),plain:=t.plain},(live.map (·.2)).toArray,?_,hm,rfl,rfl,rfl,upl,?_,by show(live.map (·.1)).toArray.size=_;rw[L5,Lu,lens],λi j o h e1 e2 e3=>?_⟩
 ·show(Z (owner,hs.toList.length)).map (·.1) >>= _=_;show Z (_,_)=Z (_,_);rw[hlive]
 ·show(live.map (·.2)).toArray.toList.Perm _;rw[WN,snds,<-Ln];exact W.perm
 ·have e1:(live.map (·.1)).toArray[i]?=Z j:=e1;have e2:(live.map (·.2)).toArray[i]?=Z o:=e2;rw[VD,LL] at e1 e2;cases q:live[i]? with
  | none=>rw[q] at e1;cases e1
  | some y=>
   rw[q] at e1 e2;obtain⟨j',o'⟩:=y;have e1:j'=j:=LZ e1;have e2:o'=o:=LZ e2;subst e1;subst e2;have lo:=zI (owner:=owner) (Lw (2 ^ k-1+1)) i j' o' (by rw[hlive];exact q);have oo:owner[j']?=Z (Z o'):=by
    have:=lo.1;rw[NH] at this;cases q2:owner[j']? with
    | none=>rw[q2] at this;cases this
    | some x=>rw[q2] at this;exact congrArg Z this
   refine q1x2 (W.way j' o' h oo (by rw[Li];exact e3)) λN a1 a2=>?_;generalize hT:({mask:=2 ^ k-1,place:=(live.map (·.1)).toArray,dummies:=#[],finger:=t.finger,led:=t.led,moves:=t.movedTo (2 ^ k-1),plain:=t.plain}:MA)=T;have mk:({t with mask:=2 ^ k-1}:MA).mask=T.mask:=by rw[<-hT]
   refine⟨N,by rw[<-jZ mk,<-jm mk];exact a1,λr hr=>?_⟩;refine q1x1 (a2 r hr) λo2 eo=>?_;rw[<-jZ mk,<-jm mk];refine(n6 (by rw[<-hT]) (by rw[<-hT];exact upl) _).mpr ?_;rw[<-hT];show _∈(live.map (·.1)).toArray.toList;rw[WN,<-hlive];have pl:(aU ({t with mask:=2 ^ k-1}:MA) r (({t with mask:=2 ^ k-1}:MA).probeStart h)).j<2 ^ k-1+1:=yE ({t with mask:=2 ^ k-1}:MA) h r;generalize (aU ({t with mask:=2 ^ k-1}:MA) r (({t with mask:=2 ^ k-1}:MA).probeStart h)).j=J at eo pl ⊢;refine OP.mpr ⟨(J,o2),Ro.mpr ⟨J,OJ.mpr pl,?_⟩,rfl⟩;rw[NH,eo];rfl
end
end DL
namespace DL
open PySem PySem.Spec PyProof.Rows PySem.W L2 List
section
theorem uj:∀(f j:Nat),n<2 ^ (j+f)->∃k,j<=k/\To n f (2 ^ j)=2 ^ k/\n<2 ^ k/\(k=j\/2 ^ (k-1)<=n)
 | 0,j,h=>⟨j,Lr _,rfl,h,.inl rfl⟩
 | f+1,j,h=>by
  unfold To
  by_cases c:2 ^ j<=n
  ·rw[if_pos c,<-PJ];obtain⟨k,h1,h2,h3,h4⟩:=uj (n:=n) f (j+1) (by rw[show j+1+f=j+(f+1) by omega];exact h);refine⟨k,by omega,h2,h3,.inr ?_⟩;rcases h4 with rfl|h4
   ·exact c
   ·exact h4
  ·rw[if_neg c];exact⟨j,Lr _,rfl,by omega,.inl rfl⟩
def lE (h:n<8192):∃k,3<=k/\k<=13/\UU n=2 ^ k/\n<2 ^ k:=by
 obtain⟨k,h1,h2,h3,h4⟩:=uj (n:=n) 64 3 (LB h (by decide));refine⟨k,h1,?_,h2,h3⟩;rcases h4 with rfl|h4
 ·decide
 ·refine O7 λc=>?_
  have:2 ^ 13<=2 ^ (k-1):=Rv (by decide) (by omega);omega
def lA {x:α}{l:List α}(hp:p<=l.length)(i:Nat):(l.take p++x::l.drop p)[i]?=if i<p then l[i]? else if i=p then Z x else l[i-1]?:=by
 have lt:(l.take p).length=p:=by rw[Nd];omega
 by_cases c:i<p
 ·rw[if_pos c,LY (by omega),Ug c]
 ·rw[if_neg c,Lv (by omega),lt]
  by_cases d:i=p
  ·rw[if_pos d,d,PB];rfl
  ·rw[if_neg d,show i-p=(i-1-p)+1 by omega,Rw,Q3,show p+(i-1-p)=i-1 by omega]
def lH {x:α}{l:List α}:(l.take p++x::l.drop p).Perm (l++[x]):=by
 refine(US).trans ?_;rw[MH];exact(Tn _ _).symm
def EL.mono {t:MA}(hm:t.mask=t'.mask)(hs:∀i,t.slot i≠.empty->t'.slot i≠.empty)(x:EL t h j):EL t' h j:=by
 refine q1x2 x λN h1 h2=>?_;refine⟨N,by rw[<-jZ hm,<-jm hm];exact h1,λr hr=>?_⟩;rw[<-jZ hm,<-jm hm];exact hs _ (h2 r hr)
end
section
variable {prog:Mi}{w:My}{A:MX}{E:Lk->Lm->Prop}{s:Lm}{a:LA}{o:Obj}{U:List (List Int)}
def IN (hx:Nw (MM prog w) s.heap z x)(h:Q true s):Lp (LD prog w) A (hashByValue 8 (.ref x)) Q E s:=by
 have hT:=hx.typeIs;refine q3x4 hx λo items n ho _ hd hi=>?_;unfold hashByValue;refine Le (Wa hT F.slot_tuple_hash.lookup ?_);dsimp only;refine Le (MZ ho hd ?_);refine Le ?_;show Lp _ _ (forIn items _ _) _ _ _;rw[<-Qu];have all:∀{ks vs},ItemsAre (MM prog w) ks vs->∀v∈vs,∃n t,v=.int n t:=λ{ks vs} q=>by
  induction q with
  | nil=>intro v hv;cases hv
  | cons h1 _ ih=>
   intro v hv;rcases L1.mp hv with rfl|hv
   ·refine q1x1 (R9 (show VI _ _=true from h1)) λt e=>?_;exact⟨_,t,e⟩
   ·exact ih v hv
 refine Qd _ (λrest r s'=>r.1=Y/\s'=s/\∀v∈rest,∃n t,v=RM n t) _ ?_ ?_ _ _ ⟨rfl,rfl,all hi⟩
 ·rintro v rest r s' ⟨hr,rfl,hall⟩;refine q2x1 (hall v Lz) λn t zz2=>?_;subst zz2;refine Le (Lf ?_);simp only[Su,Ma,if_false];exact Lf ⟨rfl,rfl,λu hu'=>hall u (LH _ hu')⟩
 ·rintro ⟨r1,r2⟩ s' ⟨hr,rfl,_⟩;simp only at hr;subst hr;exact Lf h
def b9 (prog:Mi)(w:My)(h:Nu)(o:Obj)(U:List (List Int)):Prop:=
 ∃es ep t L,o.ExactSet/\o.data=.set es ep t/\cZ prog w h es t L/\L.Perm U/\t.led=!w.params.followText "set-order"
def iB (o:Obj)(v:Lk):Prop:=∃es ep t,o.data=.set es ep t/\∃e∈es.toList,e.2=v
def dz (U:List (List Int))(z:List Int):List (List Int):=if z∈U then U else U++[z]
def Dc.same {t:MA}(ho:h.get? a=Z o)(hd:o.data=.set es ep t)(hs:Nh a h h')(x:Dc prog w h e z):Dc prog w h' e z:=by
 obtain⟨b,e1,⟨o',items,n,ho',hc,hd',hi⟩,e2⟩:=x;refine⟨b,e1,⟨o',items,n,?_,hc,hd',hi⟩,e2⟩;rw[hs.2 b (λy=>by subst y;rw[ho] at ho';cases ho';rw[hd] at hd';cases hd')];exact ho'
def EI {t:MA}(I:cZ prog w h es t L)(he:Dc prog w h e z)
  (n2:t.slot (aU t N0 (t.probeStart e.1)).j=.empty) (n3:∀r,r<N0->t.slot (aU t r (t.probeStart e.1)).j≠.empty) :
  ∃L':List (List Int),L'.Perm (L++[z])/\(t.put (aU t N0 (t.probeStart e.1)).j).1.place.size=es.size+1/\(Oh es (t.put (aU t N0 (t.probeStart e.1)).j).2 e).size=es.size+1/\(t.put (aU t N0 (t.probeStart e.1)).j).1.place.toList.Pairwise (·<·)/\(t.put (aU t N0 (t.probeStart e.1)).j).1.dummies=#[]/\
   L'.length=es.size+1/\
   (∀(i:Nat) (e':Int×Lk),(Oh es (t.put (aU t N0 (t.probeStart e.1)).j).2 e)[i]?=Z e'->∃z,L'[i]?=Z z/\Dc prog w h e' z)/\
   ∀(i j:Nat) (e':Int×Lk),(t.put (aU t N0 (t.probeStart e.1)).j).1.place[i]?=Z j->(Oh es (t.put (aU t N0 (t.probeStart e.1)).j).2 e)[i]?=Z e'->EL (t.put (aU t N0 (t.probeStart e.1)).j).1 e'.1 j:=by
 refine q1x1 I.tab λk T=>?_;have up1:=F7 T.up n2;generalize hj:(aU t N0 (t.probeStart e.1)).j=j at *;have pe:(t.put j).1.place=Oh t.place (MD t.place j) j:=rfl;have p2:(t.put j).2=MD t.place j:=rfl;have dm:(t.put j).1.dummies=#[]:=by
  show(if Ve t.dummies j then _ else t.dummies)=_;rw[T.dum,wR];rfl
 have mk:t.mask=(t.put j).1.mask:=rfl;have pb:MD t.place j<=t.place.size:=(mj (j:=j) T.up).1;rw[p2];generalize hT1:(t.put j).1=t1 at *;generalize MD t.place j=p at *;have pl:t1.place.toList=t.place.toList.take p++j::t.place.toList.drop p:=by rw[pe,Pj]
 have el:(Oh es p e).toList=es.toList.take p++e::es.toList.drop p:=Pj ..;have sz {α:Type} (l:List α) (x:α):(l.take p++x::l.drop p).length=l.length+1:=by rw[(lH (x:=x) (l:=l) (p:=p)).length_eq];simp
 have mono:∀i,t.slot i≠.empty->t1.slot i≠.empty:=λi hi=>by
  rw[n6 dm up1,pl];rw[n6 T.dum T.up] at hi;exact(lH (x:=j) (l:=t.place.toList) (p:=p)).mem_iff.mpr (Ml _ hi)
 have s1:=I.sz;have s2:=I.len;refine⟨L.take p++z::L.drop p,lH,?_,?_,up1,dm,by rw[sz,s2],λi e' q=>?_,λi j' e' q1 q2=>?_⟩
 ·rw[<-Ln,pl,sz,Ln,s1]
 ·rw[<-Ln,el,sz,Ln]
 ·rw[<-Li,el,lA (by rw[Ln];omega)] at q;rw[lA (by omega)]
  by_cases c:i<p
  ·rw[if_pos c] at q ⊢;exact I.el i e' (by rw[<-Li];exact q)
  ·rw[if_neg c] at q ⊢
   by_cases d:i=p
   ·rw[if_pos d] at q ⊢;cases q;exact⟨z,rfl,he⟩
   ·rw[if_neg d] at q ⊢;exact I.el (i-1) e' (by rw[<-Li];exact q)
 ·rw[<-Li,el,lA (by rw[Ln];omega)] at q2;rw[<-Li,pl,lA (by rw[Ln];omega)] at q1
  by_cases c:i<p
  ·rw[if_pos c] at q1 q2;rw[Li] at q1 q2;exact(I.way i j' e' q1 q2).mono mk mono
  ·rw[if_neg c] at q1 q2
   by_cases d:i=p
   ·rw[if_pos d] at q1 q2;cases q1;cases q2;exact EL.mono mk mono ⟨N0,hj,n3⟩
   ·rw[if_neg d] at q1 q2;rw[Li] at q1 q2;exact(I.way (i-1) j' e' q1 q2).mono mk mono
def wx (hu:A.units<Qv)(ho:s.heap.get? a=Z o)(hS:b9 prog w s.heap o U)(hx:Nw (MM prog w) s.heap z x)(hroom:U.length+1<2048)
  (h:∀b h' o',Nh a s.heap h'->h'.get? a=Z o'->b9 prog w h' o' (dz U z)->(∀v,iB o' v->iB o v\/v=.ref x)->Q b {s with heap:=h'}) :
  Lp (LD prog w) A (XU a (.ref x) (Nb (MM prog w) z)) Q E s:=by
 refine q4x5 (id hS) λes ep t L hex hd I hL led=>?_;have hf:=I.fits;refine q1x1 I.tab λk T=>?_;unfold XU setAddHashedIn;refine Mc (Le (NT ho hd hf ?_));dsimp only;rw[show byScan (.ref x) es=false from rfl];simp only[Ma,if_false];refine q1x3 (uG T (Nb (MM prog w) z)) λN0 n1 n2 n3=>?_;unfold setSearch;have mk:=T.pow;have k13:2 ^ k<=2 ^ 13:=Rv (by decide) T.k3.2;have fu:N0<100000:=by
  have:Na t.mask=t.mask+1+16\/Na t.mask<=t.mask+1+64:=.inr (by unfold Na;omega);omega
 have hzU:z∈L↔z∈U:=hL.mem_iff;refine Le (yt hu ho hd I hx n1 n2 n3 (λhz=>?_) (λhz=>?_) N0 0 100000 Y (by omega) (by omega) fu rfl (λr hr=>by omega))
 ·dsimp only;refine Lf ?_;have e:s={s with heap:=s.heap}:=by cases s;rfl
  rw[e];exact h false s.heap o (YK a s.heap) ho (by unfold dz;rw[if_pos (hzU.mp hz)];exact hS) λv q=>.inl q
 ·dsimp only;have hzn:z∉U:=λy=>hz (hzU.mpr y)
  refine Le (NT ho hd hf ?_);dsimp only;obtain⟨L',lp,c1,c2,c3,c4,c5,c6,c7⟩:=EI (e:=(Nb (MM prog w) z,.ref x)) I ⟨x,rfl,hx,rfl⟩ n2 n3;dsimp only at c1 c2 c3 c4 c5 c6 c7;have pl1:(t.put (aU t N0 (t.probeStart (Nb (MM prog w) z))).j).1.plain=true:=T.plain;have mk1:(t.put (aU t N0 (t.probeStart (Nb (MM prog w) z))).j).1.mask=t.mask:=rfl;have ld1:(t.put (aU t N0 (t.probeStart (Nb (MM prog w) z))).j).1.led=t.led:=rfl;have em:∀e,e∈(Oh es (t.put (aU t N0 (t.probeStart (Nb (MM prog w) z))).j).2 (Nb (MM prog w) z,NJ x)).toList->e∈es.toList\/e.2=.ref x:=λe he=>by
   rw[Pj] at he;rcases MR.mp (lH.mem_iff.mp he) with y|y
   ·exact .inl y
   ·rw[LK.mp y];exact .inr rfl
  generalize t.put (aU t N0 (t.probeStart (Nb (MM prog w) z))).j=tp at *;obtain⟨t1,p⟩:=tp;dsimp only at c1 c2 c3 c4 c5 c6 c7 pl1 mk1 ld1 em ⊢;rw[pl1];simp only[if_true];refine Le (IN hx ?_);simp only[if_true];generalize Oh es p (Nb (MM prog w) z,NJ x)=es1 at *;have lu:L.length=U.length:=hL.length_eq;have sl:=I.len;have b1:es1.size<=LW:=Vi (by rw[c2];show _<4096;omega);refine Le (Vj ho hd ?_ b1);have ho1:=sC ho hd es1 t1;have hsb1:=Qi s.heap a (R3 es1 t1);generalize hh1:s.heap.update a (R3 es1 t1)=h1 at *;have pU:L'.Perm (dz U z):=by
   unfold dz;rw[if_neg hzn];exact lp.trans (hL.append_right _)
  have fl:=T.full;rw[I.sz] at fl
  by_cases tf:t1.tooFull=true
  ·rw[tf];simp only[Bool.not_false,Xh,if_true];have f1:t1.fits es1.size=true:=by
    unfold Up Uq;rw[c4,c1,c2,LN,beq_iff_eq,decide_eq_true_eq];exact⟨rfl,by rw[mk1];simp;omega⟩
   refine Le ?_;unfold setRelay;refine Le (NT (s:={s with heap:=h1}) ho1 rfl f1 ?_);dsimp only;have gr:WO (es.size+1)=(es.size+1)*4:=by unfold WO;rw[if_neg (by omega)]
   rw[gr];obtain⟨k',k1,k2,ek,lk⟩:=lE (n:=(es.size+1)*4) (by omega);have k13':2 ^ k'<=2 ^ 13:=Rv (by decide) k2;rw[if_neg (by rw[ek];have:=Vi (n:=4095) (by decide);rw[Oo];omega)];obtain⟨t2,order,er,r1,r2,r3,r4,r5,r6,r7,r8⟩:=xV (t:=t1) (k:=k') (wanted:=(es.size+1)*4) (hs:=es1.map (·.1)) ek (by rw[T1,c2];omega);rw[er];rw[T1] at r6 r7;have ol:order.size=es1.size:=by rw[<-Ln,r6.length_eq,Mk]
   have om:∀q,q∈order.toList->q<es1.size:=λq hq=>OJ.mp (r6.mem_iff.mp hq)
   generalize he2:order.filterMap (λq=>es1[q]?)=es2;have es2l:es2.toList=order.toList.map λq=>es1.getD q (0,.none):=by
    rw[<-he2,Array.toList_filterMap];clear he2 r6 r8 ol er;generalize order.toList=ol at om
    induction ol with
    | nil=>rfl
    | cons q l ih=>
     have lq:=om q Lz;rw[Uj (LS lq),Nf,ih λq' hq'=>om q' (LH _ hq')];simp[Rj,lq]
   have es2s:es2.size=es1.size:=by rw[<-Ln,es2l,Lu,Ln,ol]
   have at2:∀(i:Nat) (e:Int×Lk),es2[i]?=Z e->∃q,order[i]?=Z q/\es1[q]?=Z e:=λi e q=>by
    rw[<-Li,es2l,LL,NQ] at q;refine q1x2 q λq' e1 e2=>?_;have lq:=om q' (LU e1);refine⟨q',by rw[<-Li];exact e1,?_⟩;rw[<-e2];simp[Rj,lq]
   refine Le ?_;change Lp _ _ (ite _ _ _) _ _ _;rw[he2,if_neg (by rw[es2s];simp)];refine Lf ?_;refine Vj (s:={s with heap:=h1}) ho1 rfl ?_ (by rw[es2s];exact b1);have ho2:=sC (s:={s with heap:=h1}) ho1 rfl es2 t2;have hsb2:=Qi h1 a (R3 es2 t2);have hsb:=hsb1.trans hsb2;refine Lf (h true _ _ hsb ho2 ?_ λv q=>?_)
   rotate_left
   ·obtain⟨es',ep',t',hd',e,he,ev⟩:=q;cases hd';obtain⟨i,hi,ei⟩:=Ny he;refine q1x2 (at2 i e (by rw[<-Li,Lh hi,ei])) λq' _ e2=>?_;rw[<-Li] at e2;rcases em e (LU e2) with y|y
    ·exact .inl ⟨es,ep,t,hd,e,y,ev⟩
    ·exact .inr (ev.symm.trans y)
   have st:∀(e:Int×Lk) (y:List Int),Dc prog w s.heap e y->Dc prog w (h1.update a (R3 es2 t2)) e y:=λe y q=>q.same ho hd hsb
   refine⟨es2,_,t2,order.toList.map λq=>L'.getD q [],hex,rfl,⟨⟨k',r2.trans pl1,r4,r5,r1,⟨k1,k2⟩,?_⟩,r7.trans es2s.symm,by rw[Lu,Ln,ol,es2s],λi e q=>?_,λi j e q1 q2=>?_⟩,?_,r3.trans (ld1.trans led)⟩
   ·rw[r7,c2];omega
   ·refine q1x2 (at2 i e q) λq' e1 e2=>?_;refine q1x2 (c6 q' e e2) λy e3 e4=>?_;refine⟨y,?_,st e y e4⟩;rw[LL,Li,e1,Wc,NF,e3];rfl
   ·refine q1x2 (at2 i e q2) λq' e1 e2=>?_;exact r8 i j q' e.1 q1 e1 (by rw[Array.getElem?_map,e2];rfl)
   ·refine RE ?_ pU;refine(r6.map _).trans ?_;rw[c2,<-c5];have:(Lw L'.length).map (λq=>L'.getD q [])=L':=by
     apply TZ
     ·simp
     ·intro i h1 h2;simp[NF,h2]
    rw[this]
  ·rw[show t1.tooFull=false by cases q:t1.tooFull;rfl;exact absurd q tf];simp only[T6,Ma,if_false];refine Le (Lf (Lf (h true _ _ hsb1 ho1 ?_ λv q=>?_)))
   rotate_left
   ·obtain⟨es',ep',t',hd',e,he,ev⟩:=q;cases hd';rcases em e he with y|y
    ·exact .inl ⟨es,ep,t,hd,e,y,ev⟩
    ·exact .inr (ev.symm.trans y)
   refine⟨es1,_,t1,L',hex,rfl,⟨⟨k,pl1,c4,c3,by rw[mk1];exact mk,T.k3,?_⟩,c1.trans c2.symm,c5.trans c2.symm,λi e q=>?_,c7⟩,pU,ld1.trans led⟩
   ·unfold SetTable.tooFull Uq at tf;rw[c4] at tf;simp at tf;exact tf
   ·refine q1x2 (c6 i e q) λy e1 e2=>?_;exact⟨y,e1,e2.same ho hd hsb1⟩
def BM (ho:s.heap.get? a=Z o)(hS:b9 prog w s.heap o U):s.TypeIs (.ref a) "set":=by
 refine q4x2 hS λ_ _ _ _ hex _=>?_;exact⟨o,ho,hex.1⟩
def EW (hu:A.in1.units<Qv)(ho:s.heap.get? a=Z o)(hS:b9 prog w s.heap o U)(hx:Nw (MM prog w) s.heap z x)(hroom:U.length+1<2048)
  (h:∀h' o' n,Nh a s.heap h'->h'.get? a=Z o'->b9 prog w h' o' (dz U z)->(∀v,iB o' v->iB o v\/v=.ref x)->Q .none {s with heap:=h',toks:=s.toks+n}) :
  Lp (LD prog w) A (call (.builtin "set.add") [.ref a,.ref x]) Q E s:=by
 refine MW F.slot_set_add (BM ho hS) F.entry_set_add ?_ (F.args_set_add_2 _ _);unfold O2.«set.add» WQ;simp only[isEmpty_nil,bind_assoc];unfold Xj setAdd;refine Le (Lf ?_)
 try dsimp only
 refine Le (Lf ?_)
 try dsimp only
 refine Le ?_;refine Mc ?_;refine Le (UV hu hx ?_);refine wx (s:={s with toks:=s.toks+(z.length+1)}) hu ho hS hx hroom λb h' o' hsb ho' hS' hm=>?_
 show Lp _ _ (ret MJ) _ _ _;exact Lf ⟨_,rfl,h h' o' _ hsb ho' hS' hm⟩
def EA (h:∀o,b9 prog w (s.heap.push o) o []->(∀v,¬iB o v)->Q (.ref s.heap.objs.size) {s with heap:=s.heap.push o}):Lp (LD prog w) A (YE (.type "set")) Q E s:=by
 unfold YE UT;refine Le (Le (NZ (Lf ?_)));dsimp only;simp only[newObj];exact Le (VU (Lf (h _ ⟨#[],0,_,[],⟨rfl,rfl,rfl⟩,rfl,⟨⟨3,rfl,rfl,.nil,rfl,by decide,(by decide:0*5<7*3)⟩,rfl,rfl,λi e q=>by simp at q,λi j e q=>by simp[WR] at q⟩,.refl _,rfl⟩ λv q=>by
  obtain⟨es,ep,t,e,x,hx,_⟩:=q;cases e;cases hx)))
end
end DL
namespace DL
open PySem PySem.Spec PyProof.Rows PySem.W L2 List
section
variable {prog:Mi}{w:My}{A:MX}{E:Lk->Lm->Prop}{s:Lm}
variable {a it:LA}{o:Obj}{es:Array (Int×Lk)}{ep i:Nat}{t:MA}{U:List (List Int)}
def iX (w:My)(a:LA)(ep:Nat)(es:Array (Int×Lk)):List Lk:=(if w.params.followText "set-order"=true then(QH (w.params.setOrder a ep) es).toList else es.toList).map (·.2)
def tJ (w:My)(a:LA)(ep:Nat)(es:Array (Int×Lk)):(iX w a ep es).Perm (es.toList.map (·.2)):=by
 unfold iX;split
 ·exact(mL _ _ _ _ (by simp):(QH (w.params.setOrder a ep) es).toList.Perm es.toList).map _
 ·exact .refl _
structure C6 (prog:Mi)(w:My)(A:MX)(s:Lm)(a:LA)(ord:List Lk)(h':Nu)(it:LA)(fp:List LA)(St:Nat->Nu->Prop):Prop where
 keep:∀b o,s.heap.get? b=Z o->h'.get? b=Z o
 new:s.heap.objs.size<=it
 walks:Walks prog w A it fp [it] ord.length (λi v=>ord[i]?=Z v) St
 st:St 0 h'
 fps:∀b∈fp,b=a\/s.heap.objs.size<=b
def B3 {k:Nat}(hh:A.handled=Y)(ho:s.heap.get? a=Z o)(hex:o.ExactSet)(hd:o.data=.set es ep t)(hf:t.fits es.size=true)(T:yb t k)(led:t.led=!w.params.followText "set-order")
  (h:∀h' it fp St,C6 prog w A s a (iX w a ep es) h' it fp St->Q (.ref it) {s with heap:=h'}):Lp (LD prog w) A (Rx (.ref a)) Q E s:=by
 have hT:s.TypeIs (.ref a) "set":=⟨o,ho,hex.1⟩;have hpl:t.place.size=es.size:=by
  unfold Up at hf;rw[LN,beq_iff_eq] at hf;exact hf.1
 refine Vg hT Wd (MW Wd hT oh ?_ (F.args_set_iter_1 _));unfold O2.«frozenset.__iter__»;refine Le (m:=Xv _ _) (Pr (a:=a) rfl ?_);unfold Xk;refine Le (Le (RH ho hd hf (Lf ?_)));unfold setDrawn UT;refine Le (Le (NT ho hd hf ?_));dsimp only;refine Le (Le (NZ (Lf (Lf ?_))));dsimp only;show Lp _ _ (if(!w.params.followText "set-order"&&(!t.plain&&decide (es.size>1)))=true then _ else _) _ _ s;have al:a<s.heap.objs.size:=Lq ho;rw[if_neg (by rw[T.plain];simp)];refine Le (Lf (Le (wpAny_setEpoch_of ho hd hf (Le (Nt (Lf ⟨_,rfl,"set_iterator",_,⟨_,LJ _ rfl,rfl⟩,cf.lookup,?_⟩))))));have ne:a≠s.heap.objs.size:=LR al;have plain:∀(St:Nat->Nu->Prop),Walks prog w A s.heap.objs.size [s.heap.objs.size,a] [s.heap.objs.size] (iX w a ep es).length (λi v=>(iX w a ep es)[i]?=Z v) St->
   St 0 (s.heap.push (zL (.int 0 0) 0 a es.size ep))->C6 prog w A s a (iX w a ep es) (s.heap.push (zL (.int 0 0) 0 a es.size ep)) s.heap.objs.size [s.heap.objs.size,a] St:=λSt h3 h4=>
  ⟨λb o e=>Lg _ e,Lr _,h3,h4,λb hb=>by
   simp only[L1,mem_nil_iff,or_false] at hb;rcases hb with z|z
   ·exact .inr (Nj z.symm)
   ·exact .inl z⟩
 by_cases hbt:w.params.followText "set-order"=true
 ·have oe:iX w a ep es=(QH (w.params.setOrder a ep) es).toList.map (·.2):=by unfold iX;rw[if_pos hbt]
  rw[oe] at plain h;have pp:(QH (w.params.setOrder a ep) es).toList.Perm es.toList:=mL _ _ _ _ (by simp);have lo:((QH (w.params.setOrder a ep) es).toList.map (·.2)).length=es.size:=by rw[Lu,pp.length_eq,Ln]
  refine h _ _ _ _ (plain (λi h=>h.get? s.heap.objs.size=Z (zL (.int (0:Nat) 0) i a es.size ep)/\h.get? a=Z o) ?_ ⟨LJ _ rfl,Lg _ ho⟩);refine⟨λb hb=>by rw[LK.mp hb];exact Lz,λ_ _ _ st hk=>⟨hk _ Lz _ st.1,hk _ (LH _ Lz) _ st.2⟩,λi s1 Q E hi st hQ=>?_,λs1 Q E st hQ=>?_,λ_ _ _ _ st hQ=>wu st.1 hQ⟩
  ·have hi':i<(QH (w.params.setOrder a ep) es).size:=by rw[<-Ln];rw[Lu] at hi;exact hi
   refine wk (x:=(QH (w.params.setOrder a ep) es)[i].2) (nx:=0) st.1 st.2 hd hf (λA E Q q=>Dy hbt st.2 hd hf (by rw[LS hi'];exact q)) λh' k1 k2=>hQ _ h' s1.toks ?_ ⟨k1,k2.extBut a o ne st.2⟩ λb o hb e=>k2.extBut b o (λz=>hb (by rw[z];exact Lz)) e
   rw[LL,Li,LS hi'];rfl
  ·rw[lo] at st;have hz:(QH (w.params.setOrder a ep) es).size=es.size:=by rw[<-Ln,pp.length_eq,Ln]
   exact zo hh st.1 st.2 hd hf (λA E Q q=>Dy hbt st.2 hd hf (by rw[OS (by omega)];exact q)) λh' k=>hQ h' s1.toks λb o hb e=>k b o (λz=>hb (by rw[z];exact Lz)) e
 ·have hbf:w.params.followText "set-order"=false:=by simpa using hbt
  have hled:t.led=true:=by rw[led,hbf];rfl
  have oe:iX w a ep es=es.toList.map (·.2):=by unfold iX;rw[if_neg hbt]
  rw[oe] at plain h;have up:=T.up;have bl:∀i,i<=es.size->MD t.place (if i=0 then 0 else t.place.getD (i-1) 0+1)=i:=λi hi=>by
   refine vC up ⟨by omega,λk x hk e=>?_,λk x hk e=>?_⟩
   ·have h0:i≠0:=by omega
    rw[if_neg h0];have e2:t.place[i-1]?=Z (t.place.getD (i-1) 0):=by
     rw[LS (by omega)];simp[Rj,show i-1<t.place.size by omega]
    by_cases z:k=i-1
    ·subst z;rw[e2] at e;cases e;omega
    ·have:=nA up (by omega) e e2;omega
   ·by_cases h0:i=0
    ·rw[if_pos h0];exact Ni _
    ·rw[if_neg h0];have e2:t.place[i-1]?=Z (t.place.getD (i-1) 0):=by
      rw[LS (by omega)];simp[Rj,show i-1<t.place.size by omega]
     exact nA up (by omega) e2 e
  have lo:(es.toList.map (·.2)).length=es.size:=by simp
  refine h _ _ _ _ (plain (λi h=>i<=es.size/\h.get? s.heap.objs.size=Z (zL (.int (if i=0 then 0 else t.place.getD (i-1) 0+1:Nat) 0) i a es.size ep)/\h.get? a=Z o) ?_ ⟨Ni _,LJ _ rfl,Lg _ ho⟩);refine⟨λb hb=>by rw[LK.mp hb];exact Lz,λ_ _ _ st hk=>⟨st.1,hk _ Lz _ st.2.1,hk _ (LH _ Lz) _ st.2.2⟩,λi s1 Q E hi st hQ=>?_,λs1 Q E st hQ=>?_,λ_ _ _ _ st hQ=>wu st.2.1 hQ⟩
  ·rw[lo] at hi;have e2:t.place[i]?=Z (t.place.getD i 0):=by
    rw[LS (by omega)];simp[Rj,show i<t.place.size by omega]
   refine wk (x:=es[i].2) (nx:=t.place.getD i 0+1) st.2.1 st.2.2 hd hf (λA E Q q=>Dk hbf (.inl T.plain) hled st.2.2 hd hf (bl i st.1) (by rw[LS hi,e2];exact q)) λh' k1 k2=>hQ _ h' s1.toks ?_ ⟨hi,?_,k2.extBut a o ne st.2.2⟩ λb o hb e=>k2.extBut b o (λz=>hb (by rw[z];exact Lz)) e
   ·rw[LL,Li,LS hi];rfl
   ·rw[if_neg (Nat.succ_ne_zero i)];exact k1
  ·rw[lo] at st;exact zo hh st.2.1 st.2.2 hd hf (λA E Q q=>Dk hbf (.inl T.plain) hled st.2.2 hd hf (bl es.size st.1) (by rw[OS (Lr _)];exact q)) λh' k=>hQ h' s1.toks λb o hb e=>k b o (λz=>hb (by rw[z];exact Lz)) e
def yy {k:Nat}{R:Sh->Lm->Prop}(hh:A.handled=Y)(ho:s.heap.get? a=Z o)(hex:o.ExactSet)(hd:o.data=.set es ep t)(hf:t.fits es.size=true)(T:yb t k)(led:t.led=!w.params.followText "set-order")(hU:es.size<=LW){S:LA}(hSa:S≠a)(res:Lk)(c₀:Nat)(hL:s.heap.get? S=Z {cls:=.type "list",data:=.seq #[] c₀})
  (hR:∀h' tk acc' c',(∀b o,b≠S->s.heap.get? b=Z o->h'.get? b=Z o)->h'.get? S=Z {cls:=.type "list",dict:=Y,data:=.seq acc' c',slots:=#[]}->acc'.toList=iX w a ep es->R (.ok (.ret res)) {s with heap:=h',toks:=tk}) :
  Lp (LD prog w) A.in1 (P4 (.ref S) (.ref a) res)
   (λfin s'=>match fin with | .done f=>R (.ok f) s' | .again c'=>c'.quiet=true/\Oq (LD prog w) A c' R s') (λe s'=>R (.error e) s') s:=by
 have hSl:S<s.heap.objs.size:=Lq hL;have al:a<s.heap.objs.size:=Lq ho;have ty:s.TypeIs (.ref a) "set":=⟨o,ho,hex.1⟩;unfold P4;refine Le (SO (T:="set") ty ?_);have h1:Sv (.ref S) (.ref a)=false:=by simp[Sv,hSa]
 simp only[h1,show(Px "set"==Px "list")=false by decide,show(Px "set"==Px "tuple")=false by decide,Bool.or_false,Ma,if_false];refine Le (B3 (A:=A.in1) hh ho hex hd hf T led λh2 it fp St W=>?_);have hSf:S∉fp:=λz=>by
  rcases W.fps S z with q|q
  ·exact hSa q
  ·exact absurd hSl (YF.mpr q)
 have hn:(iX w a ep es).length<=LW:=by rw[(tJ w a ep es).length_eq,Lu,Ln];exact hU
 have key:∀(h:Nu) (c₁ tk:Nat),St 0 h->(∀b o,b≠S->s.heap.get? b=Z o->h.get? b=Z o)->
   h.get? S=Z {cls:=.type "list",data:=.seq #[] c₁}->Oq (LD prog w) A (.builtin "list.extend.loop" ⟨[.ref S,.ref it,res],[]⟩) R {s with heap:=h,toks:=tk}:=by
  intro h c₁ tk hst hk hS₁;refine codeAny_extend_loopS W.walks.toS hn S hSf res (iX w a ep es).length 0 _ #[] c₁ rfl (Ni _) hst hS₁ (ItemsOf.nil _) λs' acc' c' hm hS' hacc=>?_
  rw[Moved.eq_with hm];refine hR s'.heap s'.toks acc' c' (λb o hb e=>hm.heap b o (λhmem=>?_) (hk b o hb e)) hS' (yi hacc);rcases L1.mp hmem with e'|hmem
  ·exact hb e'
  ·exact absurd (Lq e) (by rw[LK.mp hmem];exact YF.mpr W.new)
 have hS₁:=W.keep _ _ hL;refine Le (Mc (Ax (s:={s with heap:=h2}) ⟨o,W.keep _ _ ho,hex.1⟩ ?_));refine PQ (λ_=>?_) (λ_=>Lf ⟨NM PySem.F.plain_extend_loop _,key _ c₀ _ W.st (λb o _ e=>W.keep b o e) hS₁⟩);refine Le (Oy ?_);refine Le ?_;show Lp _ _ (SD S (·.push .none) >>= λ_=>SD S (·.pop)) _ _ _;refine Le (OH hS₁ rfl ?_);have hS₂:=O3 (MK (·.push MJ)) hS₁ rfl;refine OH (hz:=by seq_fits) hS₂ rfl ?_;have hS₃:=O3 (MK (·.pop)) hS₂ rfl;refine Lf ⟨NM PySem.F.plain_extend_loop _,key _ _ _ ?_ (λb o hb e=>?_) hS₃⟩
 ·refine W.walks.frame 0 _ _ W.st λb hb o e=>?_
  have hbS:b≠S:=λh=>hSf (h▸hb)
  exact(Mz _ _ (NL hbS)).trans ((Mz _ _ (NL hbS)).trans e)
 ·exact(Mz _ _ (NL hb)).trans ((Mz _ _ (NL hb)).trans (W.keep b o e))
def vN {k:Nat}{R:List Lk->Lm->Prop}(hh:A.handled=Y)(ho:s.heap.get? a=Z o)(hex:o.ExactSet)(hd:o.data=.set es ep t)(hf:t.fits es.size=true)(T:yb t k)(led:t.led=!w.params.followText "set-order")(hU:es.size<=LW)
  (h:∀h' tk,(∀b o,s.heap.get? b=Z o->h'.get? b=Z o)->s.heap.objs.size<=h'.objs.size->R (iX w a ep es) {s with heap:=h',toks:=tk}) :
  Lp (LD prog w) A (XN (.ref a)) R E s:=by
 unfold XN;refine Le (WS (Nz entry_proto_collect' ?_));rw[MV PySem.F.plain_proto_collect _];show Lp _ A.in1 (YL [] >>= λl=>S4 (.builtin "list.__iadd__" ⟨[l,.ref a],[]⟩)) _ _ s;refine Le (Nt ?_);refine Lf ⟨NM PySem.F.plain_list_iadd _,Nz entry_list_iadd' ?_⟩;rw[MV PySem.F.plain_list_iadd _];have hS₁:(s.heap.push {cls:=.type "list",data:=.seq ([]:List Lk).toArray}).get? s.heap.objs.size=Z {cls:=.type "list",data:=.seq #[]}:=LJ _ rfl;show Lp _ A.in1 (P4 (.ref s.heap.objs.size) (.ref a) (.ref s.heap.objs.size)) _ _ _;have key:=yy (prog:=prog) (A:=A) (s:={s with heap:=s.heap.push {cls:=.type "list",data:=.seq ([]:List Lk).toArray}})
  (R:=λ(q:Sh) (s':Lm)=>∃(h':Nu) (tk:Nat) (acc':Array Lk) (c':Nat),q=.ok (.ret (.ref s.heap.objs.size))/\s'={s with heap:=h',toks:=tk}/\
   (∀b o,s.heap.get? b=Z o->h'.get? b=Z o)/\h'.get? s.heap.objs.size=Z {cls:=.type "list",dict:=Y,data:=.seq acc' c',slots:=#[]}/\acc'.toList=iX w a ep es)
  hh (Lg _ ho) hex hd hf T led hU (S:=s.heap.objs.size) (Oa (Lq ho)) (.ref s.heap.objs.size) 0 hS₁
  (λh' tk acc' c' hk hS' hi=>⟨h',tk,acc',c',rfl,rfl,λb o e=>hk b o (LR (Lq e)) (Lg _ e),hS',hi⟩)
 refine MY key (λfin s' x=>?_) λe s' x=>?_
 ·cases fin with
  | done f=>
   refine q4x5 x λh' tk acc' c' e zz5 hk hS' hi=>?_;subst zz5;cases e;show Lp _ A (load s.heap.objs.size >>= _) _ _ _;refine Le (Wo hS' (Lf ?_));rw[hi];exact h h' tk hk (Np (Lq hS'))
  | again c₁=>
   refine⟨x.1,Py x.2 λq s₂ y=>?_⟩;refine q4x5 y λh' tk acc' c' zz4 zz5 hk hS' hi=>?_;subst zz4;subst zz5;show Lp _ A (load s.heap.objs.size >>= _) _ _ _;refine Le (Wo hS' (Lf ?_));rw[hi];exact h h' tk hk (Np (Lq hS'))
 ·refine q4x2 x λ_ _ _ _ e' _=>?_;cases e'
end
end DL
namespace DL
open PySem PySem.Spec PyProof.Rows L2 List
def ko (t:jx)(sg:GG)(gc:GT)(ge:GE):List D->fO->aF->aQ (List D)
 | [],_,M=>if t.ok M then .ok [] M else .bad
 | d::r,ρ,M=>if t.ok M then
   match sg d ρ with
   | none=>.bad
   | some ρ1=>match gc ρ1 M with
    | .ok true M1=>match ge ρ1 M1 with
     | .ok e M2=>(ko t sg gc ge r ρ1 M2).bind λes M3=>.ok (e::es) M3
     | _=>.bad
    | .ok false M1=>ko t sg gc ge r ρ1 M1
    | _=>.bad
  else .bad
def aY (t:jx)(n:Nat)(sg:GG)(gc:GT)(gb:fO->aF->aQ (List D)):List D->fO->aF->aQ (List D)
 | [],_,M=>if t.ok M then .ok [] M else .bad
 | d::r,ρ,M=>if t.ok M then
   match sg d (Ms n Y++ρ) with
   | none=>.bad
   | some ρ1=>match gc ρ1 M with
    | .ok true M1=>match gb ρ1 M1 with
     | .ok e M2=>(aY t n sg gc gb r ρ M2).bind λes M3=>.ok (e++es) M3
     | _=>.bad
    | .ok false M1=>aY t n sg gc gb r ρ M1
    | _=>.bad
  else .bad
def rV (gi:GI)(sg:GG)(gc:GT)(ge:GE):fO->aF->aQ (List D):=λρ M=>match gi ρ M with
 | .ok t M1=>ko t sg gc ge t.ds ρ M1
 | _=>.bad
def yN {K:LX}(a:ρ1.length=(Ms n Y++ρ).length)(b:∀j,n<=j->ρ1[j]?=(Ms n Y++ρ)[j]?)(h:fY K θ H τ ρ1):fY K θ H τ (Ms n Y++ρ):=by
 refine⟨by rw[<-a];exact h.len,λi d' q=>?_⟩
 by_cases hi:i<n
 ·rw[LY (by rw[Vr];exact hi),UB,if_pos hi] at q;cases q
 ·rw[<-b i (by omega)] at q;exact h.at_ i d' q
section
variable {X:Cx}{scope:PY}{xs:List Str}{tg tg2:MT}{sg sg2:GG}{R:List Str}{elt Ng iter2:MT}{ifs ifs2:List MT}{pos:Pos}{gi gi2:GI}{gc gc2:GT}{ge:GE}
theorem jU {t:jx}:∀(ds:List D) (M:aF),aY t n sg gc gb ds ρ M=.err c M'->False
 | [],M,h=>by
  unfold aY at h;split at h <;> cases h
 | d::r,M,h=>by
  unfold aY at h;split at h
  ·split at h
   ·cases h
   ·split at h
    ·rename_i M1 q1;split at h
     ·rename_i e M2 q2;cases q:aY t n sg gc gb r ρ M2 with
      | ok es M3=>rw[q] at h;cases h
      | err c2 M3=>exact jU r M2 q
      | bad=>rw[q] at h;cases h
     ·cases h
    ·rename_i M1 q1;exact jU r M1 h
    ·cases h
  ·cases h
end
end DL
namespace DL
open PySem PySem.Spec PyProof.Rows PySem.W L2 List
theorem nS:∀{z:List Int} {its:List Lk},aS (z.map V.int) its->ItemsAre (MM p w) z its
 | [],_,r=>by rw[Wi] at r;cases r;exact .nil
 | n::z,_,r=>by
  rw[Nf] at r;cases r with
  | cons h t=>
   refine q1x1 ((show∃t,_=RM n t from h)) λtk zz1=>?_;subst zz1;exact .cons (intKind_is _ _ _ _) (nS t)
def j6 (k:jt p w H h)(e:H b=Z (.tup (z.map V.int))):Nw (MM p w) h z b:=by
 obtain⟨_,its,r,o,ho,hc,n,hd⟩:=(show cP p w H h b (.tup (z.map V.int)) from k b _ e);exact⟨o,its.toArray,n,ho,hc,hd,nS r⟩
def uQ (K:LX)(θ:List LA)(H:Hp)(o:Obj):Prop:=∀v,iB o v->∃(b:LA) (z:List Int),v=.ref b/\z≠[]/\gJ K θ H b (z.map V.int)
def gJ.gr {K:LX}(g:Grow θ H θ' H')(t:gJ K θ H b vs):gJ K θ' H' b vs:=⟨g.keep b _ t.1 t.2 (λps z=>by cases z),g.notin t.1 t.2⟩
def uQ.gr {K:LX}(g:Grow θ H θ' H')(a:uQ K θ H o):uQ K θ' H' o:=λv hv=>by
 refine q2x3 (a v hv) λb z e n t=>?_;exact⟨b,z,e,n,t.gr g⟩
def iZ {K:LX}{U:List (List Int)}(S:b9 p w h o U)(a:uQ K θ H o)(k:jt p w H h)(k':jt p w H' h')(g:Grow θ H θ' H'):b9 p w h' o U:=by
 refine q4x5 S λes ep t L hex hd I hL led=>?_;refine⟨es,ep,t,L,hex,hd,⟨I.tab,I.sz,I.len,λi e q=>?_,I.way⟩,hL,led⟩;obtain⟨z,e1,b,e2,e3,e4⟩:=I.el i e q;refine q2x3 (a e.2 ⟨es,ep,t,hd,e,by rw[<-Li] at q;exact LU q,rfl⟩) λb' z' e5 _ tb=>?_;rw[e2] at e5;cases e5;have ez:z=z':=e3.inj (j6 k tb.1);subst ez;exact⟨z,e1,b,e2,j6 k' (tb.gr g).1,e4⟩
theorem lU:∀{a b:List D} {z:List (List Int)},bO (a++b)=Z z->∃z1 z2,bO a=Z z1/\bO b=Z z2/\z=z1++z2
 | [],b,z,h=>⟨[],z,rfl,h,rfl⟩
 | d::a,b,z,h=>by
  rw[TJ] at h;simp only[bO] at h ⊢;split at h
  ·rename_i i zz zs q1 q2;cases h;refine q2x3 (lU q2) λz1 z2 e1 e2 zz4=>?_;subst zz4;exact⟨(i::zz)::z1,z2,by rw[q1,e1],e2,rfl⟩
  ·cases h
def iO (h:bO (d::r)=Z z):∃i y zr,fG d=Z (i::y)/\bO r=Z zr/\z=(i::y)::zr:=by
 simp only[bO] at h;split at h
 ·rename_i i zz zs q1 q2;cases h;exact⟨i,zz,zs,q1,q2,rfl⟩
 ·cases h
theorem qD:∀{a:List D} {d:D} {z1:List (List Int)} {i:Int} {y:List Int},bO a=Z z1->fG d=Z (i::y)->bO (a++[d])=Z (z1++[i::y])
 | [],d,z1,i,y,h,e=>by
  cases h;rw[nil_append];simp only[bO];rw[e];rfl
 | b::a,d,z1,i,y,h,e=>by
  refine q3x3 (iO h) λj x zr e1 e2 zz5=>?_;subst zz5;rw[TJ];simp only[bO];rw[e1,qD e2 e];rfl
theorem qj:∀{a b:List D} {z1 z2:List (List Int)},bO a=Z z1->bO b=Z z2->bO (a++b)=Z (z1++z2)
 | [],b,z1,z2,h,e=>by cases h;exact e
 | d::a,b,z1,z2,h,e=>by
  refine q3x3 (iO h) λj x zr e1 e2 zz5=>?_;subst zz5;rw[TJ];simp only[bO];rw[e1,qj e2 e];rfl
theorem jM:∀{a:List D} {z:List (List Int)},bO a=Z z->z.length=a.length
 | [],z,h=>by cases h;rfl
 | d::a,z,h=>by
  refine q3x3 (iO h) λj x zr e1 e2 zz5=>?_;subst zz5;rw[Mm,Mm,jM e2]
def zp (U:List (List Int))(z:List Int):(dz U z).length<=U.length+1:=by
 unfold dz;split
 ·omega
 ·simp
theorem iU:∀(zs U:List (List Int)),(zs.foldl dz U).length<=U.length+zs.length
 | [],U=>Lr _
 | z::zs,U=>by
  have:=iU zs (dz U z);have:=zp U z;rw[Vn,Mm];omega
def ql {U:List (List Int)}(S:b9 p w h ob U)(v:Option Lk):ob.data≠.cell v:=λz=>by
 refine q4x3 S λ_ _ _ _ _ hd _=>?_;rw[hd] at z;cases z
section
variable {prog:Mi}{w:My}{A:MX}{R:Sh->Lm->Prop}{s:Lm}
theorem eP {cond:Sem Bool}
  (heq:Vk (.SetComp elt gens scope pos) dp it acc env=(P1 p >>= λ_=>O5 it >>= λr=>match r with
   | none=>pure (.done .next)
   | some v=>Om target it v >>= λ_=>Qh target env v >>= λ_=>cond >>= λok=>
    if ok=true then(act >>= λ_=>S4 (.compLoop (.SetComp elt gens scope pos) dp it acc env)) else S4 (.compLoop (.SetComp elt gens scope pos) dp it acc env))) (I:Nat->Lm->Prop)
  (turn:∀n s,I n s->Lp (LD prog w) A (O5 it) (λr s₁=>match r with
   | none=>R (.ok .next) s₁
   | some v=>Lp (LD prog w) A (Om target it v) (λ_ s₂=>Lp (LD prog w) A (Qh target env v) (λ_ s₃=>Lp (LD prog w) A cond (λok s₄=>if ok=true then
     Lp (LD prog w) A act (λ_ s₅=>∃m,m<n/\I m s₅) (λ_ _=>False) s₄
     else∃m,m<n/\I m s₄) (λ_ _=>False) s₃) (λ_ _=>False) s₂) (λ_ _=>False) s₁) (λ_ _=>False) s)
  (n:Nat) (h:I n s):Oq (LD prog w) A (.compLoop (.SetComp elt gens scope pos) dp it acc env) R s:=by
 refine codeAny_loop rfl I (λn s hI=>?_) n h;show Lp _ _ ((Vk (.SetComp elt gens scope pos) dp it acc env).onRaise (λx=>do Xw x env;theTreesLotGoes x)) _ _ s;refine wpAny_noted ?_;rw[heq];refine Le (Pg (Le (MY (turn n s hI) (λr s₁ h₁=>?_) λ_ _ z=>z.elim)));cases r with
 | none=>exact Lf h₁
 | some v=>
  refine Le (MY h₁ (λ_ s₂ h₂=>?_) λ_ _ z=>z.elim);refine Le (MY h₂ (λ_ s₃ h₃=>?_) λ_ _ z=>z.elim);refine Le (MY h₃ (λok s₄ h₄=>?_) λ_ _ z=>z.elim);cases ok with
  | true=>
   rw[if_pos rfl] at h₄;rw[if_pos rfl];exact Le (MY h₄ (λx s₅ h₅=>Lf ⟨rfl,h₅⟩) λ_ _ z=>z.elim)
  | false=>
   rw[if_neg Ly] at h₄;rw[if_neg Ly];exact Lf ⟨rfl,h₄⟩
def km {g1 g2:Ur}(ha:g2.is_async=0)
  (h0:Oq (LD prog w) A (.compLoop (.SetComp elt [g1,g2] scope pos) 1 it acc env) R s)
  (h:Lp (LD prog w) A (Rx it) (λit' s'=>Oq (LD prog w) A (.compLoop (.SetComp elt [g1,g2] scope pos) 1 it' acc env) R s')
   (notedBy (LD prog w) A env λx s'=>R (.error x) s') s):Oq (LD prog w) A (.compStart (.SetComp elt [g1,g2] scope pos) 1 it acc env) R s:=by
 obtain⟨t2,i2,f2,a2⟩:=g2;have ha:a2=0:=ha;subst ha;refine RF ?_;show Lp _ _ ((VE (.SetComp elt [g1,⟨t2,i2,f2,0⟩] scope pos) 1 it acc env).onRaise (λx=>do Xw x env;P1 We)) _ _ s;refine Xl ?_;unfold VE;show Lp _ _ (ask >>= _) _ _ s;refine Le (NZ (wpAny_ite ?_));split
 ·first
   | exact Le (Lf (Lf (SJ rfl h0)))
   | exact Lf (SJ rfl h0)
 ·refine Le (Oy ?_);show Lp _ _ (P1 i2.pos >>= _) _ _ s;exact Le (Pg (Le (MY h (λit' s' h'=>Lf (SJ rfl h')) λ_ _ x=>x)))
def ku {g1 g2:Ur}(ha:g1.is_async=0)
  (h0:Oq (LD prog w) A (.compLoop (.SetComp elt [g1,g2] scope pos) 0 it acc env) R s)
  (h:Lp (LD prog w) A (Rx it) (λit' s'=>Oq (LD prog w) A (.compLoop (.SetComp elt [g1,g2] scope pos) 0 it' acc env) R s')
   (notedBy (LD prog w) A env λx s'=>R (.error x) s') s):Oq (LD prog w) A (.compStart (.SetComp elt [g1,g2] scope pos) 0 it acc env) R s:=by
 obtain⟨t1,i1,f1,a1⟩:=g1;have ha:a1=0:=ha;subst ha;refine RF ?_;show Lp _ _ ((VE (.SetComp elt [⟨t1,i1,f1,0⟩,g2] scope pos) 0 it acc env).onRaise (λx=>do Xw x env;P1 We)) _ _ s;refine Xl ?_;unfold VE;show Lp _ _ (ask >>= _) _ _ s;refine Le (NZ (wpAny_ite ?_));split
 ·first
   | exact Le (Lf (Lf (SJ rfl h0)))
   | exact Lf (SJ rfl h0)
 ·refine Le (Oy ?_);show Lp _ _ (P1 i1.pos >>= _) _ _ s;exact Le (Pg (Le (MY h (λit' s' h'=>Lf (SJ rfl h')) λ_ _ x=>x)))
end
def rp (elt target Ng:MT)(g1:Ur)(ifs:List MT)(scope:PY)(pos:Pos)(it acc:Lk)(env:Env)(cond:Sem Bool)
  (hc:(forIn (m:=Sem) ifs true λc r=>if r=true then do let ok <-SM c env (Ou c env);pure (L6 ok) else pure (L6 r))=cond) :
  Vk (.SetComp elt [g1,⟨target,Ng,ifs,0⟩] scope pos) 1 it acc env=(P1 Ng.pos >>= λ_=>O5 it >>= λr=>match r with
   | none=>pure (.done .next)
   | some v=>Om target it v >>= λ_=>Qh target env v >>= λ_=>cond >>= λok=>
    if ok=true then((Ou elt env >>= λv=>P1 elt.pos >>= λ_=>call (.builtin "set.add") [acc,v] >>= λ_=>pure ()) >>= λ_=>
     S4 (.compLoop (.SetComp elt [g1,⟨target,Ng,ifs,0⟩] scope pos) 1 it acc env)) else S4 (.compLoop (.SetComp elt [g1,⟨target,Ng,ifs,0⟩] scope pos) 1 it acc env)):=by
 subst hc;rfl
def ph (elt target Ng tg2 iter2:MT)(ifs ifs2:List MT)(scope:PY)(pos:Pos)(it acc:Lk)(env:Env)(cond:Sem Bool)
  (hc:(forIn (m:=Sem) ifs true λc r=>if r=true then do let ok <-SM c env (Ou c env);pure (L6 ok) else pure (L6 r))=cond) :
  Vk (.SetComp elt [⟨target,Ng,ifs,0⟩,⟨tg2,iter2,ifs2,0⟩] scope pos) 0 it acc env=(P1 Ng.pos >>= λ_=>O5 it >>= λr=>match r with
   | none=>pure (.done .next)
   | some v=>Om target it v >>= λ_=>Qh target env v >>= λ_=>cond >>= λok=>
    if ok=true then(Ou iter2 env >>= λx=>P1 iter2.pos >>= λ_=>Mj iter2 env x >>= λx=>PZ [x] (Rx x) >>= λit2=>runOwn (.compStart (.SetComp elt [⟨target,Ng,ifs,0⟩,⟨tg2,iter2,ifs2,0⟩] scope pos) 1 it2 acc env) env >>= λ_=>
     S4 (.compLoop (.SetComp elt [⟨target,Ng,ifs,0⟩,⟨tg2,iter2,ifs2,0⟩] scope pos) 0 it acc env)) else S4 (.compLoop (.SetComp elt [⟨target,Ng,ifs,0⟩,⟨tg2,iter2,ifs2,0⟩] scope pos) 0 it acc env)):=by
 subst hc;rfl
def pH (elt target Ng tg2 iter2:MT)(ifs ifs2:List MT)(scope:PY)(pos:Pos)(it acc:Lk)(env:Env)(cond:Sem Bool)
  (hc:(forIn (m:=Sem) ifs true λc r=>if r=true then do let ok <-SM c env (Ou c env);pure (L6 ok) else pure (L6 r))=cond) :
  Vk (.SetComp elt [⟨target,Ng,ifs,0⟩,⟨tg2,iter2,ifs2,0⟩] scope pos) 0 it acc env=(P1 Ng.pos >>= λ_=>O5 it >>= λr=>match r with
   | none=>pure (.done .next)
   | some v=>Om target it v >>= λ_=>Qh target env v >>= λ_=>cond >>= λok=>
    if ok=true then((Ou iter2 env >>= λx=>P1 iter2.pos >>= λ_=>Mj iter2 env x >>= λx=>PZ [x] (Rx x) >>= λit2=>runOwn (.compStart (.SetComp elt [⟨target,Ng,ifs,0⟩,⟨tg2,iter2,ifs2,0⟩] scope pos) 1 it2 acc env) env >>= λ_=>pure ()) >>= λ_=>
     S4 (.compLoop (.SetComp elt [⟨target,Ng,ifs,0⟩,⟨tg2,iter2,ifs2,0⟩] scope pos) 0 it acc env)) else S4 (.compLoop (.SetComp elt [⟨target,Ng,ifs,0⟩,⟨tg2,iter2,ifs2,0⟩] scope pos) 0 it acc env)):=by
 rw[ph _ _ _ _ _ _ _ _ _ _ _ _ _ hc];simp only[bind_assoc,pure_bind]
section
variable {X:Cx}{scope:PY}{xs R:List Str}{f0:List LA}{s0:Lm}{H0:Hp}{C:LA}
inductive Ki (Yc:Cx) (P0:List (LA×Obj)) (acc:LA) (U0:List (List Int)) (fp:List LA) (tn:Nat->Nu->Prop) (t:jx) (nn:Nat) (ρ:fO) (θ:List LA) (H:Hp) (es:List D) (go:List D->fO->aF->aQ (List D)) (Mend:aF) (n:Nat) (s':Lm):Prop
 | mk (i:Nat) (τ:L2.St) (H':Hp) (θ':List LA) (M':aF) (ρ':fO) (ds rest:List D) (zs:List (List Int)) (ob:Obj) (e1:n=t.ds.length-i) (e2:i<=t.ds.length)
   (e3:L2.Inv Yc ((acc,ob)::P0) τ H' s') (e4:fY Yc.K θ' H' τ ρ') (e5:tn i s'.heap) (e6:∀b∈fp,H' b=Y) (e7:Go Yc.K θ H θ' H' M') (e8:bO ds=Z zs) (e9:b9 Yc.prog Yc.w s'.heap ob (zs.foldl dz U0)) (e9':uQ Yc.K θ' H' ob) (e10:go (t.ds.drop i) ρ' M'=.ok rest Mend) (e11:ds++rest=es) (e12:ρ'.length=ρ.length/\∀j,nn<=j->ρ'[j]?=ρ[j]?)
def zE {t:jx}{Ng:MT}
  (hc:X.calm=true) (I:L2.Inv (ah X scope xs R f0 s0 H0 C) ((acc,ob0)::P0) τ H s) (T:oq X.prog X.w X.K tg J fp it tn) (st:tn 0 s.heap) (f:∀b∈fp,df (ah X scope xs R f0 s0 H0 C) ((acc,ob0)::P0) H b)
  (hw:Wr X.K θ H M) (hd:fY X.K θ H τ ρ) (hJ:sB X.K J θ H t) (hgo:ko t sg gc ge t.ds ρ M=.ok es Mend) (hze:bO es=Z ze) (hlen:U0.length+es.length<2047) (hS0:b9 X.prog X.w s.heap ob0 U0) (hA0:uQ X.K θ H ob0) (hu:X.A.in1.units<Qv)
  (hcd:∃cond,(forIn (m:=Sem) ifs true λc r=>if r=true then do let ok <-SM c (ah X scope xs R f0 s0 H0 C).env (Ou c (ah X scope xs R f0 s0 H0 C).env);pure (L6 ok) else pure (L6 r))=cond/\
   ∀(af:List (LA×Obj)) (s:Lm) (σ:L2.St) (H:Hp) (Q:Bool->Hp->Prop),L2.Inv (ah X scope xs R f0 s0 H0 C) af σ H s->tT (ah X scope xs R f0 s0 H0 C) gc σ H Q->Lp (LD X.prog X.w) X.A cond (TP (ah X scope xs R f0 s0 H0 C) af σ Q) (λ_ _=>False) s)
  (own:jB nn sg) (hg:PG (ah X scope xs R f0 s0 H0 C) tg (tG (ah X scope xs R f0 s0 H0 C) sg)) (he:PE (ah X scope xs R f0 s0 H0 C) elt (tE (ah X scope xs R f0 s0 H0 C) ge))
  (a1:acc≠C) (a2:acc∉(ah X scope xs R f0 s0 H0 C).fs) (a3:s0.heap.objs.size<=acc) (a4:∀x c,(ah X scope xs R f0 s0 H0 C).env.cells.lookup x=Z c->c≠acc) (a5:∀p∈P0,p.1≠acc)
  (fin:∀τ' H' s' θ' ρ' ob,L2.Inv (ah X scope xs R f0 s0 H0 C) ((acc,ob)::P0) τ' H' s'->fY X.K θ' H' τ' ρ'->(ρ'.length=ρ.length/\∀j,nn<=j->ρ'[j]?=ρ[j]?)->Go X.K θ H θ' H' Mend->b9 X.prog X.w s'.heap ob (ze.foldl dz U0)->uQ X.K θ' H' ob->RR (.ok .next) s') :
  Oq (LD X.prog X.w) X.A (.compLoop (.SetComp elt [g1,⟨tg,Ng,ifs,0⟩] scope pos) 1 (.ref it) (.ref acc) (ah X scope xs R f0 s0 H0 C).env) RR s:=by
 refine q1x2 hcd λcond hcond hct=>?_;have fpY:∀{H':Hp} {o:Obj},(∀b∈fp,H' b=Y)->∀b∈fp,df (ah X scope xs R f0 s0 H0 C) ((acc,o)::P0) H' b:=λ{H' o} hn b hb=>by
  refine q0x6 (f b hb) λ_ q1 q2 q3 q4 q5=>?_;refine⟨hn b hb,q1,q2,q3,q4,λp hp=>?_⟩;have hp:p∈(acc,o)::P0:=hp;rcases L1.mp hp with rfl|hp
  ·exact q5 (acc,ob0) (show _∈(acc,ob0)::P0 from Lz)
  ·exact q5 p (show _∈(acc,ob0)::P0 from LH _ hp)
 have nea:∀b∈fp,b≠acc:=λb hb z=>(f b hb).2.2.2.2.2 (acc,ob0) (show _∈(acc,ob0)::P0 from Lz) z.symm
 refine eP (rp _ _ _ _ _ _ _ _ _ _ _ hcond) (Ki (ah X scope xs R f0 s0 H0 C) P0 acc U0 fp tn t nn ρ θ H es (λl r N=>ko t sg gc ge l r N) Mend) ?_ t.ds.length
  ⟨0,_,H,θ,M,ρ,[],es,[],ob0,rfl,Ni _,I,hd,st,λb hb=>(f b hb).1,.refl hw,rfl,hS0,hA0,hgo,rfl,rfl,λ_ _=>rfl⟩
 rintro n s' ⟨i,τ',H',θ',M',ρ',ds,rest,zs,ob,rfl,hil,I',dn',st',fr',g',hz',hS',hA',hrest,hes,hag⟩;have hok:t.ok M'=true:=by
  cases hq:t.ok M' with
  | true=>rfl
  | false=>
   exfalso;cases hdr:t.ds.drop i with
   | nil=>rw[hdr,ko,if_neg (by rw[hq];exact Ly)] at hrest;cases hrest
   | cons d r=>rw[hdr,ko,if_neg (by rw[hq];exact Ly)] at hrest;cases hrest
 refine q0x2 (hJ θ' H' M' g' hok i) λhy hst=>?_
 by_cases hlt:i<t.ds.length
 ·have e1:t.ds[i]?=Z t.ds[i]:=Lh hlt;refine q0x2 (hy _ e1) λhgo' hyl=>?_;rw[N7 hlt,ko,if_pos hok] at hrest;refine bR (T.item (ah X scope xs R f0 s0 H0 C) rfl rfl rfl hc i _ s' _ H' _ I' (fpY fr') st' hgo') λr s4 hxx=>?_
  refine q1x2 hxx λu hr h4=>?_;subst hr;refine bR h4 λ_ s5 hxx=>?_
  refine q2x5 hxx λv H5 I5 r5 y5 st5 fr5=>?_;refine q0x2 (hyl v H5 y5) λgy rx=>?_;have I5':=I5.pinned (fpY fr5) (T.obj _ _ st5);cases qs:sg t.ds[i] ρ' with
  | none=>rw[qs] at hrest;cases hrest
  | some ρ1=>
  rw[qs] at hrest;dsimp only at hrest;refine q0x2 (own _ _ _ qs) λo1 o2=>?_;have hag1:ρ1.length=ρ.length/\∀j,nn<=j->ρ1[j]?=ρ[j]?:=⟨o1.trans hag.1,λj hj=>(o2 j hj).trans (hag.2 j hj)⟩;refine bR (hg _ s5 _ H5 v u (λσ6 H6=>fY X.K θ' H6 σ6 ρ1/\H6=H5) I5' r5 ⟨_,θ',M',t.ds[i],dn'.go gy,gy.wr,rx,ρ1,qs,λσ6 d6=>⟨d6,rfl⟩⟩) λ_ s6 hxx=>?_
  refine q2x3 hxx λσ6 H6 I6 hdY eH6=>?_;subst eH6;cases qc:gc ρ1 M' with
  | bad=>rw[qc] at hrest;cases hrest
  | err c Mx=>rw[qc] at hrest;cases hrest
  | ok b Mb=>
   refine bR (hct _ s6 _ H6 (λb' H7=>b'=b/\∃θ7,Go X.K θ' H6 θ7 H7 Mb) I6 ⟨_,θ',M',hdY,gy.wr,?_⟩) λok s7 ⟨H7,I7,eb,θ7,g7⟩=>?_
   ·rw[qc];exact λθ7 H7 g7=>⟨rfl,θ7,g7⟩
   subst eb;have fpk:∀{s8:Lm} {σ8:L2.St} {H8:Hp},L2.Inv (ah X scope xs R f0 s0 H0 C) ((acc,ob)::P0++hO fp s5.heap) σ8 H8 s8->(∀b∈fp,H8 b=Y)/\(∀b∈fp,∀o,s5.heap.get? b=Z o->s8.heap.get? b=Z o)/\s8.heap.get? acc=Z (ob)/\H8 acc=Y:=λ{s8 σ8 H8} I8=>by
    have pa:=I8.pin (acc,ob) (Lo _ (Ml _ Lz));refine⟨λb hb=>?_,λb hb o e=>(I8.pin (b,o) (Lo _ (Lo _ (bL hb e)))).1,pa.1,pa.2.1⟩;refine q1x2 (T.obj _ _ st5 b hb) λo e d=>?_;exact(I8.pin (b,o) (Lo _ (Lo _ (bL hb e)))).2.1
   cases ok with
   | false=>
    rw[if_neg Ly];rw[qc] at hrest;refine q0x4 (fpk I7) λk1 k2 k3 k4=>?_;exact⟨t.ds.length-(i+1),by omega,i+1,σ6,H7,θ7,Mb,ρ1,ds,rest,zs,ob,rfl,hlt,I7.unpinned,hdY.go g7,T.keep _ _ _ st5 k2,k1,g'.trans (gy.trans g7),hz',iZ hS' hA' I'.hok I7.hok (gy.trans g7).toGrow,hA'.gr (gy.trans g7).toGrow,hrest,hes,hag1⟩
   | true=>
    rw[if_pos rfl];rw[qc] at hrest;have hrest:(match ge ρ1 Mb with
     | .ok e M2=>(ko t sg gc ge (t.ds.drop (i+1)) ρ1 M2).bind λes M3=>.ok (e::es) M3
     | _=>.bad)=aQ.ok rest Mend:=hrest
    cases qe:ge ρ1 Mb with
    | bad=>rw[qe] at hrest;cases hrest
    | err c Mx=>rw[qe] at hrest;cases hrest
    | ok dv Mv=>
     rw[qe] at hrest;have hrest:((ko t sg gc ge (t.ds.drop (i+1)) ρ1 Mv).bind λes M3=>aQ.ok (dv::es) M3)=aQ.ok rest Mend:=hrest;refine Le (bR (he _ s7 _ H7 (λw H8=>∃θ8,Go X.K θ7 H7 θ8 H8 Mv/\dj X.K θ8 H8 dv w) I7 ⟨_,θ7,Mb,hdY.go g7,g7.wr,?_⟩) λuv s8 ⟨w,H8,I8,rw8,θ8,g8,rd8⟩=>?_)
     ·rw[qe];exact λw θ8 H8 g8 rd8=>⟨θ8,g8,rd8⟩
     refine q0x4 (fpk I8) λk1 k2 k3 k4=>?_;cases qr:ko t sg gc ge (t.ds.drop (i+1)) ρ1 Mv with
     | bad=>rw[qr] at hrest;cases hrest
     | err c Mx=>rw[qr] at hrest;cases hrest
     | ok rest' Mr=>
      rw[qr] at hrest;have hrest:aQ.ok (dv::rest') Mr=aQ.ok rest Mend:=hrest;cases hrest;have tz:bO (ds++dv::rest')=Z ze:=by rw[hes];exact hze
      refine q2x3 (lU tz) λz1 z2 t1 t2 ez=>?_;rw[hz'] at t1;cases t1;refine q3x3 (iO t2) λi0 y0 zr q1 q2 ez2=>?_;refine q1x2 (iT q1 rd8) λb8 eb8 tb8=>?_;subst eb8;have eu:uv=NJ b8:=rw8;subst eu;have gg:=gy.trans (g7.trans g8);have S8:=iZ hS' hA' I'.hok I8.hok gg.toGrow;have A8:=hA'.gr gg.toGrow;have room:(zs.foldl dz U0).length+1<2048:=by
       have h1:=iU zs U0;have h2:=jM hz';have h3:(ds++dv::rest').length=es.length:=by rw[hes]
       rw[Ll,Mm] at h3;omega
      refine Le (Pg (Le (EW hu k3 S8 (j6 I8.hok tb8.1) room λh' o' nt sb ho' hS2 hm=>Lf ?_)));have keepb:∀b o,b≠acc->s8.heap.get? b=Z o->h'.get? b=Z o:=λb o hb e=>sb.extBut b o hb e
      have I9:L2.Inv (ah X scope xs R f0 s0 H0 C) P0 σ6 H8 {s8 with heap:=h',toks:=s8.toks+nt}:=by
       refine Inv.turned (it:=acc) (I8.pins_of (pins':=P0) λp hp=>I8.pin p (Lo _ (Ml _ (LH _ hp)))) keepb k4 a1 (.inr a3) a4 λp hp=>a5 p (show p∈P0 from hp)
      have I10:L2.Inv (ah X scope xs R f0 s0 H0 C) ((acc,o')::P0) σ6 H8 {s8 with heap:=h',toks:=s8.toks+nt}:=I9.pins_of λp hp=>by
       rcases L1.mp hp with rfl|hp
       ·exact⟨ho',k4,a1,a2,ql hS2⟩
       ·exact I9.pin p (Lo _ hp)
      have A9:uQ X.K θ8 H8 o':=λv hv=>by
       rcases hm v hv with y|y
       ·exact A8 v y
       ·exact⟨b8,i0::y0,y,R7 _ _,tb8⟩
      exact⟨t.ds.length-(i+1),by omega,i+1,σ6,H8,θ8,Mv,ρ1,ds++[dv],rest',zs++[i0::y0],o',rfl,hlt,I10,hdY.go (g7.trans g8),T.keep _ _ _ st5 (λb hb o e=>keepb b o (nea b hb) (k2 b hb o e)),k1,g'.trans gg,qD hz' q1,by rw[Vl];exact hS2,A9,qr,by rw[<-hes];simp,hag1⟩
 ·have e:i=t.ds.length:=by omega
  subst e;rw[VW,ko,if_pos hok] at hrest;cases hrest;have hes:ds=es:=by rw[<-hes];simp
  subst hes;refine bR (T.done (ah X scope xs R f0 s0 H0 C) rfl rfl rfl hc _ _ s' _ H' _ I' (fpY fr') st' (hst (Lr _))) λr s4 hxx=>?_
  refine q0x2 hxx λhr I4=>?_;subst hr;have ezs:zs=ze:=LZ (hz'.symm.trans hze);subst ezs;exact fin _ _ _ _ _ _ I4 dn' hag g' (iZ hS' hA' I'.hok I4.hok (.refl _ _)) hA'
end
def yY (S:b9 p w h ob [])(n:∀v,¬iB ob v):b9 p w h' ob []:=by
 refine q4x5 S λes ep t L hex hd I hL led=>?_;refine⟨es,ep,t,L,hex,hd,⟨I.tab,I.sz,I.len,λi e q=>?_,I.way⟩,hL,led⟩;exact absurd ⟨es,ep,t,hd,e,by rw[<-Li] at q;exact LU q,rfl⟩ (n e.2)
section
variable {X:Cx}{af:List (LA×Obj)}{σ:L2.St}{s:Lm}{scope:PY}{xs:List Str}{tg:MT}{sg:GG}{R:List Str}{elt Ng:MT}{ifs:List MT}{pos:Pos}{E:Lk->Lm->Prop}
inductive Dx (Yc:Cx) (fp:List LA) (tn:Nat->Nu->Prop) (acc:LA) (t:jx) (ρ0:fO) (θ1:List LA) (H2:Hp) (es:List D) (go:List D->aF->aQ (List D)) (Mend:aF) (n:Nat) (s':Lm):Prop
 | mk (i:Nat) (τ:L2.St) (H':Hp) (θ':List LA) (M':aF) (ds rest:List D) (zs:List (List Int)) (ob:Obj) (e1:n=t.ds.length-i) (e2:i<=t.ds.length)
   (e3:L2.Inv Yc [(acc,ob)] τ H' s') (e4:fY Yc.K θ' H' τ ρ0) (e5:tn i s'.heap) (e6:∀b∈fp,H' b=Y) (e7:Go Yc.K θ1 H2 θ' H' M') (e8:bO ds=Z zs) (e9:b9 Yc.prog Yc.w s'.heap ob (zs.foldl dz [])) (e9':uQ Yc.K θ' H' ob) (e10:go (t.ds.drop i) M'=.ok rest Mend) (e11:ds++rest=es)
def rm {t:jx}{M1:aF}{RR:Lk->Env->Sh->Lm->Prop}
  (S:bH scope X.env.kindOf xs R X.N) (hc:X.calm=true) (I2:L2.Inv X af σ H2 s2) (T:oq X.prog X.w X.K tg J fp it tn) (st2:tn 0 s2.heap) (f2:∀b∈fp,df X af H2 b)
  (hw1:Wr X.K θ1 H2 M1) (hd1:fY X.K θ1 H2 σ ρ) (hJ:sB X.K J θ1 H2 t) (hgo:aY t xs.length sg gc (rV gi2 sg2 gc2 ge) t.ds ρ M1=.ok es Mend) (hze:bO es=Z ze) (hlen:es.length<2047) (hu:X.A.in1.units<Qv)
  (hcd:∀C,∃cond,(forIn (m:=Sem) ifs true λc r=>if r=true then do let ok <-SM c (ah X scope xs R fp s2 H2 C).env (Ou c (ah X scope xs R fp s2 H2 C).env);pure (L6 ok) else pure (L6 r))=cond/\
   ∀(af:List (LA×Obj)) (s:Lm) (σ:L2.St) (H:Hp) (Q:Bool->Hp->Prop),L2.Inv (ah X scope xs R fp s2 H2 C) af σ H s->tT (ah X scope xs R fp s2 H2 C) gc σ H Q->Lp (LD X.prog X.w) X.A cond (TP (ah X scope xs R fp s2 H2 C) af σ Q) (λ_ _=>False) s)
  (hcd2:∀C,∃cond,(forIn (m:=Sem) ifs2 true λc r=>if r=true then do let ok <-SM c (ah X scope xs R fp s2 H2 C).env (Ou c (ah X scope xs R fp s2 H2 C).env);pure (L6 ok) else pure (L6 r))=cond/\
   ∀(af:List (LA×Obj)) (s:Lm) (σ:L2.St) (H:Hp) (Q:Bool->Hp->Prop),L2.Inv (ah X scope xs R fp s2 H2 C) af σ H s->tT (ah X scope xs R fp s2 H2 C) gc2 σ H Q->Lp (LD X.prog X.w) X.A cond (TP (ah X scope xs R fp s2 H2 C) af σ Q) (λ_ _=>False) s)
  (hi2:∀C,PI (ah X scope xs R fp s2 H2 C) tg2 iter2 (tI (ah X scope xs R fp s2 H2 C) gi2)) (own2:jB xs.length sg2) (hg2:∀C,PG (ah X scope xs R fp s2 H2 C) tg2 (tG (ah X scope xs R fp s2 H2 C) sg2))
  (hs2:∀C x,Mj iter2 (ah X scope xs R fp s2 H2 C).env x=pure x)
  (own:jB xs.length sg) (hg:∀C,PG (ah X scope xs R fp s2 H2 C) tg (tG (ah X scope xs R fp s2 H2 C) sg))
  (he:∀C,PE (ah X scope xs R fp s2 H2 C) elt (tE (ah X scope xs R fp s2 H2 C) ge))
  (fin:∀(acc:LA) (ce:Env) (s':Lm) (H':Hp) (θ':List LA) (ob:Obj) (m:Str->Option Lk),L2.Inv X af σ (bG H' acc (ky acc ob)) s'->s'.heap.Ns ce.locals m->df X af (bG H' acc (ky acc ob)) ce.locals->Go X.K θ1 H2 θ' H' Mend->H' acc=Y->(∀h,jt X.prog X.w (bG H' acc (ky acc ob)) h->b9 X.prog X.w h ob (ze.foldl dz []))->uQ X.K θ' H' ob->RR (.ref acc) ce (.ok .next) s') :
  Lp (LD X.prog X.w) X.A (YE (.type "set")) (λacc s₃=>Lp (LD X.prog X.w) X.A (QR scope X.env.globals (cw X.env.cells scope.names []) [] X.env.qual Y .none (Z X.env)) (λcenv s₄=>
   Oq (LD X.prog X.w) X.A (.compStart (.SetComp elt [⟨tg,Ng,ifs,0⟩,⟨tg2,iter2,ifs2,0⟩] scope pos) 0 (.ref it) acc {cenv with scope:=Pm scope X.env}) (RR acc {cenv with scope:=Pm scope X.env}) s₄) E s₃) E s2:=by
 refine EA λob0 hob0 hin0=>wpAny_newFunctionEnv S.nocell (by intro y hy;simp at hy) (λh₁ hns₁ hsb₁=>?_) S.kind
 dsimp only at hns₁ hsb₁ ⊢;have alive:ob0.isFreed=false:=by
  refine q4x3 hob0 λ_ _ _ _ _ hd _=>?_;obtain⟨c,d,dt,sl⟩:=ob0;cases dt with
  | freed=>cases hd
  | _=>rfl
 generalize hHp:s2.heap.push ob0=Hp2 at hns₁ hsb₁ hob0 ⊢;have hCe:Hp2.objs.size=s2.heap.objs.size+1:=by rw[<-hHp,OC]
 generalize hCd:Hp2.objs.size=C at hns₁ hsb₁ hCe ⊢;generalize hAd:s2.heap.objs.size=acc at hCe ⊢;have hDC:acc≠C:=by rw[hCe];exact LR (OX _)
 have old:∀b o,s2.heap.get? b=Z o->h₁.get? b=Z o:=λb o e=>by
  have hb:b<acc:=by rw[<-hAd];exact Lq e
  refine hsb₁.extBut b o (wJ hb hCe) (Lg _ ?_);rw[<-hHp];exact Lg _ e
 have hacc0:h₁.get? acc=Z ob0:=by
  refine hsb₁.extBut acc _ hDC (Lg _ ?_);rw[<-hHp,<-hAd];exact LJ _ alive
 have hfl:∀b∈fp,b<s2.heap.objs.size:=λb hb=>by
  refine q1x2 (T.obj 0 _ st2 b hb) λo e _=>?_;exact Lq e
 have hCs:s2.heap.objs.size<=C:=by omega
 have IY0:L2.Inv (ah X scope xs R fp s2 H2 C) [] (Ms xs.length Y++σ) H2 {s2 with heap:=h₁,toks:=s2.toks+([]:List (Str×Lk)).length}:=sH S I2 hCs old hns₁ f2 hfl;refine q1x2 (hcd C) λcond hcond hct=>?_;have fpY:∀{H':Hp} {p:Obj},(∀b∈fp,H' b=Y)->∀b∈fp,df (ah X scope xs R fp s2 H2 C) [(acc,p)] H' b:=λ{H' p} hn b hb=>by
  refine⟨hn b hb,?_,λz=>?_,.inl hb,λy c e=>?_,λq hq=>?_⟩
  ·exact LR (LB (hfl b hb) hCs)
  ·rcases L1.mp (I2.stkSub b z) with e|e
   ·exact(f2 b hb).2.1 e
   ·exact(f2 b hb).2.2.1 e
  ·exact(f2 b hb).2.2.2.2.1 y c (bT S I2 e)
  ·have hq:q∈([]:List (LA×Obj))++[(acc,p)]:=hq;have e:q=(acc,p):=by simpa using hq
   rw[e];exact mQ (hfl b hb) hAd
 have accF:∀b∈mI X.stack,acc≠b:=λb hb e=>by
  have:acc∉X.env.locals::X.fs:=by
   intro z;rcases L1.mp z with z|z
   ·exact mQ I2.lt hAd z
   ·exact I2.nofs (Nj hAd) z
  exact this (e▸I2.stkSub b hb)
 have loop:∀s₃:Lm,s₃={s2 with heap:=h₁,toks:=s2.toks+([]:List (Str×Lk)).length}->
   Oq (LD X.prog X.w) X.A (.compLoop (.SetComp elt [⟨tg,Ng,ifs,0⟩,⟨tg2,iter2,ifs2,0⟩] scope pos) 0 (.ref it) (.ref acc) (ah X scope xs R fp s2 H2 C).env) (RR (.ref acc) (ah X scope xs R fp s2 H2 C).env) s₃:=by
  rintro s₃ rfl;have pin0:∀{σ':L2.St} {H':Hp} {s':Lm} {ob:Obj} {U:List (List Int)} {hx:Nu},L2.Inv (ah X scope xs R fp s2 H2 C) [] σ' H' s'->s'.heap.get? acc=Z ob->b9 X.prog X.w hx ob U->H' acc=Y->L2.Inv (ah X scope xs R fp s2 H2 C) [(acc,ob)] σ' H' s':=λ{σ' H' s' ob U hx} I' e hS hn=>
   I'.pins_of λp hp=>by
    have ep:p=(acc,ob):=by simpa using hp
    subst ep;exact⟨e,hn,hDC,λz=>accF acc z rfl,ql hS⟩
  refine eP (pH _ _ _ _ _ _ _ _ _ _ _ _ _ hcond) (Dx (ah X scope xs R fp s2 H2 C) fp tn acc t (Ms xs.length Y++ρ) θ1 H2 es (λl N=>aY t xs.length sg gc (rV gi2 sg2 gc2 ge) l ρ N) Mend) ?_ t.ds.length
   ⟨0,_,H2,θ1,M1,[],es,[],ob0,rfl,Ni _,pin0 IY0 hacc0 hob0 (I2.hok.fresh (Nj hAd)),rj hd1,T.keep 0 _ _ st2 (λb hb o e=>old b o e),λb hb=>(f2 b hb).1,.refl hw1,rfl,yY hob0 hin0,λv hv=>absurd hv (hin0 v),hgo,rfl⟩
  rintro n s' ⟨i,τ,H',θ',M',ds,rest,zs,ob,rfl,hil,I',dn',st',fr',g',hz',hS',hA',hrest,hes⟩;have hok:t.ok M'=true:=by
   cases hq:t.ok M' with
   | true=>rfl
   | false=>
    exfalso;cases hdr:t.ds.drop i with
    | nil=>rw[hdr,aY,if_neg (by rw[hq];exact Ly)] at hrest;cases hrest
    | cons d r=>rw[hdr,aY,if_neg (by rw[hq];exact Ly)] at hrest;cases hrest
  refine q0x2 (hJ θ' H' M' g' hok i) λhy hst=>?_
  by_cases hlt:i<t.ds.length
  ·have e1:t.ds[i]?=Z t.ds[i]:=Lh hlt;refine q0x2 (hy _ e1) λhgo' hyl=>?_;rw[N7 hlt,aY,if_pos hok] at hrest;refine bR (T.item (ah X scope xs R fp s2 H2 C) rfl rfl rfl hc i _ s' _ H' _ I' (fpY fr') st' hgo') λr s4 hxx=>?_
   refine q1x2 hxx λu hr h4=>?_;subst hr;refine bR h4 λ_ s5 hxx=>?_
   refine q2x5 hxx λv H5 I5 r5 y5 st5 fr5=>?_;refine q0x2 (hyl v H5 y5) λgy rx=>?_;have I5':=I5.pinned (fpY fr5) (T.obj _ _ st5);cases qs:sg t.ds[i] (Ms xs.length Y++ρ) with
   | none=>rw[qs] at hrest;cases hrest
   | some ρ1=>
   rw[qs] at hrest;dsimp only at hrest;refine bR (hg C _ s5 _ H5 v u (λσ6 H6=>fY X.K θ' H6 σ6 ρ1/\H6=H5) I5' r5 ⟨_,θ',M',t.ds[i],dn'.go gy,gy.wr,rx,ρ1,qs,λσ6 d6=>⟨d6,rfl⟩⟩) λ_ s6 hxx=>?_
   refine q2x3 hxx λσ6 H6 I6 hdY eH6=>?_;subst eH6;cases qc:gc ρ1 M' with
   | bad=>rw[qc] at hrest;cases hrest
   | err c Mx=>rw[qc] at hrest;cases hrest
   | ok b Mb=>
    refine bR (hct _ s6 _ H6 (λb' H7=>b'=b/\∃θ7,Go X.K θ' H6 θ7 H7 Mb) I6 ⟨_,θ',M',hdY,gy.wr,?_⟩) λok s7 ⟨H7,I7,eb,θ7,g7⟩=>?_
    ·rw[qc];exact λθ7 H7 g7=>⟨rfl,θ7,g7⟩
    subst eb;have fpk:∀{s8:Lm} {σ8:L2.St} {H8:Hp},L2.Inv (ah X scope xs R fp s2 H2 C) ([(acc,ob)]++hO fp s5.heap) σ8 H8 s8->(∀b∈fp,H8 b=Y)/\(∀b∈fp,∀o,s5.heap.get? b=Z o->s8.heap.get? b=Z o)/\s8.heap.get? acc=Z (ob)/\H8 acc=Y:=λ{s8 σ8 H8} I8=>by
     have pa:=I8.pin (acc,ob) (Lo _ (Ml _ (by simp)));refine⟨λb hb=>?_,λb hb o e=>(I8.pin (b,o) (Lo _ (Lo _ (bL hb e)))).1,pa.1,pa.2.1⟩;refine q1x2 (T.obj _ _ st5 b hb) λo e d=>?_;exact(I8.pin (b,o) (Lo _ (Lo _ (bL hb e)))).2.1
    cases ok with
    | false=>
     rw[if_neg Ly];rw[qc] at hrest;refine q0x4 (fpk I7) λk1 k2 k3 k4=>?_;exact⟨t.ds.length-(i+1),by omega,i+1,σ6,H7,θ7,Mb,ds,rest,zs,ob,rfl,hlt,I7.unpinned,own.back qs (hdY.go g7),T.keep _ _ _ st5 k2,k1,g'.trans (gy.trans g7),hz',iZ hS' hA' I'.hok I7.hok (gy.trans g7).toGrow,hA'.gr (gy.trans g7).toGrow,hrest,hes⟩
    | true=>
     rw[if_pos rfl];rw[qc] at hrest;have hrest:(match rV gi2 sg2 gc2 ge ρ1 Mb with
      | .ok e M2=>(aY t xs.length sg gc (rV gi2 sg2 gc2 ge) (t.ds.drop (i+1)) ρ M2).bind λes M3=>.ok (e++es) M3
      | _=>.bad)=aQ.ok rest Mend:=hrest
     cases qe:rV gi2 sg2 gc2 ge ρ1 Mb with
     | bad=>rw[qe] at hrest;cases hrest
     | err c Mx=>rw[qe] at hrest;cases hrest
     | ok dvs Mv=>
      rw[qe] at hrest;have hrest:((aY t xs.length sg gc (rV gi2 sg2 gc2 ge) (t.ds.drop (i+1)) ρ Mv).bind λes M3=>aQ.ok (dvs++es) M3)=aQ.ok rest Mend:=hrest;cases qr:aY t xs.length sg gc (rV gi2 sg2 gc2 ge) (t.ds.drop (i+1)) ρ Mv with
      | bad=>rw[qr] at hrest;cases hrest
      | err c Mx=>rw[qr] at hrest;cases hrest
      | ok rest' Mr=>
      rw[qr] at hrest;have hrest:aQ.ok (dvs++rest') Mr=aQ.ok rest Mend:=hrest;cases hrest;unfold rV at qe;cases qi:gi2 ρ1 Mb with
      | bad=>rw[qi] at qe;cases qe
      | err c Mx=>rw[qi] at qe;cases qe
      | ok t2 M2=>
      rw[qi] at qe;have qe:ko t2 sg2 gc2 ge t2.ds ρ1 M2=.ok dvs Mv:=qe;refine Le (bR (hi2 C _ s7 σ6 H7 (λJ2 H8=>∃θ8,Go X.K θ7 H7 θ8 H8 M2/\sB X.K J2 θ8 H8 t2) I7 ⟨ρ1,θ7,Mb,hdY.go g7,g7.wr,?_⟩) λxv s8 h8=>Le (Pg (Le (Pr (hs2 C xv) (Le (Mc (bR h8 λitv s9 h9=>?_)))))))
      ·rw[qi];exact λJ2 θ8 H8 g8 hJ2=>⟨θ8,g8,hJ2⟩
      obtain⟨it2,fp2,tn2,J2,H9,rfl,I9,T2,st9,f9,θ9,g9,hJ9⟩:=h9;have tz:bO (ds++(dvs++rest'))=Z ze:=by rw[hes];exact hze
      refine q2x3 (lU tz) λz1 z2 t1 t2 ez=>?_;rw[hz'] at t1;cases t1;refine q2x3 (lU t2) λz3 z4 t3 t4 ez2=>?_;have room:(zs.foldl dz []).length+dvs.length<2047:=by
       have h1:=iU zs [];have h2:=jM hz';have h3:(ds++(dvs++rest')).length=es.length:=by rw[hes]
       rw[Ll,Ll] at h3;rw[NK] at h1;omega
      have gx9:=gy.trans (g7.trans g9);have S9:=iZ hS' hA' I'.hok I9.hok gx9.toGrow;have A9:=hA'.gr gx9.toGrow;have a2':acc∉(ah X scope xs R fp s2 H2 C).fs:=λz=>accF acc z rfl
      have a4':∀x c,(ah X scope xs R fp s2 H2 C).env.cells.lookup x=Z c->c≠acc:=λy c e z=>by
       refine q2x2 (I2.cell y c (bT S I2 e)) λv' o ho hdd=>?_;exact fV (Lq ho) hAd z
      have a5':∀p∈hO fp s5.heap,p.1≠acc:=λp hp=>fV (hfl p.1 (p5 hp).1) hAd
      have inl:∀RR:Sh->Lm->Prop,(∀τ' H' s' θ' ρ' ob2,L2.Inv (ah X scope xs R fp s2 H2 C) ((acc,ob2)::hO fp s5.heap) τ' H' s'->fY X.K θ' H' τ' ρ'->(ρ'.length=ρ1.length/\∀j,xs.length<=j->ρ'[j]?=ρ1[j]?)->Go X.K θ9 H9 θ' H' Mv->b9 X.prog X.w s'.heap ob2 (z3.foldl dz (zs.foldl dz []))->uQ X.K θ' H' ob2->RR (.ok .next) s')->Oq (LD X.prog X.w) X.A (.compLoop (.SetComp elt [⟨tg,Ng,ifs,0⟩,⟨tg2,iter2,ifs2,0⟩] scope pos) 1 (.ref it2) (.ref acc) (ah X scope xs R fp s2 H2 C).env) RR s9:=λRR fin'=>
       zE hc I9 T2 st9 f9 g9.wr (hdY.go (g7.trans g9)) hJ9 qe t3 room S9 A9 hu (hcd2 C) own2 (hg2 C) (he C) hDC a2' (Nj hAd) a4' a5' fin'
      refine Le (wpAny_runOwn (A:=X.A) (h:=Y) ?_);have post:∀τ' H' s' θ' ρ' ob2,L2.Inv (ah X scope xs R fp s2 H2 C) ((acc,ob2)::hO fp s5.heap) τ' H' s'->fY X.K θ' H' τ' ρ'->(ρ'.length=ρ1.length/\∀j,xs.length<=j->ρ'[j]?=ρ1[j]?)->Go X.K θ9 H9 θ' H' Mv->b9 X.prog X.w s'.heap ob2 (z3.foldl dz (zs.foldl dz []))->uQ X.K θ' H' ob2->
        ∃m,m<t.ds.length-i/\Dx (ah X scope xs R fp s2 H2 C) fp tn acc t (Ms xs.length Y++ρ) θ1 H2 es (λl N=>aY t xs.length sg gc (rV gi2 sg2 gc2 ge) l ρ N) Mend m s':=λτ' Hx s' θ' ρ' ob2 Ix dx agx gx sx ax=>by
       refine q0x2 (own _ _ _ qs) λo1 o2=>?_;have kx:∀b∈fp,∀o,s5.heap.get? b=Z o->s'.heap.get? b=Z o:=λb hb o e=>(Ix.pin (b,o) (Lo _ (LH _ (bL hb e)))).1
       have k1:∀b∈fp,Hx b=Y:=λb hb=>by
        refine q1x2 (T.obj _ _ st5 b hb) λo e d=>?_;exact(Ix.pin (b,o) (Lo _ (LH _ (bL hb e)))).2.1
       have gg:=(gy.trans (g7.trans g9)).trans gx;exact⟨t.ds.length-(i+1),by omega,i+1,τ',Hx,θ',Mv,ds++dvs,rest',zs++z3,ob2,rfl,hlt,Ix.pins_of (λp hp=>Ix.pin p (Lo _ (by rw[LK.mp hp];exact Lz))),yN (agx.1.trans o1) (λj hj=>(agx.2 j hj).trans (o2 j hj)) dx,T.keep _ _ _ st5 kx,k1,g'.trans gg,qj hz' t3,by rw[Vl];exact sx,ax,qr,by rw[<-hes];simp⟩
      exact km rfl (inl _ λτ' Hx s' θ' ρ' ob2 Ix dx agx gx sx ax=>Lf (post _ _ _ _ _ _ Ix dx agx gx sx ax)) (T2.self _ 0 _ _ _ st9 (inl _ λτ' Hx s' θ' ρ' ob2 Ix dx agx gx sx ax=>Lf (post _ _ _ _ _ _ Ix dx agx gx sx ax)))
  ·have e:i=t.ds.length:=by omega
   subst e;rw[VW,aY,if_pos hok] at hrest;cases hrest;have hes:ds=es:=by rw[<-hes];simp
   subst hes;refine bR (T.done (ah X scope xs R fp s2 H2 C) rfl rfl rfl hc _ _ s' _ H' _ I' (fpY fr') st' (hst (Lr _))) λr s4 hxx=>?_
   refine q0x2 hxx λhr I4=>?_;subst hr;have pa:=I4.pin (acc,ob) (Lo _ (by simp));have e4:s4.heap.get? acc=Z (ob):=pa.1;have n4:H' acc=Y:=pa.2.1;refine q1x2 I4.loc λmC hnC _=>?_;have hHC:H' C=Y:=I4.free;have mT:Un (mI X.stack) fp H2 H' s2.heap s4.heap:=I4.base;have neA:∀{b:LA} {o:Obj},s2.heap.get? b=Z o->b≠acc:=λ{b o} e=>fV (Lq e) hAd
   have neH:∀{b:LA} {u:HO},H' b=Z u->b≠acc:=λ{b u} e z=>by rw[z,n4] at e;cases e
   have un4:Un (mI X.stack) fp H2 (bG H' acc (ky acc ob)) s2.heap s4.heap:=by
    refine⟨mT.keep,mT.slot,λb o e n hx=>?_,mT.there,λb xs e=>?_,λb o u e=>?_,λb ps e=>?_⟩
    ·rw[au (neA e)];exact mT.free b o e n hx
    ·have z:=mT.tups b xs e;rw[au (neH z)];exact z
    ·have z:=mT.frzs b o u e;rw[au (neH z)];exact z
    ·refine q1x1 (mT.tbls b ps e) λmore z=>?_;exact⟨more,by rw[au (neH z)];exact z⟩
   have hok4:jt X.prog X.w (bG H' acc (ky acc ob)) s4.heap:=λb u e=>by
    by_cases hb:b=acc
    ·subst hb;rw[bZ] at e;cases e;exact nT e4 ⟨_,e4⟩ λh1 h2 e k=>k _ e
    ·rw[au hb] at e;exact(I4.hok b u e).stay (λc v _ q=>q) (λc q=>by rw[au (neH q)];exact q) λc xs q=>by rw[au (neH q)];exact q
   have IX:L2.Inv X af σ (bG H' acc (ky acc ob)) s4:=I2.call' (ch:=fp) I4.os un4 hok4 I4.bare λb hb=>⟨(f2 b hb).2.2.2.1,(f2 b hb).2.1,(f2 b hb).2.2.2.2.1,(f2 b hb).2.2.2.2.2⟩
   have ezs:zs=ze:=LZ (hz'.symm.trans hze);subst ezs;refine fin acc (ah X scope xs R fp s2 H2 C).env s4 H' θ' ob mC IX hnC (I2.fpOk hCs ?_) g' n4 (λh kh=>iZ hS' hA' I'.hok kh (cq g'.wr n4).toGrow) hA';show bG H' acc (ky acc ob) C=Y;rw[au (NL hDC)];exact hHC
 exact ku rfl (loop _ rfl) (T.self _ 0 _ _ _ (T.keep 0 _ _ st2 λb hb o e=>old b o e) (loop _ rfl))
end
end DL
namespace DL
open PySem PySem.Spec PyProof.Rows PySem.W L2 List
def Di (h:ItemsAre (MM p w) z vs):N5 vs z:=by
 induction h with
 | nil=>exact .nil
 | @cons k v ks vs h1 _ ih=>
  refine q1x1 (R9 (show VI k v=true from h1)) λt e=>?_;rw[e];exact .cons _ t ih
def oF (k:Nw (MM p w) h z b):mJ h (.ref b)=z:=by
 refine q3x4 k λo its n ho _ hd hi=>?_;show(match h.get? b with|some o=>(match o.data with | .seq xs _=>xs.toList.map numOf|_=>[])|none=>[])=z;rw[ho];dsimp only;rw[hd];exact uE (Di hi)
theorem uH:∀{vs:List Lk},(∀v∈vs,∃(b:LA) (z:List Int),v=.ref b/\z≠[]/\Nw (MM p w) h z b)->lG h vs (vs.map (mJ h))
 | [],_=>trivial
 | v::vs,a=>by
  refine q2x3 (a v Lz) λb z zz2 nz k=>?_;subst zz2;have e:=oF k;refine q3x4 k λo its n ho hc hd hi=>?_;refine⟨⟨b,o,its,n,rfl,ho,hc,hd,?_,?_⟩,uH λu hu=>a u (LH _ hu)⟩
  ·rw[e];exact Di hi
  ·rw[e];exact nz
def vV {a:List (List Int)}(h:a.Perm b):gV a=gV b:=ji ((ii a).trans (h.trans (ii b).symm)) (lF a) (lF b)
def KH:Lk->V
 | .ref b=>.ref b
 | _=>.non
section
variable {X:Cx}
def zX (X:Cx)(mk:List D->aF->aQ D):List V->Hp->VK->Prop:=λxs H Q=>∃acc ob U θ M,xs=[.ref acc]/\H acc=Z (ky acc ob)/\(∀h,jt X.prog X.w H h->b9 X.prog X.w h ob U)/\uQ X.K θ H ob/\U.length<2048/\Wr X.K θ H M/\aN X θ H Q (mk ((gV U).map aV) M)
def qg (hm:mk=aC\/mk=bM)(hc:X.calm=true):cG X (.builtin "sorted") (zX X mk):=by
 intro af s σ H xs us Q I rv h;obtain⟨acc,ob,U,θ,M,rfl,ha,hSa,hA,hl,hw,h⟩:=h;obtain⟨u,rfl,ru⟩:=js rv;have ru:u=.ref acc:=ru;subst ru;have ho:s.heap.get? acc=Z ob:=(I.hok acc _ ha).1;obtain⟨es,ep,t,L,hex,hd,TT,hL,led⟩:=hSa s.heap I.hok;obtain⟨k,T⟩:=TT.tab;have hf:=TT.fits;have op:=tJ X.w acc ep es;have lv:(iX X.w acc ep es).length=U.length:=by rw[op.length_eq,Lu,Ln,<-TT.len,hL.length_eq]
 have inS:∀v∈iX X.w acc ep es,iB ob v:=λv hv=>by
  obtain⟨e,he,ev⟩:=OP.mp (op.mem_iff.mp hv);exact⟨es,ep,t,hd,e,he,ev⟩
 have keys:∀v∈iX X.w acc ep es,∃(b:LA) (z:List Int),v=.ref b/\z≠[]/\Nw (MM X.prog X.w) s.heap z b:=λv hv=>by
  obtain⟨b,z,e,nz,tb⟩:=hA v (inS v hv);exact⟨b,z,e,nz,j6 I.hok tb.1⟩
 have TU:=uH keys;have eL:es.toList.map (λe=>mJ s.heap e.2)=L:=by
  apply Of;intro i;rw[LL,Li];cases q:es[i]? with
  | none=>
   have:L.length<=i:=by rw[TT.len];exact R4.mp q
   rw[NC this];rfl
  | some e=>
   obtain⟨z,e1,b,e2,e3,_⟩:=TT.el i e q;rw[e1,Wc,e2,oF e3]
 have pz:((iX X.w acc ep es).map (mJ s.heap)).Perm U:=by
  refine(op.map _).trans ?_;rw[OT];have:es.toList.map (mJ s.heap ∘ λe=>e.2)=L:=eL;rw[this];exact hL
 have hz:es.size<=LW:=by rw[Oo,<-TT.len,hL.length_eq];omega
 refine qZ TU (by omega) (λR q=>vN (A:=X.A.in1) (show X.A.handled=Y from I.ok.hd hc) ho hex hd hf T led hz q) λp h' tk l n' p1 p2 k hll g=>?_
 generalize hvs:iX X.w acc ep es=vs at *;have inR:∀i∈p,i<vs.length:=λi hi=>OJ.mp (p1.subset hi)
 have at_:∀i∈p,dj X.K θ H (aV ((vs.map (mJ s.heap)).getD i [])) (KH (vs.getD i MJ))/\bg (KH (vs.getD i MJ)) (vs.getD i MJ):=λi hi=>by
  have il:=inR i hi;have e1:vs.getD i MJ=vs[i]:=by simp[NF,il]
  have e2:(vs.map (mJ s.heap)).getD i []=mJ s.heap vs[i]:=by simp[NF,il]
  rw[e1,e2];obtain⟨b,z,e,nz,tb⟩:=hA _ (inS _ (Qb il));rw[e,oF (j6 I.hok tb.1)];exact⟨⟨b,_,rfl,tb,mK _⟩,rfl⟩
 have fr:=I.hok.fresh hll;have ed:(gV U).map aV=p.map λi=>aV ((vs.map (mJ s.heap)).getD i []):=by
  rw[<-vV pz,<-p2,OT];rfl
 rw[ed] at h;have ok:=um hm X θ H Q _ M (p.map λi=>KH (vs.getD i MJ)) h hw (pM _ λi hi=>(at_ i hi).1);exact⟨.ref l,_,I.laid (t':=tk) k hll (show cP X.prog X.w _ _ _ (.lst _) from⟨ok.1,_,n',pR _ λi hi=>(at_ i hi).2,g⟩),rfl,ok.2 l fr⟩
end
def pE (mk:List D->aF->aQ D):List D->aF->aQ D:=λes M=>match bO es with
 | some zs=>if es.length<2047 then mk ((gV (zs.foldl dz [])).map aV) M else .bad
 | none=>.bad
def ka (gi:GI)(n:Nat)(sg:GG)(gc:GT)(gi2:GI)(sg2:GG)(gc2:GT)(ge:GE)(mk:List D->aF->aQ D):GE:=λρ M=>(gi ρ M).bind λt M1=>(aY t n sg gc (rV gi2 sg2 gc2 ge) t.ds ρ M1).bind (pE mk)
def tV (X:Cx)(θ:List LA)(H:Hp)(Q:VK):aQ (List D)->Prop
 | .ok es M'=>∃ze,bO es=Z ze/\es.length<2047/\∀acc ob θ' H',Go X.K θ H θ' H' M'->H' acc=Y->(∀h,jt X.prog X.w (bG H' acc (ky acc ob)) h->b9 X.prog X.w h ob (ze.foldl dz []))->uQ X.K θ' H' ob->Q (.ref acc) (bG H' acc (ky acc ob))
 | .err c M'=>dC X θ H c M'
 | .bad=>False
def wZ (h:aN X θ H Q (o.bind (pE mk))):tV X θ H (λv H1=>∀σ:L2.St,zX X mk [v] H1 Q) o:=by
 cases o with
 | bad=>exact h
 | err c M1=>exact h
 | ok es M1=>
  have h:aN X θ H Q (pE mk es M1):=h;unfold pE at h;cases q:bO es with
  | none=>rw[q] at h;exact h.elim
  | some ze=>
   rw[q] at h
   by_cases hl:es.length<2047
   ·have h:aN X θ H Q (if es.length<2047 then mk ((gV (ze.foldl dz [])).map aV) M1 else .bad):=h;rw[if_pos hl] at h;refine⟨ze,q,hl,λacc ob θ' H' g na hS hA σ=>?_⟩;have g2:Go X.K θ' H' θ' (bG H' acc (ky acc ob)) M1:=cq g.wr na;refine⟨acc,ob,ze.foldl dz [],θ',M1,rfl,bZ,hS,hA.gr g2.toGrow,?_,g2.wr,aN.go (g.trans g2) h⟩;have h1:=iU ze [];have h2:=jM q;rw[NK] at h1;omega
   ·have h:aN X θ H Q (if es.length<2047 then mk ((gV (ze.foldl dz [])).map aV) M1 else .bad):=h;rw[if_neg hl] at h;exact h.elim
def G5 (X:Cx)(gi:GI)(n:Nat)(sg:GG)(gc:GT)(gi2:GI)(sg2:GG)(gc2:GT)(ge:GE):TE:=λσ H Q=>∃ρ θ M,fY X.K θ H σ ρ/\Wr X.K θ H M/\tV X θ H Q ((gi ρ M).bind λt M1=>aY t n sg gc (rV gi2 sg2 gc2 ge) t.ds ρ M1)
section
variable {X:Cx}{scope:PY}{xs:List Str}{tg tg2:MT}{sg sg2:GG}{R:List Str}{elt Ng iter2:MT}{ifs ifs2:List MT}{pos:Pos}{gi gi2:GI}{gc gc2:GT}{ge:GE}
def BR (hS:cj scope X.env.kindOf xs R X.N=true)(hc:X.calm=true)(hu:X.A.in1.units<Qv)(hi:PI X tg Ng (tI X gi))(own:jB xs.length sg)(hg:∀fp s H C,PG (ah X scope xs R fp s H C) tg (tG (ah X scope xs R fp s H C) sg))(hts:dN X scope xs R ifs gc)
  (hi2:∀fp s H C,PI (ah X scope xs R fp s H C) tg2 iter2 (tI (ah X scope xs R fp s H C) gi2)) (own2:jB xs.length sg2) (hg2:∀fp s H C,PG (ah X scope xs R fp s H C) tg2 (tG (ah X scope xs R fp s H C) sg2)) (hts2:dN X scope xs R ifs2 gc2)
  (he:∀fp s H C,PE (ah X scope xs R fp s H C) elt (tE (ah X scope xs R fp s H C) ge))
  (hs:∀x,Mj Ng X.env x=pure x:=by intro _;rfl) (hs2:∀fp s H C x,Mj iter2 (ah X scope xs R fp s H C).env x=pure x:=by intro _ _ _ _ _;rfl):PE X (.SetComp elt [⟨tg,Ng,ifs,0⟩,⟨tg2,iter2,ifs2,0⟩] scope pos) (G5 X gi xs.length sg gc gi2 sg2 gc2 ge):=by
 have S:=bH.of hS;intro af s σ H Q I h;refine q3x3 h λρ θ M hd hw h=>?_;show Lp _ X.A (Sr (.SetComp elt [⟨tg,Ng,ifs,0⟩,⟨tg2,iter2,ifs2,0⟩] scope pos) scope X.env _ (YE (.type "set")) false (Ou Ng X.env)) _ _ s;refine uR (use:=Y) rfl hs (eG (S.cells I)) S.kind S.lnames ?_;refine bR (hi af s σ H (λJ H2=>∃t M1 θ1,gi ρ M=.ok t M1/\Go X.K θ H θ1 H2 M1/\sB X.K J θ1 H2 t) I ⟨ρ,θ,M,hd,hw,?_⟩) λv s1 h1=>bR h1 λitv s2 h2=>?_
 ·cases q:gi ρ M with
  | ok t M1=>exact λJ θ1 H1 g1 hJ=>⟨t,M1,θ1,rfl,g1,hJ⟩
  | err c M1=>rw[q] at h;exact h
  | bad=>rw[q] at h;exact h
 obtain⟨it,fp,tn,J,H2,rfl,I2,T,st2,f2,t,M1,θ1,eg,g1,hJ⟩:=h2;rw[eg] at h;have h:tV X θ H Q (aY t xs.length sg gc (rV gi2 sg2 gc2 ge) t.ds ρ M1):=h;cases q:aY t xs.length sg gc (rV gi2 sg2 gc2 ge) t.ds ρ M1 with
 | bad=>rw[q] at h;exact h.elim
 | err c Mx=>exact(jU _ _ q).elim
 | ok es Mend=>
  rw[q] at h;refine q1x3 h λze hze hl h=>?_;refine rm (RR:=λacc ce=>Du (LD X.prog X.w) X.A X.xe Y (EP X af σ Q) acc ce) S hc I2 T st2 f2 g1.wr (hd.go g1) hJ q hze hl hu (λC=>hts fp s2 H2 C) (λC=>hts2 fp s2 H2 C) (λC=>hi2 fp s2 H2 C) own2 (λC=>hg2 fp s2 H2 C) (λC=>hs2 fp s2 H2 C) own (λC=>hg fp s2 H2 C) (λC=>he fp s2 H2 C) ?_;intro acc ce s' H' θ' ob m IX hnC fC g' na hS' hA';refine⟨m,hnC,λh' sb=>?_⟩;have I3:L2.Inv X af σ (bG H' acc (ky acc ob)) {s' with heap:=h',toks:=s'.toks}:=IX.turned (it:=ce.locals) (λb o hb e=>(sb.2 b hb).trans e) fC.1 fC.2.1 fC.2.2.2.1 fC.2.2.2.2.1 fC.2.2.2.2.2;exact⟨.ref acc,_,I3,rfl,h acc ob θ' H' (g1.trans g') na hS' hA'⟩
def xh (hm:mk=aC\/mk=bM)(hS:cj scope X.env.kindOf xs R X.N=true)(hc:X.calm=true)(hu:X.A.in1.units<Qv)(hgl:Gl X "sorted")(hmg:X.mg "sorted"=Y)(hv:Mp "sorted"=Z (.builtin "sorted"))(hi:PI X tg Ng (tI X gi))(own:jB xs.length sg)(hg:∀fp s H C,PG (ah X scope xs R fp s H C) tg (tG (ah X scope xs R fp s H C) sg))(hts:dN X scope xs R ifs gc)
  (hi2:∀fp s H C,PI (ah X scope xs R fp s H C) tg2 iter2 (tI (ah X scope xs R fp s H C) gi2)) (own2:jB xs.length sg2) (hg2:∀fp s H C,PG (ah X scope xs R fp s H C) tg2 (tG (ah X scope xs R fp s H C) sg2)) (hts2:dN X scope xs R ifs2 gc2)
  (he:∀fp s H C,PE (ah X scope xs R fp s H C) elt (tE (ah X scope xs R fp s H C) ge))
  (hs:∀x,Mj Ng X.env x=pure x:=by intro _;rfl) (hs2:∀fp s H C x,Mj iter2 (ah X scope xs R fp s H C).env x=pure x:=by intro _ _ _ _ _;rfl):PE X (.Call (.Name "sorted" p) [.SetComp elt [⟨tg,Ng,ifs,0⟩,⟨tg2,iter2,ifs2,0⟩] scope pos] [] cpos) (tE X (ka gi xs.length sg gc gi2 sg2 gc2 ge mk)):=by
 refine(mf (qg hm hc) hgl hmg hv (io (BR hS hc hu hi own hg hts hi2 own2 hg2 hts2 he hs hs2) kM (by rw[sE rfl]))).of λσ H Q h=>?_
 refine q3x3 h λρ θ M hd hw h=>?_;refine⟨ρ,θ,M,hd,hw,?_⟩;unfold ka at h;cases q:gi ρ M with
 | bad=>rw[q] at h;exact h
 | err c M1=>rw[q] at h;exact h
 | ok t M1=>
  rw[q] at h;have h2:=wZ (X:=X) (θ:=θ) (H:=H) (Q:=Q) (mk:=mk) (o:=aY t xs.length sg gc (rV gi2 sg2 gc2 ge) t.ds ρ M1) h;show tV X θ H _ (aY t xs.length sg gc (rV gi2 sg2 gc2 ge) t.ds ρ M1);generalize aY t xs.length sg gc (rV gi2 sg2 gc2 ge) t.ds ρ M1=o at h2;cases o with
  | bad=>exact h2
  | err c M2=>exact h2
  | ok es M2=>
   refine q1x3 h2 λze a b c=>?_;exact⟨ze,a,b,λacc ob θ' H' g na hS' hA'=>c acc ob θ' H' g na hS' hA' σ⟩
def FY {k:Nat}(hr:bE k A):A.in1.units<Qv:=by
 have:=hr.units;show A.units+1<Qv;omega
def u6 {k:Nat}(hr:bE k X.A)(_:RN pos.line pos.col xs R)(hS:cj scope X.env.kindOf xs R X.N=true)(hm:mk=aC\/mk=bM)(hmg:X.mg "sorted"=Y)(hv:Mp "sorted"=Z (.builtin "sorted"))(own:QO xs.length sg)(own2:QO xs.length sg2)(hi:QI X tg Ng gi)(hg:∀fp s H C,QG (ah X scope xs R fp s H C) tg sg)(hts:A3 X scope xs R ifs gc)
  (hi2:∀fp s H C,QI (ah X scope xs R fp s H C) tg2 iter2 gi2) (hg2:∀fp s H C,QG (ah X scope xs R fp s H C) tg2 sg2) (hts2:A3 X scope xs R ifs2 gc2) (he:∀fp s H C,QE (ah X scope xs R fp s H C) elt ge)
  (hgl:Gl X "sorted":=by rfl) (hn:xs.length=n:=by rfl) (hc:X.calm=true:=by rfl) (hs:∀x,Mj Ng X.env x=pure x:=by intro _;rfl) (hs2:∀fp s H C x,Mj iter2 (ah X scope xs R fp s H C).env x=pure x:=by intro _ _ _ _ _;rfl) :
  QE X (.Call (.Name "sorted" p) [.SetComp elt [⟨tg,Ng,ifs,0⟩,⟨tg2,iter2,ifs2,0⟩] scope pos] [] cpos) (ka gi n sg gc gi2 sg2 gc2 ge mk):=by
 subst hn;exact⟨xh hm hS hc (FY hr) hgl hmg hv hi.h own.h (λfp s H C=>(hg fp s H C).h) hts.h (λfp s H C=>(hi2 fp s H C).h) own2.h (λfp s H C=>(hg2 fp s H C).h) hts2.h (λfp s H C=>(he fp s H C).h) hs hs2⟩
end
end DL
namespace DL
open PySem PySem.Spec PyProof.Rows PySem.W L2 List
section
variable {prog:Mi}{w:My}{A:MX}
def jG (k:∀o,h.get? b=Z o->h'.get? b=Z o)(x:Nw (MM prog w) h z b):Nw (MM prog w) h' z b:=by
 refine q3x2 x λo items n ho r=>?_;exact⟨o,items,n,k o ho,r⟩
def sU {U:List (List Int)}(S:b9 prog w h o U)(a:∀v,iB o v->∃(b:LA) (z:List Int),v=.ref b/\Nw (MM prog w) h z b/\Nw (MM prog w) h' z b):b9 prog w h' o U:=by
 refine q4x5 S λes ep t L hex hd I hL led=>?_;refine⟨es,ep,t,L,hex,hd,⟨I.tab,I.sz,I.len,λi e q=>?_,I.way⟩,hL,led⟩;obtain⟨z,e1,b,e2,e3,e4⟩:=I.el i e q;refine q2x3 (a e.2 ⟨es,ep,t,hd,e,by rw[<-Li] at q;exact LU q,rfl⟩) λb' z' e5 k1 k2=>?_;rw[e2] at e5;cases e5;have ez:z=z':=e3.inj k1;subst ez;exact⟨z,e1,b,e2,k2,e4⟩
variable {R:Sh->Lm->Prop}{I:LA}{fp wr:List LA}{G:Array WT->Array WT->Prop}{n:Nat}{P:Nat->Lk->Prop}{St:Nat->Lm->Prop}
def Cj (W:WalksS prog w A.in1 I fp wr G n P St)(S:LA)(hSf:S∉fp)(zs:List (List Int))(hl:zs.length=n)(hu:A.in1.units<Qv)(hn:n<2047) :
  ∀(k i:Nat) (s:Lm) (ob:Obj),n-i=k->i<=n->St i s->s.heap.get? S=Z ob->b9 prog w s.heap ob ((zs.take i).foldl dz [])->
   (∀j v,P j v->∃(b:LA) (z:List Int),v=.ref b/\zs[j]?=Z z/\Nw (MM prog w) s.heap z b/\b∉S::wr)->(∀v,iB ob v->∃j,P j v)->
   (∀s' ob',Moved (S::wr) G s s'->s'.heap.get? S=Z ob'->b9 prog w s'.heap ob' (zs.foldl dz [])->(∀v,iB ob' v->∃j,P j v)->R (.ok (.ret .none)) s')->
   Oq (LD prog w) A (.builtin "set.update.loop" ⟨[.ref S,.ref I],[]⟩) R s:=by
 have hSw:S∉wr:=λh=>hSf (W.sub _ h)
 have hsub:∀b∈wr,b∈S::wr:=λb hb=>LH _ hb
 intro k
 induction k with
 | zero=>
  intro i s ob hk hi hst ho hS hK hIn hR;have hin:i=n:=by omega
  subst hin;refine Nz SK ?_;rw[MV QJ _];show Lp _ A.in1 (O5 (.ref I) >>= _) _ _ s;refine Le (W.done s _ _ hst λs' hm=>?_);show Lp _ A.in1 (ret MJ) _ _ s';rw[<-hl,T7] at hS;refine Lf (hR s' ob (hm.mono hsub) (hm.heap S _ hSw ho) (sU hS λv hv=>?_) hIn);refine q1x1 (hIn v hv) λj pj=>?_;refine q2x4 (hK j v pj) λb z e _ kb nb=>?_;exact⟨b,z,e,kb,jG (λo=>hm.heap b o λz=>nb (hsub b z)) kb⟩
 | succ k ih=>
  intro i s ob hk hi hst ho hS hK hIn hR;have hlt:i<n:=by omega
  refine Nz SK ?_;rw[MV QJ _];show Lp _ A.in1 (O5 (.ref I) >>= _) _ _ s;refine Le (W.item i s _ _ hlt hst λv s' hP hst' hm=>?_);have hK':∀j v,P j v->∃(b:LA) (z:List Int),v=.ref b/\zs[j]?=Z z/\Nw (MM prog w) s'.heap z b/\b∉S::wr:=λj v pj=>by
   refine q2x4 (hK j v pj) λb z e ez kb nb=>?_;exact⟨b,z,e,ez,jG (λo=>hm.heap b o λz=>nb (hsub b z)) kb,nb⟩
  have hS':b9 prog w s'.heap ob ((zs.take i).foldl dz []):=sU hS λv hv=>by
   refine q1x1 (hIn v hv) λj pj=>?_;refine q2x4 (hK j v pj) λb z e _ kb nb=>?_;exact⟨b,z,e,kb,jG (λo=>hm.heap b o λz=>nb (hsub b z)) kb⟩
  have ho':=hm.heap S _ hSw ho;refine q2x4 (hK' i v hP) λb z zz2 ez kb nb=>?_;subst zz2;show Lp _ A.in1 (PZ [NJ b] (setAdd S (.ref b)) >>= _) _ _ s';refine Le (Mc ?_);unfold setAdd;refine Mc ?_;refine Le (UV hu kb ?_);have room:((zs.take i).foldl dz []).length+1<2048:=by
   have h1:=iU (zs.take i) [];rw[Nd,NK] at h1;omega
  refine wx (s:={s' with toks:=s'.toks+(z.length+1)}) hu ho' hS' kb room λbb h' o' hsb hg' hS2 hmm=>?_
  have hsx:∀c o,c≠S->s'.heap.get? c=Z o->h'.get? c=Z o:=λc o hc e=>by rw[hsb.2 c hc];exact e
  have e1:zs.take (i+1)=zs.take i++[z]:=by rw[Ud,ez];rfl
  refine Lf ⟨NM QJ _,ih (i+1) _ o' (by omega) hlt (W.frame _ s' _ _ hst' (Mu _ _) λc hc o e=>hsx c o (λh:c=S=>hSf (by rw[<-h];exact hc)) e) hg' (by rw[e1,Vl];exact hS2) (λj v pj=>?_) (λv hv=>?_) λs'' ob'' hm'' hg'' hS'' hI''=>?_⟩
  ·refine q2x4 (hK' j v pj) λb2 z2 e2 ez2 kb2 nb2=>?_;exact⟨b2,z2,e2,ez2,jG (λo=>hsx b2 o λh:b2=S=>nb2 (by rw[h];exact Lz)) kb2,nb2⟩
  ·rcases hmm v hv with y|y
   ·exact hIn v y
   ·exact⟨i,by rw[y];exact hP⟩
  ·refine hR s'' ob'' (Moved.trans W.gtrans ((hm.mono hsub).then_heap (Mu _ _) λc o hc e=>?_) hm'') hg'' hS'' hI'';exact hsx c o (λh:c=S=>hc (by rw[h];exact Lz)) e
end
abbrev eR (led:Bool):Obj:={cls:=.type "set",dict:=Y,data:=.set #[] 0 (.fresh 0 0 led)}
section
variable {prog:Mi}{w:My}{A:MX}{E:Lk->Lm->Prop}{s:Lm}
def Ao:b9 prog w h (eR (!w.params.followText "set-order")) []:=⟨#[],0,_,[],⟨rfl,rfl,rfl⟩,rfl,⟨⟨3,rfl,rfl,.nil,rfl,by decide,(by decide:0*5<7*3)⟩,rfl,rfl,λi e q=>by simp at q,λi j e q=>by simp[WR] at q⟩,.refl _,rfl⟩
def Aj:¬iB (eR led) v:=λq=>by
 obtain⟨es,ep,t,e,x,hx,_⟩:=q;cases e;cases hx
def yS (a:Lk)(h:Q₁ (.ref s.heap.objs.size) {s with heap:=s.heap.push (eR (!w.params.followText "set-order"))}) :
  Oq (LD prog w) A (.call (.builtin "set.__new__") ⟨[.type "set",a],[]⟩) (wants Q₁ E) s:=by
 refine RF ?_;show Lp _ A.in1 (do checkBuiltinCall "set.__new__" ⟨[.type "set",a],[]⟩;S4 (.builtin "set.__new__" ⟨[.type "set",a],[]⟩)) _ _ s;refine Le (Pr (F.newCall_set_1 a) (Lf ⟨NM Wf _,Nz F.entry_set_new ?_⟩));rw[MV Wf _];unfold O2.«set.__new__» WU;have hsub:=sub_set_self;obtain⟨hp,g,d,tk,os⟩:=s;dsimp only
 wp_walk
 refine NZ (Lf ?_);dsimp only;simp only[newObj];refine Le (VU (Lf ?_));exact Lf h
def xI {zs:List (List Int)}(hh:A.handled=Y)(hu:A.units+8<Qv)(hl:s.heap.IsList l items)(hz:zs.length=items.size)(hn:items.size<2047)
  (hK:∀(j:Nat) (v:Lk),items[j]?=Z v->∃(b:LA) (z:List Int),v=.ref b/\zs[j]?=Z z/\Nw (MM prog w) s.heap z b)
  (h:∀(h':Nu) (tk:Nat) (ob:Obj),h'.get? s.heap.objs.size=Z ob->b9 prog w h' ob (zs.foldl dz [])->(∀v,iB ob v->∃j:Nat,items[j]?=Z v)->(∀b o,s.heap.get? b=Z o->h'.get? b=Z o)->Q (.ref s.heap.objs.size) {s with heap:=h',toks:=tk}) :
  Lp (LD prog w) A (call (.type "set") [.ref l]) Q E s:=by
 refine q2x1 PK.mro λc tl hmro=>?_;have hmade:=PK.made;have hsub:=PK.sub;refine Ws (RF ?_);show Lp _ _ (callAny (.type "set") _) _ _ _;refine Lf ⟨Code.quiet_builtin _ (by decide +kernel),Nz F.entry_type_call ?_⟩;rw[Around.under_plain (weight_type_call_type "set" [.ref l] []) rfl];have h1:=PK.notType;have h2:=PK.canCreate;have hct:=F.typeCall_set_1 (.ref l)
 repeat (any_goals (first|assumption|wp_step))
 refine Py (yS (.ref l) (E:=E) (Q₁:=λobj s₁=>obj=.ref s.heap.objs.size/\s₁={s with heap:=s.heap.push (eR (!w.params.followText "set-order"))}) ⟨rfl,rfl⟩) λr s₁ hr=>?_
 generalize hled:(!w.params.followText "set-order")=led at *;cases r with
 | error e=>exact hr
 | ok fl=>
  cases fl with
  | ret obj=>
   refine q0x2 hr λzz0 zz1=>?_;subst zz0;subst zz1;have hS:(s.heap.push (eR led)).get? s.heap.objs.size=Z (eR led):=LJ _ rfl;have hT:Shared.TypeIs {s with heap:=s.heap.push (eR led)} (.ref s.heap.objs.size) "set":=⟨_,hS,rfl⟩;have hli:=PK.init.lookup;have hbi:=PK.init.bind (.ref s.heap.objs.size)
   repeat (any_goals (first|assumption|wp_step))
   refine Py (codeAny_call_builtin (R:=wants (λr s₂=>r=.none/\∃h' tk ob,s₂={s with heap:=h',toks:=tk}/\h'.get? s.heap.objs.size=Z ob/\b9 prog w h' ob (zs.foldl dz [])/\(∀v,iB ob v->∃j:Nat,items[j]?=Z v)/\(∀b o,s.heap.get? b=Z o->h'.get? b=Z o)) E) PK.init.plain F.entry_set_init (check_set_init_1 hT ?_)) λr₂ s₂ hr₂=>?_
   ·obtain⟨ol,hol,hcl,nl,hdl⟩:=hl;obtain⟨ocls,odict,odata,oslots⟩:=ol;simp only at hcl hdl;subst hcl;subst hdl;have hol':(s.heap.push (eR led)).get? l=Z {cls:=.type "list",dict:=odict,data:=.seq items nl,slots:=oslots}:=Lg _ hol;have hsls:=F.sub_list_set;have hslf:=F.sub_list_frozenset;have hne:(Px "list"==Px "dict")=false:=by decide
    have hl1:(s.heap.push (eR led)).IsList l items:=⟨_,hol',rfl,nl,rfl⟩;unfold O2.«set.__init__» noKeywords Wg;generalize hPI:Rx=PI
    wp_walk
    subst hPI;refine Sd hl1 ?_;refine Le (WS ?_);have hlS:l<s.heap.objs.size:=Lq hol;have hh3:A.in1.in1.in1.handled=Y:=by simp[hh]
    have sz:(s.heap.push (eR led)).objs.size=s.heap.objs.size+1:=OC ..;have hneI:l≠(s.heap.push (eR led)).objs.size:=by rw[sz];exact LR (Og hlS)
    have hSf:s.heap.objs.size∉[(s.heap.push (eR led)).objs.size,l]:=by
     rw[sz];simp only[L1,LK,NS,or_false,not_or];exact⟨LR (OX _),Oa hlS⟩
    refine Cj ((Walks.list hh3 _ l hneI items).toS) s.heap.objs.size hSf zs hz (by show A.units+1+1+1<Qv;omega) hn (items.size-0) 0 _ (eR led) (by omega) (Ni _) ⟨⟨_,LJ _ rfl,rfl,rfl⟩,(hl1.push _)⟩ (Lg _ hS) (by rw[<-hled];exact Ao) (λj v pj=>?_) (λv hv=>absurd hv Aj) λs' ob hm hg hS' hI=>?_
    ·refine q2x3 (hK j v pj) λb z e ez kb=>?_;have hb:b<s.heap.objs.size:=by
      refine q3x2 kb λo _ _ ho _=>?_;exact Lq ho
     refine⟨b,z,e,ez,jG (λo q=>Lg _ (Lg _ q)) kb,?_⟩;rw[sz];simp only[L1,LK,NS,or_false,not_or];exact⟨LR hb,LR (Og hb)⟩
    ·obtain⟨h',g',d',tk',os'⟩:=s';have eg:g'=s.gens:=hm.gens;have ed:d'=s.drawn:=hm.drawn;have eo:os'=s.os:=hm.os;subst eg;subst ed;subst eo;show Lp _ _ _ _ _ _;refine Lf ?_;show Lp _ _ (ret MJ) _ _ _;refine Lf ⟨rfl,h',tk',ob,rfl,hg,hS',hI,λb o e=>?_⟩;have hb:=Lq e;refine hm.heap b o ?_ (Lg _ (Lg _ e));rw[sz];simp only[L1,LK,NS,or_false,not_or];exact⟨LR hb,LR (Og hb)⟩
   ·cases r₂ with
    | error e=>exact hr₂
    | ok fl₂=>
     cases fl₂ with
     | ret r=>
      obtain⟨rfl,h',tk,ob,rfl,hg,hS',hI,hk'⟩:=hr₂
      repeat (any_goals (first|assumption|wp_step))
      exact h _ _ ob hg hS' hI hk'
     | _=>exact hr₂.elim
  | _=>exact hr.elim
end
end DL
namespace DL
open PySem PySem.Spec PyProof.Rows PySem.W L2 List
theorem qM {K:LX}:∀{z:List Int} {vs:List V},aR K θ H (z.map D.int) vs->vs=z.map V.int
 | [],vs,r=>r
 | n::z,vs,r=>by
  refine q2x3 ((show∃v r,vs=v::r/\dj K θ H (.int n) v/\aR K θ H (z.map D.int) r from r)) λv r' e e1 e2=>?_;have e1:v=.int n:=e1;rw[e,e1,qM e2];rfl
theorem wf:∀{a:List D} {z:List (List Int)},bO a=Z z->∀y∈z,y≠[]
 | [],z,h,y,hy=>by cases h;cases hy
 | d::a,z,h,y,hy=>by
  refine q3x3 (iO h) λj x zr e1 e2 zz5=>?_;subst zz5;rcases L1.mp hy with q|q
  ·rw[q];exact R7 _ _
  ·exact wf e2 y q
def Gf (X:Cx):List V->Hp->VK->Prop:=λxs H Q=>∃l vs ds ze θ M,xs=[.ref l]/\H l=Z (.lst vs)/\aR X.K θ H ds vs/\bO ds=Z ze/\ds.length<2047/\Wr X.K θ H M/\
 ∀acc ob,H acc=Y->(∀h,jt X.prog X.w (bG H acc (ky acc ob)) h->b9 X.prog X.w h ob (ze.foldl dz []))->uQ X.K θ H ob->Q (.ref acc) (bG H acc (ky acc ob))
section
variable {X:Cx}
def xF (hc:X.calm=true)(hu:X.A.units+8<Qv):cG X (.type "set") (Gf X):=by
 intro af s σ H xs us Q I rv h;obtain⟨l,vs,ds,ze,θ,M,rfl,hl,rd,hz,hn,hw,h⟩:=h;obtain⟨u,rfl,ru⟩:=js rv;have ru:u=.ref l:=ru;subst ru;obtain⟨its,r',pl,hsz⟩:=I.list (show gG X.K H l vs from .inl (.inl hl));obtain⟨T,lz,f⟩:=sO I hz rd r';have li:its.length=ds.length:=by rw[lz];exact jM hz
 have atj:∀(j:Nat) (v:Lk),its.toArray[j]?=Z v->∃(b:LA) (z:List Int),v=.ref b/\ze[j]?=Z z/\z≠[]/\gJ X.K θ H b (z.map V.int):=λj v e=>by
  rw[VD] at e;have hj:j<its.length:=(Lj.mp e).1;have hjz:j<ze.length:=by rw[<-lz];exact hj
  obtain⟨f1,f2⟩:=f j hjz;have e1:its.getD j MJ=v:=by rw[NF,e];rfl
  have e2:ze[j]?=Z (ze.getD j []):=by rw[NF,Lh hjz];rfl
  obtain⟨b,vs',e3,tb,e4⟩:=(show∃a ws,vs.getD j .non=.ref a/\gJ X.K θ H a ws/\aR X.K θ H ((ze.getD j []).map D.int) ws from f1);rw[qM e4] at tb;rw[e3,e1] at f2;exact⟨b,_,f2,e2,wf hz _ (LU e2),tb⟩
 refine xI (zs:=ze) (I.ok.hd hc) hu pl.isList (by rw[L5];exact lz.symm) (by rw[L5];omega) (λj v e=>?_) λh' tk ob ho hS hin keep=>?_
 ·obtain⟨b,z,e1,e2,_,tb⟩:=atj j v e;exact⟨b,z,e1,e2,j6 I.hok tb.1⟩
 ·have fr:=I.hok.fresh (Lr s.heap.objs.size);generalize hacc:s.heap.objs.size=acc at *;have hA:uQ X.K θ H ob:=λv hv=>by
   obtain⟨j,e⟩:=hin v hv;obtain⟨b,z,e1,_,nz,tb⟩:=atj j v e;exact⟨b,z,e1,nz,tb⟩
  have I1:L2.Inv X af σ (bG H acc (ky acc ob)) {s with heap:=h',toks:=tk}:=I.laid (t':=tk) keep (Nj hacc) (nT ho ⟨_,ho⟩ λh1 h2 e k=>k _ e);have g2:Go X.K θ H θ (bG H acc (ky acc ob)) M:=cq hw fr;exact⟨.ref acc,_,I1,rfl,h acc ob fr (λh3 k3=>iZ hS (hA.gr g2.toGrow) I1.hok k3 (.refl _ _)) hA⟩
def lZ (g:GE)(mk:List D->aF->aQ D):GE:=λρ M=>(g ρ M).bind λd M1=>match d with
 | .lst ds=>pE mk ds M1
 | _=>.bad
def xC (hm:mk=aC\/mk=bM)(hc:X.calm=true)(hu:X.A.units+8<Qv)(hgl:Gl X "sorted")(hmg:X.mg "sorted"=Y)(hv:Mp "sorted"=Z (.builtin "sorted"))(hgs:Gl X "set")(hms:X.mg "set"=Y)(hvs:Mp "set"=Z (.type "set"))(he:PE X e (tE X g))
  (h1:Mt [e] X.env=(false,Ou e X.env)::Mt [] X.env:=by rfl):PE X (.Call (.Name "sorted" p) [.Call (.Name "set" q) [e] [] pos] [] cpos) (tE X (lZ g mk)):=by
 refine(mf (qg hm hc) hgl hmg hv (io (qC (xF hc hu) hgs hms hvs (io he kM h1) (he:=h1)) kM (by rw[sE rfl]))).of λσ H Q h=>?_
 refine q3x3 h λρ θ M hd hw h=>?_;refine⟨ρ,θ,M,hd,hw,?_⟩;unfold lZ at h;cases q:g ρ M with
 | bad=>rw[q] at h;exact h
 | err c M1=>rw[q] at h;exact h
 | ok d M1=>
  rw[q] at h;cases d with
  | lst ds=>
   have h:aN X θ H Q (pE mk ds M1):=h;intro v θ' H' g1 rd;refine q2x3 ((show∃a vs,v=.ref a/\n9 θ' H' a vs/\aR X.K θ' H' ds vs from rd)) λa vs zz2 ta ra=>?_;subst zz2;have h2:tV X θ' H' (λv H1=>∀σ:L2.St,zX X mk [v] H1 Q) (.ok ds M1):=wZ (o:=.ok ds M1) (aN.go g1 h);refine q1x3 h2 λze hz hl h2=>?_;exact⟨a,vs,ds,ze,θ',M1,rfl,ta.1,ra,hz,hl,g1.wr,λacc ob na hS hA=>h2 acc ob θ' H' (.refl g1.wr) na hS hA σ⟩
  | _=>exact h.elim
def xk {k:Nat}(hr:bE k X.A)(hm:mk=aC\/mk=bM)(hmg:X.mg "sorted"=Y)(hv:Mp "sorted"=Z (.builtin "sorted"))(hms:X.mg "set"=Y)(hvs:Mp "set"=Z (.type "set"))(he:QE X e g)
  (hgl:Gl X "sorted":=by rfl) (hgs:Gl X "set":=by rfl) (hc:X.calm=true:=by rfl) (h1:Mt [e] X.env=(false,Ou e X.env)::Mt [] X.env:=by rfl):QE X (.Call (.Name "sorted" p) [.Call (.Name "set" q) [e] [] pos] [] cpos) (lZ g mk):=
 ⟨xC hm hc (by have:=hr.units;omega) hgl hmg hv hgs hms hvs he.h h1⟩
end
end DL
namespace DL
open PySem PySem.Spec PyProof.Rows L2 List
section
variable {prog:Mi}{w:My}{A:MX}{E:Lk->Lm->Prop}{s:Lm}{z cZ TO i1 i2 l1 l2 e:LA}{k:Nat}{xs ys:Array Lk}{x y a b:Lk}
def zO (f0 f1:Lk)(cZ TO:LA):Obj:={cls:=.type "zip",dict:=Y,data:=.fields #[f0,f1,.bool false,.ref cZ,.ref TO],slots:=#[]}
structure tR (h:Nu)(z cZ TO i1 i2 l1 l2:LA)(k:Nat):Prop where
 z:∃f0 c,(f0=.none\/∃T:Nat,f0=OZ T)/\h.get? z=Z (zO f0 (.bool c) cZ TO)
 ti:Qc h cZ (.ref i1) (.ref i2)
 to:∃a b,Qc h TO a b
 i1:h.IsListIter i1 l1 k
 i2:h.IsListIter i2 l2 k
def y8 {Q:Lk->Lm->Prop}(D:SL z cZ TO i1 i2 l1 l2)(hz:s.heap.get? z=Z (zO f0 f1 cZ TO))(hTI:Qc s.heap cZ (.ref i1) (.ref i2))(hTO:Qc s.heap TO a b)(h1:s.heap.IsListIter i1 l1 k)(h2:s.heap.IsListIter i2 l2 k)
  (hl1:s.heap.IsList l1 xs) (hl2:s.heap.IsList l2 ys) (hx:xs[k]?=Z x) (hy:ys[k]?=Z y) (hf:Lp (LD prog w) A (L7 (.ref z)) (λr s'=>r=true/\s'=s) (λ_ _=>False) s)
  (hQ:∀h',tR h' z cZ TO i1 i2 l1 l2 (k+1)->Qc h' s.heap.objs.size x y->h'.objs.size=s.heap.objs.size+1->(∀c o,c∉[z,TO,i1,i2]->s.heap.get? c=Z o->h'.get? c=Z o)->Q (.ref s.heap.objs.size) {s with heap:=h'}) :
  Lp (LD prog w) A (O2.«zip.__next__» ⟨[.ref z],[]⟩) (λfin s'=>∃v,fin=.done (.ret v)/\Q v s') E s:=by
 show Lp _ _ (RV (.ref z) 2 >>= _) _ _ _;refine Le (MC hz rfl (x:=.bool false) rfl ?_);show Lp _ _ (RV (.ref z) 3 >>= _) _ _ _;refine Le (MC hz rfl (x:=.ref cZ) rfl (Le (MZ hTI rfl ?_)));show Lp _ _ (L7 (.ref z) >>= _) _ _ _;refine Le (MY hf (λr s' hrs=>?_) λ_ _ q=>q.elim);refine q0x2 hrs λzz0 zz1=>?_;subst zz0;subst zz1;simp only[if_true];refine Le (Oy (Le (MC hz rfl (x:=.ref TO) rfl (Le (MG hz (by simp) λha za sa=>?_)))));have za:ha.get? z=Z (zO .ellipsis f1 cZ TO):=za;refine Le ?_;simp only[UR,zipIdx_nil,UW,Ue];refine Le (Le (Us ?_));show Lp _ _ (L9 (.ref i1) >>= _) _ _ _;refine Le (PL (h1.extBut sa.extBut D.i1z) (hl1.extBut sa.extBut D.l1z) hx λhb ib sb=>Lf ?_);have tb:Qc hb TO a b:=sb.extBut _ _ D.TOi1 (sa.extBut _ _ D.TOz hTO);refine Le (MZ tb rfl (Le (T8 tb λhc tc sc=>?_)));have tc:Qc hc TO x b:=tc;refine Le (OU (Lf (Le (Le (Us ?_)))));show Lp _ _ (L9 (.ref i2) >>= _) _ _ _;refine Le (PL (((h2.extBut sa.extBut D.i2z).extBut sb.extBut D.i12.symm).extBut sc.extBut D.TOi2.symm) (((hl2.extBut sa.extBut D.l2z).extBut sb.extBut D.l2i1).extBut sc.extBut D.l2TO) hy λhd id sd=>Lf ?_);have td:Qc hd TO x b:=sd.extBut _ _ D.TOi2 tc;refine Le (MZ td rfl (Le (T8 td λhe te se=>?_)));have te:Qc he TO x y:=te;refine Le (OU (Lf (Lf (Le (MZ te rfl (Le (R0 ?_)))))));have hsz:he.objs.size=s'.heap.objs.size:=by rw[se.1,sd.1,sc.1,sb.1,sa.1]
 have ze:he.get? z=Z (zO .ellipsis f1 cZ TO):=se.extBut _ _ D.TOz.symm (sd.extBut _ _ D.i2z.symm (sc.extBut _ _ D.TOz.symm (sb.extBut _ _ D.i1z.symm za)));have ke:∀c o,c∉[z,TO,i1,i2]->s'.heap.get? c=Z o->he.get? c=Z o:=λc o hc e=>by
  have c1:c≠z:=λq=>hc (by simp[q])
  have c2:c≠TO:=λq=>hc (by simp[q])
  have c3:c≠i1:=λq=>hc (by simp[q])
  have c4:c≠i2:=λq=>hc (by simp[q])
  exact se.extBut _ _ c2 (sd.extBut _ _ c4 (sc.extBut _ _ c2 (sb.extBut _ _ c3 (sa.extBut _ _ c1 e))))
 have ie1:he.IsListIter i1 l1 (k+1):=ib.at λo e=>se.extBut _ o D.TOi1.symm (sd.extBut _ o D.i12 (sc.extBut _ o D.TOi1.symm e))
 have ie2:he.IsListIter i2 l2 (k+1):=id.at λo e=>se.extBut _ o D.TOi2.symm e
 have zlt:z<he.objs.size:=Lq ze;show Lp _ _ (NR (.ref z) (.ref he.objs.size) >>= _) _ _ _;refine Le ?_;unfold NR;have zf:(he.push {cls:=.type "tuple",data:=.seq #[x,y]}).get? z=Z (zO .ellipsis f1 cZ TO):=Lg _ ze;refine Le (MG zf (by simp) λhg zg sg=>?_);have zg:hg.get? z=Z (zO (OZ he.objs.size) f1 cZ TO):=zg;refine MG zg (by simp) λhh zh sh=>?_
 have zh:hh.get? z=Z (zO (OZ he.objs.size) (.bool false) cZ TO):=zh;have up:∀c o,c≠z->he.get? c=Z o->hh.get? c=Z o:=λc o c1 e=>sh.extBut _ _ c1 (sg.extBut _ _ c1 (Lg _ e))
 have th:Qc hh he.objs.size x y:=sh.extBut _ _ (Oa zlt) (sg.extBut _ _ (Oa zlt) (LJ _ rfl));have lh:hh.objs.size=he.objs.size+1:=by rw[sh.1,sg.1,OC]
 rw[hsz] at th lh;refine Lf ⟨_,rfl,?_⟩;show Q (.ref he.objs.size) _;rw[hsz];exact hQ hh ⟨⟨_,_,.inr ⟨_,rfl⟩,zh⟩,up _ _ D.TIz (se.extBut _ _ D.TITO (sd.extBut _ _ D.TIi2 (sc.extBut _ _ D.TITO (sb.extBut _ _ D.TIi1 (sa.extBut _ _ D.TIz hTI))))),⟨_,_,up _ _ D.TOz te⟩,ie1.at λo e=>up _ o D.i1z e,ie2.at λo e=>up _ o D.i2z e⟩ th lh λc o hc e=>up c o (λq=>hc (by simp[q])) (ke c o hc e)
def AN {Q:Lk->Lm->Prop}(D:SL z cZ TO i1 i2 l1 l2)(hz:s.heap.get? z=Z (zO f0 (.bool c) cZ TO))(h0:f0=.none\/∃T:Nat,f0=OZ T)(hTI:Qc s.heap cZ (.ref i1) (.ref i2))(hTO:Qc s.heap TO a b)(h1:s.heap.IsListIter i1 l1 k)(h2:s.heap.IsListIter i2 l2 k)
  (hl1:s.heap.IsList l1 xs) (hl2:s.heap.IsList l2 ys) (hx:xs[k]?=Z x) (hy:ys[k]?=Z y) (hf:Lp (LD prog w) A (L7 (.ref z)) (λr s'=>r=false/\∃h',s'={s with heap:=h'}/\Nh z s.heap h'/\∃d,h'.get? z=Z (zO f0 (.bool d) cZ TO)) (λ_ _=>False) s)
  (hQ:∀h',tR h' z cZ TO i1 i2 l1 l2 (k+1)->Qc h' s.heap.objs.size x y->h'.objs.size=s.heap.objs.size+1->(∀c o,c∉[z,TO,i1,i2]->s.heap.get? c=Z o->h'.get? c=Z o)->Q (.ref s.heap.objs.size) {s with heap:=h'}) :
  Lp (LD prog w) A (O2.«zip.__next__» ⟨[.ref z],[]⟩) (λfin s'=>∃v,fin=.done (.ret v)/\Q v s') E s:=by
 show Lp _ _ (RV (.ref z) 2 >>= _) _ _ _;refine Le (MC hz rfl (x:=.bool false) rfl ?_);show Lp _ _ (RV (.ref z) 3 >>= _) _ _ _;refine Le (MC hz rfl (x:=.ref cZ) rfl (Le (MZ hTI rfl ?_)));show Lp _ _ (L7 (.ref z) >>= _) _ _ _;refine Le (MY hf (λr s' hrs=>?_) λ_ _ q=>q.elim);obtain⟨rfl,ha,rfl,sa,d,za⟩:=hrs;simp only[Ma,if_false];rw[<-Qu];simp only[UW,Ue];refine Le (Le (Le (Mc ?_)));show Lp _ _ (L9 (.ref i1) >>= _) _ _ _;refine Le (PL (h1.extBut sa.extBut D.i1z) (hl1.extBut sa.extBut D.l1z) hx λhb ib sb=>Lf (Lf ?_));refine Le (Le (Mc ?_));show Lp _ _ (L9 (.ref i2) >>= _) _ _ _;refine Le (PL ((h2.extBut sa.extBut D.i2z).extBut sb.extBut D.i12.symm) ((hl2.extBut sa.extBut D.l2z).extBut sb.extBut D.l2i1) hy λhc ic sc=>Lf (Lf ?_));refine Lf ?_;show Lp _ _ (WC [x,y] >>= _) _ _ _;refine Le (R0 (Lf ⟨_,rfl,?_⟩));have hsz:hc.objs.size=s.heap.objs.size:=by rw[sc.1,sb.1,sa.1]
 show Q (.ref hc.objs.size) _;rw[hsz];have up:∀c o,c≠i1->c≠i2->ha.get? c=Z o->(hc.push {cls:=.type "tuple",data:=.seq #[x,y]}).get? c=Z o:=λc o c1 c2 e=>Lg _ (sc.extBut _ _ c2 (sb.extBut _ _ c1 e))
 refine hQ _ ⟨⟨f0,d,h0,up _ _ D.i1z.symm D.i2z.symm za⟩,up _ _ D.TIi1 D.TIi2 (sa.extBut _ _ D.TIz hTI),⟨_,_,up _ _ D.TOi1 D.TOi2 (sa.extBut _ _ D.TOz hTO)⟩,ib.at λo e=>Lg _ (sc.extBut _ _ D.i12 e),ic.at λo e=>Lg _ e⟩ (by rw[<-hsz];exact LJ _ rfl) (by rw[OC,hsz]) λc o hc e=>up c o (λq=>hc (by simp[q])) (λq=>hc (by simp[q])) (sa.extBut _ _ (λq=>hc (by simp[q])) e)
def ny {t:LA}{f:Option Obj->Sem α}{Q:α->Lm->Prop}(h:Lp (LD prog w) A (f (s.heap.get? t)) Q E s):Lp (LD prog w) A (VX t >>= f) Q E s:=λΓ p hg=>by
 show Sem.wp _ _ (.loadIfAlive t _) _ _ _ _;rw[Sem.wp_loadIfAlive];exact h Γ p hg
def Hb (hz:s.heap.get? z=Z (zO f0 (.bool c) cZ TO))(h0:f0=.none\/∃T:Nat,f0=OZ T) :
  Lp (LD prog w) A (L7 (.ref z)) (λr s'=>r=true/\s'=s) (λ_ _=>False) s\/
  Lp (LD prog w) A (L7 (.ref z)) (λr s'=>r=false/\∃h',s'={s with heap:=h'}/\Nh z s.heap h'/\∃d,h'.get? z=Z (zO f0 (.bool d) cZ TO)) (λ_ _=>False) s:=by
 unfold L7;rcases h0 with rfl|⟨T,rfl⟩
 ·exact .inl (Le (MC hz rfl (x:=.none) rfl (Lf ⟨rfl,rfl⟩)))
 ·cases q:s.heap.get? T with
  | none=>
   refine .inl (Le (MC hz rfl (x:=OZ T) rfl ?_));show Lp _ _ (VX ((T:Int)).toNat >>= _) _ _ _;refine ny ?_;rw[Mq,q];exact Lf ⟨rfl,rfl⟩
  | some o=>
   refine .inr (Le (MC hz rfl (x:=OZ T) rfl ?_));show Lp _ _ (VX ((T:Int)).toNat >>= _) _ _ _;refine ny ?_;rw[Mq,q];show Lp _ _ (RV (.ref z) 1 >>= _) _ _ _;refine Le (MC hz rfl (x:=.bool c) rfl ?_);cases c with
   | true=>exact Lf ⟨rfl,s.heap,rfl,⟨rfl,λ_ _=>rfl⟩,_,hz⟩
   | false=>
    show Lp _ _ (Yd (.ref z) 1 (.bool true) >>= _) _ _ _;exact Le (MG hz (by simp) λh' z' s'=>Lf ⟨rfl,h',rfl,s',_,z'⟩)
def vB (D:SL z cZ TO i1 i2 l1 l2)(t:tR s.heap z cZ TO i1 i2 l1 l2 k)(hl1:s.heap.IsList l1 xs)(hl2:s.heap.IsList l2 ys)(hx:xs[k]?=Z x)(hy:ys[k]?=Z y)
  (hQ:∀h',tR h' z cZ TO i1 i2 l1 l2 (k+1)->Qc h' s.heap.objs.size x y->h'.objs.size=s.heap.objs.size+1->(∀c o,c∉[z,TO,i1,i2]->s.heap.get? c=Z o->h'.get? c=Z o)->Q (.ref s.heap.objs.size) {s with heap:=h'}) :
  Lp (LD prog w) A (L9 (.ref z)) Q E s:=by
 obtain⟨⟨f0,c,h0,hz⟩,hTI,⟨a,b,hTO⟩,h1,h2⟩:=t;have hT:s.TypeIs (.ref z) "zip":=⟨_,hz,rfl⟩;unfold L9;refine Le (MP (name:=NG "__next__") hT PySem.F.slot_zip_next (MW PySem.F.slot_zip_next hT PySem.F.entry_zip_next ?_ (PySem.F.args_zip_next_1 _)));rcases Hb (prog:=prog) (w:=w) (A:=A.in1) hz h0 with hf|hf
 ·exact y8 D hz hTI hTO h1 h2 hl1 hl2 hx hy hf λh' a1 a2 a3 a4=>Lf (hQ h' a1 a2 a3 a4)
 ·exact AN D hz h0 hTI hTO h1 h2 hl1 hl2 hx hy hf λh' a1 a2 a3 a4=>Lf (hQ h' a1 a2 a3 a4)
def yA (hh:A.handled=Y)(D:SL z cZ TO i1 i2 l1 l2)(t:tR s.heap z cZ TO i1 i2 l1 l2 k)(hl1:s.heap.IsList l1 xs)(hx:xs[k]?=Y)
  (hE:∀h' e,(∀c o,c∉[z,TO,i1,i2]->s.heap.get? c=Z o->h'.get? c=Z o)->(∃o,h'.get? e=Z o/\o.cls=.type "StopIteration")->E (.ref e) {s with heap:=h'}) :
  Lp (LD prog w) A (L9 (.ref z)) Q E s:=by
 obtain⟨⟨f0,c,h0,hz⟩,hTI,⟨a,b,hTO⟩,h1,h2⟩:=t;have hT:s.TypeIs (.ref z) "zip":=⟨_,hz,rfl⟩;unfold L9;refine Le (MP (name:=NG "__next__") hT PySem.F.slot_zip_next (MW PySem.F.slot_zip_next hT PySem.F.entry_zip_next ?_ (PySem.F.args_zip_next_1 _)));show Lp _ _ (RV (.ref z) 2 >>= _) _ _ _;refine Le (MC hz rfl (x:=.bool false) rfl ?_);show Lp _ _ (RV (.ref z) 3 >>= _) _ _ _;refine Le (MC hz rfl (x:=.ref cZ) rfl (Le (MZ hTI rfl ?_)));show Lp _ _ (L7 (.ref z) >>= _) _ _ _;rcases Hb (prog:=prog) (w:=w) (A:=A.in1) hz h0 with hf|hf
 ·refine Le (MY hf (λr s' hrs=>?_) λ_ _ q=>q.elim);refine q0x2 hrs λzz0 zz1=>?_;subst zz0;subst zz1;simp only[if_true];refine Le (Oy (Le (MC hz rfl (x:=.ref TO) rfl (Le (MG hz (by simp) λha za sa=>?_)))));have za:ha.get? z=Z (zO .ellipsis (.bool c) cZ TO):=za;refine Le ?_;simp only[UR,zipIdx_nil,UW,Ue];refine Le (Le (Us ?_));show Lp _ _ (L9 (.ref i1) >>= _) _ _ _;refine Le (Q6 (show A.in1.handled=Y from hh) (h1.extBut sa.extBut D.i1z) (hl1.extBut sa.extBut D.l1z) hx λhb e sb he=>?_);refine q1x2 he λoe hoe hce=>?_;have zb:hb.get? z=Z (zO .ellipsis (.bool c) cZ TO):=sb _ _ D.i1z.symm za;have ez:e≠z:=λq=>by rw[q,zb] at hoe;cases hoe;simp[zO] at hce
  exact MG zb (by simp) λhc _ sc=>hE hc e (λc o hx q=>sc.extBut _ _ (λp=>hx (by simp[p])) (sb _ _ (λp=>hx (by simp[p])) (sa.extBut _ _ (λp=>hx (by simp[p])) q))) ⟨oe,sc.extBut _ _ ez hoe,hce⟩
 ·refine Le (MY hf (λr s' hrs=>?_) λ_ _ q=>q.elim);obtain⟨rfl,ha,rfl,sa,d,za⟩:=hrs;simp only[Ma,if_false];rw[<-Qu];simp only[UW,Ue];refine Le (Le (Le (Mc ?_)));show Lp _ _ (L9 (.ref i1) >>= _) _ _ _;exact Le (Q6 (show A.in1.handled=Y from hh) (h1.extBut sa.extBut D.i1z) (hl1.extBut sa.extBut D.l1z) hx λhb e sb he=>hE hb e (λc o hx q=>sb _ _ (λp=>hx (by simp[p])) (sa.extBut _ _ (λp=>hx (by simp[p])) q)) he)
def vQ {Q:Lk->Lm->Prop}(D:SL z cZ TO i1 i2 l1 l2)(hez:e∉[z,TO,i1,i2,cZ,l1,l2])(he:Rf s.heap e z k old)(t:tR s.heap z cZ TO i1 i2 l1 l2 k)(hl1:s.heap.IsList l1 xs)(hl2:s.heap.IsList l2 ys)(hx:xs[k]?=Z x)(hy:ys[k]?=Z y)
  (hQ:∀h1 h' tk,tR h1 z cZ TO i1 i2 l1 l2 (k+1)->Qc h1 s.heap.objs.size x y->h1.objs.size=s.heap.objs.size+1->(∀c o,c∉[z,TO,i1,i2]->s.heap.get? c=Z o->h1.get? c=Z o)->
   Xx h' e z ((k:Int)+1) (.ref s.heap.objs.size) (s.heap.objs.size+1)->h'.get? (s.heap.objs.size+1)=Z {cls:=.type "tuple",data:=.seq #[.int k tk,.ref s.heap.objs.size]}->(∀c o,c≠e->h1.get? c=Z o->h'.get? c=Z o)->
   Q (.ref (s.heap.objs.size+1)) {s with heap:=h',toks:=tk+1}) :
  Lp (LD prog w) A (O2.«enumerate.__next__» ⟨[.ref e],[]⟩) (λfin s'=>∃v,fin=.done (.ret v)/\Q v s') E s:=by
 obtain⟨hp,g,d,tk,os⟩:=s;have hez':e∉[z,TO,i1,i2]:=λq=>hez (by simp only[L1,NS,or_false] at q ⊢;rcases q with q|q|q|q <;> simp[q])
 show Lp _ _ (RV (.ref e) 2 >>= _) _ _ _;refine Le (MC he rfl (x:=.ref z) rfl ?_);refine Le (vB D t hl1 hl2 hx hy λh₁ zt pr sz ke=>?_);have he₁:Rf h₁ e z k old:=ke e _ hez' he;have sz:h₁.objs.size=hp.objs.size+1:=sz;have pr:Qc h₁ hp.objs.size x y:=pr;show Lp _ _ (RV (.ref e) 3 >>= _) _ _ ⟨h₁,g,d,tk,os⟩;refine Le (MC he₁ rfl (x:=OZ k) rfl ?_);show Lp _ _ (RV (.ref e) 4 >>= _) _ _ ⟨h₁,g,d,tk,os⟩;refine Le (MC he₁ rfl (x:=.none) rfl ?_);show Lp _ _ (mkInt k >>= _) _ _ ⟨h₁,g,d,tk,os⟩;refine Le (wpAny_mkInt ?_);show Lp _ _ (Yd (.ref e) 3 (OZ ((k:Int)+1)) >>= _) _ _ ⟨h₁,g,d,tk+1,os⟩;refine Le (MG he₁ (by simp) λh₂ he₂ hs₂=>?_)
 replace hs₂:Nh e h₁ h₂:=hs₂
 replace he₂:Rf h₂ e z ((k:Int)+1) old:=he₂
 show Lp _ _ (Yd (.ref e) 4 .none >>= _) _ _ ⟨h₂,g,d,tk+1,os⟩;refine Le (MG he₂ (by simp) λh₃ he₃ hs₃=>?_)
 replace hs₃:Nh e h₂ h₃:=hs₃
 replace he₃:Rf h₃ e z ((k:Int)+1) old:=he₃
 show Lp _ _ (WC [.int k tk,.ref hp.objs.size] >>= _) _ _ ⟨h₃,g,d,tk+1,os⟩;refine Le (R0 ?_);have he₄:Rf (h₃.push {cls:=.type "tuple",data:=.seq #[.int k tk,.ref hp.objs.size]}) e z ((k:Int)+1) old:=Lg _ he₃;have hsz:h₃.objs.size=hp.objs.size+1:=by rw[hs₃.1,hs₂.1,sz]
 have hel:e<hp.objs.size:=Lq he;have nel:hp.objs.size+1≠e:=Oa (Og hel);have ht₄:(h₃.push {cls:=.type "tuple",data:=.seq #[.int k tk,.ref hp.objs.size]}).get? (hp.objs.size+1)=Z {cls:=.type "tuple",data:=.seq #[.int k tk,.ref hp.objs.size]}:=by rw[<-hsz];exact LJ _ rfl
 have hk₄:∀c o,c≠e->h₁.get? c=Z o->(h₃.push {cls:=.type "tuple",data:=.seq #[.int k tk,.ref hp.objs.size]}).get? c=Z o:=λc o hc q=>Lg _ (hs₃.extBut c o hc (hs₂.extBut c o hc q))
 generalize hh₄:h₃.push {cls:=.type "tuple",data:=.seq #[.int k tk,.ref hp.objs.size]}=h₄ at he₄ ht₄ hk₄;show Lp _ _ (L7 (.ref e) >>= _) _ _ ⟨h₄,g,d,tk+1,os⟩;rw[hsz];refine Le ?_;unfold L7;refine Le (MC he₄ rfl (x:=.none) rfl (Lf ?_));simp only[if_true];refine Le (Oy ?_);refine Le (MC he₄ rfl (x:=old) rfl ?_);refine Le (MG he₄ (by simp) λh₅ he₅ hs₅=>?_)
 replace hs₅:Nh e h₄ h₅:=hs₅
 replace he₅:Rf h₅ e z ((k:Int)+1) (.ref hp.objs.size):=he₅
 show Lp _ _ (NR (.ref e) (.ref (hp.objs.size+1)) >>= _) _ _ ⟨h₅,g,d,tk+1,os⟩;refine Le ?_;unfold NR;refine Le (MG he₅ (by simp) λh₆ he₆ hs₆=>?_)
 replace hs₆:Nh e h₅ h₆:=hs₆
 replace he₆:Xx h₆ e z ((k:Int)+1) (.ref hp.objs.size) (hp.objs.size+1):=he₆
 refine MG he₆ (by simp) λh₇ he₇ hs₇=>?_
 replace hs₇:Nh e h₆ h₇:=hs₇
 replace he₇:Xx h₇ e z ((k:Int)+1) (.ref hp.objs.size) (hp.objs.size+1):=he₇
 exact Le (OU (Lf ⟨_,rfl,hQ h₁ h₇ tk zt pr sz ke he₇ (hs₇.extBut _ _ nel (hs₆.extBut _ _ nel (hs₅.extBut _ _ nel ht₄))) λc o hc q=>hs₇.extBut c o hc (hs₆.extBut c o hc (hs₅.extBut c o hc (hk₄ c o hc q)))⟩))
end
def F9 (K:LX)(a b:LA):It:=
 ⟨λi H=>∃xs ys x y,gG K H a xs/\gG K H b ys/\xs[i]?=Z x/\ys[i]?=Z y,
  λi H v H'=>∃p q x y,H p=Y/\bG H p (.tup [x,y]) q=Y/\H'=bG (bG H p (.tup [x,y])) q (.tup [.int (i:Int),.ref p])/\v=.ref q/\(∀xs,gG K H a xs->xs[i]?=Z x)/\∀ys,gG K H b ys->ys[i]?=Z y,
  λi H=>∃xs,gG K H a xs/\xs.length<=i⟩
def BX {P:Mi}{w:My}{K:LX}{es:List MT}{kt:Nat}{pos:Pos}{e z cZ TO i1 i2 a b:LA}(D:SL z cZ TO i1 i2 a b)(hez:e∉[z,TO,i1,i2,cZ,a,b]) :
  oq P w K (.Tuple es kt pos) (F9 K a b) [e,z,TO,i1,i2,cZ] e (λi h=>(∃old,Rf h e z i old)/\tR h z cZ TO i1 i2 a b i) where
 mem:=by simp
 obj:=λi h st c hc=>by
  obtain⟨⟨old,he⟩,⟨f0,cc,h0,hz⟩,hTI,⟨x,y,hTO⟩,⟨o1,e1,_,d1⟩,⟨o2,e2,_,d2⟩⟩:=st;simp only[L1,NS,or_false] at hc;rcases hc with rfl|rfl|rfl|rfl|rfl|rfl
  ·exact⟨_,he,λv q=>by cases q⟩
  ·exact⟨_,hz,λv q=>by cases q⟩
  ·exact⟨_,hTO,λv q=>by cases q⟩
  ·exact⟨o1,e1,λv q=>by rw[d1] at q;cases q⟩
  ·exact⟨o2,e2,λv q=>by rw[d2] at q;cases q⟩
  ·exact⟨_,hTI,λv q=>by cases q⟩
 keep:=λi h h' st k=>by
  obtain⟨⟨old,he⟩,⟨f0,cc,h0,hz⟩,hTI,⟨x,y,hTO⟩,h1,h2⟩:=st;exact⟨⟨old,k e (by simp) _ he⟩,⟨f0,cc,h0,k z (by simp) _ hz⟩,k cZ (by simp) _ hTI,⟨x,y,k TO (by simp) _ hTO⟩,h1.at λo e=>k i1 (by simp) o e,h2.at λo e=>k i2 (by simp) o e⟩
 item:=by
  intro X hP hw hK hc i af s σ H E I hf st hg;subst hP hw hK;obtain⟨⟨old,he⟩,zt⟩:=st;refine q4x4 hg λxs ys x y hq1 hq2 hx hy=>?_;refine q1x3 (I.list hq1) λits1 rv1 p1 _=>?_;refine q1x3 (I.list hq2) λits2 rv2 p2 _=>?_;refine q1x2 (rv1.get hx) λu1 hu1 ru1=>?_;refine q1x2 (rv2.get hy) λu2 hu2 ru2=>?_;have hT:s.TypeIs (.ref e) "enumerate":=⟨_,he,rfl⟩;have lt:∀c∈[e,z,TO,i1,i2,cZ],c<s.heap.objs.size:=λc hc=>by
   obtain⟨⟨f0,cc,h0,hz⟩,hTI,⟨x,y,hTO⟩,⟨o1,e1,_,d1⟩,⟨o2,e2,_,d2⟩⟩:=zt;simp only[L1,NS,or_false] at hc;rcases hc with q|q|q|q|q|q <;> rw[q]
   ·exact Lq he
   ·exact Lq hz
   ·exact Lq hTO
   ·exact Lq e1
   ·exact Lq e2
   ·exact Lq hTI
  unfold O5;refine Le (PR (MP (name:=NG "__next__") hT Ov (MW Ov hT QN
   (vQ D hez he zt p1.isList p2.isList (x:=u1) (y:=u2) (by simpa using hu1) (by simpa using hu2) λh1 h' tk zt1 pr sz ke ho ht kh=>Lf ⟨_,rfl,RX ho λh2 he2 hs2=>?_⟩) (Qx _))))
  have hs2:Nh e h' h2:=hs2;have fr:H s.heap.objs.size=Y:=I.hok.fresh (Lr _);have sub:∀c,c∈[z,TO,i1,i2]->c∈[e,z,TO,i1,i2,cZ]:=λc hc=>by
   simp only[L1,NS,or_false] at hc ⊢;rcases hc with q|q|q|q <;> simp[q]
  have new1:cP X.prog X.w (bG H s.heap.objs.size (.tup [x,y])) h1 s.heap.objs.size (.tup [x,y]):=
   ⟨LG (by decide:2<=1000) (by rw[Oo];decide),[u1,u2],.cons ru1 (.cons ru2 .nil),⟨_,pr,rfl,_,rfl⟩⟩
  have I1:=fW (t':=s.toks) I (λc hc=>hf c (sub c hc)) ke (Lr _) new1;have fr2:bG H s.heap.objs.size (.tup [x,y]) (s.heap.objs.size+1)=Y:=I1.hok.fresh (show h1.objs.size<=_ by rw[sz];exact Lr _);have k2:∀c o,c∉[e]->h1.get? c=Z o->h2.get? c=Z o:=λc o hc q=>(hs2.2 c (λz=>hc (by simp[z]))).trans (kh c o (λz=>hc (by simp[z])) q)
  have elt:e<s.heap.objs.size:=lt e (by simp);have ht2:h2.get? (s.heap.objs.size+1)=Z {cls:=.type "tuple",data:=.seq #[.int i tk,.ref s.heap.objs.size]}:=(hs2.2 _ (Oa (Og elt))).trans ht;have new2:cP X.prog X.w (bG (bG H s.heap.objs.size (.tup [x,y])) (s.heap.objs.size+1) (.tup [.int (i:Int),.ref s.heap.objs.size])) h2 (s.heap.objs.size+1) (.tup [.int (i:Int),.ref s.heap.objs.size]):=
   ⟨LG (by decide:2<=1000) (by rw[Oo];decide),[.int i tk,.ref s.heap.objs.size],.cons ⟨tk,rfl⟩ (.cons rfl .nil),⟨_,ht2,rfl,_,rfl⟩⟩
  have I2:=fW (t':=tk+1) I1 (ch:=[e]) (λc hc=>by
   rw[LK.mp hc];refine q0x2 (hf e (by simp)) λf1 f2=>?_;exact⟨by rw[au (LR elt)];exact f1,f2⟩) k2 (show h1.objs.size<=s.heap.objs.size+1 by rw[sz];exact Lr _) new2
  refine⟨.ref (s.heap.objs.size+1),_,I2,rfl,⟨_,_,x,y,fr,fr2,rfl,rfl,λzs h=>by rw[I.list_inj h hq1];exact hx,λzs h=>by rw[I.list_inj h hq2];exact hy⟩,⟨⟨_,by simpa using he2⟩,?_⟩,λc hc=>?_⟩
  ·have ne:∀c,c∈[z,TO,i1,i2,cZ,a,b]->c∉[e]:=λc hc q=>hez (by rw[<-LK.mp q];exact hc)
   obtain⟨⟨f0,cc,h0,hz⟩,hTI,⟨x,y,hTO⟩,h1',h2'⟩:=zt1;exact⟨⟨f0,cc,h0,k2 _ _ (ne z (by simp)) hz⟩,k2 _ _ (ne cZ (by simp)) hTI,⟨x,y,k2 _ _ (ne TO (by simp)) hTO⟩,h1'.at λo e=>k2 _ o (ne i1 (by simp)) e,h2'.at λo e=>k2 _ o (ne i2 (by simp)) e⟩
  ·have l:=lt c hc;rw[au (LR (Og l)),au (LR l)];exact(hf c hc).1
 done:=by
  intro X hP hw hK hc i af s σ H E I hf st hg;subst hP hw hK;obtain⟨⟨old,he⟩,zt⟩:=st;refine q1x2 hg λxs hq1 hx=>?_;refine q1x3 (I.list hq1) λits1 rv1 p1 _=>?_;have hl:=rv1.length;have hT:s.TypeIs (.ref e) "enumerate":=⟨_,he,rfl⟩;unfold O5;refine Le (PR (MP (name:=NG "__next__") hT Ov (MW Ov hT QN ?_ (Qx _))));show Lp _ _ (RV (.ref e) 2 >>= _) _ _ _;refine Le (MC he rfl (x:=.ref z) rfl (Le (yA (show X.A.in1.handled=Y from I.ok.hd hc) D zt p1.isList (by simp;omega) λh' x hb hx'=>?_)));refine q1x2 hx' λo ho hcl=>?_;refine Le (Rg (T:="StopIteration") (b:=true) ⟨o,ho,hcl⟩ TH ?_);exact Lf ⟨rfl,mR (t':=s.toks) I hf λc o hc q=>hb c o (λz=>hc (by simp only[L1,NS,or_false] at z ⊢;rcases z with z|z|z|z <;> simp[z])) q⟩
 self:=λ_ _ _ _ _ st h=>by
  obtain⟨⟨old,he⟩,_⟩:=st;exact QQ he h
def GR (z:LA):Obj:={cls:=.type "enumerate",data:=.fields #[.none,.bool false,.ref z,OZ 0,.none,.none]}
open AutoSeq1 (wpAny_loadPart')
def rA (z cZ TO:LA) :
  Meets (O2.«enumerate.__new__» ⟨[.type "enumerate",.ref z],[]⟩) (λ_ R s=>IsZip s.heap z cZ TO .none/\R (.ok (.ret (.ref s.heap.objs.size))) {s with heap:=s.heap.push (GR z)}):=
 .of_wp λprog w A R s hh=>by
  obtain⟨hp,g,d,tk,os⟩:=s;refine q0x2 hh λhz hr=>?_;have hsub:=Xd;have hT:IsZip (VO ⟨hp,g,d,tk,os⟩) z cZ TO .none:=hz
  wp_walk using NV hz
  refine V3 λst=>Lf ?_
  split
  ·rename_i c _ _ _ _ _;cases (c==Px "enumerate")
   all_goals
    wp_walk using NV hz,Rl hT
    exact⟨_,rfl,hr⟩
  ·wp_walk using NV hz,Rl hT
   exact⟨_,rfl,hr⟩
def oS {z cZ TO:LA}(hz:IsZip s.heap z cZ TO .none)
  (q:Rf (s.heap.push (GR z)) s.heap.objs.size z 0 .none->Q (.ref s.heap.objs.size) {s with heap:=s.heap.push (GR z)}):Lp (LD prog w) A (call (.type "enumerate") [.ref z]) Q E s:=by
 refine XH UJ (by decide) (SS _) (Td _) (λobj=>TF obj _) Te (rA z cZ TO) ⟨hz,?_⟩;have he:Rf (s.heap.push (GR z)) s.heap.objs.size z 0 .none:=LJ _ rfl;exact⟨⟨_,he,rfl⟩,q he⟩
def HQ (hg:Gl X "enumerate")(hm:X.mg "enumerate"=Y)(hv:Mp "enumerate"=Z (.type "enumerate"))(hg2:Gl X "zip")(hm2:X.mg "zip"=Y)(hv2:Mp "zip"=Z (.type "zip"))(hl:PA X [l,r] tl)
  (hs0:Mt [.Call (.Name "zip" p2) [l,r] [] pos2] X.env=[(false,Ou (.Call (.Name "zip" p2) [l,r] [] pos2) X.env)]:=by rfl) (hs:Mt [l,r] X.env=(false,Ou l X.env)::Mt [r] X.env:=by rfl) (hp:(P6 pos2 (Mt [r] X.env)).any (·.1)=false:=by rfl) :
  PI X (.Tuple es kt tp) (.Call (.Name "enumerate" p) [.Call (.Name "zip" p2) [l,r] [] pos2] [] pos) (λσ H R=>tl σ H λxs H1=>∃a b,xs=[.ref a,.ref b]/\(∃xs,gG X.K H1 a xs)/\(∃ys,gG X.K H1 b ys)/\R (F9 X.K a b) H1):=by
 intro af s σ H R I h;refine X2 (iI I hg hm hv (Nn ?_ hs0 rfl));rw[hs0];show Lp _ _ (YG ((false,Ou (.Call (.Name "zip" p2) [l,r] [] pos2) X.env)::P6 pos [])) _ _ s;refine Uz (X2 (iI I hg2 hm2 hv2 (Nn (bR (hl pos2 af s σ H _ I h) λus s1 hxx=>?_) hs hp)));obtain⟨vs,H1,I1,r1,a,b,e,⟨xs,hq1⟩,⟨ys,hq2⟩,q⟩:=hxx;subst e;cases r1 with
 | cons ra rr=>
  cases rr with
  | cons rb rr=>
   cases rr;rw[show _=NJ a from ra,show _=NJ b from rb];refine q1x3 (I1.list hq1) λits1 rv1 p1 _=>?_;refine q1x3 (I1.list hq2) λits2 rv2 p2 _=>?_;refine call_zip_2 p1.isList p2.isList λh' z1 z2 z3 z4 z5 z6 z7=>UZ (oS (s:={s1 with heap:=h'}) z1 λhe=>?_)
   have la:a<s1.heap.objs.size:=by refine q1x2 p1.isList λo e _=>?_;exact Lq e
   have lb:b<s1.heap.objs.size:=by refine q1x2 p2.isList λo e _=>?_;exact Lq e
   have up:∀c o,h'.get? c=Z o->(h'.push (GR (s1.heap.objs.size+4))).get? c=Z o:=λc o e=>Lg _ e
   have eh:(VO {s1 with heap:=h'}).objs.size=s1.heap.objs.size+5:=z6;rw[eh] at he ⊢;refine QQ he ⟨s1.heap.objs.size+5,[s1.heap.objs.size+5,s1.heap.objs.size+4,s1.heap.objs.size+3,s1.heap.objs.size,s1.heap.objs.size+1,s1.heap.objs.size+2],_,_,H1,rfl,I1.kept (t':=s1.toks) (λc o e=>up c o (z7 c o e)),BX (XW la lb) ?_,⟨⟨_,he⟩,⟨.none,false,.inl rfl,up _ _ z1⟩,up _ _ z2,⟨_,_,up _ _ z3⟩,z4.at λo e=>up _ o e,z5.at λo e=>up _ o e⟩,λc hc=>?_,q⟩
   ·intro hc;simp only[L1,NS,or_false] at hc;have up5:∀c:Nat,c<s1.heap.objs.size+5->s1.heap.objs.size+5≠c:=λc h=>Oa h
    have l5:∀c:Nat,c<s1.heap.objs.size->c<s1.heap.objs.size+5:=λc h=>LB h (Mu _ _)
    rcases hc with q|q|q|q|q|q|q
    ·exact up5 _ (Qk (by decide) _) q
    ·exact up5 _ (Qk (by decide) _) q
    ·exact up5 _ (Nat.lt_add_of_pos_right (by decide)) q
    ·exact up5 _ (Qk (by decide) _) q
    ·exact up5 _ (Qk (by decide) _) q
    ·exact up5 _ (l5 _ la) q
    ·exact up5 _ (l5 _ lb) q
   ·have hb:s1.heap.objs.size<=c:=by
     simp only[L1,NS,or_false] at hc;rcases hc with q|q|q|q|q|q <;> rw[q] <;> omega
    exact I1.fpOk hb (I1.hok.fresh hb)
def CG (ds:List D)(M:aF):aQ jx:=match ds with
 | [.lst xs,.lst ys]=>if xs.length=ys.length then .ok ⟨dL (fM xs ys),Y⟩ M else .bad
 | _=>.bad
def Bo (ds:List D)(M:aF):CG ds M=.bad\/∃xs ys,ds=[.lst xs,.lst ys]/\xs.length=ys.length/\CG ds M=.ok ⟨dL (fM xs ys),Y⟩ M:=by
 match ds with
 | []=>exact .inl rfl
 | [x]=>cases x <;> exact .inl rfl
 | _::_::_::_=>exact .inl (by unfold CG;split <;> first|rfl|(rename_i h;cases h))
 | [x,y]=>
  cases x with
  | lst xs=>
   cases y with
   | lst ys=>
    by_cases h:xs.length=ys.length
    ·exact .inr ⟨xs,ys,rfl,h,if_pos h⟩
    ·exact .inl (if_neg h)
   | _=>exact .inl rfl
  | _=>exact .inl rfl
def C9 (g:GA):GI:=λρ M=>(g ρ M).bind CG
def jV (h:xs.length=ys.length):(fM xs ys).length=xs.length:=by
 unfold fM;rw[length_zipWith,<-h,Nat.min_self]
def ER {K:LX}{a:LA}(ta:∀θ1 H1,Grow θ H θ1 H1->gG K H1 a vs)(tb:∀θ1 H1,Grow θ H θ1 H1->gG K H1 b us)(hl:xs.length=ys.length)(r1:aR K θ H xs vs)(r2:aR K θ H ys us):sB K (F9 K a b) θ H ⟨dL (fM xs ys),Y⟩:=by
 intro θ1 H1 M1 g _ i;have t1:=ta θ1 H1 g.toGrow;have t2:=tb θ1 H1 g.toGrow;have r1:=r1.go g;have r2:=r2.go g;refine⟨λd e=>?_,λh=>⟨vs,t1,by
  have h:(dL (fM xs ys)).length<=i:=h;rw[dW,jV hl,aq r1] at h;exact h⟩⟩
 refine q1x2 (kj e) λxy exy ed=>?_;refine q2x3 (n8 exy) λx y ex ey ed2=>?_;refine q1x2 (bY r1 ex) λv ev rv=>?_;refine q1x2 (bY r2 ey) λu eu ru=>?_;refine⟨⟨vs,us,v,u,t1,t2,ev,eu⟩,λx' H2 q=>?_⟩;obtain⟨p,q,x2,y2,np,nq,eH,exr,h1,h2⟩:=q;have e1:=h1 vs t1;rw[ev] at e1;cases e1;have e2:=h2 us t2;rw[eu] at e2;cases e2;subst eH exr ed ed2;have g2:=cq (o:=.tup [v,u]) g.wr np;have n1:=dY (ds:=[x,y]) g.wr np ⟨_,_,rfl,rv,_,_,rfl,ru,rfl⟩;exact⟨g2.trans (cq g2.wr nq),dY (ds:=[.int (i:Int),.tup [x,y]]) g2.wr nq ⟨_,_,rfl,rfl,_,_,rfl,n1,rfl⟩⟩
def HV (hg:Gl X "enumerate")(hm:X.mg "enumerate"=Y)(hv:Mp "enumerate"=Z (.type "enumerate"))(hg2:Gl X "zip")(hm2:X.mg "zip"=Y)(hv2:Mp "zip"=Z (.type "zip"))(hl:PA X [l,r] (tA X g))
  (hs0:Mt [.Call (.Name "zip" p2) [l,r] [] pos2] X.env=[(false,Ou (.Call (.Name "zip" p2) [l,r] [] pos2) X.env)]:=by rfl) (hs:Mt [l,r] X.env=(false,Ou l X.env)::Mt [r] X.env:=by rfl) (hp:(P6 pos2 (Mt [r] X.env)).any (·.1)=false:=by rfl) :
  PI X (.Tuple es kt tp) (.Call (.Name "enumerate" p) [.Call (.Name "zip" p2) [l,r] [] pos2] [] pos) (tI X (C9 g)):=by
 intro af s σ H R I h;refine HQ hg hm hv hg2 hm2 hv2 hl hs0 hs hp af s σ H R I ?_;refine q3x3 h λρ θ M hd hw h=>?_;refine jS hd hw (tL X θ H R) (λc M' h=>h) (λh=>h) h λds M1 vs θ1 H1 g1 r1 h1=>?_
 rcases Bo ds M1 with e|⟨xs,ys,rfl,hl,e⟩
 ·rw[e] at h1;exact h1.elim
 rw[e] at h1;obtain⟨v,rr,ev,⟨a,us,e2,ta,rs⟩,v2,rr2,ev2,⟨b,FR,e3,tb,rs2⟩,rr3⟩:=r1;have rr3:rr2=[]:=rr3;subst rr3 ev2 e2 e3;exact⟨a,b,ev,⟨us,ta.sq⟩,⟨FR,tb.sq⟩,h1 _ θ1 H1 g1 (ER (λθ2 H2 g2=>(ta.grow g2).sq) (λθ2 H2 g2=>(tb.grow g2).sq) hl rs rs2)⟩
def Ji {a:MT}(hg:Gl X "enumerate")(hm:X.mg "enumerate"=Y)(hv:Mp "enumerate"=Z (.type "enumerate"))(hg2:Gl X "zip")(hm2:X.mg "zip"=Y)(hv2:Mp "zip"=Z (.type "zip"))(ha:QA X [a,b] gA)(h1:bA a=true:=by rfl)(h2:dA [b]=true:=by rfl) :
  QI X (.Tuple es kt tp) (.Call (.Name "enumerate" p) [.Call (.Name "zip" p2) [a,b] [] pos2] [] pos) (C9 gA):=⟨HV hg hm hv hg2 hm2 hv2 ha.h rfl (sE h1) (sS h2)⟩
def rQ (d:D)(M:aF):D:=match now d M with
 | .lst xs=>.lst (xs.map λx=>now x M)
 | d=>d
def A4 (neg:Bool):F2:=λx y M=>if bN 40 (rQ x M)&&bN 40 (rQ y M) then .ok (.bl (pq (rQ x M) (rQ y M) != neg)) M else .bad
section
variable {X:Cx}
theorem jk (I:Inv X af σ H s)(hw:Wr X.K θ H M):∀(ds:List D) (n:Nat) (vs:List V) (us:List Lk),a9 n (ds.map λx=>now x M)=true->aR X.K θ H ds vs->aS vs us->∃as,ReadsAll s.heap us (lV (ds.map λx=>now x M)) as
 | [],n,vs,us,h,r,q=>by have e:vs=[]:=r;subst e;cases q;exact⟨_,.nil⟩
 | d::ds,n,vs,us,h,r,q=>by
  have h:=ML.mp (show(bN n (now d M)&&a9 n (ds.map λx=>now x M))=true from h);refine q2x3 r λv rr e r1 r2=>?_;subst e;cases q with
  | cons q1 q2=>
   refine q1x1 (gE I hw h.1 r1 q1) λas R1=>?_;refine q1x1 (jk I hw ds n rr _ h.2 r2 q2) λbs R2=>?_;exact⟨_,.cons R1 R2⟩
def qH (I:Inv X af σ H s)(hw:Wr X.K θ H M)(h:bN n (rQ d M)=true)(r:dj X.K θ H d v)(q:bg v u):∃as,Reads s.heap u (kT (rQ d M)) as:=by
 cases d with
 | mr k=>
  refine q1x2 r λa e ta=>?_;subst e;cases q;cases qm:M[k]? with
  | none=>
   have e:rQ (.mr k) M=.mr k:=by simp[rQ,now,qm]
   rw[e] at h;cases n <;> exact ff h
  | some m=>
   cases m with
   | lst xs=>
    have e:rQ (.mr k) M=.lst (xs.map λx=>now x M):=by simp[rQ,now,qm]
    rw[e] at h ⊢;cases n with
    | zero=>exact ff h
    | succ n=>
     refine q1x2 (hw.at_ k a _ ta qm) λvs hv ra=>?_;obtain⟨its,rv,⟨o,m,h1,h2,_,h3⟩,_⟩:=I.list (X:=X) (xs:=vs) (.inl (.inl hv));refine q1x1 (jk I hw xs n vs its h ra rv) λas R=>?_;exact⟨_,.list h1 h2 h3 (by simpa using R)⟩
   | _=>
    have e:rQ (.mr k) M=.mr k:=by simp[rQ,now,qm]
    rw[e] at h;cases n <;> exact ff h
 | lst xs=>
  have e:rQ (.lst xs) M=.lst (xs.map λx=>now x M):=rfl;rw[e] at h ⊢;cases n with
  | zero=>exact ff h
  | succ n=>
   refine q2x3 r λa vs e ta ra=>?_;subst e;cases q;obtain⟨its,rv,⟨o,m,h1,h2,_,h3⟩,_⟩:=I.list (ta.sq (K:=X.K));refine q1x1 (jk I hw xs n vs its h ra rv) λas R=>?_;exact⟨_,.list h1 h2 h3 (by simpa using R)⟩
 | _=>exact og I _ n v u h r q
def E5 (hu:X.A.units+64<Qv):iH X (MI .NotEq) (rD X (A4 true)):=by
 intro af s σ H x y v u Q I rx ry h;refine q4x4 h λθ M dx dy hw r1 r2 h=>?_;unfold A4 at h;split at h
 ·rename_i hc;rw[LN] at hc;refine q1x1 (qH I hw hc.1 r1 rx) λas R1=>?_;refine q1x1 (qH I hw hc.2 r2 ry) λbs R2=>?_;have l1:=gk _ _ hc.1;have l2:=gk _ _ hc.2;refine Tp R1 R2 l1.1 l2.1 (by have:=l1.2;have:min (kT (rQ dx M)).depth (kT (rQ dy M)).depth<=(kT (rQ dx M)).depth:=Qp _ _;omega) ?_;rw[mq _ _ _ _ hc.1 hc.2];refine⟨.bl _,H,I,rfl,?_⟩;have:=h _ θ H (.refl hw) rfl;rw[Sl] at this;exact this
 ·exact h.elim
def Iz {k:Nat}(hr:bE k X.A):Q2 X (MI .NotEq) (A4 true):=⟨E5 hr.units⟩
end
end DL
namespace DL
open PySem PySem.Spec PyProof.Rows L2 List
def iK (sc:PY)(fk:Str->Option Qm)(x:Str)(R N:List Str):Bool:=
 decide (sc.kind=.function)&&sc.names.lookup x==Z .cell&&(sc.names.filter λp=>p.2==.cell)==[(x,.cell)] &&
 sc.names.all (λp=>match p.2 with
  | .local=>p.1==(".0":Str)&&sc.names.lookup p.1==Z .local
  | .free=>fk p.1==Z .cell||fk p.1==Z .free
  | _=>true) &&
 decide ((x::R).Nodup)&&!(R.contains (".0":Str))&&R.length==N.length &&
 (R.zip N).all (λp=>p.1==p.2||sc.names.lookup p.1 != Z .free)
structure bX (sc:PY)(fk:Str->Option Qm)(x:Str)(R N:List Str):Prop where
 kind:sc.kind=.function
 own:sc.names.lookup x=Z .cell
 one:(sc.names.filter λp=>p.2==.cell)=[(x,.cell)]
 locs:∀p∈sc.names,p.2=.local->p.1=(".0":Str)
 lnames:∀p∈sc.names,p.2=.local->sc.names.lookup p.1=Z .local
 free:∀p∈sc.names,p.2=.free->fk p.1=Z .cell\/fk p.1=Z .free
 nd:(x::R).Nodup
 no0:(".0":Str)∉R
 len:R.length=N.length
 same:∀(i:Nat) y,R[i]?=Z y->sc.names.lookup y=Z .free->N[i]?=Z y
def bX.of {R:List Str}(h:iK sc fk x R N=true):bX sc fk x R N:=by
 unfold iK at h;rw[LN,LN,LN,LN,LN,LN,LN] at h;obtain⟨⟨⟨⟨⟨⟨⟨h1,h2⟩,h0⟩,h3⟩,h4⟩,h5⟩,h6⟩,h7⟩:=h;rw[Lx] at h3 h7;rw[beq_iff_eq] at h2 h0 h6;refine⟨of_decide_eq_true h1,h2,h0,λp hp e=>?_,λp hp e=>?_,λp hp e=>?_,of_decide_eq_true h4,?_,h6,λi y hy hf=>?_⟩
 ·have:=h3 p hp;rw[e] at this;simp at this;exact this.1
 ·have:=h3 p hp;rw[e] at this;simp at this;exact this.2
 ·have:=h3 p hp;rw[e] at this;simp at this;exact this
 ·intro hm;have:R.contains (".0":Str)=true:=by simpa using hm
  rw[this] at h5;cases h5
 ·refine q1x1 (Lj.mp hy) λhi e=>?_;have hn:i<N.length:=by rw[<-h6];exact hi
  have hz:(R[i],N[i])∈R.zip N:=by
   rw[RC];exact⟨i,by simp;omega,by simp⟩
  have:=h7 _ hz;simp only[V1,beq_iff_eq,bne_iff_ne,ne_eq] at this;rcases this with q|q
  ·rw[Lh hn,<-q,e]
  ·rw[e] at q;exact absurd hf q
def bc (X:Cx)(scope:PY)(x:Str)(R:List Str)(fp:List LA)(s:Lm)(H:Hp)(C:LA):Cx where
 prog:=X.prog
 w:=X.w
 K:=X.K
 mg:=X.mg
 base:=X.base
 A:=X.A
 N:=[x]++R
 s₀:=s
 H₀:=H
 env:=compEnvC scope ((x,C+1)::cw X.env.cells scope.names []) C X.env
 outer:=X.stack
 stack:=X.stack
 ex:=fp
 fn:=λy=>y==x
 calm:=X.calm
 pn:=[]
 xe:=λ_ _=>False
theorem kG:∀{l:List (Str×Qm)},(l.filter λp=>p.2==.cell)=[(x,.cell)]->Rb n l acc=(x,n)::acc
 | [],h=>by cases h
 | (y,k)::r,h=>by
  unfold Rb
  by_cases q:(k==Pk)=true
  ·rw[PN (by exact q)] at h;refine q0x2 (Pi h) λe1 e2=>?_;cases e1;rw[if_pos q];have go:∀(l:List (Str×Qm)) (m:Nat) (a:List (Str×LA)),(l.filter λp=>p.2==.cell)=[]->Rb m l a=a:=by
    intro l
    induction l with
    | nil=>intro m a _;rfl
    | cons p t ih=>
     intro m a hf;obtain⟨z,kz⟩:=p;unfold Rb
     by_cases qz:(kz==Pk)=true
     ·rw[PN (by exact qz)] at hf;cases hf
     ·rw[if_neg qz];rw[PP (by exact qz)] at hf;exact ih m a hf
   exact go r _ _ e2
  ·rw[PP (by exact q)] at h;rw[if_neg q];exact kG h
theorem kF:∀{l:List (Str×Qm)},(l.filter λp=>p.2==.cell)=[(x,.cell)]->VF hp l=hp.push {cls:=.type "cell",data:=.cell Y}
 | [],h=>by cases h
 | (y,k)::r,h=>by
  unfold VF
  by_cases q:(k==Pk)=true
  ·rw[PN (by exact q)] at h;refine q0x2 (Pi h) λe1 e2=>?_;cases e1;rw[if_pos q];have go:∀(l:List (Str×Qm)) (m:Nu),(l.filter λp=>p.2==.cell)=[]->VF m l=m:=by
    intro l
    induction l with
    | nil=>intro m _;rfl
    | cons p t ih=>
     intro m hf;obtain⟨z,kz⟩:=p;unfold VF
     by_cases qz:(kz==Pk)=true
     ·rw[PN (by exact qz)] at hf;cases hf
     ·rw[if_neg qz];rw[PP (by exact qz)] at hf;exact ih m hf
   exact go r _ e2
  ·rw[PP (by exact q)] at h;rw[if_neg q];exact kF h
def pI
  (h1:(scope.names.filter λp=>p.2==.cell)=[(x,.cell)])
  (hQ:Q (newEnv scope s.heap.objs.size globals ((x,s.heap.objs.size+1)::closure) qual Y .none (Z outer) Q9) {s with heap:=(s.heap.push {cls:=.type "dict",data:=.dict #[]}).push {cls:=.type "cell",data:=.cell Y}}) :
  Lp M A (QR scope globals closure [] qual Y .none (Z outer)) Q E s:=by
 simp only[QR,Option.isSome_some,if_true];refine Le (VU ?_);refine Le (wpAny_layCells _ (λname kind cells=>by cases hkc:kind==Pk <;> simp[hkc]) _ _ _ _ ?_);rw[show({s with heap:=s.heap.push {cls:=.type "dict",data:=.dict #[]}}:Lm).heap.objs.size=s.heap.objs.size+1 from OC ..,kG h1,kF h1];rw[Ue];exact Le (Lf (Lf hQ))
section
variable {X:Cx}{af:List (LA×Obj)}{σ:L2.St}{H:Hp}{s:Lm}{scope:PY}{x:Str}{R:List Str}{fp:List LA}{C:LA}
def bX.cells (S:bX scope X.env.kindOf x R X.N)(I:L2.Inv X af σ H s):∀p∈scope.names,p.2=.free->∃c,X.env.cells.lookup p.1=Z c:=λp hp e=>I.ok.has p.1 (S.free p hp e)
def kD (S:bX scope X.env.kindOf x R X.N)(I:L2.Inv X af σ H s)(h:((x,C+1)::cw X.env.cells scope.names []).lookup y=Z c):(y=x/\c=C+1)\/(y≠x/\X.env.cells.lookup y=Z c):=by
 rw[Pw] at h
 by_cases q:(y==x)=true
 ·rw[q] at h;cases h;exact .inl ⟨by simpa using q,rfl⟩
 ·rw[Rh] at q;rw[q] at h;exact .inr ⟨by simpa using q,l9 scope.names [] (λ_ z=>by cases z) (S.cells I) (y,c) (PySem.mem_of_lookup h)⟩
def Au (S:bX scope X.env.kindOf x R X.N)(h:scope.names.lookup y=Z .cell):y=x:=by
 have m:(y,Pk)∈scope.names.filter λp=>p.2==.cell:=Q8.mpr ⟨PySem.mem_of_lookup h,rfl⟩
 rw[S.one] at m;have:=LK.mp m;exact(OV this).1
def yo (S:bX scope X.env.kindOf x R X.N)(I:L2.Inv X af σ H s)(hC:s.heap.objs.size<=C)(k:∀b o,s.heap.get? b=Z o->h4.get? b=Z o)(hn:h4.Ns C m)(hcl:h4.IsCell (C+1) Y)
  (hf:∀b∈fp,df X af H b) (hfl:∀b∈fp,b<s.heap.objs.size):L2.Inv (bc X scope x R fp s H C) [] ([Y]++σ) H {s with heap:=h4,toks:=tk}:=by
 have hkn:∀y kk,(Pm scope X.env).names.lookup y=Z kk->(kk=.cell\/kk=.free)->y=x\/scope.names.lookup y=Z .free:=λy kk e hk=>by
  rcases cT e with q|q
  ·rcases hk with z|z
   ·subst z;exact .inl (Au S q)
   ·subst z;exact .inr q
  ·exact .inr q.2
 have hasc:∀y,y=x\/scope.names.lookup y=Z .free->∃c,((x,C+1)::cw X.env.cells scope.names []).lookup y=Z c:=λy e=>by
  by_cases q:y=x
  ·subst q;exact⟨C+1,by rw[Pw,beq_self_eq_true]⟩
  ·rcases e with e|e
   ·exact absurd e q
   ·refine q1x1 (lX (cells:=X.env.cells) scope.names [] y (PySem.mem_of_lookup e)) λc hc=>?_;refine q1x1 (ie hc) λc' hc'=>?_;exact⟨c',by rw[Pw,show(y==x)=false from beq_eq_false_iff_ne.mpr q];exact hc'⟩
 have oldc:∀y c,X.env.cells.lookup y=Z c->c≠C+1:=λy c e z=>by
  refine q2x2 (I.cell y c e) λv o ho _=>?_;exact absurd z (LR (LB (Lq ho) (Nk hC)))
 have fC:H (C+1)=Y:=I.hok.fresh (Nk hC);refine⟨⟨I.ok.mod,S.kind,I.ok.glob,I.ok.blt,hC,λy z c h1 h2=>?_,λy hy=>?_,λy c z e=>?_,I.ok.hd,I.ok.frames,.inl rfl,λb hb=>⟨?_,λy c e=>?_⟩,I.bs,LG I.ok.bsz I.sz,λb o e hb=>?_,λb hb z=>?_,I.stack,I.stkFree⟩,
  rfl,I.bare,Un.kept k,⟨m,hn,λi y v h1 h2 h3=>?_⟩,λy c e=>?_,I.hok.fresh hC,λy c e=>?_,λp hp=>absurd (show p∈([]:List (LA×Obj)) from hp) (by simp),I.hok.kept k,?_⟩
 ·rcases kD S I h1 with⟨rfl,rfl⟩|⟨n1,e1⟩
  ·rcases kD S I h2 with⟨rfl,_⟩|⟨_,e2⟩
   ·rfl
   ·exact absurd rfl (oldc _ _ e2)
  ·rcases kD S I h2 with⟨_,rfl⟩|⟨_,e2⟩
   ·exact absurd rfl (oldc _ _ e1)
   ·exact I.ok.inj y z c e1 e2
 ·rcases hy with e|e
  ·exact hasc y (hkn y _ e (.inl rfl))
  ·exact hasc y (hkn y _ e (.inr rfl))
 ·have z:(y==x)=true:=z;have z:y=x:=by simpa using z
  rcases kD S I e with⟨_,rfl⟩|⟨n,_⟩
  ·exact Nk hC
  ·exact absurd z n
 ·exact LR (LB (hfl b hb) hC)
 ·rcases kD S I e with⟨_,rfl⟩|⟨_,e⟩
  ·exact λz=>absurd z.symm (LR (LB (hfl b hb) (Nk hC)))
  ·exact(hf b hb).2.2.2.2.1 y c e
 ·rcases(hf b hb).2.2.2.1 with z|z
  ·exact I.ok.noex b o e z
  ·exact absurd (LB (Lq e) (LG I.ok.bsz z)) (N8 _)
 ·rcases L1.mp (I.stkSub b z) with e|e
  ·exact(hf b hb).2.1 e
  ·exact(hf b hb).2.2.1 e
 ·cases i with
  | zero=>cases h2
  | succ i=>
   have h1:R[i]?=Z y:=h1;have h2:σ[i]?=Z (Z v):=h2;have hyR:y∈R:=LU h1;have hyx:y≠x:=λz=>(RQ.mp S.nd).1 (z▸hyR)
   have hf':scope.names.lookup y=Z .free/\((Pm scope X.env).names.lookup y=Z .cell\/(Pm scope X.env).names.lookup y=Z .free):=by
    have h3:(Pm scope X.env).names.lookup y=Z .local\/(Pm scope X.env).names.lookup y=Z .cell\/(Pm scope X.env).names.lookup y=Z .free:=h3;rcases h3 with e|e|e
    ·rcases cT e with q|q
     ·exfalso;have z:y=(".0":Str):=S.locs _ (PySem.mem_of_lookup q) rfl;rw[z] at hyR;exact S.no0 hyR
     ·exact absurd q.1 (by intro z;cases z)
    ·exact⟨(hkn y _ e (.inl rfl)).resolve_left hyx,.inl e⟩
    ·exact⟨(hkn y _ e (.inr rfl)).resolve_left hyx,.inr e⟩
   have hN:=S.same i y h1 hf'.1;have hk:=S.free (y,.free) (PySem.mem_of_lookup hf'.1) rfl;refine q1x2 I.loc λmX hnX hl=>?_;have vis:Gs X.env.scope y:=by
    rcases hk with z|z
    ·exact .inr (.inl z)
    ·exact .inr (.inr z)
   refine q1x2 (hl i y v hN h2 vis) λu r l=>?_;refine⟨u,r,.inr ⟨hf'.2,?_⟩⟩;rcases l with⟨z,_⟩|⟨_,c,hc,o,ho,hod⟩
   ·exfalso;rcases hk with q|q
    ·have q:X.env.kindOf y=Z .cell:=q;rw[z] at q;cases q
    ·have q:X.env.kindOf y=Z .free:=q;rw[z] at q;cases q
   ·refine q1x1 (hasc y (.inr hf'.1)) λc' hc'=>?_;have:c'=c:=by
     rcases kD S I hc' with⟨z,_⟩|⟨_,e⟩
     ·exact absurd z hyx
     ·rw[hc] at e;exact(LZ e).symm
    subst this;exact⟨c',hc',o,k _ _ ho,hod⟩
 ·rcases kD S I e with⟨_,rfl⟩|⟨_,e⟩
  ·exact⟨Y,hcl⟩
  ·refine q2x2 (I.cell y c e) λv o ho hd=>?_;exact⟨v,o,k _ _ ho,hd⟩
 ·rcases kD S I e with⟨_,rfl⟩|⟨_,e⟩
  ·exact fC
  ·exact I.freeC y c e
 ·show([Y]++σ).length=([x]++R).length;rw[Ll,Ll,I.len,S.len];rfl
end
section
variable {X:Cx}{af:List (LA×Obj)}{σ:L2.St}{s:Lm}{scope:PY}{x:Str}{tg:MT}{R:List Str}{elt Ng:MT}{pos:Pos}{E:Lk->Lm->Prop}
def nv {t:jx}{M1:aF}{RR:Lk->LA->Sh->Lm->Prop}
  (S:bX scope X.env.kindOf x R X.N) (hc:X.calm=true) (I2:L2.Inv X af σ H2 s2) (T:oq X.prog X.w X.K tg J fp it tn) (st2:tn 0 s2.heap) (f2:∀b∈fp,df X af H2 b)
  (hw1:Wr X.K θ1 H2 M1) (hd1:fY X.K θ1 H2 σ ρ) (hJ:sB X.K J θ1 H2 t) (hgo:aG t 1 (aX 0) aW ge t.ds ρ M1=.ok es Mend) (hlen:es.length<=LW)
  (hg:∀C,PG (bc X scope x R fp s2 H2 C) tg (tG (bc X scope x R fp s2 H2 C) (aX 0)))
  (he:∀C,PE (bc X scope x R fp s2 H2 C) elt (tE (bc X scope x R fp s2 H2 C) ge))
  (fin:∀(acc C:LA) (s':Lm) (H':Hp) (θ':List LA) (vs:List V) (m:Str->Option Lk),L2.Inv X af σ (bG H' acc (.lst vs)) s'->s'.heap.Ns C m->df X af (bG H' acc (.lst vs)) C->Go X.K θ1 H2 θ' H' Mend->H' acc=Y->aR X.K θ' H' es vs->RR (.ref acc) C (.ok .next) s') :
  Lp (LD X.prog X.w) X.A (YL []) (λacc s₃=>Lp (LD X.prog X.w) X.A (QR scope X.env.globals (cw X.env.cells scope.names []) [] X.env.qual Y .none (Z X.env)) (λcenv s₄=>
   Oq (LD X.prog X.w) X.A (.compStart (.ListComp elt [⟨tg,Ng,[],0⟩] scope pos) 0 (.ref it) acc {cenv with scope:=Pm scope X.env}) (RR acc cenv.locals) s₄) E s₃) E s2:=by
 refine Nt (pI S.one ?_);dsimp only;generalize hHp:s2.heap.push {cls:=.type "list",dict:=Y,data:=.seq ([]:List Lk).toArray}=Hp2;have hCe:Hp2.objs.size=s2.heap.objs.size+1:=by rw[<-hHp,OC]
 have hns₁:((Hp2.push {cls:=.type "dict",data:=.dict #[]}).push {cls:=.type "cell",data:=.cell Y}).Ns Hp2.objs.size (λ_=>Y):=(Heap.Ns.new Hp2 (.type "dict")).keeps λb o e=>Lg _ e
 have hcl:((Hp2.push {cls:=.type "dict",data:=.dict #[]}).push {cls:=.type "cell",data:=.cell Y}).IsCell (Hp2.objs.size+1) Y:=by
  refine⟨{cls:=.type "cell",data:=.cell Y},?_,rfl⟩;have e:=LJ (h:=Hp2.push {cls:=.type "dict",data:=.dict #[]}) (o:={cls:=.type "cell",data:=.cell Y}) rfl;rwa [OC] at e
 have kp2:∀b o,Hp2.get? b=Z o->((Hp2.push {cls:=.type "dict",data:=.dict #[]}).push {cls:=.type "cell",data:=.cell Y}).get? b=Z o:=λb o e=>Lg _ (Lg _ e)
 generalize hh1:((Hp2.push {cls:=.type "dict",data:=.dict #[]}).push {cls:=.type "cell",data:=.cell Y})=h₁ at hns₁ hcl kp2;generalize hCd:Hp2.objs.size=C at hns₁ hcl hCe ⊢;generalize hAd:s2.heap.objs.size=acc at hCe ⊢;have hDC:acc≠C:=by rw[hCe];exact LR (OX _)
 have old:∀b o,s2.heap.get? b=Z o->h₁.get? b=Z o:=λb o e=>by
  refine kp2 b o ?_;rw[<-hHp];exact Lg _ e
 have hacc0:h₁.get? acc=Z (cr [] 0):=by
  refine kp2 acc _ ?_;rw[<-hHp,<-hAd];exact LJ _ rfl
 have hfl:∀b∈fp,b<s2.heap.objs.size:=λb hb=>by
  refine q1x2 (T.obj 0 _ st2 b hb) λo e _=>?_;exact Lq e
 have hCs:s2.heap.objs.size<=C:=by omega
 have IY0:L2.Inv (bc X scope x R fp s2 H2 C) [] ([Y]++σ) H2 {s2 with heap:=h₁,toks:=s2.toks}:=yo S I2 hCs old hns₁ hcl f2 hfl;have hct:∀(af:List (LA×Obj)) (s:Lm) (σ:L2.St) (H:Hp) (Q:Bool->Hp->Prop),L2.Inv (bc X scope x R fp s2 H2 C) af σ H s->tT (bc X scope x R fp s2 H2 C) aW σ H Q->Lp (LD X.prog X.w) X.A (pure true) (TP (bc X scope x R fp s2 H2 C) af σ Q) (λ_ _=>False) s:=λaf s σ H Q I ⟨ρ,θ,M,hd,hw,h⟩=>Lf ⟨H,I,h θ H (.refl hw)⟩
 have fpY:∀{H':Hp} {p:Obj},(∀b∈fp,H' b=Y)->∀b∈fp,df (bc X scope x R fp s2 H2 C) [(acc,p)] H' b:=λ{H' p} hn b hb=>by
  refine⟨hn b hb,?_,λz=>?_,.inl hb,λy c e=>?_,λq hq=>?_⟩
  ·exact LR (LB (hfl b hb) hCs)
  ·rcases L1.mp (I2.stkSub b z) with e|e
   ·exact(f2 b hb).2.1 e
   ·exact(f2 b hb).2.2.1 e
  ·rcases kD S I2 e with⟨_,rfl⟩|⟨_,e⟩
   ·exact λz=>absurd z.symm (LR (LB (hfl b hb) (Nk hCs)))
   ·exact(f2 b hb).2.2.2.2.1 y c e
  ·have hq:q∈([]:List (LA×Obj))++[(acc,p)]:=hq;have e:q=(acc,p):=by simpa using hq
   rw[e];exact mQ (hfl b hb) hAd
 have accF:∀b∈mI X.stack,acc≠b:=λb hb e=>by
  have:acc∉X.env.locals::X.fs:=by
   intro z;rcases L1.mp z with z|z
   ·exact mQ I2.lt hAd z
   ·exact I2.nofs (Nj hAd) z
  exact this (e▸I2.stkSub b hb)
 have loop:∀s₃:Lm,s₃={s2 with heap:=h₁,toks:=s2.toks}->
   Oq (LD X.prog X.w) X.A (.compLoop (.ListComp elt [⟨tg,Ng,[],0⟩] scope pos) 0 (.ref it) (.ref acc) (bc X scope x R fp s2 H2 C).env) (RR (.ref acc) C) s₃:=by
  rintro s₃ rfl;have pin0:∀{σ':L2.St} {H':Hp} {s':Lm} {its:List Lk} {n:Nat},L2.Inv (bc X scope x R fp s2 H2 C) [] σ' H' s'->s'.heap.get? acc=Z (cr its n)->H' acc=Y->L2.Inv (bc X scope x R fp s2 H2 C) [(acc,cr its n)] σ' H' s':=λ{σ' H' s' its n} I' e hn=>
   I'.pins_of λp hp=>by
    have ep:p=(acc,cr its n):=by simpa using hp
    subst ep;exact⟨e,hn,hDC,λz=>accF acc z rfl,λv z=>by cases z⟩
  refine fF ow (K0 (bc X scope x R fp s2 H2 C) fp tn X.K acc t (Ms 1 Y++ρ) θ1 H2 es (λl N=>aG t 1 (aX 0) aW ge l ρ N) Mend) ?_ t.ds.length
   ⟨0,_,H2,θ1,M1,[],es,[],[],0,rfl,Ni _,pin0 IY0 hacc0 (I2.hok.fresh (Nj hAd)),rj (n:=1) hd1,T.keep 0 _ _ st2 (λb hb o e=>old b o e),λb hb=>(f2 b hb).1,.refl hw1,rfl,.nil,hgo,rfl⟩
  rintro n s' ⟨i,τ,H',θ',M',ds,rest,vs,its,na,rfl,hil,I',dn',st',fr',g',rd',rv',hrest,hes⟩;have hok:t.ok M'=true:=by
   cases hq:t.ok M' with
   | true=>rfl
   | false=>
    exfalso;cases hdr:t.ds.drop i with
    | nil=>rw[hdr,aG,if_neg (by rw[hq];exact Ly)] at hrest;cases hrest
    | cons d r=>rw[hdr,aG,if_neg (by rw[hq];exact Ly)] at hrest;cases hrest
  refine q0x2 (hJ θ' H' M' g' hok i) λhy hst=>?_
  by_cases hlt:i<t.ds.length
  ·have e1:t.ds[i]?=Z t.ds[i]:=Lh hlt;refine q0x2 (hy _ e1) λhgo' hyl=>?_;rw[N7 hlt,aG,if_pos hok] at hrest;refine bR (T.item (bc X scope x R fp s2 H2 C) rfl rfl rfl hc i _ s' _ H' _ I' (fpY fr') st' hgo') λr s4 hxx=>?_
   refine q1x2 hxx λu hr h4=>?_;subst hr;refine bR h4 λ_ s5 hxx=>?_
   refine q2x5 hxx λv H5 I5 r5 y5 st5 fr5=>?_;refine q0x2 (hyl v H5 y5) λgy rx=>?_;have I5':=I5.pinned (fpY fr5) (T.obj _ _ st5);cases qs:aX 0 t.ds[i] (Ms 1 Y++ρ) with
   | none=>rw[qs] at hrest;cases hrest
   | some ρ1=>
   rw[qs] at hrest;dsimp only at hrest;refine bR (hg C _ s5 _ H5 v u (λσ6 H6=>fY X.K θ' H6 σ6 ρ1/\H6=H5) I5' r5 ⟨_,θ',M',t.ds[i],dn'.go gy,gy.wr,rx,ρ1,qs,λσ6 d6=>⟨d6,rfl⟩⟩) λ_ s6 hxx=>?_
   refine q2x3 hxx λσ6 H6 I6 hdY eH6=>?_;subst eH6;cases qc:aW ρ1 M' with
   | bad=>rw[qc] at hrest;cases hrest
   | err c Mx=>rw[qc] at hrest;cases hrest
   | ok b Mb=>
    refine bR (hct _ s6 _ H6 (λb' H7=>b'=b/\∃θ7,Go X.K θ' H6 θ7 H7 Mb) I6 ⟨_,θ',M',hdY,gy.wr,?_⟩) λok s7 ⟨H7,I7,eb,θ7,g7⟩=>?_
    ·rw[qc];exact λθ7 H7 g7=>⟨rfl,θ7,g7⟩
    subst eb;have fpk:∀{s8:Lm} {σ8:L2.St} {H8:Hp},L2.Inv (bc X scope x R fp s2 H2 C) ([(acc,cr its na)]++hO fp s5.heap) σ8 H8 s8->(∀b∈fp,H8 b=Y)/\(∀b∈fp,∀o,s5.heap.get? b=Z o->s8.heap.get? b=Z o)/\s8.heap.get? acc=Z (cr its na)/\H8 acc=Y:=λ{s8 σ8 H8} I8=>by
     have pa:=I8.pin (acc,cr its na) (Lo _ (Ml _ (by simp)));refine⟨λb hb=>?_,λb hb o e=>(I8.pin (b,o) (Lo _ (Lo _ (bL hb e)))).1,pa.1,pa.2.1⟩;refine q1x2 (T.obj _ _ st5 b hb) λo e d=>?_;exact(I8.pin (b,o) (Lo _ (Lo _ (bL hb e)))).2.1
    cases ok with
    | false=>
     rw[if_neg Ly];rw[qc] at hrest;refine q0x4 (fpk I7) λk1 k2 k3 k4=>?_;exact⟨t.ds.length-(i+1),by omega,i+1,σ6,H7,θ7,Mb,ds,rest,vs,its,na,rfl,hlt,I7.unpinned,(lC (n:=1) (i:=0) Ry).back qs (hdY.go g7),T.keep _ _ _ st5 k2,k1,g'.trans (gy.trans g7),rd'.go (gy.trans g7),rv',hrest,hes⟩
    | true=>
     rw[if_pos rfl];rw[qc] at hrest;have hrest:(match ge ρ1 Mb with
      | .ok e M2=>(aG t 1 (aX 0) aW ge (t.ds.drop (i+1)) ρ M2).bind λes M3=>.ok (e::es) M3
      | _=>.bad)=aQ.ok rest Mend:=hrest
     cases qe:ge ρ1 Mb with
     | bad=>rw[qe] at hrest;cases hrest
     | err c Mx=>rw[qe] at hrest;cases hrest
     | ok dv Mv=>
      rw[qe] at hrest;have hrest:((aG t 1 (aX 0) aW ge (t.ds.drop (i+1)) ρ Mv).bind λes M3=>aQ.ok (dv::es) M3)=aQ.ok rest Mend:=hrest;refine bR (he C _ s7 _ H7 (λw H8=>∃θ8,Go X.K θ7 H7 θ8 H8 Mv/\dj X.K θ8 H8 dv w) I7 ⟨_,θ7,Mb,hdY.go g7,g7.wr,?_⟩) λuv s8 ⟨w,H8,I8,rw8,θ8,g8,rd8⟩=>?_
      ·rw[qe];exact λw θ8 H8 g8 rd8=>⟨θ8,g8,rd8⟩
      refine q0x4 (fpk I8) λk1 k2 k3 k4=>?_;cases qr:aG t 1 (aX 0) aW ge (t.ds.drop (i+1)) ρ Mv with
      | bad=>rw[qr] at hrest;cases hrest
      | err c Mx=>rw[qr] at hrest;cases hrest
      | ok rest' Mr=>
       rw[qr] at hrest;have hrest:aQ.ok (dv::rest') Mr=aQ.ok rest Mend:=hrest;cases hrest;have hsz:its.length<LW:=by
        have e2:(ds++dv::rest').length<=LW:=by rw[hes];exact hlen
        rw[Ll,Mm,aq rd',rv'.length] at e2;omega
       refine call_meets UE ⟨_,k3,rfl⟩ Uh (Tv _ _) (PySem.list_append acc its.toArray na uv (by rw[L5];omega)) ⟨k3,?_⟩;have qup:=PySem.IsL.update k3 (λa=>a.push uv);have eup:(its.toArray.push uv)=(its++[uv]).toArray:=by simp
       have keepb:∀b o,b≠acc->s8.heap.get? b=Z o->(s8.heap.update acc (MK λa=>a.push uv)).get? b=Z o:=λb o hb e=>(Mz s8.heap _ (NL hb)).trans e
       have I9:L2.Inv (bc X scope x R fp s2 H2 C) [] σ6 H8 {s8 with heap:=s8.heap.update acc (MK λa=>a.push uv),toks:=s8.toks}:=by
        refine Inv.turned (it:=acc) (I8.pins_of (pins':=[]) λp hp=>absurd hp (by simp)) keepb k4 hDC (.inr (Nj hAd)) (λy c e z=>?_) λp hp=>absurd (show p∈([]:List (LA×Obj)) from hp) (by simp)
        rcases kD S I2 e with⟨_,rfl⟩|⟨_,e⟩
        ·exact absurd z.symm (LR (Og (by rw[hCe];exact OX _)))
        ·refine q2x2 (I2.cell y c e) λv' o ho hdd=>?_;exact fV (Lq ho) hAd z
       obtain⟨n',eq'⟩:∃n',(s8.heap.update acc (MK λa=>a.push uv)).get? acc=Z (cr (its++[uv]) n'):=by
        have q2:=qup;rw[eup] at q2;exact⟨_,q2⟩
       exact⟨t.ds.length-(i+1),by omega,i+1,σ6,H8,θ8,Mv,ds++[dv],rest',vs++[w],its++[uv],n',rfl,hlt,pin0 I9 eq' k4,(lC (n:=1) (i:=0) Ry).back qs (hdY.go (g7.trans g8)),T.keep _ _ _ st5 (λb hb o e=>keepb b o (fV (hfl b hb) hAd) (k2 b hb o e)),k1,g'.trans (gy.trans (g7.trans g8)),cQ (rd'.go (gy.trans (g7.trans g8))) ⟨w,[],rfl,rd8,rfl⟩,rv'.append (.cons rw8 .nil),qr,by rw[<-hes];simp⟩
  ·have e:i=t.ds.length:=by omega
   subst e;rw[VW,aG,if_pos hok] at hrest;cases hrest;have hes:ds=es:=by rw[<-hes];simp
   subst hes;refine bR (T.done (bc X scope x R fp s2 H2 C) rfl rfl rfl hc _ _ s' _ H' _ I' (fpY fr') st' (hst (Lr _))) λr s4 hxx=>?_
   refine q0x2 hxx λhr I4=>?_;subst hr;have pa:=I4.pin (acc,cr its na) (Lo _ (by simp));have e4:s4.heap.get? acc=Z (cr its na):=pa.1;have n4:H' acc=Y:=pa.2.1;have lv:vs.length<=LW:=by rw[<-aq rd'];exact hlen
   refine q1x2 I4.loc λmC hnC _=>?_;have hHC:H' C=Y:=I4.free;have mT:Un (mI X.stack) fp H2 H' s2.heap s4.heap:=I4.base;have neA:∀{b:LA} {o:Obj},s2.heap.get? b=Z o->b≠acc:=λ{b o} e=>fV (Lq e) hAd
   have neH:∀{b:LA} {u:HO},H' b=Z u->b≠acc:=λ{b u} e z=>by rw[z,n4] at e;cases e
   have un4:Un (mI X.stack) fp H2 (bG H' acc (.lst vs)) s2.heap s4.heap:=by
    refine⟨mT.keep,mT.slot,λb o e n hx=>?_,mT.there,λb xs e=>?_,λb o u e=>?_,λb ps e=>?_⟩
    ·rw[au (neA e)];exact mT.free b o e n hx
    ·have z:=mT.tups b xs e;rw[au (neH z)];exact z
    ·have z:=mT.frzs b o u e;rw[au (neH z)];exact z
    ·refine q1x1 (mT.tbls b ps e) λmore z=>?_;exact⟨more,by rw[au (neH z)];exact z⟩
   have hok4:jt X.prog X.w (bG H' acc (.lst vs)) s4.heap:=λb u e=>by
    by_cases hb:b=acc
    ·subst hb;rw[bZ] at e;cases e;exact⟨lv,its,na,rv',e4⟩
    ·rw[au hb] at e;exact(I4.hok b u e).stay (λc v _ q=>q) (λc q=>by rw[au (neH q)];exact q) λc xs q=>by rw[au (neH q)];exact q
   have IX:L2.Inv X af σ (bG H' acc (.lst vs)) s4:=I2.call' (ch:=fp) I4.os un4 hok4 I4.bare λb hb=>⟨(f2 b hb).2.2.2.1,(f2 b hb).2.1,(f2 b hb).2.2.2.2.1,(f2 b hb).2.2.2.2.2⟩
   refine fin acc C s4 H' θ' vs mC IX hnC (I2.fpOk hCs ?_) g' n4 rd';rw[au (NL hDC)];exact hHC
 exact codeAny_compStart_list (loop _ rfl) (T.self _ 0 _ _ _ (T.keep 0 _ _ st2 λb hb o e=>old b o e) (loop _ rfl))
end
section
variable {X:Cx}{scope:PY}{x:Str}{px:Pos}{R:List Str}{elt Ng:MT}{pos:Pos}{gi:GI}{ge:GE}{mk:List D->aF->aQ D}
def pY (S:bX scope X.env.kindOf x R X.N):(Pm scope X.env).names.lookup x=Z .cell:=by
 have go:∀names:List (Str×Qm),names.lookup x=Z .cell->(names.map λ(n,k)=>if(k==Ut&&X.env.scope.kind==.function&&X.env.kindOf n==Z .cell) then(n,Pk) else(n,k)).lookup x=Z .cell:=by
  intro names
  induction names with
  | nil=>intro h;cases h
  | cons p r ih=>
   intro h;obtain⟨n,k⟩:=p;show Rt x ((if(k==Ut&&X.env.scope.kind==.function&&X.env.kindOf n==Z .cell)=true then(n,Pk) else(n,k))::_)=_;cases hx:x==n with
   | true=>
    simp only[Pw,hx] at h;cases h;rw[if_neg (by simp)];simp[Pw,hx]
   | false=>
    simp only[Pw,hx] at h
    by_cases hc:(k==Ut&&X.env.scope.kind==.function&&X.env.kindOf n==Z .cell)=true
    ·rw[if_pos hc];simp only[Pw,hx];exact ih h
    ·rw[if_neg hc];simp only[Pw,hx];exact ih h
 exact go scope.names S.own
def AA (hS:iK scope X.env.kindOf x R X.N=true)(hc:X.calm=true)(hm:mk=aC\/mk=bM)(hi:PI X (.Name x px) Ng (tI X gi))
  (he:∀fp s H C,PE (bc X scope x R fp s H C) elt (tE (bc X scope x R fp s H C) ge))
  (hs:∀x,Mj Ng X.env x=pure x:=by intro _;rfl):PE X (.ListComp elt [⟨.Name x px,Ng,[],0⟩] scope pos) (tE X (aP gi aW ge mk)):=by
 rw[nJ];have S:=bX.of hS;intro af s σ H Q I h;refine q3x3 h λρ θ M hd hw h=>?_;rw[eval_ListComp];refine Sw (use:=Y) rfl hs (eG (S.cells I)) S.kind S.lnames ?_;refine bR (hi af s σ H (λJ H2=>∃t M1 θ1,gi ρ M=.ok t M1/\Go X.K θ H θ1 H2 M1/\sB X.K J θ1 H2 t) I ⟨ρ,θ,M,hd,hw,?_⟩) λv s1 h1=>bR h1 λitv s2 h2=>?_
 ·cases q:gi ρ M with
  | ok t M1=>exact λJ θ1 H1 g1 hJ=>⟨t,M1,θ1,rfl,g1,hJ⟩
  | err c M1=>unfold dh at h;rw[q] at h;exact h
  | bad=>unfold dh at h;rw[q] at h;exact h
 obtain⟨it,fp,tn,J,H2,rfl,I2,T,st2,f2,t,M1,θ1,eg,g1,hJ⟩:=h2;unfold dh at h;rw[eg] at h;have h:aN X θ H Q ((aG t 1 (aX 0) aW ge t.ds ρ M1).bind mk):=h;cases q:aG t 1 (aX 0) aW ge t.ds ρ M1 with
 | bad=>rw[q] at h;exact h.elim
 | err c Mx=>exact(eT _ _ q).elim
 | ok es Mend=>
  rw[q] at h;have h:aN X θ H Q (mk es Mend):=h;refine nv (RR:=λacc C=>X8 (LD X.prog X.w) X.A X.xe Y (EP X af σ Q) acc C) S hc I2 T st2 f2 g1.wr (hd.go g1) hJ q (sr hm h) (λC=>?_) (λC=>he fp s2 H2 C) ?_
  ·exact lQ (X:=bc X scope x R fp s2 H2 C) S.nd (i:=0) rfl (.inr (pY S)) (.inl (show(x==x)=true from beq_self_eq_true x))
  intro acc C s' H' θ' vs m IX hnC fC g' na rd;refine⟨m,hnC,λh' sb=>?_⟩;have I3:L2.Inv X af σ (bG H' acc (.lst vs)) {s' with heap:=h',toks:=s'.toks}:=IX.turned (it:=C) (λb o hb e=>(sb.2 b hb).trans e) fC.1 fC.2.1 fC.2.2.2.1 fC.2.2.2.2.1 fC.2.2.2.2.2;exact⟨.ref acc,_,I3,rfl,(um hm X θ' H' Q es Mend vs (aN.go (g1.trans g') h) g'.wr rd).2 acc na⟩
def jF (gi:GI)(ge:GE)(mk:List D->aF->aQ D):GE:=aP gi aW ge mk
def yp (hS:iK scope X.env.kindOf x X.N X.N=true)(hm:mk=aC\/mk=bM)(hi:QI X (.Name x px) Ng gi)(he:∀fp s H C,QE (bc X scope x X.N fp s H C) elt ge)
  (hc:X.calm=true:=by rfl) (hs:∀x,Mj Ng X.env x=pure x:=by intro _;rfl):QE X (.ListComp elt [⟨.Name x px,Ng,[],0⟩] scope pos) (jF gi ge mk):=⟨AA hS hc hm hi.h (λfp s H C=>(he fp s H C).h) hs⟩
end
end DL
namespace DL
open PySem PySem.Spec PyProof.Rows PySem.W L2 List
section
variable {X:Cx}{scope:PY}{x:Str}{px:Pos}{R:List Str}{elt Ng:MT}{pos:Pos}{gi:GI}{ge:GE}{mk:List D->aF->aQ D}
def uw {mk:List D->aF->aQ D}(hS:iK scope X.env.kindOf x R X.N=true)(hc:X.calm=true)(hm:mk=aC\/mk=bM)(hi:PI X (.Name x px) Ng (tI X gi))
  (he:∀fp s H C,PE (bc X scope x R fp s H C) elt (tE (bc X scope x R fp s H C) ge))
  (hN:X.N.Nodup) (hj:X.N[j]?=Z y) (hy:X.env.scope.names.lookup y=Z .local)
  (hsw:Ra (.ListComp elt [⟨.Name x px,Ng,[],0⟩] scope pos) (Z (.Name y py)) spos.line X.env=pure true)
  (hs:∀x,Mj Ng X.env x=pure x:=by intro _;rfl):PS X (.Assign [.Name y py] (.ListComp elt [⟨.Name x px,Ng,[],0⟩] scope pos) spos) (tS X (aD j (aP gi aW ge mk))):=by
 rw[nJ];have S:=bX.of hS;intro af s σ H Q I h;refine q3x3 h λρ θ M hd hw h=>?_;rw[exec_Assign_Name_used _ _ _ _ hsw];refine Le (Pg (Le ?_));show Lp _ X.A (do let _ <-Sr (.ListComp elt [⟨.Name x px,Ng,[],0⟩] scope pos) scope X.env _ (YL []) false (Ou Ng X.env) (Z (Qh (.Name y py) X.env))) _ _ s;refine Le (MY (Sw (use:=Z (Qh (.Name y py) X.env)) (Q:=λ_ s'=>SP X af Q .next s') rfl hs (eG (S.cells I)) S.kind S.lnames ?_) (λ_ s' hq=>Lf (Lf hq)) λ_ _ e=>e);refine bR (hi af s σ H (λJ H2=>∃t M1 θ1,gi ρ M=.ok t M1/\Go X.K θ H θ1 H2 M1/\sB X.K J θ1 H2 t) I ⟨ρ,θ,M,hd,hw,?_⟩) λv s1 h1=>bR h1 λitv s2 h2=>?_
 ·cases q:gi ρ M with
  | ok t M1=>exact λJ θ1 H1 g1 hJ=>⟨t,M1,θ1,rfl,g1,hJ⟩
  | err c M1=>unfold aD dh at h;rw[q] at h;exact h
  | bad=>unfold aD dh at h;rw[q] at h;exact h
 obtain⟨it,fp,tn,J,H2,rfl,I2,T,st2,f2,t,M1,θ1,eg,g1,hJ⟩:=h2;unfold aD dh at h;rw[eg] at h;have h:eJ X θ H Q (((aG t 1 (aX 0) aW ge t.ds ρ M1).bind mk).bind λd M2=>.ok (.nx (ρ.set j (Z d))) M2):=h;cases q:aG t 1 (aX 0) aW ge t.ds ρ M1 with
 | bad=>rw[q] at h;exact h.elim
 | err c Mx=>exact(eT _ _ q).elim
 | ok es Mend=>
  rw[q] at h;have h:eJ X θ H Q ((mk es Mend).bind λd M2=>.ok (.nx (ρ.set j (Z d))) M2):=h;have hE:aN X θ H (λv H'=>∃θ' M',Go X.K θ H θ' H' M'/\∃d,mk es Mend=.ok d M'/\dj X.K θ' H' d v) (mk es Mend):=by
   cases qm:mk es Mend with
   | ok d M2=>exact λv θ' H' g' r=>⟨θ',M2,g',d,rfl,r⟩
   | err c M2=>rw[qm] at h;exact h
   | bad=>rw[qm] at h;exact h
  refine nv (RR:=λacc C=>X8 (LD X.prog X.w) X.A X.xe (Z (Qh (.Name y py) X.env)) (λ_ s'=>SP X af Q .next s') acc C) S hc I2 T st2 f2 g1.wr (hd.go g1) hJ q (sr hm hE) (λC=>?_) (λC=>he fp s2 H2 C) ?_
  ·exact lQ (X:=bc X scope x R fp s2 H2 C) S.nd (i:=0) rfl (.inr (pY S)) (.inl (show(x==x)=true from beq_self_eq_true x))
  intro acc C s' H' θ' vs m IX hnC fC g' na rd;obtain⟨θe,Me,ge',d,ed,rde⟩:=(um hm X θ' H' _ es Mend vs (aN.go (g1.trans g') hE) g'.wr rd).2 acc na;show Lp _ X.A (Qh (.Name y py) X.env (.ref acc)) _ _ s';refine UY (mS IX hN hj (.inl hy) (v:=.ref acc) rfl (λs3 I3 hxx=>?_) (.inr hy));refine q1x2 hxx λa sa ha=>?_;have hCa:C≠a:=by
   rcases ha with e|e
   ·rw[e];exact fC.2.1
   ·exact λz=>fC.2.2.2.2.1 y a e z.symm
  refine⟨m,hnC.sameBut sa hCa,λh' sb=>?_⟩;have I4:L2.Inv X af (σ.set j (Z (.ref acc))) (bG H' acc (.lst vs)) {s3 with heap:=h',toks:=s3.toks}:=I3.turned (it:=C) (λb o hb e=>(sb.2 b hb).trans e) fC.1 fC.2.1 fC.2.2.2.1 fC.2.2.2.2.1 fC.2.2.2.2.2;rw[ed] at h;exact⟨_,_,I4,h _ θe _ ge' ((hd.go ge').set rde j)⟩
def qO (hS:iK scope X.env.kindOf x X.N X.N=true)(hm:mk=aC\/mk=bM)(hN:X.N.Nodup)(hi:QI X (.Name x px) Ng gi)(he:∀fp s H C,QE (bc X scope x X.N fp s H C) elt ge)
  (hc:X.calm=true:=by rfl) (hj:X.N[j]?=Z y:=by rfl) (hy:X.env.scope.names.lookup y=Z .local:=by rfl) (hsw:Ra (.ListComp elt [⟨.Name x px,Ng,[],0⟩] scope pos) (Z (.Name y py)) spos.line X.env=pure true:=by rfl)
  (hs:∀x,Mj Ng X.env x=pure x:=by intro _;rfl):QS X (.Assign [.Name y py] (.ListComp elt [⟨.Name x px,Ng,[],0⟩] scope pos) spos) (aD j (jF gi ge mk)):=⟨uw hS hc hm hi.h (λfp s H C=>(he fp s H C).h) hN hj hy hsw hs⟩
end
end DL
namespace DL
open PySem PySem.Spec PyProof.Rows L2 List
def En (K:LX)(a b:LA):It:=
 ⟨λi H=>∃xs ys x y,gG K H a xs/\gG K H b ys/\xs[i]?=Z x/\ys[i]?=Z y,
  λi H v H'=>∃p x y,H p=Y/\H'=bG H p (.tup [x,y])/\v=.ref p/\(∀xs,gG K H a xs->xs[i]?=Z x)/\∀ys,gG K H b ys->ys[i]?=Z y,
  λi H=>∃xs ys,gG K H a xs/\gG K H b ys/\xs.length<=i⟩
structure EM (h:Nu)(z cZ TO i1 i2 l1 l2:LA)(k:Nat):Prop where
 z:IsZip h z cZ TO .none
 ti:Qc h cZ (.ref i1) (.ref i2)
 to:∃a b,Qc h TO a b
 i1:h.IsListIter i1 l1 k
 i2:h.IsListIter i2 l2 k
def EM.lt {z cZ TO i1 i2 l1 l2:LA}{k:Nat}(st:EM h z cZ TO i1 i2 l1 l2 k):∀c∈[z,TO,i1,i2,cZ],c<h.objs.size:=λc hc=>by
 obtain⟨hz,hTI,⟨x,y,hTO⟩,⟨o1,e1,_,d1⟩,⟨o2,e2,_,d2⟩⟩:=st;simp only[L1,NS,or_false] at hc;rcases hc with q|q|q|q|q <;> rw[q]
 ·exact Lq hz
 ·exact Lq hTO
 ·exact Lq e1
 ·exact Lq e2
 ·exact Lq hTI
def CA {P:Mi}{w:My}{K:LX}{es:List MT}{kt:Nat}{pos:Pos}{z cZ TO i1 i2 a b:LA}(D:SL z cZ TO i1 i2 a b) :
  oq P w K (.Tuple es kt pos) (En K a b) [z,TO,i1,i2,cZ] z (λi h=>EM h z cZ TO i1 i2 a b i) where
 mem:=by simp
 obj:=λi h st c hc=>by
  obtain⟨hz,hTI,⟨x,y,hTO⟩,⟨o1,e1,_,d1⟩,⟨o2,e2,_,d2⟩⟩:=st;simp only[L1,NS,or_false] at hc;rcases hc with rfl|rfl|rfl|rfl|rfl
  ·exact⟨_,hz,λv q=>by cases q⟩
  ·exact⟨_,hTO,λv q=>by cases q⟩
  ·exact⟨o1,e1,λv q=>by rw[d1] at q;cases q⟩
  ·exact⟨o2,e2,λv q=>by rw[d2] at q;cases q⟩
  ·exact⟨_,hTI,λv q=>by cases q⟩
 keep:=λi h h' st k=>by
  obtain⟨hz,hTI,⟨x,y,hTO⟩,h1,h2⟩:=st;exact⟨k z (by simp) _ hz,k cZ (by simp) _ hTI,⟨x,y,k TO (by simp) _ hTO⟩,h1.at λo e=>k i1 (by simp) o e,h2.at λo e=>k i2 (by simp) o e⟩
 item:=by
  intro X hP hw hK hc i af s σ H E I hf st hg;subst hP hw hK;refine q4x4 hg λxs ys x y hq1 hq2 hx hy=>?_;refine q1x3 (I.list hq1) λits1 rv1 p1 _=>?_;refine q1x3 (I.list hq2) λits2 rv2 p2 _=>?_;refine q1x2 (rv1.get hx) λu1 hu1 ru1=>?_;refine q1x2 (rv2.get hy) λu2 hu2 ru2=>?_;have lt:=st.lt;obtain⟨t1,t2,⟨xT,yT,t3⟩,t4,t5⟩:=st;refine wpAny_pyNext_zip_item D t1 t2 t3 t4 t5 p1.isList p2.isList (x:=u1) (y:=u2) (by simpa using hu1) (by simpa using hu2) λh' hz ht h1 h2 hT hsz hk=>⟨_,rfl,wpAny_letOwnedTupleGo_zip hz λh3 hz3 hs3=>?_⟩
  have hs3:Nh z h' h3:=hs3;have zlt:z<s.heap.objs.size:=Lq t1;have fr:H s.heap.objs.size=Y:=I.hok.fresh (Lr _);have hT3:h3.get? s.heap.objs.size=Z {cls:=.type "tuple",data:=.seq #[u1,u2]}:=(hs3.2 _ (Oa zlt)).trans hT;have k3:∀c o,c∉[z,TO,i1,i2]->s.heap.get? c=Z o->h3.get? c=Z o:=λc o hc e=>(hs3.2 c (λq=>hc (by simp[q]))).trans (hk c o (λq=>hc (by simp[q])) (λq=>hc (by simp[q])) (λq=>hc (by simp[q])) (λq=>hc (by simp[q])) e)
  have new:cP X.prog X.w (bG H s.heap.objs.size (.tup [x,y])) h3 s.heap.objs.size (.tup [x,y]):=
   ⟨LG (by decide:2<=1000) (by rw[Oo];decide),[u1,u2],.cons ru1 (.cons ru2 .nil),⟨_,hT3,rfl,_,rfl⟩⟩
  have I3:=fW (t':=s.toks) I hf (λc o hc e=>k3 c o (λq=>hc (by simp only[L1,NS,or_false] at q ⊢;rcases q with q|q|q|q <;> simp[q])) e) (Lr _) new;refine⟨.ref s.heap.objs.size,_,I3,rfl,⟨_,x,y,fr,rfl,rfl,λzs h=>by rw[I.list_inj h hq1];exact hx,λzs h=>by rw[I.list_inj h hq2];exact hy⟩,⟨hz3,?_,⟨u1,u2,(hs3.2 _ D.TOz).trans ht⟩,h1.at λo e=>(hs3.2 _ D.i1z).trans e,h2.at λo e=>(hs3.2 _ D.i2z).trans e⟩,λc hc=>?_⟩
  ·exact k3 cZ _ (by simp[D.TIz,D.TITO,D.TIi1,D.TIi2]) t2
  ·rw[au (LR (lt c hc))];exact(hf c hc).1
 done:=by
  intro X hP hw hK hc i af s σ H E I hf st hg;subst hP hw hK;refine q2x3 hg λxs ys hq1 hq2 hx=>?_;refine q1x3 (I.list hq1) λits1 rv1 p1 _=>?_;refine q1x3 (I.list hq2) λits2 rv2 p2 _=>?_;have hl:=rv1.length;obtain⟨t1,t2,⟨xT,yT,t3⟩,t4,t5⟩:=st;refine wpAny_pyNext_zip_end (I.ok.hd hc) D t1 t2 t3 t4 t5 p1.isList p2.isList (.inl (by simp;omega)) λh' hk=>⟨rfl,mR (t':=s.toks) I hf λc o hc e=>hk c o (λq=>hc (by simp[q])) (λq=>hc (by simp[q])) (λq=>hc (by simp[q])) (λq=>hc (by simp[q])) e⟩
 self:=λ_ _ _ _ _ st h=>Rl st.z h
def Io (hg:Gl X "zip")(hm:X.mg "zip"=Y)(hv:Mp "zip"=Z (.type "zip"))(hl:PA X [l,r] tl)(hs:Mt [l,r] X.env=(false,Ou l X.env)::Mt [r] X.env:=by rfl)(hp:(P6 pos (Mt [r] X.env)).any (·.1)=false:=by rfl) :
  PI X (.Tuple es kt tp) (.Call (.Name "zip" p) [l,r] [] pos) (λσ H R=>tl σ H λxs H1=>∃a b,xs=[.ref a,.ref b]/\(∃xs,gG X.K H1 a xs)/\(∃ys,gG X.K H1 b ys)/\R (En X.K a b) H1):=by
 intro af s σ H R I h;refine X2 (iI I hg hm hv (Nn (bR (hl pos af s σ H _ I h) λus s1 hxx=>?_) hs hp));obtain⟨vs,H1,I1,r1,a,b,e,⟨xs,hq1⟩,⟨ys,hq2⟩,q⟩:=hxx;subst e;cases r1 with
 | cons ra rr=>
  cases rr with
  | cons rb rr=>
   cases rr;rw[show _=NJ a from ra,show _=NJ b from rb];refine q1x3 (I1.list hq1) λits1 rv1 p1 _=>?_;refine q1x3 (I1.list hq2) λits2 rv2 p2 _=>?_;have la:a<s1.heap.objs.size:=by refine q1x2 p1.isList λo e _=>?_;exact Lq e
   have lb:b<s1.heap.objs.size:=by refine q1x2 p2.isList λo e _=>?_;exact Lq e
   refine call_zip_2 p1.isList p2.isList λh' z1 z2 z3 z4 z5 z6 z7=>Rl z1 ⟨_,[s1.heap.objs.size+4,s1.heap.objs.size+3,s1.heap.objs.size,s1.heap.objs.size+1,s1.heap.objs.size+2],_,_,H1,rfl,I1.kept (t':=s1.toks) z7,CA (XW la lb),⟨z1,z2,⟨_,_,z3⟩,z4,z5⟩,λc hc=>?_,q⟩
   have hb:s1.heap.objs.size<=c:=by
    simp only[L1,NS,or_false] at hc;rcases hc with q|q|q|q|q <;> rw[q] <;> omega
   exact I1.fpOk hb (I1.hok.fresh hb)
def vH (ds:List D)(M:aF):aQ jx:=match ds with
 | [.lst xs,.lst ys]=>if xs.length=ys.length then .ok ⟨fM xs ys,Y⟩ M else .bad
 | [.lst xs,.mr k]=>match M[k]? with
  | some (.lst ys)=>if xs.length=ys.length then .ok ⟨fM xs ys,Z (k,ys)⟩ M else .bad
  | _=>.bad
 | _=>.bad
def BG (ds:List D)(M:aF):vH ds M=.bad\/(∃xs ys,ds=[.lst xs,.lst ys]/\xs.length=ys.length/\vH ds M=.ok ⟨fM xs ys,Y⟩ M)\/∃xs ys k,ds=[.lst xs,.mr k]/\M[k]?=Z (.lst ys)/\xs.length=ys.length/\vH ds M=.ok ⟨fM xs ys,Z (k,ys)⟩ M:=by
 match ds with
 | []=>exact .inl rfl
 | [x]=>cases x <;> exact .inl rfl
 | _::_::_::_=>exact .inl (by unfold vH;split <;> first|rfl|(rename_i h;cases h))
 | [x,y]=>
  cases x with
  | lst xs=>
   cases y with
   | lst ys=>
    by_cases h:xs.length=ys.length
    ·exact .inr (.inl ⟨xs,ys,rfl,h,if_pos h⟩)
    ·exact .inl (if_neg h)
   | mr k=>
    cases q:M[k]? with
    | none=>exact .inl (by show(match M[k]? with|some (.lst ys)=>_|_=>_)=_;rw[q])
    | some m=>
     cases m with
     | lst ys=>
      have e:vH [.lst xs,.mr k] M=if xs.length=ys.length then .ok ⟨fM xs ys,Z (k,ys)⟩ M else .bad:=by
       show(match M[k]? with|some (.lst ys)=>_|_=>_)=_;rw[q]
      by_cases h:xs.length=ys.length
      ·exact .inr (.inr ⟨xs,ys,k,rfl,q,h,e.trans (if_pos h)⟩)
      ·exact .inl (e.trans (if_neg h))
     | _=>exact .inl (by show(match M[k]? with|some (.lst ys)=>_|_=>_)=_;rw[q])
   | _=>exact .inl rfl
  | _=>exact .inl rfl
def oC (g:GA):GI:=λρ M=>(g ρ M).bind vH
def A0 {K:LX}{a:LA}(ta:∀θ1 H1,Grow θ H θ1 H1->gG K H1 a vs)(hl:xs.length=ys.length)(r1:aR K θ H xs vs)
  (tb:∀θ1 H1 M1,Go K θ H θ1 H1 M1->jx.ok ⟨fM xs ys,m⟩ M1=true->∃us,gG K H1 b us/\aR K θ1 H1 ys us):sB K (En K a b) θ H ⟨fM xs ys,m⟩:=by
 intro θ1 H1 M1 g ok i;have t1:=ta θ1 H1 g.toGrow;refine q1x2 (tb θ1 H1 M1 g ok) λus t2 r2=>?_;have r1:=r1.go g;refine⟨λd e=>?_,λh=>⟨vs,us,t1,t2,by
  have h:(fM xs ys).length<=i:=h;rw[jV hl,aq r1] at h;exact h⟩⟩
 refine q2x3 (n8 e) λx y ex ey ed=>?_;refine q1x2 (bY r1 ex) λv ev rv=>?_;refine q1x2 (bY r2 ey) λu eu ru=>?_;refine⟨⟨vs,us,v,u,t1,t2,ev,eu⟩,λx' H2 q=>?_⟩;obtain⟨p,x2,y2,np,eH,exr,h1,h2⟩:=q;have e1:=h1 vs t1;rw[ev] at e1;cases e1;have e2:=h2 us t2;rw[eu] at e2;cases e2;subst eH exr ed;exact⟨cq g.wr np,dY (ds:=[x,y]) g.wr np ⟨_,_,rfl,rv,_,_,rfl,ru,rfl⟩⟩
def Jh (hg:Gl X "zip")(hm:X.mg "zip"=Y)(hv:Mp "zip"=Z (.type "zip"))(hl:PA X [l,r] (tA X g))(hs:Mt [l,r] X.env=(false,Ou l X.env)::Mt [r] X.env:=by rfl)(hp:(P6 pos (Mt [r] X.env)).any (·.1)=false:=by rfl) :
  PI X (.Tuple es kt tp) (.Call (.Name "zip" p) [l,r] [] pos) (tI X (oC g)):=by
 intro af s σ H R I h;refine Io hg hm hv hl hs hp af s σ H R I ?_;refine q3x3 h λρ θ M hd hw h=>?_;refine jS hd hw (tL X θ H R) (λc M' h=>h) (λh=>h) h λds M1 vs θ1 H1 g1 r1 h1=>?_
 rcases BG ds M1 with e|⟨xs,ys,rfl,hl,e⟩|⟨xs,ys,k,rfl,hk,hl,e⟩
 ·rw[e] at h1;exact h1.elim
 ·rw[e] at h1;obtain⟨v,rr,ev,⟨a,us,e2,ta,rs⟩,v2,rr2,ev2,⟨b,FR,e3,tb,rs2⟩,rr3⟩:=r1;have rr3:rr2=[]:=rr3;subst rr3 ev2 e2 e3;exact⟨a,b,ev,⟨us,ta.sq⟩,⟨FR,tb.sq⟩,h1 _ θ1 H1 g1 (A0 (λθ2 H2 g2=>(ta.grow g2).sq) hl rs λθ2 H2 M2 g2 _=>⟨FR,(tb.grow g2.toGrow).sq,rs2.go g2⟩)⟩
 ·rw[e] at h1;obtain⟨v,rr,ev,⟨a,us,e2,ta,rs⟩,v2,rr2,ev2,⟨b,e3,tb⟩,rr3⟩:=r1;have rr3:rr2=[]:=rr3;subst rr3 ev2 e2 e3;refine q1x2 (g1.wr.at_ k b _ tb hk) λFR hv2 rs2=>?_;refine⟨a,b,ev,⟨us,ta.sq⟩,⟨FR,.inl (.inl hv2)⟩,h1 _ θ1 H1 g1 (A0 (λθ2 H2 g2=>(ta.grow g2).sq) hl rs λθ2 H2 M2 g2 ok=>?_)⟩;have t1:θ2[k]?=Z b:=by
   refine q1x2 g2.ext λm em _=>?_;rw[em,LY (Lj.mp tb).1];exact tb
  have ok':(match M2[k]? with|some (.lst xs)=>jr xs ys|_=>false)=true:=ok;cases q:M2[k]? with
  | none=>rw[q] at ok';cases ok'
  | some m=>
   cases m with
   | lst zs=>
    rw[q] at ok';have e:zs=ys:=iQ zs ys ok';subst e;refine q1x2 (g2.wr.at_ k b _ t1 q) λvs hv r1=>?_;exact⟨vs,.inl (.inl hv),r1⟩
   | _=>rw[q] at ok';cases ok'
def GH {a:MT}(hg:Gl X "zip")(hm:X.mg "zip"=Y)(hv:Mp "zip"=Z (.type "zip"))(ha:QA X [a,b] gA)(h1:bA a=true:=by rfl)(h2:dA [b]=true:=by rfl):QI X (.Tuple es kt tp) (.Call (.Name "zip" p) [a,b] [] pos) (oC gA):=⟨Jh hg hm hv ha.h (sE h1) (sS h2)⟩
end DL
namespace DL
open PySem PySem.Spec PyProof.Rows L2 List
section
open PySem.SeqAt
open PySem.AutoSeq1 (wpAny_loadPart')
open PySem.MeetsSeq PySem.MeetsSeq2 PySem.MeetsSeq3
end
end DL
namespace DL
open PySem PySem.Spec PyProof.Rows L2 List
def xg (d:D)(M:aF):D:=match d with
 | .tup xs=>.tup (xs.map λx=>now x M)
 | d=>now d M
def mH (neg:Bool):F2:=λx y M=>if bN 40 (xg x M)&&bN 40 (xg y M) then .ok (.bl (pq (xg x M) (xg y M) != neg)) M else .bad
section
variable {X:Cx}
def pS (I:Inv X af σ H s)(hw:Wr X.K θ H M)(h:bN n (xg d M)=true)(r:dj X.K θ H d v)(q:bg v u):∃as,Reads s.heap u (kT (xg d M)) as:=by
 cases d with
 | tup xs=>
  have e:xg (.tup xs) M=.tup (xs.map λx=>now x M):=rfl;rw[e] at h ⊢;cases n with
  | zero=>exact ff h
  | succ n=>
   refine q2x3 r λa vs e ta ra=>?_;subst e;cases q;obtain⟨its,rv,⟨o,h1,h2,m,h3⟩,_⟩:=I.tuple (ta.sq (K:=X.K));refine q1x1 (jk I hw xs n vs its h ra rv) λas R=>?_;exact⟨_,.tuple h1 h2 h3 (by simpa using R)⟩
 | _=>exact gE I hw h r q
def BD (hu:X.A.units+64<Qv):iH X (MI .NotEq) (rD X (mH true)):=by
 intro af s σ H x y v u Q I rx ry h;refine q4x4 h λθ M dx dy hw r1 r2 h=>?_;unfold mH at h;split at h
 ·rename_i hc;rw[LN] at hc;refine q1x1 (pS I hw hc.1 r1 rx) λas R1=>?_;refine q1x1 (pS I hw hc.2 r2 ry) λbs R2=>?_;have l1:=gk _ _ hc.1;have l2:=gk _ _ hc.2;refine Tp R1 R2 l1.1 l2.1 (by have:=l1.2;have:min (kT (xg dx M)).depth (kT (xg dy M)).depth<=(kT (xg dx M)).depth:=Qp _ _;omega) ?_;rw[mq _ _ _ _ hc.1 hc.2];refine⟨.bl _,H,I,rfl,?_⟩;have:=h _ θ H (.refl hw) rfl;rw[Sl] at this;exact this
 ·exact h.elim
def Eu {k:Nat}(hr:bE k X.A):Q2 X (MI .NotEq) (mH true):=⟨BD hr.units⟩
end
end DL
namespace Hd
open PySem PySem.W PySem.Calls PyProof.Rows
def topRunT (tb:String->Option O2)(p:Mi)(w:My)(n0:Nat)(ann:Option Lk):Nat->Wl->Thread->Option Wl
 | 0,_,_=>Y
 | n+1,s,t=>match through t with
  | true=>Z s
  | false=>match stepOk n0 ann t with
   | false=>Y
   | true=>match stepT (denote tb) p w s t with
    | some (s',t')=>topRunT tb p w n0 ann n s' t'
    | none=>Y
theorem pZ:∀{n:Nat} {s s':Wl} {t:Thread},topRunT tb p w n0 ann n s t=Z s'->topRun tb p w n0 ann n s.abs t=Z s'.abs
 | 0,_,_,_,h=>by cases h
 | n+1,s,s',t,h=>by
  unfold topRunT at h;unfold topRun;cases he:through t with
  | true=>rw[he] at h;cases h;rfl
  | false=>
   rw[he] at h;cases hk:stepOk n0 ann t with
   | false=>rw[hk] at h;cases h
   | true=>
    rw[hk] at h;cases hs:stepT (denote tb) p w s t with
    | none=>rw[hs] at h;cases h
    | some r=>obtain⟨s2,t2⟩:=r;rw[hs] at h;rw[stepT_spec hs];exact pZ h
def grow:List Obj->BT->Nat->BT
 | [],t,_=>t
 | o::r,t,n=>grow r (t.ins n o) (n+1)
def grown:List Obj->BT->Nat->Bool
 | [],_,_=>true
 | o::r,t,n=>((t.ins n o).get n).isSome&&grown r (t.ins n o) (n+1)
theorem uN (life:Life):∀(l:List Obj) (t:BT) (n:Nat),grown l t n=true->SY (grow l t n) (n+l.length) life=⟨(SY t n life).objs++l.toArray,life⟩
 | [],t,n,_=>by simp[grow,SY]
 | o::r,t,n,h=>by
  refine q0x2 (ML.mp h) λh1 h2=>?_;have e:=uN life r (t.ins n o) (n+1) h2;have e2:SY (t.ins n o) (n+1) life=(SY t n life).push o:=absHeap_ins h1;show SY (grow r (t.ins n o) (n+1)) (n+(r.length+1)) life=_;rw[show n+(r.length+1)=n+1+r.length by omega,e,e2];simp[Heap.push]
def v3 {Yf:Lm->A}{Ya:My->A}{H:UK->Nu}{k:Nat}{T:UK->BT}
  (open_:∀w:My,(Uu RO p w N).map (λs=>(s.heap,s.gens,s.drawn,s.toks))=Z (H w.params,gs,d,k))
  (size:∀w:My,((H w.params).isNs LV&&gs.size==0,(H w.params).objs.size,(H w.params).nsMap LV "__annotations__")=(true,m,ann))
  (tree:∀P,H P=SY (T P) m lf)
  (run:∀(w:My) (os:Qr),(topRunT RO p w m ann N ⟨T w.params,m,lf,gs,d,k,os⟩ (Yt p)).map (λs=>
    ((Xy (Pa p.main.body) (H w.params) s.abs.heap&&WV p s.abs.heap&&Ye s.abs&&Yg (H w.params) s.abs.heap),
    openSeen q loose (Pa p.main.body) Xt g0 s.abs,Yf s.abs))=Z (true,openGood q loose,Ya w)):LeftO p q loose Xt Yf Ya N g0:=λw=>by
 obtain⟨⟨h,gs',d',k',os⟩,e,e'⟩:=NQ.mp (open_ w);obtain⟨rfl,rfl,rfl,rfl⟩:h=H w.params/\gs'=gs/\d'=d/\k'=k:=by simpa using e'
 obtain⟨z1,z2,z3⟩:_/\_/\_:=by simpa only[Xm] using size w
 refine q1x2 (NQ.mp (run w os)) λs r1 r2=>?_;obtain⟨l1,l2,l3⟩:_/\_/\_:=by simpa only[Xm] using r2
 have r:=pZ r1;have ea:SharedT.abs ⟨T w.params,m,lf,gs',d',k',os⟩=⟨H w.params,gs',d',k',os⟩:=by rw[tree];rfl
 rw[ea] at r;have t:YM RO p w N ⟨H w.params,gs',d',k',os⟩=Z s.abs:=by
  unfold YM;dsimp only;rw[z1,z2,z3,r];show(match Xy (Pa p.main.body) (H w.params) s.abs.heap&&WV p s.abs.heap&&Ye s.abs&&Yg (H w.params) s.abs.heap with|true=>_|false=>_)=_;rw[l1]
 unfold openEnds;rw[e];show(YM RO p w N _).map _=_;rw[t];exact congrArg Z (Pn l2 l3)
noncomputable def bootT (P:UK):BT:=grow (Pb P).objs.toList .nil 0
lay_quick Hd.topRunT Yt
def yd (P:UK):Pb P=SY (bootT P) 11 {}:=by
 have h:=uN {} (Pb P).objs.toList .nil 0 (by kernel_rfl);exact h.symm
noncomputable def RT (p:Mi) (w:My) (N:Nat) (os:Qr):Option Wl:=topRunT RO p w 11 (Z (NJ 6)) N ⟨bootT w.params,11,{},Vm [],WW,Xz,os⟩ (Yt p)
noncomputable def pA (p:Mi) (P:UK) (s:Lm):Bool:=Xy (Pa p.main.body) (Pb P) s.heap&&WV p s.heap&&Ye s&&Yg (Pb P) s.heap
def pB (q:Mi)(mods:List Str)(Xt:Lm->Bool)(s:Lm):Bool:=(s.heap.keysOk (WX q []) ((SU q).map (·.name)) ((litsOf q).map (·.1)) ((clssOf q (WX q [])).map (·.name))&&s.heap.accountedOkI mods&&s.heap.isNs LV&&s.heap.isNs Q9&&tablesOk q s.heap&&Xt s&&(if true then s.gens.size==0 else !leftWithCleanup s.gens))&&tabsOk q s
def pC (q:Mi)(s:Lm):=(seen ((SU q).map (·.name)) (ownsOf q) [] {s with gens:=#[]},s.heap.bltView,wideSeen q s)
def pD (q:Mi)(s:Lm):=(pinSeenD q (XX q) s,plainSeenE q (WX q []) s,plainSeenD q [] s,clsSeenW q [] s)
lay_quick Hd.pB
lay_quick Hd.pC
lay_quick Hd.pD
def si {x:Option α}{f:α->A}{g:α->B}{a:A}{b:B}(h1:x.map f=Z a)(h2:x.map g=Z b):x.map (λs=>(f s,g s))=Z (a,b):=by
 cases x with
 | none=>cases h1
 | some s=>exact congrArg Z (Pn (LZ h1) (LZ h2))
def vP {Yf:Lm->A}{Ya:My->A}
  (open_:∀w:My,(Uu RO p w N).map (λs=>(s.heap,s.gens,s.drawn,s.toks))=Z (Pb w.params,Vm [],WW,Xz))
  (size:∀w:My,((Pb w.params).isNs LV&&(Vm ([]:List WT)).size==0,(Pb w.params).objs.size,(Pb w.params).nsMap LV "__annotations__")=(true,11,Z (NJ 6)))
  (r1:∀(w:My) (os:Qr),(RT p w N os).map (λs=>pA p w.params s.abs&&pB q (Pa p.main.body) Xt s.abs)=Z true)
  (r2:∀(w:My) (os:Qr),(RT p w N os).map (λs=>pC q s.abs)=Z (WY q,Uv,Yh q))
  (r3:∀(w:My) (os:Qr),(RT p w N os).map (λs=>pD q s.abs)=Z (Yi (XX q),WZ q (WX q []),W1 q [],Yj q []))
  (r4:∀(w:My) (os:Qr),(RT p w N os).map (λs=>Yf s.abs)=Z (Ya w)):LeftO p q [] Xt Yf Ya N true:=
 v3 open_ size yd λw os=>by
  show(RT p w N os).map _=_;have h:=si (si (r1 w os) (r2 w os)) (si (r3 w os) (r4 w os));cases e:RT p w N os with
  | none=>rw[e] at h;cases h
  | some s=>
   rw[e] at h;refine q0x2 (OV (LZ h)) λh1 h2=>?_;refine q0x2 (OV h1) λh1 h3=>?_;refine q0x2 (OV h2) λh4 h5=>?_;refine q0x2 (ML.mp h1) λa b=>?_;refine q0x2 (ML.mp b) λb c=>?_;refine q0x2 (OV h3) λc1 c2=>?_;refine q0x2 (OV c2) λc2 c3=>?_;refine q0x2 (OV h4) λd1 d2=>?_;refine q0x2 (OV d2) λd2 d3=>?_;refine q0x2 (OV d3) λd3 d4=>?_;exact congrArg Z (Pn a (Pn (Pn c1 (Pn c2 (Pn b (Pn c (Pn d1 (Pn d2 (Pn d3 (Pn c3 d4)))))))) h5))
def lk (s:Wl)(a:Nat):Option Obj:=match Nat.blt a s.n with
 | true=>(match s.tree.get a with
  | some o=>alive o
  | none=>Y)
 | false=>Y
def Ja {a:Nat}(h:lk s a=Z o):s.abs.heap.get? a=Z o:=by
 unfold lk at h;cases b:Nat.blt a s.n with
 | false=>rw[b] at h;cases h
 | true=>
  rw[b] at h;cases g:s.tree.get a with
  | none=>rw[g] at h;cases h
  | some x=>rw[g] at h;exact(abs_get (Nat.blt_eq.mp b) g).trans h
theorem vW {f:β->Obj}:∀{as:List Nat} {l:List β},as.map (lk s)=l.map (λp=>Z (f p))->as.map s.abs.heap.get?=l.map (λp=>Z (f p))
 | [],[],_=>rfl
 | [],_::_,h=>by cases h
 | _::_,[],h=>by cases h
 | a::as,p::l,h=>by
  refine q0x2 (Pi h) λx y=>?_;show s.abs.heap.get? a::as.map s.abs.heap.get?=_;rw[Ja x,vW y];rfl
def left_km {K:UK->LX}{as:List LA}{e:∀P,as=(K P).map (·.1)}
  (open_:∀w:My,(Uu RO p w N).map (λs=>(s.heap,s.gens,s.drawn,s.toks))=Z (Pb w.params,Vm [],WW,Xz))
  (size:∀w:My,((Pb w.params).isNs LV&&(Vm ([]:List WT)).size==0,(Pb w.params).objs.size,(Pb w.params).nsMap LV "__annotations__")=(true,11,Z (NJ 6)))
  (r1:∀(w:My) (os:Qr),(RT p w N os).map (λs=>pA p w.params s.abs&&pB q (Pa p.main.body) Xt s.abs)=Z true)
  (r2:∀(w:My) (os:Qr),(RT p w N os).map (λs=>pC q s.abs)=Z (WY q,Uv,Yh q))
  (r3:∀(w:My) (os:Qr),(RT p w N os).map (λs=>pD q s.abs)=Z (Yi (XX q),WZ q (WX q []),W1 q [],Yj q []))
  (r4:∀(w:My) (os:Qr),(RT p w N os).map (λs=>(as.map (lk s),ts.map (lk s)))=Z ((K w.params).map (λp=>Z p.2),ts.map λ_=>Z (YB #[]))) :
  LeftO p q [] Xt (kmHook K as e ts).obs (kmHook K as e ts).val N true:=
 vP open_ size r1 r2 r3 λw os=>by
  refine q1x2 (NQ.mp (r4 w os)) λs h1 h2=>?_;refine q0x2 (OV h2) λa b=>?_;rw[h1];exact congrArg Z (Pn (vW a) (vW b))
end Hd
namespace K35
open PySem PySem.Spec PyProof.Rows L2 DL List
open D renaming int → I,tup → U,mr → R,str → S,bl → G
open aQ renaming ok → O
def top (i:Nat):P5:=PySem.Challenge.pw_glowrow_k35_wishes_of_pictures.main.body.getD i (.Pass ⟨0,0,0,0⟩)
abbrev C7:P5:=top 31
abbrev TX:=Tx (("_law_draw",top 16,["tape","many"])::("_law_size",top 17,["tape","most"])::("_law_frame",top 18,["tape","most"])::("_law_inks",top 19,["tape","wide","thin"])::("_law_inked",top 20,["tape","most"])::("_law_far",top 21,["tape","size"])::("_law_mover",top 22,["tape","frame","shapes"])::("_law_stand",top 23,["tape","frame","movers_most"])::("_law_lying",top 25,["stand","row"])::("_law_strip",top 24,["shape","turn","row"])::("_law_taken",top 26,["frame","stand","row"])::("_law_cover",top 27,["row_here","x"])::("_law_ink",top 28,["row_here","x"])::("_law_inks_laid",top 29,["frame","stand"])::("_law_due",top 30,["inks","picture"])::("strip_of",top 1,["shape","turn","row"])::("strip_taken",top 7,["stand","number","row"])::("floor_inks",top 6,["frame","stand","row"])::("lying_on",top 3,["stand","row"])::("kept_on",top 4,["frame","stand","row"])::("taken",top 5,["frame","stand","row"])::("covers_at",top 8,["row_taken","x"])::("ink_at",top 9,["row_taken","x"])::("inks_shown",top 12,["frame","stand"])::("first_bars",top 14,["inks","hues"])::("wishes_of",top 13,["frame","stand","picture"])::[])
 ([])
 [("ink_shown",top 10,["floor_ink","covers"])]
 ("all"::"enumerate"::"int"::"isinstance"::"len"::"list"::"max"::"min"::"range"::"set"::"sorted"::"tuple"::"zip"::[]) []
 ([]) []
 ([]) [] []
set_option hygiene false
local macro_rules | `(tactic| walk_at "o") => `(tactic| first | with_reducible exact ID | with_reducible exact q_addM | with_reducible exact Hn | with_reducible exact IS | with_reducible exact Fi | with_reducible exact II | with_reducible exact GU | with_reducible exact Kh | with_reducible exact KP | with_reducible exact Kl | with_reducible exact Ky | with_reducible exact q_is | with_reducible exact Bn | with_reducible exact JR | with_reducible exact q_notin | with_reducible exact q_mulT | with_reducible exact q_inA | ((with_reducible show Q2 _ _ (dIn _)); first | exact q_din hr | exact q_dnotin hr) | ((with_reducible show Q2 _ _ (dInK _)); first | exact q_dinK hr | exact q_dninK hr) | ((with_reducible show Q2 _ _ (mH _)); exact Eu hr) | ((with_reducible show Q2 _ _ (A4 _)); first | exact q_eqL hr | exact Iz hr) | ((with_reducible show Q2 _ (MI .Eq) _); exact KJ hr) | exact JQ hr)
local macro_rules | `(tactic| walk_at "c") => `(tactic| first | ((with_reducible refine Jk ?_); rfl) | ((with_reducible refine GF)) | ((with_reducible refine q_lenT)) | ((with_reducible refine Hc)) | ((with_reducible refine q_listT ?_); rfl) | ((with_reducible refine q_listM)) | ((with_reducible refine Fp)) | ((with_reducible refine q_max ?_); rfl) | ((with_reducible refine HB ?_); rfl) | ((with_reducible refine q_sorted)) | ((with_reducible refine Bq)))
local macro_rules | `(tactic| walk_at "b") => `(tactic| with_reducible first | exact Boot.«all» | exact Boot.«enumerate» | exact Boot.«int» | exact Boot.«isinstance» | exact Boot.«len» | exact Boot.«list» | exact Boot.«max» | exact Boot.«min» | exact Boot.«range» | exact Boot.«set» | exact Boot.«sorted» | exact Boot.«tuple» | exact Boot.«zip»)
local macro_rules | `(tactic| walk_at "E") => `(tactic| first
  | ((with_reducible show QE _ _ (ae _));exact qv _)
  | ((with_reducible show QE _ _ (gC _));first|exact EK|exact Fg|exact Gg|exact IE)
  | ((with_reducible show QE _ _ (g2 dGet _ _));refine qe_dget hr ?_ ?_)
  | ((with_reducible show QE _ _ (g2 aB _ _));refine HH ?_ ?_)
  | ((with_reducible show QE _ _ (g2 _ _ _));first|refine Hf (by walk_at "o") ?_ ?_|refine D7 (by walk_at "o") ?_ ?_|refine qe_cmpI (by walk_at "o") ?_ ?_)
  | ((with_reducible show QE _ _ (av _ _ _));refine GQ (by assumption) hr ?_)
  | ((with_reducible show QE _ _ (bC _));refine Fm ?_)
  | ((with_reducible show QE _ _ (jA _ _));refine GL (by first|exact .inl rfl|exact .inr (.inl rfl)|exact .inr (.inr (.inl rfl))|exact .inr (.inr (.inr (.inl rfl)))|exact .inr (.inr (.inr (.inr rfl)))) (by walk_at "b") (by rfl) (T.z _ (by decide +kernel)) (by rfl) (T.z _ (by decide +kernel)) ?_)
  | ((with_reducible show QE _ _ (aE iR _));refine Dp (Ez (k:=0) (hr.mono (by decide))) (by rfl) (T.z _ (by decide +kernel)) (by walk_at "b") ?_)
  | ((with_reducible show QE _ _ (aE _ _));first|refine G4 (by walk_at "c") (T.z _ (by decide +kernel)) (by walk_at "b") ?_|refine IA (by walk_at "c") (by rfl) (T.z _ (by decide +kernel)) (by walk_at "b") ?_)
  | ((with_reducible show QE _ _ (eU _));refine E0 ?_)
  | ((with_reducible show QE _ _ (jw _));refine DW ?_)
  | ((with_reducible show QE _ _ (uS _));refine DJ ?_)
  | ((with_reducible show QE _ _ (xq _ _ _ _ _));refine qe_chain (by walk_at "o") (by walk_at "o") ?_ ?_ ?_)
  | ((with_reducible show QE _ _ (nY _ _ _));refine HD ?_ ?_ ?_)
  | ((with_reducible show QE _ _ (yh _ _ _));refine AI ?_ ?_ ?_)
  | ((with_reducible show QE _ _ (vZ _));refine D6 rfl ?_)
  | ((with_reducible show QE _ _ (jF _ _ _));first|refine qe_compKR (by assumption) (by kernel_rfl) (by first|exact .inl rfl|exact .inr rfl) ?_ ?_|refine yp (by kernel_rfl) (by first|exact .inl rfl|exact .inr rfl) ?_ ?_)
  | ((with_reducible show QE _ _ (aP _ _ _ _));first|refine Ak (by assumption) (by kernel_rfl) (by first|exact .inl rfl|exact .inr rfl) ?_ ?_ ?_|refine AJ (by kernel_rfl) (by first|exact .inl rfl|exact .inr rfl) ?_ ?_ ?_)
  | ((with_reducible show QE _ _ (jC _ _));refine yw ?_ ?_)
  | ((with_reducible show QE _ _ (kU _ _));refine CJ (px:="cover") (N:=["cover"]) (by assumption) (k:=0) (hr.mono (by decide)) (by rfl) (T.z _ (by decide +kernel)) (by walk_at "b") ⟨rfl,rfl,rfl,by decide +kernel,rfl,by decide +kernel,by decide +kernel⟩ ?_ λ_ _ _ _ _ _ _ hr=>?_)
  | ((with_reducible show QE _ _ (ka _ _ _ _ _ _ _ _ _));refine u6 hr (by assumption) (by kernel_rfl) (by first|exact .inl rfl|exact .inr rfl) (T.z _ (by decide +kernel)) (by walk_at "b") ?_ ?_ ?_ ?_ ?_ ?_ ?_ ?_ ?_)
  | ((with_reducible show QE _ _ (lZ _ _));refine xk hr (by first|exact .inl rfl|exact .inr rfl) (T.z _ (by decide +kernel)) (by walk_at "b") (T.z _ (by decide +kernel)) (by walk_at "b") ?_))
local macro_rules | `(tactic| walk_at "S") => `(tactic| first
  | ((with_reducible show QS _ _ (bo _));refine FA ?_)
  | ((with_reducible show QS _ _ (gW _ _ _));refine Hl ?_ ?_ ?_)
  | ((with_reducible show QS _ _ (aD _ (aP _ _ _ _)));first|refine qs_setCompR (by assumption) (by kernel_rfl) (by first|exact .inl rfl|exact .inr rfl) nd ?_ ?_ ?_|refine uI (by kernel_rfl) (by first|exact .inl rfl|exact .inr rfl) nd ?_ ?_ ?_|refine wb _ nd ?_)
  | ((with_reducible show QS _ _ (aD _ (jF _ _ _)));first|refine qs_setCompKR (by assumption) (by kernel_rfl) (by first|exact .inl rfl|exact .inr rfl) nd ?_ ?_|refine qO (by kernel_rfl) (by first|exact .inl rfl|exact .inr rfl) nd ?_ ?_|refine wb _ nd ?_)
  | ((with_reducible show QS _ _ (aD _ _));refine FI _ nd ?_)
  | ((with_reducible show QS _ _ (dH _ _));refine D0 ?_ ?_)
  | ((with_reducible show QS _ _ (dJ _ _ _));refine EG YN ?_ ?_ ?_)
  | ((with_reducible show QS _ _ (gP _));refine Bi ?_)
  | ((with_reducible show QS _ _ (jv _ _ _));refine Ff ?_ ?_ ?_)
  | ((with_reducible show QS _ _ (bf));first|exact qs_pass|exact qs_doc))
local macro_rules | `(tactic| walk_at "Q") => `(tactic| first
  | ((with_reducible show QE _ _ _);first|walk_at "E"|refine qe_one ?_|refine qe_and ?_ ?_|refine qe_or ?_ ?_|refine qe_fstr1 ?_)
  | ((with_reducible show QA _ _ _);first|exact Gi|refine Ko ?_ ?_)
  | ((with_reducible show QT _ _ _);first
  | ((with_reducible show QT _ _ (aK (xq _ _ _ _ _)));refine yL (by walk_at "o") (by walk_at "o") ?_ ?_ ?_)
  | ((with_reducible show QT _ _ (aK _));first|refine Et (by walk_at "o") ?_ ?_|refine CS (by walk_at "o") ?_ ?_)
  | ((with_reducible show QT _ _ (fv _));refine FX ?_)
  | ((with_reducible show QT _ _ (gK _));refine EZ ?_)
  | ((with_reducible show QT _ _ (cH _ _));refine HP ?_)
  | ((with_reducible show QT _ _ (fK _ _));refine HP ?_))
  | ((with_reducible show QB _ _ _);first|exact EU|refine Fj ?_|refine BU ?_ ?_)
  | ((with_reducible show QS _ _ _);walk_at "S")
  | ((with_reducible show QW _ _ _);first|refine FT ?_ ?_|refine HJ ?_ ?_|refine B0 ?_|refine Eg ?_)
  | ((with_reducible show QI _ _ _ _);first|((with_reducible show QI _ _ _ (bt _));refine Iv (by rfl) (T.z _ (by decide +kernel)) ?_)|((with_reducible show QI _ _ _ (fP _));refine GX (by rfl) (T.z _ (by decide +kernel)) ?_)|((with_reducible show QI _ _ _ (m7 _));refine Co (by rfl) (T.z _ (by decide +kernel)) (by walk_at "b") ?_)|((with_reducible show QI _ _ _ (C9 _));refine Ji (by rfl) (T.z _ (by decide +kernel)) (by walk_at "b") (by rfl) (T.z _ (by decide +kernel)) (by walk_at "b") ?_)|((with_reducible show QI _ _ _ (oC _));refine GH (by rfl) (T.z _ (by decide +kernel)) (by walk_at "b") ?_)|refine Ex ?_)
  | ((with_reducible show QG _ _ _);first|exact qn _ nd|exact K3 _ (by kernel_rfl) |refine DF ?_|refine BW ?_)
  | ((with_reducible show IH _ _ _);first|exact BJ|refine Ie ?_ ?_)
  | ((with_reducible show Jd _ _ _);first|exact Cm|refine HY ?_ ?_)
  | ((with_reducible show QP _ _ _);first|exact CN|refine Bv ?_)
  | ((with_reducible show A3 _ _ _ _ _ _);first|exact xO|refine ym ?_)
  | ((with_reducible show QO _ _);first|exact Ft _ _|exact DP _|refine CB ?_)
  | ((with_reducible show IF _ _);first|exact CI|refine Hg ?_ ?_)
  | ((with_reducible show QF _ _ _);first|exact qf_nil|refine qf_c ?_ ?_)
  | ((with_reducible show QD _ _ _ _ _);first|exact qd_nil|refine qd_c ?_)
  | intro _)
local macro_rules | `(tactic| walk_at "R") => `(tactic| repeat' walk_at "Q")
section
variable {P:Mi}{w:My}{K:LX}{mg:Str->Option Lk}{base:Nu}
def ik:GS:=(ay (aD 2 (gC (I 2305843009213693951))) (ay (gW (aK (g2 oQ (g2 aB (ae 0) (gC (I 2))) (ae 1))) (ay (aD 3 (gC (I 0))) (ay (gW (aK (g2 vI (aE bh (aa (g2 aB (ae 0) (gC (I 0))) ag)) (gC (I 0)))) (aD 3 (g2 aB (g2 aB (ae 0) (gC (I 0))) (g2 dq (g2 aB (ae 0) (gC (I 1))) (aE bh (aa (g2 aB (ae 0) (gC (I 0))) ag))))) bf) (ay (gW (fK (aK (g2 wj (g2 aB (ae 0) (gC (I 1))) (aE bh (aa (g2 aB (ae 0) (gC (I 0))) ag)))) (aK (g2 oQ (ae 3) (g2 oT (gC (I 10)) (gC (I 18)))))) (ay (aD 3 (g2 dq (g2 bQ (ae 3) (g2 gf (gC (I 1000003)) (g2 aB (ae 0) (gC (I 1))))) (ae 2))) (ay (aD 3 (g2 dq (g2 bQ (g2 bQ (g2 gf (ae 3) (ae 3)) (g2 gf (gC (I 1181783497276652981)) (ae 3))) (gC (I 2049848353892358983))) (ae 2))) (aD 3 (g2 dq (g2 bQ (g2 gf (ae 3) (ae 3)) (gC (I 1442695040888963407))) (ae 2))))) bf) (ay (jv (ae 0) (gC (I 1)) (g2 bQ (g2 aB (ae 0) (gC (I 1))) (gC (I 1)))) (jv (ae 0) (gC (I 2)) (ae 3)))))) bf) (ay (aD 4 (g2 dq (g2 aB (ae 0) (gC (I 2))) (ae 1))) (ay (jv (ae 0) (gC (I 2)) (g2 dg (g2 aB (ae 0) (gC (I 2))) (ae 1))) (bo (ae 4))))))
def ao:FD:=cz 3 ik
variable (T:TX P w K mg base)
include T
def ck:Ok P w K mg base "_law_draw" 1 2 ao:=fz (fq T.f 0 rfl) ["tape","many","prime","cell","found"] cx rfl λf _ A _ s H E nd hr=>by delta ik;walk_at "R"
def j3:GS:=(bo (g2 bQ (gC (I 1)) (g2 aB (eU (aa (av 2 ao (aa (ae 0) (aa (aE uY (aa (ae 1) (aa (gC (I 6)) ag))) ag))) (aa (av 2 ao (aa (ae 0) (aa (ae 1) ag))) (aa (g2 eM (ae 1) (gC (I 1))) ag)))) (g2 dg (g2 gf (av 2 ao (aa (ae 0) (aa (gC (I 8)) ag))) (gC (I 3))) (gC (I 10))))))
def cS:FD:=cz 0 j3
def kZ:Ok P w K mg base "_law_size" 2 2 cS:=fz (fq T.f 1 rfl) ["tape","most"] cx rfl λf _ A _ s H E nd hr=>by have:=ck T;delta j3;walk_at "R"
def i6:GS:=(ay (aD 2 (g2 aB (eU (aa (gC (I 0)) (aa (av 2 ao (aa (ae 0) (aa (gC (I 21)) ag))) ag))) (av 2 ao (aa (ae 0) (aa (gC (I 2)) ag))))) (bo (bC (aa (av 2 cS (aa (ae 0) (aa (ae 1) ag))) (aa (av 2 cS (aa (ae 0) (aa (ae 1) ag))) (aa (ae 2) (aa (av 2 ao (aa (ae 0) (aa (gC (I 13)) ag))) ag)))))))
def de:FD:=cz 1 i6
def o0:Ok P w K mg base "_law_frame" 3 2 de:=fz (fq T.f 2 rfl) ["tape","most","gap"] cx rfl λf _ A _ s H E nd hr=>by have:=ck T;have:=kZ T;delta i6;walk_at "R"
def dX:GE:=(g2 gf (av 2 ao (aa (ae 1) (aa (gC (I 16)) ag))) (aE uU (aa (g2 vI (av 2 ao (aa (ae 1) (aa (ae 3) ag))) (gC (I 0))) ag)))
def jI:GS:=(bo (aE bW (aa (aP (bt (aa (ae 1) ag)) aW dX aC) ag)))
def iw:FD:=cz 0 jI
def rN:Ok P w K mg base "_law_inks" 2 3 iw:=fz (fq T.f 3 rfl) ["tape","wide","thin"] cx rfl λf _ A _ s H E nd hr=>by have:=ck T;delta jI dX;walk_at "R"
def fo:GE:=(av 3 iw (aa (ae 1) (aa (ae 3) (aa (ae 4) ag))))
def i7:GS:=(ay (aD 2 (av 2 cS (aa (ae 0) (aa (ae 1) ag)))) (ay (aD 3 (g2 bQ (gC (I 1)) (av 2 ao (aa (ae 0) (aa (gC (I 4)) ag))))) (bo (aE bW (aa (aP (bt (aa (av 2 cS (aa (ae 0) (aa (ae 1) ag))) ag)) aW fo aC) ag)))))
def dS:FD:=cz 2 i7
def o3:Ok P w K mg base "_law_inked" 3 2 dS:=fz (fq T.f 4 rfl) ["tape","most","wide","thin"] cx rfl λf _ A _ s H E nd hr=>by have:=ck T;have:=kZ T;have:=rN T;delta i7 fo;walk_at "R"
def kL:GS:=(bo (g2 aB (eU (aa (g2 eM (av 2 ao (aa (ae 0) (aa (g2 bQ (ae 1) (gC (I 16))) ag))) (gC (I 8))) (aa (g2 eM (av 2 ao (aa (ae 0) (aa (gC (I 2001)) ag))) (gC (I 1000))) ag))) (g2 dg (av 2 ao (aa (ae 0) (aa (gC (I 8)) ag))) (gC (I 7)))))
def bB:FD:=cz 0 kL
def nj:Ok P w K mg base "_law_far" 2 2 bB:=fz (fq T.f 5 rfl) ["tape","size"] cx rfl λf _ A _ s H E nd hr=>by have:=ck T;delta kL;walk_at "R"
def cg:GS:=(ay (aD 3 (gC .non)) (ay (gW (cH (aK (g2 vI (ae 2) (gC (I 0)))) (aK (g2 vI (av 2 ao (aa (ae 0) (aa (gC (I 8)) ag))) (gC (I 0))))) (aD 3 (av 2 ao (aa (ae 0) (aa (ae 2) ag)))) bf) (bo (bC (aa (ae 3) (aa (av 2 bB (aa (ae 0) (aa (g2 aB (ae 1) (gC (I 0))) ag))) (aa (av 2 bB (aa (ae 0) (aa (g2 aB (ae 1) (gC (I 1))) ag))) (aa (av 2 ao (aa (ae 0) (aa (gC (I 4)) ag))) (aa (av 2 ao (aa (ae 0) (aa (gC (I 4)) ag))) ag)))))))))
def i9:FD:=cz 1 cg
def pc:Ok P w K mg base "_law_mover" 3 3 i9:=fz (fq T.f 6 rfl) ["tape","frame","shapes","shape"] cx rfl λf _ A _ s H E nd hr=>by have:=ck T;have:=nj T;delta cg;walk_at "R"
def fc:GE:=(av 2 dS (aa (ae 1) (aa (gC (I 8)) ag)))
def fh:GE:=(av 3 i9 (aa (ae 1) (aa (ae 2) (aa (aE bh (aa (ae 7) ag)) ag))))
def fj:GE:=(av 2 ao (aa (ae 1) (aa (gC (I 64)) ag)))
def fR:GS:=(ay (aD 3 (av 2 dS (aa (ae 0) (aa (gC (I 16)) ag)))) (ay (aD 4 (bC (aa (av 2 bB (aa (ae 0) (aa (gC (I 9)) ag))) (aa (av 2 bB (aa (ae 0) (aa (gC (I 9)) ag))) ag)))) (ay (aD 5 (g2 aB (eU (aa (av 2 ao (aa (ae 0) (aa (gC (I 4)) ag))) (aa (av 2 ao (aa (ae 0) (aa (gC (I 9)) ag))) ag))) (g2 dg (av 2 ao (aa (ae 0) (aa (gC (I 4)) ag))) (gC (I 3))))) (ay (aD 6 (aE bW (aa (aP (bt (aa (ae 5) ag)) aW fc aC) ag))) (ay (aD 7 (aE bW (aa (aP (bt (aa (av 2 ao (aa (ae 0) (aa (g2 bQ (ae 2) (gC (I 1))) ag))) ag)) aW fh aC) ag))) (bo (bC (aa (ae 3) (aa (ae 4) (aa (ae 6) (aa (ae 7) (aa (aE bW (aa (aP (bt (aa (gC (I 16)) ag)) aW fj aC) ag)) ag))))))))))))
def dO:FD:=cz 5 fR
def oY:Ok P w K mg base "_law_stand" 4 3 dO:=fz (fq T.f 7 rfl) ["tape","frame","movers_most","floor","shift","shapes","book","movers"] cx rfl λf _ A _ s H E nd hr=>by have:=ck T;have:=o3 T;have:=nj T;have:=pc T;delta fR fc fh fj;walk_at "R"
def cJ:GS:=(ay (dH (cb [4,5,6,7,8]) (g2 aB (g2 aB (ae 0) (gC (I 3))) (ae 3))) (gW (cH (aK (g2 (nW true) (ae 4) (gC .non))) (cH (aK (g2 wn (ae 6) (ae 1))) (aK (g2 oQ (ae 1) (g2 bQ (ae 6) (aE bh (aa (g2 aB (g2 aB (ae 0) (gC (I 2))) (ae 4)) ag))))))) (gP (jC (ae 2) (ae 3))) bf))
def dU:GS:=(ay (aD 2 (jw ag)) (ay (dJ (bt (aa (aE bh (aa (g2 aB (ae 0) (gC (I 3))) ag)) ag)) (aX 3) cJ) (bo (ae 2))))
def dP:FD:=λds M=>jO M.length (cz 7 dU ds M)
def oV:Ok P w K mg base "_law_lying" 1 2 dP:=nR (F:=cz 7 dU) <| fz (fq T.f 8 rfl) ["stand","row","found","number","shape","x","y","rank","turn"] cx rfl λf _ A _ s H E nd hr=>by delta dU cJ;walk_at "R"
def iD:GE:=(g2 aB (g2 aB (ae 1) (ae 3)) (g2 eM (g2 eM (aE bh (aa (g2 aB (ae 1) (ae 3)) ag)) (gC (I 1))) (ae 0)))
def f6:GS:=(ay (gW (aK (g2 (cD false) (g2 dg (ae 1) (gC (I 2))) (gC (I 1)))) (aD 2 (g2 eM (g2 eM (aE bh (aa (ae 0) ag)) (gC (I 1))) (ae 2))) bf) (ay (gW (aK (g2 (cD false) (g2 dq (ae 1) (gC (I 2))) (gC (I 0)))) (bo (g2 aB (ae 0) (ae 2))) bf) (bo (aE bW (aa (aP (bt (aa (aE bh (aa (g2 aB (ae 0) (ae 2)) ag)) ag)) aW iD aC) ag)))))
def gj:FD:=cz 0 f6
def o8:Ok P w K mg base "_law_strip" 1 3 gj:=fz (fq T.f 9 rfl) ["shape","turn","row"] cx rfl λf _ A _ s H E nd hr=>by delta f6 iD;walk_at "R"
def du:GS:=(ay (dH (cb [8,9,10,11,12]) (g2 aB (g2 aB (ae 1) (gC (I 3))) (ae 7))) (gP (jC (ae 6) (bC (aa (ae 7) (aa (ae 9) (aa (ae 11) (aa (av 3 gj (aa (g2 aB (g2 aB (ae 1) (gC (I 2))) (ae 8)) (aa (ae 12) (aa (g2 eM (ae 2) (ae 10)) ag)))) ag))))))))
def fg:GE:=(g2 aB (ae 6) (g2 dq (g2 bQ (ae 0) (g2 aB (ae 5) (gC (I 0)))) (aE bh (aa (ae 6) ag))))
def dR:GS:=(ay (dH (cb [3,4]) (yh (ae 1) eE (jH (gC (I 2))))) (ay (aD 5 (g2 aB (ae 3) (g2 dq (g2 bQ (ae 2) (g2 aB (ae 4) (gC (I 1)))) (aE bh (aa (ae 3) ag))))) (ay (aD 6 (jw ag)) (ay (dJ (cN (yh (av 2 dP (aa (ae 1) (aa (ae 2) ag))) eE (jH (g2 aB (ae 0) (gC (I 3)))))) (aX 7) du) (bo (bC (aa (aE bW (aa (aP (bt (aa (g2 aB (ae 0) (gC (I 0))) ag)) aW fg aC) ag)) (aa (aE bW (aa (ae 6) ag)) ag))))))))
def jf:FD:=λds M=>jO M.length (cz 10 dR ds M)
def pK:Ok P w K mg base "_law_taken" 2 3 jf:=nR (F:=cz 10 dR) <| fz (fq T.f 10 rfl) ["frame","stand","row","floor","shift","inks","strips","number","shape","x","y","rank","turn"] cx rfl λf _ A _ s H E nd hr=>by have:=oV T;have:=o8 T;have:=rn 125 18 ["x"] ["frame","stand","row","floor","shift","inks","strips","number","shape","x.","y","rank","turn"];delta dR du fg;walk_at "R"
def cK:GS:=(gW (cH (aK (g2 wn (ae 4) (ae 1))) (cH (aK (g2 oQ (ae 1) (g2 bQ (ae 4) (aE bh (aa (ae 6) ag))))) (aK (g2 (cD true) (g2 aB (ae 6) (g2 eM (ae 1) (ae 4))) (gC (I 0)))))) (gP (jC (ae 2) (bC (aa (ae 5) (aa (g2 eM (gC (I 0)) (ae 3)) (aa (g2 aB (ae 6) (g2 eM (ae 1) (ae 4))) ag)))))) bf)
def eD:GS:=(ay (aD 2 (jw ag)) (ay (dJ (cN (g2 aB (ae 0) (gC (I 1)))) (cb [3,4,5,6]) cK) (bo (ae 2))))
def jh:FD:=λds M=>jO M.length (cz 5 eD ds M)
def o4:Ok P w K mg base "_law_cover" 1 2 jh:=nR (F:=cz 5 eD) <| fz (fq T.f 11 rfl) ["row_here","x","found","number","left","rank","inks"] cx rfl λf _ A _ s H E nd hr=>by delta eD cK;walk_at "R"
def fD:GE:=(ae 0)
def dD:GT:=(aK (g2 vI (g2 aB (ae 0) (gC (I 0))) (gC (I 0))))
def i3:GS:=(ay (aD 2 (av 2 jh (aa (ae 0) (aa (ae 1) ag)))) (ay (aD 3 (aP (cN (ae 2)) dD fD aC)) (ay (gW (aK (g2 (cD true) (ae 3) (eU ag))) (bo (g2 aB (aE iR (aa (ae 3) ag)) (gC (I 2)))) bf) (ay (gW (fK (aK (g2 (cD true) (g2 aB (g2 aB (ae 0) (gC (I 0))) (ae 1)) (gC (I 0)))) (aK (g2 (cD false) (ae 2) (eU ag)))) (bo (g2 aB (g2 aB (ae 0) (gC (I 0))) (ae 1))) bf) (bo (g2 aB (aE iR (aa (ae 2) ag)) (gC (I 2))))))))
def gM:FD:=cz 2 i3
def tX:Ok P w K mg base "_law_ink" 2 2 gM:=fz (fq T.f 12 rfl) ["row_here","x","found","above"] cx rfl λf _ A _ s H E nd hr=>by have:=o4 T;delta i3 fD dD;walk_at "R"
def d9:GE:=(av 3 jf (aa (ae 1) (aa (ae 2) (aa (ae 0) ag))))
def dQ:GE:=(av 2 gM (aa (ae 1) (aa (ae 0) ag)))
def cO:GE:=(aP (bt (aa (g2 aB (ae 1) (gC (I 0))) ag)) aW dQ aC)
def cY:GS:=(ay (aD 2 (aP (bt (aa (g2 aB (ae 0) (gC (I 1))) ag)) aW d9 aC)) (bo (jF (cN (ae 2)) cO aC)))
def cW:FD:=cz 1 cY
def lT:Ok P w K mg base "_law_inks_laid" 3 2 cW:=fz (fq T.f 13 rfl) ["frame","stand","rows"] cx rfl λf _ A _ s H E nd hr=>by have:=pK T;have:=tX T;delta cY d9 dQ cO;walk_at "R"
def fH:GS:=(gW (cH (aK (g2 (cD false) (g2 aB (g2 aB (ae 0) (ae 3)) (ae 4)) (g2 aB (g2 aB (ae 0) (ae 3)) (ae 5)))) (aK (g2 (cD true) (g2 aB (g2 aB (ae 1) (ae 3)) (ae 4)) (g2 aB (g2 aB (ae 1) (ae 3)) (ae 5))))) (bo (bC (aa (gC (S "bars")) (aa (ae 3) (aa (ae 4) (aa (ae 5) ag)))))) bf)
def jX:GS:=(dJ (fP (aa (g2 bQ (ae 4) (gC (I 1))) (aa (aE bh (aa (g2 aB (ae 0) (ae 3)) ag)) ag))) (aX 5) fH)
def jE:GE:=(bC (aa (ae 4) (aa (g2 aB (g2 aB (ae 1) (ae 4)) (ae 0)) (aa (g2 aB (g2 aB (ae 2) (ae 4)) (ae 0)) ag))))
def fB:GS:=(ay (dJ (bt (aa (aE bh (aa (g2 aB (ae 0) (ae 3)) ag)) ag)) (aX 4) jX) (aD 2 (g2 bQ (ae 2) (aP (bt (aa (aE bh (aa (g2 aB (ae 0) (ae 3)) ag)) ag)) aW jE aC))))
def jg:GS:=(ay (aD 2 (eU ag)) (ay (dJ (bt (aa (aE bh (aa (ae 0) ag)) ag)) (aX 3) fB) (bo (bC (aa (gC (S "wishes")) (aa (lZ (ae 2) aC) ag))))))
def hZ:FD:=cz 4 jg
def sI:Ok P w K mg base "_law_due" 1 2 hZ:=fz (fq T.f 14 rfl) ["inks","picture","wishes","row","one","other"] cx rfl λf _ A _ s H E nd hr=>by delta jg fH jX jE fB;walk_at "R"
def jd:GS:=(ay (gW (fK (aK (g2 oQ (ae 2) (gC (I 0)))) (aK (g2 wj (ae 2) (aE bh (aa (ae 0) ag))))) (bo (bC ag)) bf) (ay (aD 3 (nY (aK (g2 (oy false) (ae 1) (bC (aa (gC (I 2)) (aa (gC (I 3)) ag))))) (g2 aB (ae 0) (g2 eM (g2 eM (aE bh (aa (ae 0) ag)) (gC (I 1))) (ae 2))) (g2 aB (ae 0) (ae 2)))) (bo (nY (aK (g2 (oy false) (ae 1) (bC (aa (gC (I 1)) (aa (gC (I 3)) ag))))) (vZ (ae 3)) (ae 3)))))
def i5:FD:=cz 1 jd
def uO:Ok P w K mg base "strip_of" 1 3 i5:=fz (fq T.f 15 rfl) ["shape","turn","row","strip"] cx rfl λf _ A _ s H E nd hr=>by delta jd;walk_at "R"
def eW:GS:=(ay (dH (cb [3,4,5,6,7]) (ae 0)) (ay (dH (cb [8,9,10,11,12]) (g2 aB (ae 6) (ae 1))) (bo (bC (aa (ae 1) (aa (ae 9) (aa (ae 11) (aa (av 3 i5 (aa (g2 aB (ae 5) (ae 8)) (aa (ae 12) (aa (g2 eM (ae 2) (ae 10)) ag)))) ag))))))))
def iF:FD:=cz 10 eW
def ou:Ok P w K mg base "strip_taken" 2 3 iF:=fz (fq T.f 16 rfl) ["stand","number","row","floor","shift","book","movers","pots","shape","x","y","rank","turn"] cx rfl λf _ A _ s H E nd hr=>by have:=uO T;delta eW;walk_at "R"
def dr:GE:=(g2 aB (ae 14) (g2 dq (g2 bQ (ae 0) (ae 9)) (aE bh (aa (ae 14) ag))))
def gw:GS:=(ay (dH (cb [3,4,5,6]) (ae 0)) (ay (dH (jW [(aX 7),(cb [8,9]),(aX 10),(aX 11),(aX 12)]) (ae 1)) (ay (aD 13 (g2 aB (ae 7) (g2 dq (g2 bQ (ae 2) (ae 9)) (aE bh (aa (ae 7) ag))))) (bo (aE bW (aa (aP (bt (aa (ae 3) ag)) aW dr aC) ag))))))
def je:FD:=cz 11 gw
def oR:Ok P w K mg base "floor_inks" 1 3 je:=fz (fq T.f 17 rfl) ["frame","stand","row","wide","high","gap","most","floor","across","down","book","movers","pots","inks"] cx rfl λf _ A _ s H E nd hr=>by delta gw dr;walk_at "R"
def dE:GS:=(gW (cH (aK (g2 (nW true) (ae 9) (gC .non))) (aK (xq wn oQ (ae 11) (ae 1) (g2 bQ (ae 11) (aE bh (aa (g2 aB (ae 4) (ae 9)) ag)))))) (gP (jC (ae 7) (ae 8))) bf)
def gX:GS:=(ay (dH (cb [2,3,4,5,6]) (ae 0)) (ay (aD 7 (jw ag)) (ay (dJ (m7 (aa (ae 5) ag)) (jW [(aX 8),(cb [9,10,11,12,13])]) dE) (bo (ae 7)))))
def kS:FD:=λds M=>jO M.length (cz 12 gX ds M)
def uD:Ok P w K mg base "lying_on" 1 2 kS:=nR (F:=cz 12 gX) <| fz (fq T.f 18 rfl) ["stand","row","floor","shift","book","movers","pots","told","number","shape","x","y","rank","turn"] cx rfl λf _ A _ s H E nd hr=>by delta gX dE;walk_at "R"
def mO:GS:=(ay (dH (cb [3,4,5,6]) (ae 0)) (bo (yh (av 2 kS (aa (ae 1) (aa (ae 2) ag))) eE (jH (ae 6)))))
def j5:FD:=cz 4 mO
def va:Ok P w K mg base "kept_on" 2 3 j5:=fz (fq T.f 19 rfl) ["frame","stand","row","wide","high","gap","most"] cx rfl λf _ A _ s H E nd hr=>by have:=uD T;delta mO;walk_at "R"
def lN:GE:=(av 3 iF (aa (ae 2) (aa (ae 0) (aa (ae 3) ag))))
def rW:GS:=(ay (aD 3 (aP (cN (av 3 j5 (aa (ae 0) (aa (ae 1) (aa (ae 2) ag))))) aW lN aC)) (bo (bC (aa (av 3 je (aa (ae 0) (aa (ae 1) (aa (ae 2) ag)))) (aa (aE bW (aa (ae 3) ag)) ag)))))
def nM:FD:=cz 1 rW
def zy:Ok P w K mg base "taken" 3 3 nM:=fz (fq T.f 20 rfl) ["frame","stand","row","strips"] cx rfl λf _ A _ s H E nd hr=>by have:=ou T;have:=oR T;have:=va T;delta rW lN;walk_at "R"
def bS:GE:=(bC (aa (uS (g2 aB (ae 0) (gC (I 0)))) (aa (g2 aB (ae 0) (gC (I 1))) ag)))
def im:GS:=(ay (gW (gK (ae 1)) (ay (dH (cb [2,3,4]) (kU (uP 0 bS) (ae 1))) (gW (fK (aK (g2 wj (ae 2) (gC (I 1)))) (aK (g2 (cD false) (ae 0) (gC (I 0))))) (bo (ae 4)) bf)) bf) (bo (ae 0)))
def fI:FD:=cz 3 im
def qS:Ok P w K mg base "ink_shown" 3 2 fI:=Ke (J4 T.l 0 rfl) ["floor_ink","covers","rank","number","ink"] cx rfl λf _ _ A _ s H E nd tb hr=>by delta im bS;walk_at "R"
def c9:GS:=(gW (cH (aK (xq wn oQ (ae 6) (ae 1) (g2 bQ (ae 6) (aE bh (aa (ae 8) ag))))) (aK (g2 (cD true) (g2 aB (ae 8) (g2 eM (ae 1) (ae 6))) (gC (I 0))))) (gP (jC (ae 4) (bC (aa (ae 7) (aa (ae 5) (aa (g2 aB (ae 8) (g2 eM (ae 1) (ae 6))) ag)))))) bf)
def fJ:GS:=(ay (dH (cb [2,3]) (ae 0)) (ay (aD 4 (jw ag)) (ay (dJ (cN (ae 3)) (cb [5,6,7,8]) c9) (bo (ae 4)))))
def jQ:FD:=λds M=>jO M.length (cz 7 fJ ds M)
def qN:Ok P w K mg base "covers_at" 1 2 jQ:=nR (F:=cz 7 fJ) <| fz (fq T.f 21 rfl) ["row_taken","x","inks","strips","told","number","left","rank","strip"] cx rfl λf _ A _ s H E nd hr=>by delta fJ c9;walk_at "R"
def lx:GS:=(ay (dH (cb [2,3]) (ae 0)) (bo (av 2 fI (aa (g2 aB (ae 2) (ae 1)) (aa (av 2 jQ (aa (ae 0) (aa (ae 1) ag))) ag)))))
def oN:FD:=cz 2 lx
def xj:Ok P w K mg base "ink_at" 4 2 oN:=fz (fq T.f 22 rfl) ["row_taken","x","inks","strips"] cx rfl λf _ A _ s H E nd hr=>by have:=qS T;have:=qN T;delta lx;walk_at "R"
def iC:GE:=(av 3 nM (aa (ae 1) (aa (ae 2) (aa (ae 0) ag))))
def iG:GE:=(av 2 oN (aa (ae 1) (aa (ae 0) ag)))
def eZ:GE:=(aP (bt (aa (ae 3) ag)) aW iG aC)
def gq:GS:=(ay (dH (cb [2,3,4,5]) (ae 0)) (ay (aD 6 (aP (bt (aa (ae 3) ag)) aW iC aC)) (bo (jF (cN (ae 6)) eZ aC))))
def cX:FD:=cz 5 gq
def pF:Ok P w K mg base "inks_shown" 5 2 cX:=fz (fq T.f 23 rfl) ["frame","stand","wide","high","gap","most","rows"] cx rfl λf _ A _ s H E nd hr=>by have:=zy T;have:=xj T;delta gq iC iG eZ;walk_at "R"
def dk:GS:=(gW (cH (aK (g2 (cD false) (g2 aB (ae 0) (ae 2)) (g2 aB (ae 0) (ae 3)))) (aK (g2 (cD true) (g2 aB (ae 1) (ae 2)) (g2 aB (ae 1) (ae 3))))) (bo (bC (aa (ae 2) (aa (ae 3) ag)))) bf)
def iE:GS:=(dJ (fP (aa (g2 bQ (ae 2) (gC (I 1))) (aa (aE bh (aa (ae 0) ag)) ag))) (aX 3) dk)
def fT:GS:=(ay (dJ (bt (aa (aE bh (aa (ae 0) ag)) ag)) (aX 2) iE) (bo (gC .non)))
def jn:FD:=cz 2 fT
def pk:Ok P w K mg base "first_bars" 1 2 jn:=fz (fq T.f 24 rfl) ["inks","hues","one","other"] cx rfl λf _ A _ s H E nd hr=>by delta fT dk iE;walk_at "R"
def eI:GS:=(ay (aD 7 (av 2 jn (aa (ae 5) (aa (ae 6) ag)))) (gW (aK (g2 (nW true) (ae 7) (gC .non))) (bo (g2 bQ (bC (aa (gC (S "bars")) (aa (ae 4) ag))) (ae 7))) bf))
def i8:GE:=(bC (aa (ae 0) (aa (ae 3) (aa (ae 4) ag))))
def iq:GS:=(ay (aD 3 (av 2 cX (aa (ae 0) (aa (ae 1) ag)))) (ay (dJ (C9 (aa (ae 3) (aa (ae 2) ag))) (jW [(aX 4),(cb [5,6])]) eI) (bo (bC (aa (gC (S "wishes")) (aa (ka (C9 (aa (ae 3) (aa (ae 2) ag))) 5 (jW [(aX 0),(cb [1,2])]) aW (oC (aa (ae 1) (aa (ae 2) ag))) (cb [3,4]) aW i8 bM) ag))))))
def cR:FD:=cz 5 iq
def rL:Ok P w K mg base "wishes_of" 6 3 cR:=fz (fq T.f 25 rfl) ["frame","stand","picture","shown","row","inks","hues","bars"] cx rfl λf _ A _ s H E nd hr=>by have:=pF T;have:=pk T;have:=rn 57 29 ["row","inks","hues","ink","hue"] ["frame","stand","picture","shown","row.","inks.","hues.","bars"];delta iq eI i8;walk_at "R"
def vz:GE:=(av 2 ao (aa (ae 3) (aa (gC (I 64)) ag)))
def m6:GE:=(aP (bt (aa (gC (I 16)) ag)) aW vz aC)
def vR:GE:=(g2 aB (g2 aB (ae 8) (ae 1)) (ae 0))
def mD:GE:=(aP (cN (g2 aB (ae 6) (ae 0))) aW vR bM)
def mV:GS:=(jv (g2 aB (ae 7) (av 2 ao (aa (ae 1) (aa (g2 aB (ae 3) (gC (I 1))) ag)))) (av 2 ao (aa (ae 1) (aa (g2 aB (ae 3) (gC (I 0))) ag))) (av 2 ao (aa (ae 1) (aa (gC (I 64)) ag))))
def mP:GE:=(aE kH (aa (ae 0) ag))
def m3:GE:=(jA "tuple" (ae 0))
def sA:GS:=(ay (aD 3 (av 2 de (aa (ae 1) (aa (g2 aB (eU (aa (gC (I 12)) (aa (gC (I 40)) ag))) (g2 dg (av 2 ao (aa (ae 1) (aa (gC (I 4)) ag))) (gC (I 3)))) ag)))) (ay (aD 4 (av 3 dO (aa (ae 1) (aa (ae 3) (aa (gC (I 6)) ag))))) (ay (aD 5 (av 2 cW (aa (ae 3) (aa (ae 4) ag)))) (ay (aD 6 (aP (cN (ae 5)) aW m6 aC)) (ay (aD 7 (jF (bt (aa (aE bh (aa (ae 5) ag)) ag)) mD aC)) (ay (dJ (bt (aa (g2 aB (eU (aa (gC (I 0)) (aa (gC (I 0)) (aa (gC (I 1)) (aa (gC (I 2)) ag))))) (av 2 ao (aa (ae 1) (aa (gC (I 4)) ag)))) ag)) (aX 8) mV) (ay (aD 9 (aP (cN (ae 7)) aW mP aC)) (ay (aD 10 (av 2 hZ (aa (ae 5) (aa (ae 7) ag)))) (ay (aD 11 (av 3 cR (aa (ae 3) (aa (ae 4) (aa (ae 9) ag))))) (ay (gW (fK (fv (gK (jA "tuple" (ae 11)))) (fK (aK (g2 (mH true) (ae 11) (ae 10))) (aK (g2 (A4 true) (ae 9) (ae 7))))) (bo (gC (G false))) bf) (gW (aK (g2 (cD false) (g2 aB (ae 11) (gC (I 0))) (gC (S "wishes")))) (ay (gW (fK (fv (gK (jA "list" (g2 aB (ae 11) (gC (I 1)))))) (fv (gK (aE oX (aa (aP (cN (g2 aB (ae 11) (gC (I 1)))) aW m3 aC) ag))))) (bo (gC (G false))) bf) (ay (gP (jC (g2 aB (ae 11) (gC (I 1))) (bC (aa (gC (I 0)) (aa (gC (I 0)) (aa (gC (I 0)) ag)))))) (gW (aK (g2 (mH true) (av 3 cR (aa (ae 3) (aa (ae 4) (aa (ae 7) ag)))) (ae 10))) (bo (gC (G false))) bf))) bf)))))))))))
def we:GS:=(ay (aD 1 (jw (aa (aE kH (aa (ae 0) ag)) (aa (gC (I 0)) (aa (gC (I 0)) ag))))) (ay (dJ (bt (aa (gC (I 3)) ag)) (aX 2) sA) (bo (gC (G true)))))
def wq:FD:=cz 11 we
def Ew{f:LA}{fd:OM} (F:Fn K mg "law" C7 f fd ["script"]):fA P w K mg base (iJ P w) 7 f fd ["script"] (pG K 1 wq):=Hv F.F (N:=["script","tape","turn","frame","stand","inks","hues","picture","k","handed","due","found"]) cx rfl λ_ A _ s H E hr=>by
 have nd:(["script","tape","turn","frame","stand","inks","hues","picture","k","handed","due","found"]:List Str).Nodup:=by decide +kernel
 have:=ck T;have:=o0 T;have:=oY T;have:=lT T;have:=sI T;have:=rL T;delta we vz m6 vR mD mV mP m3 sA;walk_at "R"
end
end K35
section
open PySem PySem.W PyProof.Rows
noncomputable abbrev K35.VV:Mi:=(view PySem.Challenge.pw_glowrow_k35_wishes_of_pictures [1,3,4,5,6,7,8,9,10,12,13,14,16,17,18,19,20,21,22,23,24,25,26,27,28,29,30,31])
set_option maxHeartbeats 0 in
def K35.h1:∀(w:My) (os:Qr),(Hd.RT (QK PySem.Challenge.rw_glowrow_k35_wishes_of_pictures).prog w 1898 os).map (λs=>Hd.pA (QK PySem.Challenge.rw_glowrow_k35_wishes_of_pictures).prog w.params s.abs&&Hd.pB K35.VV (Pa (QK PySem.Challenge.rw_glowrow_k35_wishes_of_pictures).prog.main.body) (λs=>xlAt K35.VV [] s&&recOk (XY (W3 (QK PySem.Challenge.rw_glowrow_k35_wishes_of_pictures))) s) s.abs)=Z true:=by
 intro w os;unfold Hd.RT;rw[W.Fast.te15732481512506401174,W.Fast.te2530740449226627131,W.Fast.te13930993214811372802];kernel_rfl
set_option maxHeartbeats 0 in
def K35.h2:∀(w:My) (os:Qr),(Hd.RT (QK PySem.Challenge.rw_glowrow_k35_wishes_of_pictures).prog w 1898 os).map (λs=>Hd.pC K35.VV s.abs)=Z (WY K35.VV,Uv,Yh K35.VV):=by
 intro w os;unfold Hd.RT;rw[W.Fast.te15732481512506401174,W.Fast.te2530740449226627131,W.Fast.te7338995916957470747];kernel_rfl
set_option maxHeartbeats 0 in
def K35.h3:∀(w:My) (os:Qr),(Hd.RT (QK PySem.Challenge.rw_glowrow_k35_wishes_of_pictures).prog w 1898 os).map (λs=>Hd.pD K35.VV s.abs)=Z (Yi (XX K35.VV),WZ K35.VV (WX K35.VV []),W1 K35.VV [],Yj K35.VV []):=by
 intro w os;unfold Hd.RT;rw[W.Fast.te15732481512506401174,W.Fast.te2530740449226627131,W.Fast.te4913325751328045840];kernel_rfl
local macro_rules | `(tactic| o_head $H) => `(tactic| (
 refine holds_open (q:=K35.VV) (loose:=[]) (Xt:=(λs=>xlAt K35.VV [] s&&recOk (XY (W3 (QK PySem.Challenge.rw_glowrow_k35_wishes_of_pictures))) s)) (XP:=XL K35.VV []) (Yf:=Hook.obs $H) (Ya:=Hook.val $H) (YP:=Hook.says $H) (N:=1898) ?hl (Hook.of $H) (Hook.keeps $H) (λs e=>xl_of s (ML.mp e).1) XL.keeps (by rfl) (by rfl) (by rfl) (λs e=>recFacts_of (ML.mp e).2) (by rfl) (by first|assumption|decide +kernel) (by decide +kernel) ⟨rfl,rfl,rfl,rfl,rfl,by decide +kernel⟩ ?hw ?hc;
 (case hl=>
  refine Hd.left_km (boot_open (by kernel_rfl) rfl (λs=>by kernel_rfl)) (λw=>by kernel_rfl) K35.h1 K35.h2 K35.h3 ?_;intro w os;unfold Hd.RT;rw[W.Fast.te15732481512506401174,W.Fast.te2530740449226627131];kernel_rfl)))
set_option hygiene false
local macro_rules | `(tactic| walk_at "us") => `(tactic| first | rfl | (exfalso; simp at hl; done) | (cases us with | nil => (first | rfl | cases hl) | cons _ us => walk_at "us"))
local macro_rules | `(tactic| walk_at "kc") => `(tactic| refine' DL.kc_mk KX G ?y0 ?y1 ?y2 ?y3 ?y4 ?y5 ?y6; (case y0 => k_is); (case y1 => k_is); (case y2 => k_is); (case y3 => k_is); (case y4 => k_is); (case y5 => k_is); (case y6 => k_is))
local macro_rules | `(tactic| walk_at "ec") => `(tactic| refine' DL.ec_mk KX G ?w0 ?w1 ?w2 ?w3 ?w4 ?w5 ?w6 ?w7 ?w8 ?w9 ?w10 ?w11; (case w0 => k_is); (case w1 => k_is); (case w2 => k_is); (case w3 => k_is); (case w4 => k_is); (case w5 => k_is); (case w6 => k_is); (case w7 => k_is); (case w8 => k_is); (case w9 => k_exc); (case w10 => k_is); (case w11 => k_is))
local macro_rules | `(tactic| walk_at "ff") => `(tactic| (refine' DL.Hz KX G ?x0 ?x1 ?x2 ?x3 ?x4; (case x0 => k_is); (case x1 => k_is); (case x2 => k_is); (case x3 => k_is); (case x4 => (intro _ _ _ _ _ _ us hl; walk_at "us"))))
local macro_rules | `(tactic| walk_at "mf") => `(tactic| (refine' DL.mf_mk ?x0 ?x1 ?x2 ?x3 ?x4 ?x5 ?x6; (case x0 => walk_at "kc"); (case x1 => k_is); (case x2 => k_is); (case x3 => k_is); (case x4 => k_is); (case x5 => k_is); (case x6 => (intro _ _ _ _ _ _ us hl; walk_at "us"))))
local macro_rules | `(tactic| walk_at "im") => `(tactic| (refine' DL.im_mk ?v0 ?v1; (case v0 => walk_at "ec"); (case v1 => k_is)))
local macro_rules | `(tactic| walk_at "lf") => `(tactic| (refine' DL.Hu KX G ?x0 ?x1 ?x2 ?x3 ?x4 ?x5 ?x6 ?x7 ?x8 ?x9 ?x10 ?x11 ?x12 ?x13 ?x14; (case x0 => k_is); (case x1 => k_is); (case x2 => k_is); (case x3 => k_is); (case x4 => k_is); (case x5 => rfl); (case x6 => rfl); (case x7 => rfl); (case x8 => rfl); (case x9 => rfl); (case x10 => rfl); (case x11 => decide); (case x12 => decide); (case x13 => (refine DL.sM (fun z => absurd rfl z) (fun _ => ?y_table_within) (fun _ => ?y_slots_given) (fun _ => ?y_cast_on_slots); (case y_table_within => k_is); (case y_slots_given => k_is); (case y_cast_on_slots => k_is))); (case x14 => (intro _ _ _ _ _ _ us hl; walk_at "us"))))
set_option maxRecDepth 100000 in
set_option maxHeartbeats 0 in
def K35.pre (ht:∀ns:List Int,ns.length<=63->∃M',K35.wq [.ro (ns.map DL.D.int)] []=.ok (.bl true) M'):PySem.Challenge.rw_glowrow_k35_wishes_of_pictures.Holds:=by
 w_on;o_law;k_head;(case hw=>w_witness2)
 k_fill
 refine DL.Bs (l:=PySem.Challenge.rw_glowrow_k35_wishes_of_pictures) (n:=63) (k:=7) (x:="script") (F:=K35.wq) rfl (by decide) rfl ⟨rfl,by decide,by decide⟩ (λw h Y=>W.km_in_of Y) ?F ?T ht
 case F=>
  intro w mg fa h KX G hmg;refine DL.Fs (st:=K35.C7) hmg ?L (λbase f fd L=>K35.Ew ?TT L) (λ_ _ _ _ _ _ _=>rfl)
  (case TT=>
   refine DL.Tx.mk ?q0 ?q1 ?q2 ?q3 ?q4 ?q5 ?q6 ?q7 ?q8 ?q9
   (case q0=>((repeat (refine' DL.Ls.cons ?x ?_;(case x=>(walk_at "ff"))));exact DL.Ls.nil))
   (case q1=>((repeat (refine' DL.Ls.cons ?x ?_;(case x=>(walk_at "mf"))));exact DL.Ls.nil))
   (case q2=>((repeat (refine' DL.Ls.cons ?x ?_;(case x=>(walk_at "lf"))));exact DL.Ls.nil))
   (case q3=>((repeat (refine' DL.Ls.cons ?x ?_;(case x=>(refine' DL.Kz KX G ?x0;(case x0=>k_is)))));exact DL.Ls.nil))
   (case q4=>((repeat (refine' DL.Ls.cons ?x ?_;(case x=>(refine' DL.Ip ?x0;(case x0=>walk_at "ec")))));exact DL.Ls.nil))
   (case q5=>((repeat (refine' DL.Ls.cons ?x ?_;(case x=>(refine' DL.GN ?u0 ?u1;(case u0=>walk_at "ec");(case u1=>((repeat (refine' DL.Ls.cons ?u2 ?_;(case u2=>walk_at "im")));exact DL.Ls.nil))))));exact DL.Ls.nil))
   (case q6=>((repeat (refine' DL.Ls.cons ?x ?_;(case x=>(walk_at "im"))));exact DL.Ls.nil))
   (case q7=>((repeat (refine' DL.Ls.cons ?x ?_;(case x=>(refine' DL.Iy ?x0 ?x1;(case x0=>walk_at "kc");(case x1=>k_is)))));exact DL.Ls.nil))
   (case q8=>((repeat (refine' DL.Ls.cons ?x ?_;(case x=>(refine' DL.HK (u:=PySem.Value.str _) KX G ?x0;(case x0=>k_is)))));exact DL.Ls.nil))
   (case q9=>((repeat (refine' DL.Ls.cons ?x ?_;(case x=>(refine' DL.HK (u:=PySem.Value.int _) KX G ?x0;(case x0=>k_is)))));exact DL.Ls.nil)))
  (case L=>walk_at "ff")
 case T=>
  intro w;refine' DL.B1 (DL.xY (x:="ink_shown") ?ul (DL.DV ?rB ?rX ?rR ?qX ?rM) ?uK DL.Ad) (DL.sM (.inr ⟨_,.head _,rfl⟩) (.inl ?e_table_within) (.inl ?e_slots_given) (.inl ?e_cast_on_slots)) ?bm ?bl
  (case ul=>rfl)
  (case rB=>k_is)
  (case rX=>k_is)
  (case rR=>rfl)
  (case qX=>k_is)
  (case rM=>rfl)
  (case uK=>kernel_rfl)
  (case e_table_within=>k_is)
  (case e_slots_given=>k_is)
  (case e_cast_on_slots=>k_is)
  (case bm=>k_is)
  (case bl=>kernel_rfl)
end
namespace K35
open PySem PySem.Spec PyProof.Rows L2 DL List
open D renaming int → I,tup → U,mr → R,str → S,bl → G
open aQ renaming ok → O
local macro_rules | `(tactic| simp_arith [$args,*] $[$loc]?) => `(tactic| first | (dsimp only [aQ.bind, ay, aD, gW, bo, jv, gP, bf, dH, ae, gC, DL.g2, av, aE, aa, ag, aK, IU, gK, Ck, fK, cH, fv, nY, bC, eU, jw, nX, aC, bM, uS, vZ, xq, jA, JE, vD, aI, cz, j2, uM, bQ, eM, gf, dg, dq, oT, oQ, wn, vI, wj, aB, bx, bh, uY, uT, uU, kH, bW, oX, cN, wA, bt, fP, aX, cb, ma, jH, eE, yh, oK, oy, jT, nW, GC, aW, sN, jC, mT, Ai, ye, jW, jz, m7, zV, kU, mN, uP, iR] $[$loc]?; simp [ay, aD, gW, bo, jv, gP, bf, dH, ae, gC, DL.g2, av, aE, aa, ag, aK, IU, gK, Ck, fK, cH, fv, nY, bC, eU, jw, nX, aC, bM, uS, vZ, xq, jA, JE, vD, aI, cz, j2, uM, bQ, eM, gf, dg, dq, oT, oQ, wn, vI, wj, aB, bx, bh, uY, uT, uU, kH, bW, oX, cN, wA, bt, fP, aX, cb, ma, jH, eE, yh, oK, oy, jT, nW, GC, aW, sN, jC, mT, Ai, ye, jW, jz, m7, zV, kU, mN, uP, iR, $args,*] $[$loc]?) | simp [ay, aD, gW, bo, jv, gP, bf, dH, ae, gC, DL.g2, av, aE, aa, ag, aK, IU, gK, Ck, fK, cH, fv, nY, bC, eU, jw, nX, aC, bM, uS, vZ, xq, jA, JE, vD, aI, cz, j2, uM, bQ, eM, gf, dg, dq, oT, oQ, wn, vI, wj, aB, bx, bh, uY, uT, uU, kH, bW, oX, cN, wA, bt, fP, aX, cb, ma, jH, eE, yh, oK, oy, jT, nW, GC, aW, sN, jC, mT, Ai, ye, jW, jz, m7, zV, kU, mN, uP, iR, $args,*] $[$loc]?)
def tp (l:List Int)(i c:Int):MO:=.lst [.lst (l.map I),I i,I c]
def bV (l:List Int)(rest:aF)(M:aF):Prop:=∃i c,0<=i/\M=tp l i c::rest
def yP {l:List Int}{k:Int}(h0:0<=k)(h1:k<l.length):∃v,nD (l.map I) k=Z (I v):=by
 obtain⟨n,rfl⟩:=L3 h0;have hn:n<l.length:=by omega
 exact⟨l[n],kg (by simp[hn])⟩
def JZ:GS:=ay (aD 4 (g2 dq (g2 aB (ae 0) (gC (I 2))) (ae 1))) (ay (jv (ae 0) (gC (I 2)) (g2 dg (g2 aB (ae 0) (gC (I 2))) (ae 1))) (bo (ae 4)))
def JD:GS:=ay (aD 3 (g2 dq (g2 bQ (ae 3) (g2 gf (gC (I 1000003)) (g2 aB (ae 0) (gC (I 1))))) (ae 2))) (ay (aD 3 (g2 dq (g2 bQ (g2 bQ (g2 gf (ae 3) (ae 3)) (g2 gf (gC (I 1181783497276652981)) (ae 3))) (gC (I 2049848353892358983))) (ae 2))) (aD 3 (g2 dq (g2 bQ (g2 gf (ae 3) (ae 3)) (gC (I 1442695040888963407))) (ae 2))))
def JS:GS:=gW (aK (g2 vI (aE bh (aa (g2 aB (ae 0) (gC (I 0))) ag)) (gC (I 0)))) (aD 3 (g2 aB (g2 aB (ae 0) (gC (I 0))) (g2 dq (g2 aB (ae 0) (gC (I 1))) (aE bh (aa (g2 aB (ae 0) (gC (I 0))) ag))))) bf
def KY:GT:=fK (aK (g2 wj (g2 aB (ae 0) (gC (I 1))) (aE bh (aa (g2 aB (ae 0) (gC (I 0))) ag)))) (aK (g2 oQ (ae 3) (g2 oT (gC (I 10)) (gC (I 18)))))
def JW:GS:=ay (aD 3 (gC (I 0))) (ay JS (ay (gW KY JD bf) (ay (jv (ae 0) (gC (I 1)) (g2 bQ (g2 aB (ae 0) (gC (I 1))) (gC (I 1)))) (jv (ae 0) (gC (I 2)) (ae 3)))))
theorem IP (ρ:fO)(M:aF):ik ρ M=ay (aD 2 (gC (I 2305843009213693951))) (ay (gW (aK (g2 oQ (g2 aB (ae 0) (gC (I 2))) (ae 1))) JW bf) JZ) ρ M:=rfl
def iA (h:0<j)(M:aF):dq (I i) (I j) M=O (I (i % j)) M:=by
 unfold dq;dsimp only;rw[if_pos h]
def nI (h:-18446744073709551616<i/\i<18446744073709551616)(M:aF):gf (I i) (I j) M=O (I (i*j)) M:=by
 unfold gf;dsimp only;rw[if_pos (.inl ⟨UQ (by decide) h.1,UO h.2 (by decide)⟩)]
def sn {go:GE}{M M1:aF}(h:g ρ M=O x M)(h2:(go ρ M).bind (λo M2=>(gi ρ M2).bind λi M3=>(uM o i x M3).bind λ_ M4=>O (Fl.nx ρ) M4)=O (Fl.nx ρ) M1):jv go gi g ρ M=O (.nx ρ) M1:=by
 unfold jv;rw[h,am,h2]
def bj {l:List Int}{rest M:aF}{many:Int}(hm:0<many)(hlog:many.natAbs.log2<9000)(h:bV l rest M) :
  ∃f M',0<=f/\f<many/\bV l rest M'/\ao [R 0,I many] M=O (I f) M':=by
 obtain⟨i,c,hi,rfl⟩:=h;have i0:∀(i c:Int) (x1 x2 x3 x4:Option D),g2 aB (ae 0) (gC (I 0)) [Z (R 0),x1,x2,x3,x4] (tp l i c::rest)=O (.lst (l.map I)) (tp l i c::rest):=λ_ _ _ _ _ _=>rfl
 have i1:∀(i c:Int) (x1 x2 x3 x4:Option D),g2 aB (ae 0) (gC (I 1)) [Z (R 0),x1,x2,x3,x4] (tp l i c::rest)=O (I i) (tp l i c::rest):=λ_ _ _ _ _ _=>rfl
 have i2:∀(i c:Int) (x1 x2 x3 x4:Option D),g2 aB (ae 0) (gC (I 2)) [Z (R 0),x1,x2,x3,x4] (tp l i c::rest)=O (I c) (tp l i c::rest):=λ_ _ _ _ _ _=>rfl
 have ln:∀(i c:Int) (x1 x2 x3 x4:Option D),aE bh (aa (g2 aB (ae 0) (gC (I 0))) ag) [Z (R 0),x1,x2,x3,x4] (tp l i c::rest)=O (I (l.length:Int)) (tp l i c::rest):=λi c x1 x2 x3 x4=>by
  refine gZ (i0 i c x1 x2 x3 x4) ?_;show aQ.ok (I ((l.map I).length:Int)) _=_;rw[Lu]
 have tail:∀(c i:Int) (x2 x3 x4:Option D),0<=i->∃f M',0<=f/\f<many/\bV l rest M'/\aI (JZ [Z (R 0),Z (I many),x2,x3,x4] (tp l i c::rest))=O (I f) M':=λc i x2 x3 x4 hi=>by
  refine⟨c % many,tp l i (c / many)::rest,OI _ (by omega),NY _ hm,⟨i,c / many,hi,rfl⟩,?_⟩;unfold JZ;rw[aA (aO (aj (i2 i c (Z (I many)) x2 x3 x4) rfl (iA hm _)))];have fd:dg (I c) (I many) (tp l i c::rest)=O (I (c / many)) (tp l i c::rest):=by
   unfold dg;dsimp only;rw[if_pos ⟨hm,hlog⟩]
  have k:jv (ae 0) (gC (I 2)) (g2 dg (g2 aB (ae 0) (gC (I 2))) (ae 1)) [Z (R 0),Z (I many),x2,x3,Z (I (c % many))] (tp l i c::rest)=O (.nx [Z (R 0),Z (I many),x2,x3,Z (I (c % many))]) (tp l i (c / many)::rest):=
   sn (aj (i2 i c (Z (I many)) x2 x3 _) rfl fd) rfl
  exact(congrArg aI (aA k)).trans rfl
 show∃f M',_/\_/\_/\aI (ik [Z (R 0),Z (I many),Y,Y,Y] (tp l i c::rest))=_;rw[IP];have e0:∀b:GS,ay (aD 2 (gC (I 2305843009213693951))) b [Z (R 0),Z (I many),Y,Y,Y] (tp l i c::rest)=b [Z (R 0),Z (I many),Z (I 2305843009213693951),Y,Y] (tp l i c::rest):=λb=>aA rfl
 rw[e0];have tst:aK (g2 oQ (g2 aB (ae 0) (gC (I 2))) (ae 1)) [Z (R 0),Z (I many),Z (I 2305843009213693951),Y,Y] (tp l i c::rest)=O (decide (c<many)) (tp l i c::rest):=aT (aj (i2 i c _ _ _ _) rfl rfl)
 by_cases h1:c<many
 ·rw[decide_eq_true h1] at tst;obtain⟨v,ev⟩:∃v:Int,JS [Z (R 0),Z (I many),Z (I 2305843009213693951),Z (I 0),Y] (tp l i c::rest)=O (.nx [Z (R 0),Z (I many),Z (I 2305843009213693951),Z (I v),Y]) (tp l i c::rest):=by
   unfold JS;have t0:aK (g2 vI (aE bh (aa (g2 aB (ae 0) (gC (I 0))) ag)) (gC (I 0))) [Z (R 0),Z (I many),Z (I 2305843009213693951),Z (I 0),Y] (tp l i c::rest)=O (decide ((l.length:Int)>0)) (tp l i c::rest):=aT (aj (ln i c _ _ _ _) rfl rfl)
   by_cases hl:(l.length:Int)>0
   ·rw[decide_eq_true hl] at t0;obtain⟨v,hv⟩:=yP (l:=l) (OI _ (by omega)) (NY _ hl);refine⟨v,(ju t0).trans (aO (aj (f:=aB) (i0 i c _ _ _ _) (aj (i1 i c _ _ _ _) (ln i c _ _ _ _) (iA hl _)) ?_))⟩;show(match nD (l.map I) (i % (l.length:Int)) with|some d=>aQ.ok d (tp l i c::rest)|none=>.bad)=_;rw[hv]
   ·rw[decide_eq_false hl] at t0;exact⟨0,(fE t0).trans rfl⟩
  have bd:∀x:Int,-18446744073709551616<x % 2305843009213693951/\x % 2305843009213693951<18446744073709551616:=λx=>by
   have h0:=OI x (show(2305843009213693951:Int)≠0 by decide);have h1:=NY x (show(0:Int)<2305843009213693951 by decide);omega
  have md:∀x:Int,∀M,dq (I x) (I 2305843009213693951) M=O (I (x % 2305843009213693951)) M:=λx M=>iA (by decide) M
  obtain⟨u,eu⟩:∃u:Int,gW KY JD bf [Z (R 0),Z (I many),Z (I 2305843009213693951),Z (I v),Y] (tp l i c::rest)=O (.nx [Z (R 0),Z (I many),Z (I 2305843009213693951),Z (I u),Y]) (tp l i c::rest):=by
   have po:∀ρ,g2 oT (gC (I 10)) (gC (I 18)) ρ (tp l i c::rest)=O (I (10 ^ 18)) (tp l i c::rest):=λρ=>by
    refine aj rfl rfl ?_;unfold oT;dsimp only;rw[if_pos (by decide)];rfl
   have to:=i4 (aT (aj (f:=wj) (i1 i c (Z (I many)) (Z (I 2305843009213693951)) (Z (I v)) Y) (ln i c _ _ _ _) rfl)) λ_=>aT (aj (f:=oQ) (a:=ae 3) rfl (po _) rfl)
   generalize (decide (i≥(l.length:Int))||decide (v<10 ^ 18))=b at to;cases b with
   | false=>exact⟨v,(fE to).trans rfl⟩
   | true=>
    suffices hs:∃u:Int,JD [Z (R 0),Z (I many),Z (I 2305843009213693951),Z (I v),Y] (tp l i c::rest)=O (.nx [Z (R 0),Z (I many),Z (I 2305843009213693951),Z (I u),Y]) (tp l i c::rest) from hs.elim λu e=>⟨u,(ju to).trans e⟩
    unfold JD;rw[aA (aO (aj (aj (f:=bQ) (a:=ae 3) rfl (aj (f:=gf) (a:=gC (I 1000003)) rfl (i1 i c _ _ _ _) (nI (by decide) _)) rfl) rfl (md _ _)))];generalize hz:(v+1000003*i) % 2305843009213693951=z;have bz:=hz▸bd (v+1000003*i);have k2:aD 3 (g2 dq (g2 bQ (g2 bQ (g2 gf (ae 3) (ae 3)) (g2 gf (gC (I 1181783497276652981)) (ae 3))) (gC (I 2049848353892358983))) (ae 2)) [Z (R 0),Z (I many),Z (I 2305843009213693951),Z (I z),Y] (tp l i c::rest)=O (.nx [Z (R 0),Z (I many),Z (I 2305843009213693951),Z (I ((z*z+1181783497276652981*z+2049848353892358983) % 2305843009213693951)),Y]) (tp l i c::rest):=
     aO (aj (aj (f:=bQ) (aj (f:=bQ) (aj (f:=gf) (a:=ae 3) rfl rfl (nI bz _)) (aj (f:=gf) (a:=gC (I 1181783497276652981)) rfl rfl (nI (by decide) _)) rfl) rfl rfl) rfl (md _ _))
    refine Exists.imp (λu e=>(aA k2).trans e) ?_;generalize hy:(z*z+1181783497276652981*z+2049848353892358983) % 2305843009213693951=y;have byy:=hy▸bd (z*z+1181783497276652981*z+2049848353892358983);exact⟨_,aO (aj (aj (f:=bQ) (aj (f:=gf) (a:=ae 3) rfl rfl (nI byy _)) rfl rfl) rfl (md _ _))⟩
  have kb:JW [Z (R 0),Z (I many),Z (I 2305843009213693951),Y,Y] (tp l i c::rest)=O (.nx [Z (R 0),Z (I many),Z (I 2305843009213693951),Z (I u),Y]) (tp l (i+1) u::rest):=by
   unfold JW;have e3:∀b:GS,ay (aD 3 (gC (I 0))) b [Z (R 0),Z (I many),Z (I 2305843009213693951),Y,Y] (tp l i c::rest)=b [Z (R 0),Z (I many),Z (I 2305843009213693951),Z (I 0),Y] (tp l i c::rest):=λb=>aA rfl
   rw[e3,aA ev,aA eu];have k1:jv (ae 0) (gC (I 1)) (g2 bQ (g2 aB (ae 0) (gC (I 1))) (gC (I 1))) [Z (R 0),Z (I many),Z (I 2305843009213693951),Z (I u),Y] (tp l i c::rest)=O (.nx [Z (R 0),Z (I many),Z (I 2305843009213693951),Z (I u),Y]) (tp l (i+1) c::rest):=
    sn (aj (i1 i c _ _ _ _) rfl rfl) rfl
   rw[aA k1];exact sn rfl rfl
  rw[aA ((ju tst).trans kb)];exact tail u (i+1) _ _ _ (by omega)
 ·rw[decide_eq_false h1] at tst;rw[aA ((fE tst).trans rfl)];exact tail c i _ _ _ hi
def aJ {x:Int}(h0:0<x)(h1:x<=1000000):x.natAbs.log2<9000:=by
 have h2:x.natAbs<2 ^ 20:=by omega
 have h3:x.natAbs≠0:=by omega
 have:=(VR h3).mpr h2;omega
def nN {rest M:aF}(hm:1<=most)(hm2:most<=1000)(h:bV l rest M) :
  ∃f M',1<=f/\f<=most/\bV l rest M'/\cS [R 0,I most] M=O (I f) M':=by
 have lg:∀x:Int,0<x->x<=1000->x.natAbs.log2<9000:=λx h0 h1=>by
  have h2:x.natAbs<2 ^ 10:=by omega
  have h3:x.natAbs≠0:=by omega
  have:=(VR h3).mpr h2;omega
 have hmin:0<(if 6<most then 6 else most)/\(if 6<most then 6 else most)<=most/\(if 6<most then(6:Int) else most)<=1000:=by split <;> omega
 obtain⟨f1,M1,a1,b1,t1,e1⟩:=bj hmin.1 (lg _ hmin.1 hmin.2.2) h;obtain⟨f2,M2,a2,b2,t2,e2⟩:=bj (many:=most) (by omega) (lg _ (by omega) hm2) t1;obtain⟨f3,M3,a3,b3,t3,e3⟩:=bj (many:=8) (by decide) (lg _ (by decide) (by decide)) t2;have l3:(3:Nat)<=LW:=bI (by decide);have hix:0<=f3*3 / 10/\f3*3 / 10<3:=by omega
 have c3:YV 10<9000:=by decide
 have c4:-18446744073709551616<f3/\f3<18446744073709551616:=by omega
 have pick:∃f,1<=f/\f<=most/\∃y,f=1+y/\nD [I f1,I f2,I (most-1)] (f3*3 / 10)=Z (I y):=by
  have:f3*3 / 10=0\/f3*3 / 10=1\/f3*3 / 10=2:=by omega
  rcases this with q|q|q <;> rw[q]
  ·exact⟨1+f1,by omega,by omega,f1,rfl,rfl⟩
  ·exact⟨1+f2,by omega,by omega,f2,rfl,rfl⟩
  ·exact⟨1+(most-1),by omega,by omega,most-1,rfl,rfl⟩
 obtain⟨f,hf1,hf2,y,ey,ha⟩:=pick;refine⟨f,M3,hf1,hf2,t3,?_⟩;unfold cS j3;simp_arith [e1,e2,e3,l3,c3,c4,ha,ey]
def Bp {rest M:aF}(hw:0<=wide)(hw2:wide<=1000)(ht:1<=thin)(ht2:thin<=1000)(h:bV l rest M) :
  ∃(ks:List Int) (M':aF),(ks.length:Int)=wide/\(∀k∈ks,0<=k/\k<=15)/\bV l rest M'/\iw [R 0,I wide,I thin] M=O (U (ks.map I)) M':=by
 obtain⟨es,M',t',le,qe,ee⟩:=ft (ds0:=aw 0 wide.toNat) (ge:=dX) (ρ:=[Z (R 0),Z (I wide),Z (I thin)])
  (P:=bV l rest) (Q:=λe=>∃k,e=I k/\0<=k/\k<=15) (aw 0 wide.toNat) (λd hd M hM=>by
   obtain⟨f1,M1,a1,b1,t1,e1⟩:=bj (many:=16) (by decide) (aJ (by decide) (by decide)) hM;obtain⟨f2,M2,a2,b2,t2,e2⟩:=bj (many:=thin) (by omega) (aJ (by omega) (by omega)) t1;have c4:-18446744073709551616<f1/\f1<18446744073709551616:=by omega
   by_cases hz:0<f2
   ·exact⟨I (f1*1),M2,t2,⟨_,rfl,by omega,by omega⟩,by simp_arith [dX,e1,e2,c4,hz]⟩
   ·exact⟨I (f1*0),M2,t2,⟨_,rfl,by omega,by omega⟩,by simp_arith [dX,e1,e2,c4,hz]⟩) M h
 obtain⟨ks,ek,qk⟩:=wa qe;refine⟨ks,M',?_,qk,t',?_⟩
 ·have:ks.length=es.length:=by rw[ek];simp
  rw[bq] at le;omega
 ·have l3:es.length<=LW:=by rw[le,bq];exact bI (by omega)
  have l4:ks.length<=LW:=by rw[ek] at l3;simpa using l3
  have b1:=λM=>sj (j:=wide) (by omega) M
  unfold iw jI;simp_arith [aP,b1,ee,l4,ek]
def uo {rest M:aF}(hm:1<=most)(hm2:most<=1000)(h:bV l rest M) :
  ∃(rs:List (List Int)) (w:Nat) (M':aF),1<=rs.length/\(rs.length:Int)<=most/\1<=w/\(w:Int)<=most/\(∀r∈rs,r.length=w/\∀k∈r,0<=k/\k<=15)/\bV l rest M'/\
   dS [R 0,I most] M=O (U (rs.map λr=>D.tup (r.map I))) M':=by
 obtain⟨wide,M1,w1,w2,t1,e1⟩:=nN hm hm2 h;obtain⟨f4,M2,a2,b2,t2,e2⟩:=bj (many:=4) (by decide) (aJ (by decide) (by decide)) t1;obtain⟨high,M3,h1,h2,t3,e3⟩:=nN hm hm2 t2;obtain⟨es,M',t',le,qe,ee⟩:=ft (ds0:=aw 0 high.toNat) (ge:=fo) (ρ:=[Z (R 0),Z (I most),Z (I wide),Z (I (1+f4))])
  (P:=bV l rest) (Q:=λe=>∃ks:List Int,e=U (ks.map I)/\(ks.length:Int)=wide/\∀k∈ks,0<=k/\k<=15) (aw 0 high.toNat) (λd hd M hM=>by
   obtain⟨ks,M1,lk,qk,t1,e1⟩:=Bp (wide:=wide) (thin:=1+f4) (by omega) (by omega) (by omega) (by omega) hM;exact⟨_,M1,t1,⟨ks,rfl,lk,qk⟩,by simp_arith [fo,e1]⟩) M3 t3
 obtain⟨rs,er,qr⟩:=CP qe;refine⟨rs,wide.toNat,M',?_,?_,by omega,by omega,λr hr=>⟨by have:=(qr r hr).1;omega,(qr r hr).2⟩,t',?_⟩
 ·have:rs.length=es.length:=by rw[er];simp
  rw[bq] at le;omega
 ·have:rs.length=es.length:=by rw[er];simp
  rw[bq] at le;omega
 ·have l3:es.length<=LW:=by rw[le,bq];exact bI (by omega)
  have l4:rs.length<=LW:=by rw[er] at l3;simpa using l3
  have b1:=λM=>sj (j:=high) (by omega) M
  unfold dS i7;simp_arith [aP,b1,e1,e2,e3,ee,l4,er]
def zv {rest M:aF}(hm:1<=most)(hm2:most<=1000)(h:bV l rest M) :
  ∃(w hh g m:Int) (M':aF),(1<=w/\w<=most)/\(1<=hh/\hh<=most)/\(0<=g/\g<=20)/\(0<=m/\m<=12)/\bV l rest M'/\de [R 0,I most] M=O (U [I w,I hh,I g,I m]) M':=by
 obtain⟨f1,M1,a1,b1,t1,e1⟩:=bj (many:=21) (by decide) (aJ (by decide) (by decide)) h;obtain⟨f2,M2,a2,b2,t2,e2⟩:=bj (many:=2) (by decide) (aJ (by decide) (by decide)) t1;obtain⟨w,M3,a3,b3,t3,e3⟩:=nN hm hm2 t2;obtain⟨hh,M4,a4,b4,t4,e4⟩:=nN hm hm2 t3;obtain⟨m,M5,a5,b5,t5,e5⟩:=bj (many:=13) (by decide) (aJ (by decide) (by decide)) t4;have l3:(2:Nat)<=LW:=bI (by decide);have l4:(4:Nat)<=LW:=bI (by decide);have pick:∃g,0<=g/\g<=20/\nD [I 0,I f1] f2=Z (I g):=by
  have:f2=0\/f2=1:=by omega
  rcases this with q|q <;> rw[q]
  ·exact⟨0,by omega,by omega,rfl⟩
  ·exact⟨f1,by omega,by omega,rfl⟩
 obtain⟨g,g1,g2,ha⟩:=pick;refine⟨w,hh,g,m,M5,⟨a3,b3⟩,⟨a4,b4⟩,⟨g1,g2⟩,⟨a5,by omega⟩,t5,?_⟩;unfold de i6;simp_arith [e1,e2,e3,e4,e5,l3,l4,ha]
def rT {rest M:aF}(hm:0<=size)(hm2:size<=900)(h:bV l rest M) :
  ∃(f:Int) (M':aF),(-1000<=f/\f<=1000)/\bV l rest M'/\bB [R 0,I size] M=O (I f) M':=by
 obtain⟨f1,M1,a1,b1,t1,e1⟩:=bj (many:=size+16) (by omega) (aJ (by omega) (by omega)) h;obtain⟨f2,M2,a2,b2,t2,e2⟩:=bj (many:=2001) (by decide) (aJ (by decide) (by decide)) t1;obtain⟨f3,M3,a3,b3,t3,e3⟩:=bj (many:=8) (by decide) (aJ (by decide) (by decide)) t2;have l3:(2:Nat)<=LW:=bI (by decide);have c3:YV 7<9000:=by decide
 have pick:∃g,-1000<=g/\g<=1000/\nD [I (f1-8),I (f2-1000)] (f3 / 7)=Z (I g):=by
  have:f3 / 7=0\/f3 / 7=1:=by omega
  rcases this with q|q <;> rw[q]
  ·exact⟨_,by omega,by omega,rfl⟩
  ·exact⟨_,by omega,by omega,rfl⟩
 obtain⟨g,g1,g2,ha⟩:=pick;refine⟨g,M3,⟨g1,g2⟩,t3,?_⟩;unfold bB kL;simp_arith [e1,e2,e3,l3,c3,ha]
structure Mv where
 shape:Option Nat
 x:Int
 y:Int
 rank:Int
 turn:Int
def Mv.d (m:Mv):D:=U [match m.shape with|some k=>I k|none=>.non,I m.x,I m.y,I m.rank,I m.turn]
structure BE (n:Nat)(m:Mv):Prop where
 s:∀k,m.shape=Z k->k<n
 x:-1000<=m.x/\m.x<=1000
 y:-1000<=m.y/\m.y<=1000
 r:0<=m.rank/\m.rank<=3
 t:0<=m.turn/\m.turn<=3
def Ae {a:Int}(h:b<a):vI (I a) (I b) M=O (G true) M:=by
 show aQ.ok (D.bl (decide (a>b))) M=_;rw[decide_eq_true h]
def DC {a:Int}(h:¬b<a):vI (I a) (I b) M=O (G false) M:=by
 show aQ.ok (D.bl (decide (a>b))) M=_;rw[decide_eq_false h]
def BK {a:GT}{M M1:aF}(ha:a ρ M=O false M1):cH a b ρ M=O false M1:=by
 unfold cH;rw[ha,am];rfl
def sD {a:GT}{M M1:aF}(ha:a ρ M=O true M)(hb:b ρ M=O y M1):cH a b ρ M=O y M1:=by
 unfold cH;rw[ha,am];exact hb
def cm {M M1 M2:aF}(hi:gi ρ M=O ⟨ds,Y⟩ M1)(he:bJ ⟨ds,Y⟩ aW ge ds ρ M1=O es M2)(hl:es.length<=1000000):aP gi aW ge aC ρ M=O (.lst es) M2:=by
 unfold aP;rw[hi,am];dsimp only;rw[he,am];unfold aC;rw[if_pos (bI hl)]
def vT {t:Int}{M M2 M3 M4 M5:aF}(q1:bB [R 0,I w] M=O (I x) M2)(q2:bB [R 0,I hh] M2=O (I y) M3)(q3:ao [R 0,I 4] M3=O (I r) M4)(q4:ao [R 0,I 4] M4=O (I t) M5) :
  bo (bC (aa (ae 3) (aa (av 2 bB (aa (ae 0) (aa (g2 aB (ae 1) (gC (I 0))) ag))) (aa (av 2 bB (aa (ae 0) (aa (g2 aB (ae 1) (gC (I 1))) ag))) (aa (av 2 ao (aa (ae 0) (aa (gC (I 4)) ag))) (aa (av 2 ao (aa (ae 0) (aa (gC (I 4)) ag))) ag)))))) [Z (R 0),Z (U (I w::I hh::more)),Z d2,Z d3] M=O (.rt (U [d3,I x,I y,I r,I t])) M5:=
 cu (cV (az rfl (az (cE rfl (aj rfl rfl (aL rfl)) q1) (az (cE rfl (aj rfl rfl (aL rfl)) q2) (az (cE rfl rfl q3) (az (cE rfl rfl q4) rfl))))))
def Ab {rest M:aF}(hw:0<=w/\w<=900)(hh2:0<=hh/\hh<=900)(hn:n<=1000)(h:bV l rest M) :
  ∃(m:Mv) (M':aF),BE n m/\bV l rest M'/\i9 [R 0,U (I w::I hh::more),I n] M=O m.d M':=by
 have go:∀(s:Option Nat) (M:aF),bV l rest M->(∀k,s=Z k->k<n)->∃(m:Mv) (M':aF),BE n m/\m.shape=s/\bV l rest M'/\
   ∃M2 M3 M4,bB [R 0,I w] M=O (I m.x) M2/\bB [R 0,I hh] M2=O (I m.y) M3/\ao [R 0,I 4] M3=O (I m.rank) M4/\ao [R 0,I 4] M4=O (I m.turn) M':=by
  intro s M h hs;obtain⟨x,M2,a2,t2,e2⟩:=rT hw.1 hw.2 h;obtain⟨y,M3,a3,t3,e3⟩:=rT hh2.1 hh2.2 t2;obtain⟨r,M4,a4,b4,t4,e4⟩:=bj (many:=4) (by decide) (aJ (by decide) (by decide)) t3;obtain⟨t,M5,a5,b5,t5,e5⟩:=bj (many:=4) (by decide) (aJ (by decide) (by decide)) t4;have r3:r<=3:=by omega
  have q3:t<=3:=by omega
  exact⟨⟨s,x,y,r,t⟩,M5,⟨hs,a2,a3,⟨a4,r3⟩,⟨a5,q3⟩⟩,rfl,t5,M2,M3,M4,e2,e3,e4,e5⟩
 by_cases h0:0<n
 ·obtain⟨f1,M1,a1,b1,t1,e1⟩:=bj (many:=8) (by decide) (aJ (by decide) (by decide)) h;have h0':(0:Int)<n:=by omega
  by_cases hf:0<f1
  ·obtain⟨f2,M2,a2,b2,t2,e2⟩:=bj (many:=(n:Int)) (by omega) (aJ (by omega) (by omega)) t1;obtain⟨k,rfl⟩:=L3 a2;obtain⟨m,M',ok,sm,t',M3,M4,M5,q1,q2,q3,q4⟩:=go (Z k) M2 t2 (λj hj=>by cases hj;omega);refine⟨m,M',ok,t',?_⟩;show aI (cg [Z (R 0),Z (U (I w::I hh::more)),Z (I n),Y] M)=_;unfold cg;rw[aA (aO rfl)];rw[aA ((ju (sD (aT (aj rfl rfl (Ae (by omega)))) (aT (aj (cE rfl rfl e1) rfl (Ae hf))))).trans (aO (cE rfl rfl e2)))];refine(congrArg aI (vT q1 q2 q3 q4)).trans ?_;unfold Mv.d;rw[sm];rfl
  ·obtain⟨m,M',ok,sm,t',M3,M4,M5,q1,q2,q3,q4⟩:=go Y M1 t1 (λj hj=>by cases hj);refine⟨m,M',ok,t',?_⟩;show aI (cg [Z (R 0),Z (U (I w::I hh::more)),Z (I n),Y] M)=_;unfold cg;rw[aA (aO rfl)];rw[aA ((fE (sD (aT (aj rfl rfl (Ae (by omega)))) (aT (aj (cE rfl rfl e1) rfl (DC hf))))).trans rfl)];refine(congrArg aI (vT q1 q2 q3 q4)).trans ?_;unfold Mv.d;rw[sm];rfl
 ·have h0':¬(0:Int)<n:=by omega
  obtain⟨m,M',ok,sm,t',M3,M4,M5,q1,q2,q3,q4⟩:=go Y M h (λj hj=>by cases hj);refine⟨m,M',ok,t',?_⟩;show aI (cg [Z (R 0),Z (U (I w::I hh::more)),Z (I n),Y] M)=_;unfold cg;rw[aA (aO rfl)];rw[aA ((fE (BK (aT (aj rfl rfl (DC h0'))))).trans rfl)];refine(congrArg aI (vT q1 q2 q3 q4)).trans ?_;unfold Mv.d;rw[sm];rfl
theorem nZ {f:α->D}{P:α->Prop}:∀{es:List D},(∀e∈es,∃a,e=f a/\P a)->∃as:List α,es=as.map f/\∀a∈as,P a
 | [],_=>⟨[],rfl,λ_ z=>by cases z⟩
 | e::es,h=>by
  obtain⟨a,ea,pa⟩:=h e (Lz ..);obtain⟨as,eas,pas⟩:=nZ λe' he=>h e' (LH _ he)
  refine⟨a::as,by rw[ea,eas];rfl,λb hb=>?_⟩;rcases L1.mp hb with q|q
  ·rw[q];exact pa
  ·exact pas b q
def bi (rs:List (List Int)):D:=U (rs.map λr=>D.tup (r.map I))
def rP (most:Int)(rs:List (List Int)):Prop:=1<=rs.length/\(rs.length:Int)<=most/\∃w:Nat,1<=w/\(w:Int)<=most/\∀r∈rs,r.length=w/\∀k∈r,0<=k/\k<=15
structure kq where
 floor:List (List Int)
 sx:Int
 sy:Int
 book:List (List (List Int))
 movers:List Mv
 pots:List Int
def kq.d (s:kq):D:=U [bi s.floor,U [I s.sx,I s.sy],U (s.book.map bi),U (s.movers.map Mv.d),U (s.pots.map I)]
structure eC (most:Int)(s:kq):Prop where
 floor:rP 16 s.floor
 sx:-1000<=s.sx/\s.sx<=1000
 sy:-1000<=s.sy/\s.sy<=1000
 bl:s.book.length<=8
 book:∀b∈s.book,rP 8 b
 ml:(s.movers.length:Int)<=most
 movers:∀m∈s.movers,BE s.book.length m
 pl:s.pots.length=16
 pots:∀k∈s.pots,0<=k/\k<=63
theorem jJ:ag ρ M=O [] M:=rfl
def C4 {d:D}(h:nD xs i=Z d):aB (.lst xs) (I i) M=O d M:=by
 unfold aB bx;dsimp only;rw[h]
def AD {rest M:aF}(hw:0<=w/\w<=900)(hh2:0<=hh/\hh<=900)(hm:0<=mm/\mm<=900)(h:bV l rest M) :
  ∃(s:kq) (M':aF),eC mm s/\bV l rest M'/\dO [R 0,U (I w::I hh::more),I mm] M=O s.d M':=by
 obtain⟨fl,fw,M1,f1,f2,f3,f4,f5,t1,e1⟩:=uo (most:=16) (by decide) (by decide) h;obtain⟨sx,M2,a2,t2,e2⟩:=rT (size:=9) (by decide) (by decide) t1;obtain⟨sy,M3,a3,t3,e3⟩:=rT (size:=9) (by decide) (by decide) t2;obtain⟨d4,M4,a4,b4,t4,e4⟩:=bj (many:=4) (by decide) (aJ (by decide) (by decide)) t3;obtain⟨d5,M5,a5,b5,t5,e5⟩:=bj (many:=9) (by decide) (aJ (by decide) (by decide)) t4;obtain⟨d6,M6,a6,b6,t6,e6⟩:=bj (many:=4) (by decide) (aJ (by decide) (by decide)) t5;have pick:∃g,0<=g/\g<=8/\nD [I d4,I d5] (d6 / 3)=Z (I g):=by
  have:d6 / 3=0\/d6 / 3=1:=by omega
  rcases this with q|q <;> rw[q]
  ·exact⟨_,by omega,by omega,rfl⟩
  ·exact⟨_,by omega,by omega,rfl⟩
 obtain⟨g,g1,g2,ha⟩:=pick;obtain⟨eb,M7,t7,lb,qb,ee1⟩:=ft (ds0:=aw 0 g.toNat) (ge:=fc) (ρ:=[Z (R 0),Z (U (I w::I hh::more)),Z (I mm),Z (bi fl),Z (U [I sx,I sy]),Z (I g),Y,Y])
  (P:=bV l rest) (Q:=λe=>∃b,e=bi b/\rP 8 b) (aw 0 g.toNat) (λd hd M hM=>by
   obtain⟨rs,rw',M1,q1,q2,q3,q4,q5,t1,e1⟩:=uo (most:=8) (by decide) (by decide) hM;exact⟨_,M1,t1,⟨rs,rfl,q1,q2,rw',q3,q4,q5⟩,by simp_arith [fc,e1,bi]⟩) M6 t6
 obtain⟨book,hb,okb⟩:=nZ qb;have lbk:book.length=g.toNat:=by rw[<-bq 0 g.toNat,<-lb,hb,Lu]
 obtain⟨d8,M8,a8,b8,t8,e8⟩:=bj (many:=mm+1) (by omega) (aJ (by omega) (by omega)) t7;obtain⟨em,M9,t9,lm,qm,ee2⟩:=ft (ds0:=aw 0 d8.toNat) (ge:=fh) (ρ:=[Z (R 0),Z (U (I w::I hh::more)),Z (I mm),Z (bi fl),Z (U [I sx,I sy]),Z (I g),Z (U (book.map bi)),Y])
  (P:=bV l rest) (Q:=λe=>∃m,e=Mv.d m/\BE book.length m) (aw 0 d8.toNat) (λd hd M hM=>by
   obtain⟨m,M1,ok,t1,e1⟩:=Ab (more:=more) (n:=book.length) hw hh2 (by omega) hM;exact⟨_,M1,t1,⟨m,rfl,ok⟩,by simp_arith [fh,e1]⟩) M8 t8
 obtain⟨movers,hmv,okm⟩:=nZ qm;have lmv:movers.length=d8.toNat:=by rw[<-bq 0 d8.toNat,<-lm,hmv,Lu]
 obtain⟨ep,M10,t10,lp,qp,ee3⟩:=ft (ds0:=aw 0 16) (ge:=fj) (ρ:=[Z (R 0),Z (U (I w::I hh::more)),Z (I mm),Z (bi fl),Z (U [I sx,I sy]),Z (I g),Z (U (book.map bi)),Z (U (movers.map Mv.d))])
  (P:=bV l rest) (Q:=λe=>∃k,e=I k/\0<=k/\k<=63) (aw 0 16) (λd hd M hM=>by
   obtain⟨f1,M1,a1,b1,t1,e1⟩:=bj (many:=64) (by decide) (aJ (by decide) (by decide)) hM;exact⟨_,M1,t1,⟨f1,rfl,a1,by omega⟩,by simp_arith [fj,e1]⟩) M9 t9
 obtain⟨pots,hp,okp⟩:=nZ qp;have lpt:pots.length=16:=by rw[<-bq 0 16,<-lp,hp,Lu]
 refine⟨⟨fl,sx,sy,book,movers,pots⟩,M10,⟨⟨f1,f2,fw,f3,f4,f5⟩,a2,a3,?_,okb,?_,okm,lpt,okp⟩,t10,?_⟩
 ·show book.length<=8;omega
 ·show(movers.length:Int)<=mm;omega
 ·rw[hb] at ee1;rw[hmv] at ee2;rw[hp] at ee3;obtain⟨gn,rfl⟩:=L3 g1;obtain⟨dn,rfl⟩:=L3 a8;rw[Mq] at ee1 ee2;show aI (fR [Z (R 0),Z (U (I w::I hh::more)),Z (I mm),Y,Y,Y,Y,Y] M)=_;unfold fR;rw[aA (aO (cE rfl rfl e1))];rw[aA (aO (cV (az (cE rfl rfl e2) (az (cE rfl rfl e3) jJ))))];rw[aA (aO (aj (kO (az (cE rfl rfl e4) (az (cE rfl rfl e5) jJ))) (aj (cE rfl rfl e6) rfl (sk (by decide) (by decide) M6)) (C4 ha)))];show aI (ay _ _ [Z (R 0),Z (U (I w::I hh::more)),Z (I mm),Z (bi fl),Z (U [I sx,I sy]),Z (I gn),Y,Y] M6)=_;rw[aA (aO (gZ (F:=bW) (cm (cA (n:=gn) (az (g:=ae 5) rfl jJ) (by omega)) ee1 (by rw[Lu];omega)) rfl))];show aI (ay _ _ [Z (R 0),Z (U (I w::I hh::more)),Z (I mm),Z (bi fl),Z (U [I sx,I sy]),Z (I gn),Z (U (book.map bi)),Y] M7)=_;rw[aA (aO (gZ (F:=bW) (cm (cA (n:=dn) (az (cE rfl rfl e8) jJ) (by omega)) ee2 (by rw[Lu];omega)) rfl))];show aI (bo _ [Z (R 0),Z (U (I w::I hh::more)),Z (I mm),Z (bi fl),Z (U [I sx,I sy]),Z (I gn),Z (U (book.map bi)),Z (U (movers.map Mv.d))] M9)=_;refine(congrArg aI (cu (cV (ds:=[bi fl,U [I sx,I sy],U (book.map bi),U (movers.map Mv.d),U (pots.map I)]) (az rfl (az rfl (az rfl (az rfl (az (gZ (F:=bW) (cm (cA (n:=16) (az (g:=gC (I 16)) rfl jJ) (by decide)) ee3 (by rw[Lu];omega)) rfl) rfl)))))))).trans ?_;rfl
theorem j4 {W:Nat->fO->aF->Prop}:∀(ds:List D) (i:Nat),(∀j d,ds[j]?=Z d->∀ρ M,W (i+j) ρ M->∃ρ1 ρ2 M2,s d ρ=Z ρ1/\body ρ1 M=O (.nx ρ2) M2/\W (i+j+1) ρ2 M2)->∀ρ M,W i ρ M->
  ∃ρ' M',W (i+ds.length) ρ' M'/\eO ⟨ds0,Y⟩ s body ds ρ M=O (.nx ρ') M'
 | [],i,h,ρ,M,hW=>⟨ρ,M,hW,rfl⟩
 | d::ds,i,h,ρ,M,hW=>by
  obtain⟨ρ1,ρ2,M2,e1,e2,h2⟩:=h 0 d rfl ρ M hW;obtain⟨ρ',M',h3,e3⟩:=j4 (ds0:=ds0) (body:=body) (W:=W) ds (i+1) (λj d' hd ρ M hW=>by
   have e:i+1+j=i+(j+1):=by omega
   rw[e] at hW ⊢;exact h (j+1) d' hd ρ M hW) ρ2 M2 h2
  refine⟨ρ',M',?_,by simp[eO,jR,e1,e2,e3]⟩;have e:i+(d::ds).length=i+1+ds.length:=by simp;omega
  rw[e];exact h3
def kJ {lo:Int}(h:(aw lo n)[j]?=Z d):j<n/\d=I (lo+j):=by
 unfold aw at h;rw[LL] at h;cases q:(Lw n)[j]? with
 | none=>rw[q] at h;cases h
 | some k=>
  rw[q] at h;obtain⟨hj,ek⟩:=Lj.mp q;rw[Mk] at hj;rw[Rq] at ek;subst ek;cases h;exact⟨hj,rfl⟩
def lO (s:kq)(row:Int)(m:Mv):Bool:=match m.shape with
 | none=>false
 | some k=>decide (m.y<=row)&&decide (row<m.y+((s.book.getD k []).length:Int))
def jy (s:kq)(row:Int):Nat->List Int
 | 0=>[]
 | n+1=>jy s row n++(match s.movers[n]? with|some m=>if lO s row m then [(n:Int)] else []|none=>[])
theorem iS (s:kq)(row:Int):∀n,(jy s row n).length<=n
 | 0=>Lr _
 | n+1=>by
  have:=iS s row n;unfold jy;rw[Ll];split
  ·split <;> simp <;> omega
  ·simp;omega
def cM (s:kq)(row:Int):List Int:=jy s row s.movers.length
abbrev ut (rs:List (List Int)):D:=U (rs.map λr=>D.tup (r.map I))
def gU (rs:List (List Int))(way:Int)(n:Nat):List Int:=
 let r:=if way=2\/way=3 then rs.getD (rs.length-1-n) [] else rs.getD n []
 if way=1\/way=3 then r.reverse else r
def GY {way:Int}(h0:0<=way)(h1:way<4):way=0\/way=1\/way=2\/way=3:=by omega
theorem l8:∀{j:Nat} {n:Int},n∈jy s row j->∃i:Nat,n=i/\i<j/\∃m,s.movers[i]?=Z m/\lO s row m=true
 | 0,n,h=>by cases h
 | j+1,n,h=>by
  unfold jy at h;rcases MR.mp h with z|z
  ·obtain⟨i,e,hi,r⟩:=l8 z;exact⟨i,e,by omega,r⟩
  ·split at z
   ·rename_i m hm;split at z
    ·rename_i hl;exact⟨j,by simpa using z,by omega,m,hm,hl⟩
    ·cases z
   ·cases z
def tv (xs:List Int)(lo hi:Option Int):∃ys:List Int,kQ (xs.map I) lo hi=ys.map I/\ys.length<=xs.length/\∀y∈ys,y∈xs:=by
 refine⟨(xs.drop (HT.sIx xs.length 0 lo)).take (HT.sIx xs.length xs.length hi-HT.sIx xs.length 0 lo),by simp[kQ],?_,λy hy=>OA (OB hy)⟩;rw[Nd,OE];omega
def bn (s:kq)(row n:Int):D:=match s.movers[n.toNat]? with
 | some m=>U [I n,I m.x,I m.rank,U ((gU (s.book.getD (m.shape.getD 0) []) m.turn (row-m.y).toNat).map I)]
 | none=>.non
def aM (s:kq)(row:Int):List Int:=s.floor.getD ((row+s.sy) % (s.floor.length:Int)).toNat []
def aZ (s:kq)(row x:Int):Int:=(aM s row).getD ((x+s.sx) % ((aM s row).length:Int)).toNat 0
def kR (s:kq)(m row:Int):List D:=(kQ ((cM s row).map I) Y (Z m)).map λd=>match d with | .int n=>bn s row n|d=>d
def cC (s:kq)(w m row:Int):D:=U [U ((Lw w.toNat).map λ(x:Nat)=>I (aZ s row x)),U (kR s m row)]
def u9 (n:Int):bu 28 (bn s row n)=true:=by
 unfold bn;split
 ·rename_i m _;have:=gF 25 (gU (s.book.getD (m.shape.getD 0) []) m.turn (row-m.y).toNat);simp only[mZ,Pl,all_nil,this];rfl
 ·rfl
def De {a:GE}(ha:a ρ M=O (I x) M)(hb:b ρ M=O (I y) M)(hc:x<=y->c ρ M=O (I z) M):xq wn oQ a b c ρ M=O (G (decide (x<=y)&&decide (y<z))) M:=by
 unfold xq;rw[ha,am,hb,am];show(aQ.ok (D.bl (decide (x<=y))) M).bind _=_;rw[am]
 by_cases q:x<=y
 ·rw[decide_eq_true q];dsimp only;rw[hc q,am];rfl
 ·rw[decide_eq_false q];rfl
def Ag (h:gN M)(hE:E.all (yc (M.length+E.length))=true):gN (M++E):=by
 unfold gN;rw[Ll,all_append,hE,Xn];exact Lx.mpr λx hx=>xt (Mu _ _) (Lx.mp h x hx)
def zQ (h:gN M)(hp:nk o=true):gN (M++[o]):=Ag h (by rw[Pl,pL hp];rfl)
def mB {M M1:aF}(h:g ρ M=O d M1)(h2:sg d ρ=Z ρ1):dH sg g ρ M=O (.nx ρ1) M1:=by
 unfold dH;rw[h,am,h2]
theorem FN {s:kq}:dH (cb [2,3,4,5,6]) (ae 0) [Z s.d,Z (I row),Y,Y,Y,Y,Y,Y,Y,Y,Y,Y,Y,Y] M=O (.nx [Z s.d,Z (I row),Z (bi s.floor),Z (U [I s.sx,I s.sy]),Z (U (s.book.map bi)),Z (U (s.movers.map Mv.d)),Z (U (s.pots.map I)),Y,Y,Y,Y,Y,Y,Y]) M:=rfl
def DA (o:Option Nat):D:=match o with|some k=>I k|none=>.non
def IM (bk:List (List (List Int)))(row y:Int):Option Nat->Bool
 | none=>false
 | some k=>decide (y<=row)&&decide (row<y+((bk.getD k []).length:Int))
def Bl {bk:List (List (List Int))}(ho:∀k,o=Z k->k<bk.length)(hE:E.length<1000)
  (hb:b=IM bk row y o) :
  dE [x0,Z (I row),x2,x3,Z (U (bk.map bi)),x5,x6,Z (R M.length),Z (I j),Z (DA o),x10,Z (I y),x12,x13] (M++[.lst (E.map I)]) =
   O (.nx [x0,Z (I row),x2,x3,Z (U (bk.map bi)),x5,x6,Z (R M.length),Z (I j),Z (DA o),x10,Z (I y),x12,x13]) (M++[.lst ((E++if b then [(j:Int)] else []).map I)]):=by
 unfold dE;have t:cH (aK (g2 (nW true) (ae 9) (gC .non))) (aK (xq wn oQ (ae 11) (ae 1) (g2 bQ (ae 11) (aE bh (aa (g2 aB (ae 4) (ae 9)) ag))))) [x0,Z (I row),x2,x3,Z (U (bk.map bi)),x5,x6,Z (R M.length),Z (I j),Z (DA o),x10,Z (I y),x12,x13] (M++[.lst (E.map I)])=O b (M++[.lst (E.map I)]):=by
  subst hb;cases o with
  | none=>exact c8 (x:=false) (y:=true) rfl (λz=>by cases z)
  | some k=>
   have hk:=ho k rfl;have gb:bk[k]?=Z bk[k]:=Lh hk;have e:bk.getD k []=bk[k]:=by rw[Nc,gb];rfl
   have ln:aE bh (aa (g2 aB (ae 4) (ae 9)) ag) [x0,Z (I row),x2,x3,Z (U (bk.map bi)),x5,x6,Z (R M.length),Z (I j),Z (I k),x10,Z (I y),x12,x13] (M++[.lst (E.map I)])=O (I (bk[k].length:Int)) (M++[.lst (E.map I)]):=by
    refine gZ (aj (x:=U (bk.map bi)) (y:=I k) rfl rfl (aL (by rw[LL,gb];rfl))) ?_;show aQ.ok (I ((bk[k].map λr=>D.tup (r.map I)).length:Int)) _=_;rw[Lu]
   show _=aQ.ok (decide (y<=row)&&decide (row<y+((bk.getD k []).length:Int))) _;rw[e];exact c8 (x:=true) rfl λ_=>aT (De (x:=y) (y:=row) (z:=y+(bk[k].length:Int)) rfl rfl λ_=>aj (x:=I y) rfl ln rfl)
 cases b with
 | false=>
  refine(fE t).trans ?_;rw[if_neg Ly,Mo];rfl
 | true=>
  refine(ju t).trans ?_;rw[if_pos rfl,Rm];exact j8 (oE (go:=ae 7) (d:=I j) rfl rfl (by rw[Lu];omega))
def D4 (ok:eC mm s)(hm:mm<=900)(hM:gN M):kS [s.d,I row] M=O (.lst ((cM s row).map I)) M:=by
 have lm:=ok.ml;generalize hx0:Z s.d=x0;generalize hx2:Z (bi s.floor)=x2;generalize hx3:Z (D.tup [I s.sx,I s.sy])=x3;generalize hx6:Z (D.tup (s.pots.map I))=x6;obtain⟨ρ',M',⟨y,rfl,rfl⟩,ef⟩:=j4 (ds0:=dL (s.movers.map Mv.d)) (s:=jW [(aX 8),(cb [9,10,11,12,13])]) (body:=dE)
  (W:=λi ρ N=>∃y:Nat->Option D,ρ=[x0,Z (I row),x2,x3,Z (U (s.book.map bi)),Z (U (s.movers.map Mv.d)),x6,Z (R M.length),y 0,y 1,y 2,y 3,y 4,y 5]/\N=M++[.lst ((jy s row i).map I)])
  (dL (s.movers.map Mv.d)) 0 (λj d hd ρ N hW=>by
   obtain⟨y,rfl,rfl⟩:=hW;obtain⟨dx,ex,rfl⟩:=kj hd;rw[MB];rw[LL] at ex;cases gm:s.movers[j]? with
   | none=>rw[gm] at ex;cases ex
   | some m=>
   rw[gm] at ex;cases ex;have hj:=(Lj.mp gm).1;have om:=ok.movers _ (LU gm);have ll:(jy s row j).length<1000:=Nv (iS s row j) (by omega);have e:=Bl (x0:=x0) (x2:=x2) (x3:=x3) (x5:=Z (U (s.movers.map Mv.d))) (x6:=x6) (x10:=Z (I m.x)) (x12:=Z (I m.rank)) (x13:=Z (I m.turn)) (row:=row) (bk:=s.book) (j:=j) (M:=M) (E:=jy s row j) (b:=lO s row m) om.s ll (by unfold lO IM;cases m.shape <;> rfl);have ey:jy s row (j+1)=jy s row j++(if lO s row m then [(j:Int)] else []):=by
    show jy s row j++(match s.movers[j]? with|some m=>if lO s row m then [(j:Int)] else []|none=>[])=_;rw[gm]
   exact⟨_,_,_,rfl,e,λi=>[Z (I j),Z (DA m.shape),Z (I m.x),Z (I m.y),Z (I m.rank),Z (I m.turn)][i]?.getD Y,rfl,by rw[ey]⟩)
  [x0,Z (I row),x2,x3,Z (U (s.book.map bi)),Z (U (s.movers.map Mv.d)),x6,Z (R M.length),Y,Y,Y,Y,Y,Y] (M++[.lst []]) ⟨λ_=>Y,rfl,rfl⟩
 rw[dW,Lu,MB] at ef;have rt:=mh (M:=M) (xs:=(cM s row).map I) (gF 28 _) hM;have a1:=FN (s:=s) (row:=row) (M:=M);rw[hx0,hx2,hx3,hx6] at a1;show jO M.length (aI (gX [Z s.d,Z (I row),Y,Y,Y,Y,Y,Y,Y,Y,Y,Y,Y,Y] M))=_;rw[hx0];unfold gX;have s7:∀b:GS,ay (aD 7 (jw ag)) b [x0,Z (I row),x2,x3,Z (U (s.book.map bi)),Z (U (s.movers.map Mv.d)),x6,Y,Y,Y,Y,Y,Y,Y] M=b [x0,Z (I row),x2,x3,Z (U (s.book.map bi)),Z (U (s.movers.map Mv.d)),x6,Z (R M.length),Y,Y,Y,Y,Y,Y] (M++[.lst []]):=λb=>aA (aO kX)
 have kf:dJ (m7 (aa (ae 5) ag)) (jW [(aX 8),(cb [9,10,11,12,13])]) dE [x0,Z (I row),x2,x3,Z (U (s.book.map bi)),Z (U (s.movers.map Mv.d)),x6,Z (R M.length),Y,Y,Y,Y,Y,Y] (M++[.lst []])=_:=fL (t:=⟨dL (s.movers.map Mv.d),Y⟩) rfl ef;rw[aA a1,s7,aA kf];exact rt
def yK {t:GT}{a:GE}(h:t ρ M=O x M)(hk:(if x then a ρ M else b ρ M)=o):nY t a b ρ M=o:=by
 unfold nY;rw[h,am];exact hk
def Ht {rs:List (List Int)}{n:Nat}{M:aF}(h:n<rs.length):aB (ut rs) (I n) M=O (U ((rs.getD n []).map I)) M:=aL (by rw[LL,Nc,Lh h];rfl)
def mv {rs:List (List Int)}{way:Int}{n:Nat}{a b:Bool}{M:aF}(ha:oy false (I way) (U [I 2,I 3]) M=O (G a) M)(hb:oy false (I way) (U [I 1,I 3]) M=O (G b) M)(hn:n<rs.length) :
  i5 [ut rs,I way,I n] M=O (U ((if b then(if a then rs.getD (rs.length-1-n) [] else rs.getD n []).reverse else(if a then rs.getD (rs.length-1-n) [] else rs.getD n [])).map I)) M:=by
 have ln:aE bh (aa (ae 0) ag) [Z (ut rs),Z (I way),Z (I n),Y] M=O (I rs.length) M:=by
  show aQ.ok (I ((rs.map λr=>D.tup (r.map I)).length:Int)) M=_;rw[Lu]
 have e2:(rs.length:Int)-1-n=((rs.length-1-n:Nat):Int):=by omega
 have t1:fK (aK (g2 oQ (ae 2) (gC (I 0)))) (aK (g2 wj (ae 2) (aE bh (aa (ae 0) ag)))) [Z (ut rs),Z (I way),Z (I n),Y] M=O (false||false) M:=i4 (aT (aj rfl rfl (by show aQ.ok (D.bl (decide ((n:Int)<0))) M=_;rw[decide_eq_false (by omega)]))) λ_=>aT (aj rfl ln (by show aQ.ok (D.bl (decide ((rs.length:Int)<=n))) M=_;rw[decide_eq_false (by omega)]))
 have two:∀(u v:Int) (ρ:fO),bC (aa (gC (I u)) (aa (gC (I v)) ag)) ρ M=O (U [I u,I v]) M:=λu v ρ=>cV rfl
 have k3:nY (aK (g2 (oy false) (ae 1) (bC (aa (gC (I 2)) (aa (gC (I 3)) ag))))) (g2 aB (ae 0) (g2 eM (g2 eM (aE bh (aa (ae 0) ag)) (gC (I 1))) (ae 2))) (g2 aB (ae 0) (ae 2)) [Z (ut rs),Z (I way),Z (I n),Y] M=O (U ((if a then rs.getD (rs.length-1-n) [] else rs.getD n []).map I)) M:=by
  refine yK (aT (aj rfl (two 2 3 _) ha)) ?_;cases a with
  | true=>exact aj rfl (aj (aj ln rfl rfl) rfl (by show aQ.ok (I ((rs.length:Int)-1-n)) M=_;rw[e2])) (Ht (by omega))
  | false=>exact aj rfl rfl (Ht hn)
 show aI (jd [Z (ut rs),Z (I way),Z (I n),Y] M)=_;unfold jd;refine(congrArg aI ((aA ((fE t1).trans rfl)).trans ((aA (aO k3)).trans (cu (yK (aT (aj rfl (two 1 3 _) hb)) ?_))))).trans rfl;cases b with
 | true=>exact congrArg (λz=>aQ.ok (D.tup z) M) (map_reverse ..).symm
 | false=>rfl
def zu {rs:List (List Int)}{way:Int}{n:Nat}{M:aF}(h0:0<=way)(h1:way<4)(hn:n<rs.length) :
  i5 [ut rs,I way,I n] M=O (U ((gU rs way n).map I)) M:=by
 rcases GY h0 h1 with rfl|rfl|rfl|rfl
 ·exact mv rfl rfl hn
 ·exact mv rfl rfl hn
 ·exact mv rfl rfl hn
 ·exact mv rfl rfl hn
def yz (ok:eC mm s)(hn:n∈cM s row):iF [s.d,I n,I row] M=O (bn s row n) M:=by
 obtain⟨i,rfl,hi,m,gm,lz⟩:=l8 hn;have om:=ok.movers m (LU gm);unfold lO at lz;cases hs:m.shape with
 | none=>rw[hs] at lz;cases lz
 | some k=>
  rw[hs] at lz;have hk:=om.s k hs;have gb:s.book[k]?=Z s.book[k]:=Lh hk;have gd:s.book.getD k []=s.book[k]:=by rw[Nc,gb];rfl
  have lz:(decide (m.y<=row)&&decide (row<m.y+((s.book.getD k []).length:Int)))=true:=lz;rw[gd,LN,decide_eq_true_eq,decide_eq_true_eq] at lz;obtain⟨r,hr⟩:=L3 (by omega:0<=row-m.y);have ls:=zu (rs:=s.book[k]) (way:=m.turn) (n:=r) (M:=M) om.t.1 (by have:=om.t.2;omega) (by omega);have es:bn s row (i:Int)=U [I i,I m.x,I m.rank,U ((gU s.book[k] m.turn r).map I)]:=by
   unfold bn;rw[Mq,gm];have:(row-m.y).toNat=r:=by omega
   simp only[hs,VG,gd,this]
  rw[es];clear es;have md:m.d=U [I k,I m.x,I m.y,I m.rank,I m.turn]:=by unfold Mv.d;rw[hs]
  show aI (eW [Z s.d,Z (I i),Z (I row),Y,Y,Y,Y,Y,Y,Y,Y,Y,Y] M)=_;unfold eW;have k1:dH (cb [3,4,5,6,7]) (ae 0) [Z s.d,Z (I i),Z (I row),Y,Y,Y,Y,Y,Y,Y,Y,Y,Y] M=O (.nx [Z s.d,Z (I i),Z (I row),Z (bi s.floor),Z (U [I s.sx,I s.sy]),Z (U (s.book.map bi)),Z (U (s.movers.map Mv.d)),Z (U (s.pots.map I)),Y,Y,Y,Y,Y]) M:=rfl;refine(congrArg aI ((aA k1).trans ((aA (mB (aj rfl rfl (aL (by rw[LL,gm];exact congrArg Z md))) rfl)).trans (cu (cV (ds:=[I i,I m.x,I m.rank,U ((gU s.book[k] m.turn r).map I)]) (az rfl (az rfl (az rfl (az (oB (aj rfl rfl (aL (by rw[LL,gb];rfl))) rfl (aj rfl rfl (by show aQ.ok (I (row-m.y)) M=_;rw[hr])) ls) rfl))))))))).trans rfl
abbrev fe (s:kq)(row w hh g m:Int)(x:Option D):fO:=[Z (U [I w,I hh,I g,I m]),Z s.d,Z (I row),Z (I w),Z (I hh),Z (I g),Z (I m),Z (bi s.floor),Z (I s.sx),Z (I s.sy),Z (U (s.book.map bi)),Z (U (s.movers.map Mv.d)),Z (U (s.pots.map I)),x]
def mn {f:α->D}{l:List α}(h:ρ[i]?=Z (Z (U (l.map f)))):aE bh (aa (ae i) ag) ρ M=O (I (l.length:Int)) M:=by
 refine gZ (x:=U (l.map f)) (M1:=M) (by unfold ae;rw[h]) ?_;show aQ.ok (I ((l.map f).length:Int)) M=_;rw[Lu]
def xl (ok:eC mm s)(hw:1<=w/\w<=900) :
  je [U [I w,I hh,I g,I m],s.d,I row] M=O (U ((Lw w.toNat).map λ(x:Nat)=>I (aZ s row x))) M:=by
 obtain⟨f1,f2,fw,f3,f4,f5⟩:=ok.floor;have hfl:0<=(row+s.sy) % (s.floor.length:Int)/\(row+s.sy) % (s.floor.length:Int)<s.floor.length:=⟨OI _ (by omega),NY _ (by omega)⟩;obtain⟨r,hr⟩:=L3 hfl.1;have hr2:r<s.floor.length:=by omega
 have er:aM s row=s.floor[r]:=by
  unfold aM;rw[hr,Mq,Nc,Lh hr2];rfl
 obtain⟨lw,lk⟩:=f5 _ (Qb hr2);rw[<-er] at lw lk;have kx:∀x:Int,dr (Z (I x)::fe s row w hh g m (Z (U ((aM s row).map I)))) M=O (I (aZ s row x)) M:=λx=>by
  have hx:0<=(x+s.sx) % ((aM s row).length:Int)/\(x+s.sx) % ((aM s row).length:Int)<(aM s row).length:=⟨OI _ (by omega),NY _ (by omega)⟩;obtain⟨q,hq⟩:=L3 hx.1;refine aj (f:=aB) (a:=ae 14) (x:=U ((aM s row).map I)) (y:=I q) rfl (aj (f:=dq) (x:=I (x+s.sx)) rfl (mn (l:=aM s row) rfl) ((iA (by omega) M).trans (by rw[hq]))) (aL ?_);unfold aZ;rw[hq,Mq,LL,Nc,Lh (by omega)];rfl
 have ec:=iN (ds0:=aw 0 w.toNat) (ge:=dr) (ρ:=fe s row w hh g m (Z (U ((aM s row).map I)))) (f:=λd=>match d with | .int x=>I (aZ s row x)|d=>d) (M:=M) (aw 0 w.toNat) (λd hd=>by
  obtain⟨x,rfl,x0,x1⟩:=jb hd;exact kx x)
 have em:(aw 0 w.toNat).map (λd=>match d with | .int x=>I (aZ s row x)|d=>d)=(Lw w.toNat).map λ(x:Nat)=>I (aZ s row x):=by
  unfold aw;rw[OT];apply Pp;intro x _;simp
 rw[em] at ec;show aI (gw [Z (U [I w,I hh,I g,I m]),Z s.d,Z (I row),Y,Y,Y,Y,Y,Y,Y,Y,Y,Y,Y] M)=_;have k2:gw [Z (U [I w,I hh,I g,I m]),Z s.d,Z (I row),Y,Y,Y,Y,Y,Y,Y,Y,Y,Y,Y] M=(ay (aD 13 (g2 aB (ae 7) (g2 dq (g2 bQ (ae 2) (ae 9)) (aE bh (aa (ae 7) ag))))) (bo (aE bW (aa (aP (bt (aa (ae 3) ag)) aW dr aC) ag)))) (fe s row w hh g m Y) M:=(aA (show dH (cb [3,4,5,6]) (ae 0) _ M=O (.nx [Z (U [I w,I hh,I g,I m]),Z s.d,Z (I row),Z (I w),Z (I hh),Z (I g),Z (I m),Y,Y,Y,Y,Y,Y,Y]) M from rfl)).trans (aA (show dH (jW [(aX 7),(cb [8,9]),(aX 10),(aX 11),(aX 12)]) (ae 1) _ M=O (.nx (fe s row w hh g m Y)) M from rfl));rw[k2];refine(congrArg aI ((aA (aO (d:=U ((aM s row).map I)) (aj (f:=aB) (a:=ae 7) (x:=bi s.floor) (y:=I r) rfl (aj (f:=dq) (x:=I (row+s.sy)) rfl (mn (l:=s.floor) rfl) ((iA (by omega) M).trans (by rw[hr]))) (aL (by rw[LL,Lh hr2,er];rfl))))).trans (cu (gZ (x:=.lst ((Lw w.toNat).map λ(x:Nat)=>I (aZ s row x))) (cm (ρ:=fe s row w hh g m (Z (U ((aM s row).map I)))) (cA (n:=w.toNat) (az (d:=I (w.toNat:Int)) (by show aQ.ok (I w) M=_;rw[RI (by omega)]) rfl) (by omega)) ec (by rw[Lu,Mk];omega)) rfl)))).trans rfl
def Az (ok:eC mm s)(hm:mm<=900)(hM:gN M) :
  j5 [U [I w,I hh,I g,I m],s.d,I row] M=O (.lst (kQ ((cM s row).map I) Y (Z m))) M:=by
 have e:=D4 (row:=row) ok hm hM;unfold j5 mO;simp_arith [e]
def AR (ok:eC mm s)(hm:mm<=900)(hw:1<=w/\w<=900)(hmo:0<=m/\m<=12)(hM:gN M) :
  nM [U [I w,I hh,I g,I m],s.d,I row] M=O (cC s w m row) M:=by
 obtain⟨ys,ey,ly,qy⟩:=tv (cM s row) Y (Z m);have ll:(cM s row).length<=900:=by
  have:=iS s row s.movers.length;have:=ok.ml;unfold cM;omega
 have etk:kR s m row=ys.map (bn s row):=by unfold kR;rw[ey,OT];rfl
 have ek:=Az (w:=w) (hh:=hh) (g:=g) (m:=m) (row:=row) ok hm hM;rw[ey] at ek;have ef:=xl (w:=w) (hh:=hh) (g:=g) (m:=m) (row:=row) (M:=M) ok hw;have ec:=iN (ds0:=ys.map I) (ge:=lN) (ρ:=[Z (U [I w,I hh,I g,I m]),Z s.d,Z (I row),Y])
  (f:=λd=>match d with | .int n=>bn s row n|d=>d) (M:=M) (ys.map I) (λd hd=>by
   obtain⟨n,hn,rfl⟩:=OP.mp hd;have e:=yz (M:=M) ok (qy n hn);simp_arith [lN,e])
 have em:(ys.map I).map (λd=>match d with | .int n=>bn s row n|d=>d)=ys.map (bn s row):=by
  rw[OT];rfl
 rw[em] at ec;have l1:ys.length<=LW:=bI (by omega);have l2:(2:Nat)<=LW:=bI (by decide);unfold cC nM rW;rw[etk];simp_arith [aP,ek,ef,ec,l1,l2]
structure Sn where
 n:Int
 x:Int
 r:Int
 ks:List Int
def Sn.d (s:Sn):D:=U [I s.n,I s.x,I s.r,U (s.ks.map I)]
def bp (x:Int)(s:Sn):Int:=if s.x<=x/\x<s.x+(s.ks.length:Int) then s.ks.getD (x-s.x).toNat 0 else 0
def ij (x:Int)(ss:List Sn):List Sn:=ss.filter λs=>bp x s != 0
def mW (x:Int)(s:Sn):D:=U [I s.r,I s.n,I (bp x s)]
def qW (x:Int)(ss:List Sn):(ij x ss).length<=ss.length:=VH _ _
def sL {ss:List Sn}(h:ss[j]?=Z s):ij x (ss.take (j+1))=ij x (ss.take j)++(if bp x s=0 then [] else [s]):=by
 rw[take_succ,h];unfold ij;rw[filter_append];congr 1
 by_cases hz:bp x s=0 <;> simp[hz]
def uy {s:Sn}(h1:s.x<=x)(h2:x<s.x+(s.ks.length:Int)):∃i:Nat,x-s.x=i/\nD (s.ks.map I) (i:Int)=Z (I (bp x s)):=by
 obtain⟨i,hi⟩:=L3 (by omega:0<=x-s.x);have hl:i<s.ks.length:=by omega
 refine⟨i,hi,?_⟩;have e:bp x s=s.ks[i]:=by
  unfold bp;rw[if_pos ⟨h1,h2⟩,hi,Mq,Nc,Lh hl];rfl
 rw[e];exact kg (by simp[hl])
def qF (h:¬(s.x<=x/\x<s.x+(s.ks.length:Int))):bp x s=0:=by unfold bp;rw[if_neg h]
def wO (h:∀s,bu 29 (f s)=true)(l:List Sn):(l.map f).all (bu 29)=true:=by
 rw[Lx];intro d hd;obtain⟨s,_,e⟩:=OP.mp hd;rw[<-e];exact h s
def zF (hE:E.length<1000) :
  c9 [x0,Z (I x),x2,x3,Z (R M.length),Z (I s.n),Z (I s.x),Z (I s.r),Z (U (s.ks.map I))] (M++[.lst E]) =
   O (.nx [x0,Z (I x),x2,x3,Z (R M.length),Z (I s.n),Z (I s.x),Z (I s.r),Z (U (s.ks.map I))]) (M++[.lst (E++if bp x s=0 then [] else [mW x s])]):=by
 unfold c9;have ln:aE bh (aa (ae 8) ag) [x0,Z (I x),x2,x3,Z (R M.length),Z (I s.n),Z (I s.x),Z (I s.r),Z (U (s.ks.map I))] (M++[.lst E])=O (I (s.ks.length:Int)) (M++[.lst E]):=by
  refine gZ (a:=ae 8) rfl ?_;show aQ.ok (I ((s.ks.map I).length:Int)) _=_;rw[Lu]
 have c1:=aT (De (a:=ae 6) (b:=ae 1) (y:=x) (z:=s.x+(s.ks.length:Int)) rfl rfl λ_=>aj (f:=bQ) (a:=ae 6) rfl ln rfl)
 by_cases h:s.x<=x/\x<s.x+(s.ks.length:Int)
 ·obtain⟨i,hi,ai⟩:=uy h.1 h.2;have ix:g2 aB (ae 8) (g2 eM (ae 1) (ae 6)) [x0,Z (I x),x2,x3,Z (R M.length),Z (I s.n),Z (I s.x),Z (I s.r),Z (U (s.ks.map I))] (M++[.lst E])=O (I (bp x s)) (M++[.lst E]):=by
   refine aj (f:=aB) (a:=ae 8) (y:=I (x-s.x)) rfl rfl ?_;rw[hi];show(match nD (s.ks.map I) (i:Int) with|some d=>aQ.ok d (M++[MO.lst E])|none=>.bad)=_;rw[ai]
  have t:=c8 c1 λ_=>aT (aj (f:=cD true) ix (b:=gC (I 0)) (y:=I 0) rfl (uF (bp x s) 0 _))
  rw[decide_eq_true h.1,decide_eq_true h.2] at t
  by_cases hz:bp x s=0
  ·rw[decide_eq_true hz] at t;rw[if_pos hz,Mo];exact(fE t).trans rfl
  ·rw[decide_eq_false hz] at t;rw[if_neg hz];exact(ju t).trans (j8 (oE (go:=ae 4) (d:=mW x s) rfl (cV (az rfl (az rfl (az ix rfl))) (by simp)) (by omega)))
 ·have hz:=qF h;have b:(decide (s.x<=x)&&decide (x<s.x+(s.ks.length:Int)))=false:=by
   rw[<-Bool.decide_and];exact decide_eq_false h
  rw[b] at c1;rw[if_pos hz,Mo];exact(fE ((c8 (y:=true) c1 λz=>by cases z).trans rfl)).trans rfl
def uX {ss:List Sn}(hs:ss.length<=900)(hM:gN M) :
  jQ [U [fl,U (ss.map Sn.d)],I x] M=O (.lst ((ij x ss).map (mW x))) M:=by
 obtain⟨ρ',M',⟨x5,x6,x7,x8,rfl,rfl⟩,ef⟩:=j4 (ds0:=ss.map Sn.d) (s:=cb [5,6,7,8]) (body:=c9)
  (W:=λi ρ N=>∃x5 x6 x7 x8,ρ=[Z (U [fl,U (ss.map Sn.d)]),Z (I x),Z fl,Z (U (ss.map Sn.d)),Z (R M.length),x5,x6,x7,x8]/\N=M++[.lst ((ij x (ss.take i)).map (mW x))])
  (ss.map Sn.d) 0 (λj d hd ρ N hW=>by
   obtain⟨x5,x6,x7,x8,rfl,rfl⟩:=hW;rw[MB];rw[LL] at hd;cases gs:ss[j]? with
   | none=>rw[gs] at hd;cases hd
   | some s=>
   rw[gs] at hd;cases hd;rw[sL gs];have ll:((ij x (ss.take j)).map (mW x)).length<1000:=by
    rw[Lu];exact Nv (qW x _) (by rw[Nd];omega)
   have e:=zF (x0:=Z (U [fl,U (ss.map Sn.d)])) (x2:=Z fl) (x3:=Z (U (ss.map Sn.d))) (x:=x) (s:=s) (M:=M) ll;refine⟨_,_,_,rfl,e,_,_,_,_,rfl,?_⟩;rw[Rm]
   by_cases hz:bp x s=0
   ·rw[if_pos hz,if_pos hz];rfl
   ·rw[if_neg hz,if_neg hz];rfl)
  [Z (U [fl,U (ss.map Sn.d)]),Z (I x),Z fl,Z (U (ss.map Sn.d)),Z (R M.length),Y,Y,Y,Y] (M++[.lst []]) ⟨_,_,_,_,rfl,rfl⟩
 have e0:(0:Nat)+(ss.map Sn.d).length=ss.length:=by simp
 rw[e0,T7] at ef;have rt:=mh (M:=M) (xs:=(ij x ss).map (mW x)) (wO (λ_=>rfl) _) hM;show jO M.length (aI (fJ [Z (U [fl,U (ss.map Sn.d)]),Z (I x),Y,Y,Y,Y,Y,Y,Y] M))=_;unfold fJ;have a1:dH (cb [2,3]) (ae 0) [Z (U [fl,U (ss.map Sn.d)]),Z (I x),Y,Y,Y,Y,Y,Y,Y] M=O (.nx [Z (U [fl,U (ss.map Sn.d)]),Z (I x),Z fl,Z (U (ss.map Sn.d)),Y,Y,Y,Y,Y]) M:=rfl;have s4:∀b:GS,ay (aD 4 (jw ag)) b [Z (U [fl,U (ss.map Sn.d)]),Z (I x),Z fl,Z (U (ss.map Sn.d)),Y,Y,Y,Y,Y] M=b [Z (U [fl,U (ss.map Sn.d)]),Z (I x),Z fl,Z (U (ss.map Sn.d)),Z (R M.length),Y,Y,Y,Y] (M++[.lst []]):=λb=>aA (aO kX)
 have kf:dJ (cN (ae 3)) (cb [5,6,7,8]) c9 [Z (U [fl,U (ss.map Sn.d)]),Z (I x),Z fl,Z (U (ss.map Sn.d)),Z (R M.length),Y,Y,Y,Y] (M++[.lst []])=_:=fL (t:=⟨ss.map Sn.d,Y⟩) (By rfl) ef;rw[aA a1,s4,aA kf];exact rt
def uV (a b:Sn):Prop:=b.r<a.r\/(a.r=b.r/\a.n<=b.n)
def yR:uP 0 bS [mW x s] M=O (U [I (-s.r),I s.n]) M:=by
 have l2:(2:Nat)<=LW:=bI (by decide);have a0:∀a b c:D,nD [a,b,c] 0=Z a:=λ_ _ _=>rfl
 have a1:∀a b c:D,nD [a,b,c] 1=Z b:=λ_ _ _=>rfl
 simp_arith [bS,mW,a0,a1,l2]
def Jl (a b c d:Int):HT.lexLt [a,b] [c,d]=decide (a<c\/(a=c/\b<d)):=by
 by_cases h1:a<c <;> by_cases h2:a=c <;> by_cases h3:b<d <;> simp[HT.lexLt,h1,h2,h3] <;> omega
def wD (b:Sn):∀s∈[b],uV b s:=λs hs=>by
 rcases L1.mp hs with z|z
 ·subst z;exact .inr ⟨rfl,Qy _⟩
 ·cases z
theorem vw:∀(cs:List Sn) (b:Sn),∃b',b'∈b::cs/\(∀s∈b::cs,uV b' s)/\ni (uP 0 bS) (cs.map (mW x)) (mW x b) [-b.r,b.n] M=O (mW x b') M
 | [],b=>⟨b,Lz ..,wD b,rfl⟩
 | s::r,b=>by
  have hk:=yR (x:=x) (s:=s) (M:=M);have hi:fG (U [I (-s.r),I s.n])=Z [-s.r,s.n]:=rfl
  by_cases h:-s.r < -b.r\/(-s.r=-b.r/\s.n<b.n)
  ·obtain⟨b',h1,h2,h3⟩:=vw (x:=x) (M:=M) r s;refine⟨b',LH _ h1,λt ht=>?_,?_⟩
   ·rcases L1.mp ht with z|z
    ·subst z;have:=h2 s (Lz ..);unfold uV at *;omega
    ·exact h2 t z
   ·rw[Nf];unfold ni;rw[hk];dsimp only;rw[hi];dsimp only;rw[Jl,if_pos (decide_eq_true h)];exact h3
  ·obtain⟨b',h1,h2,h3⟩:=vw (x:=x) (M:=M) r b;have hb:=h2 b (Lz ..);refine⟨b',?_,λt ht=>?_,?_⟩
   ·rcases L1.mp h1 with z|z
    ·exact z▸Lz ..
    ·exact LH _ (LH _ z)
   ·rcases L1.mp ht with z|z
    ·exact z▸hb
    ·rcases L1.mp z with z|z
     ·subst z;unfold uV at *;omega
     ·exact h2 t (LH _ z)
   ·rw[Nf];unfold ni;rw[hk];dsimp only;rw[hi];dsimp only;rw[Jl,if_neg (by simpa using h)];exact h3
def yU:(cs=[]/\fI [I fl,.lst (cs.map (mW x))] M=O (I fl) M)\/
  ∃b∈cs,(∀s∈cs,uV b s)/\fI [I fl,.lst (cs.map (mW x))] M=O (I (if 1<=b.r\/fl=0 then bp x b else fl)) M:=by
 cases cs with
 | nil=>
  exact .inl ⟨rfl,rfl⟩
 | cons s r=>
  obtain⟨b,h1,h2,h3⟩:=vw (x:=x) (M:=M) r s;refine .inr ⟨b,h1,h2,?_⟩;have hk:=yR (x:=x) (s:=s) (M:=M);have hm:mN (uP 0 bS) (mW x s::r.map (mW x)) M=O (mW x b) M:=by
   unfold mN;dsimp only;rw[hk];exact h3
  have hg:∀ρ,kU (uP 0 bS) (ae 1) (Z (I fl)::Z (.lst (mW x s::r.map (mW x)))::ρ) M=O (U [I b.r,I b.n,I (bp x b)]) M:=λρ=>by
   show mN (uP 0 bS) (mW x s::r.map (mW x)) M=_;exact hm
  rw[Nf];show aI (im [Z (I fl),Z (.lst (mW x s::r.map (mW x))),Y,Y,Y] M)=_;unfold im;have t:=i4 (aT (aj (f:=wj) (a:=ae 2) (b:=gC (I 1)) (ρ:=[Z (I fl),Z (.lst (mW x s::r.map (mW x))),Z (I b.r),Z (I b.n),Z (I (bp x b))]) (x:=I b.r) (M:=M) rfl rfl rfl)) λ_=>aT (aj (f:=cD false) (a:=ae 0) (b:=gC (I 0)) (x:=I fl) rfl rfl (wd fl 0 M))
  have run:∀{o},_=o->gW (gK (ae 1)) (ay (dH (cb [2,3,4]) (kU (uP 0 bS) (ae 1))) (gW (fK (aK (g2 wj (ae 2) (gC (I 1)))) (aK (g2 (cD false) (ae 0) (gC (I 0))))) (bo (ae 4)) bf)) bf [Z (I fl),Z (.lst (mW x s::r.map (mW x))),Y,Y,Y] M=o:=λ{o} ho=>((ju (M1:=M) rfl).trans (aA (mB (hg [Y,Y,Y]) rfl))).trans ho
  by_cases q:1<=b.r\/fl=0
  ·rw[if_pos q,nh (run ((ju (t.trans (by rw[<-W4,decide_eq_true q]))).trans (cu rfl)))];rfl
  ·rw[if_neg q,aA (run ((fE (t.trans (by rw[<-W4,decide_eq_false q]))).trans rfl))];rfl
def vh {j:Nat}(gm:s.movers[j]?=Z m)(om:∀k,m.shape=Z k->k<s.book.length)(hE:E.length<1000) :
  cJ [Z s.d,Z (I row),Z (R M.length),Z (I j),x4,x5,x6,x7,x8] (M++[.lst (E.map I)]) =
   O (.nx [Z s.d,Z (I row),Z (R M.length),Z (I j),Z (DA m.shape),Z (I m.x),Z (I m.y),Z (I m.rank),Z (I m.turn)]) (M++[.lst ((E++if lO s row m then [(j:Int)] else []).map I)]):=by
 have k1:dH (cb [4,5,6,7,8]) (g2 aB (g2 aB (ae 0) (gC (I 3))) (ae 3)) [Z s.d,Z (I row),Z (R M.length),Z (I j),x4,x5,x6,x7,x8] (M++[.lst (E.map I)])=O (.nx [Z s.d,Z (I row),Z (R M.length),Z (I j),Z (DA m.shape),Z (I m.x),Z (I m.y),Z (I m.rank),Z (I m.turn)]) (M++[.lst (E.map I)]):=
  mB (aj (aj (x:=s.d) (y:=I 3) rfl rfl (aL rfl)) rfl (aL (by rw[LL,gm];rfl))) rfl
 unfold cJ;refine(aA k1).trans ?_;have t:cH (aK (g2 (nW true) (ae 4) (gC .non))) (cH (aK (g2 wn (ae 6) (ae 1))) (aK (g2 oQ (ae 1) (g2 bQ (ae 6) (aE bh (aa (g2 aB (g2 aB (ae 0) (gC (I 2))) (ae 4)) ag)))))) [Z s.d,Z (I row),Z (R M.length),Z (I j),Z (DA m.shape),Z (I m.x),Z (I m.y),Z (I m.rank),Z (I m.turn)] (M++[.lst (E.map I)])=O (lO s row m) (M++[.lst (E.map I)]):=by
  unfold lO;cases hs:m.shape with
  | none=>exact c8 (x:=false) (y:=true) rfl (λz=>by cases z)
  | some k=>
   have hk:=om k hs;have gb:s.book[k]?=Z s.book[k]:=Lh hk;have e:s.book.getD k []=s.book[k]:=by rw[Nc,gb];rfl
   show _=aQ.ok (decide (m.y<=row)&&decide (row<m.y+((s.book.getD k []).length:Int))) _;rw[e];refine c8 (x:=true) rfl λ_=>c8 (aT (aj (x:=I m.y) (y:=I row) rfl rfl rfl)) λ_=>aT (aj (x:=I row) (y:=I (m.y+(s.book[k].length:Int))) rfl (aj (x:=I m.y) (y:=I (s.book[k].length:Int)) rfl ?_ rfl) rfl)
   refine gZ (aj (x:=U (s.book.map bi)) (y:=I k) (aj (x:=s.d) (y:=I 2) rfl rfl (aL rfl)) rfl (aL (by rw[LL,gb];rfl))) ?_;show aQ.ok (I ((s.book[k].map λr=>D.tup (r.map I)).length:Int)) _=_;rw[Lu]
 cases hb:lO s row m with
 | false=>
  rw[hb] at t;refine(fE t).trans ?_;rw[if_neg Ly,Mo];rfl
 | true=>
  rw[hb] at t;refine(ju t).trans ?_;rw[if_pos rfl,Rm];exact j8 (oE (go:=ae 2) (d:=I j) rfl rfl (by rw[Lu];omega))
def DI {s:kq}(h:ρ[0]?=Z (Z s.d)):aE bh (aa (g2 aB (ae 0) (gC (I 3))) ag) ρ M=O (I (s.movers.length:Int)) M:=by
 refine gZ (x:=U (s.movers.map Mv.d)) (aj (x:=s.d) (by unfold ae;rw[h]) rfl (aL rfl)) ?_;show aQ.ok (I ((s.movers.map Mv.d).length:Int)) M=_;rw[Lu]
def AY (ok:eC mm s)(hm:mm<=900)(hM:gN M):dP [s.d,I row] M=O (.lst ((cM s row).map I)) M:=by
 have lm:=ok.ml;obtain⟨ρ',M',⟨y,rfl,rfl⟩,ef⟩:=j4 (ds0:=aw 0 s.movers.length) (s:=aX 3) (body:=cJ)
  (W:=λi ρ N=>∃y:Nat->Option D,ρ=[Z s.d,Z (I row),Z (R M.length),y 0,y 1,y 2,y 3,y 4,y 5]/\N=M++[.lst ((jy s row i).map I)])
  (aw 0 s.movers.length) 0 (λj d hd ρ N hW=>by
   obtain⟨y,rfl,rfl⟩:=hW;obtain⟨hj,rfl⟩:=kJ hd;rw[MB,SZ];have gm:s.movers[j]?=Z s.movers[j]:=Lh hj;have om:=ok.movers _ (Qb hj);generalize s.movers[j]=m at gm om;have ll:(jy s row j).length<1000:=Nv (iS s row j) (by omega);have e:=vh (s:=s) (m:=m) (row:=row) (M:=M) (E:=jy s row j) (x4:=y 1) (x5:=y 2) (x6:=y 3) (x7:=y 4) (x8:=y 5) gm om.s ll;have ey:jy s row (j+1)=jy s row j++(if lO s row m then [(j:Int)] else []):=by
    show jy s row j++(match s.movers[j]? with|some m=>if lO s row m then [(j:Int)] else []|none=>[])=_;rw[gm]
   exact⟨_,_,_,rfl,e,λi=>[Z (I j),Z (DA m.shape),Z (I m.x),Z (I m.y),Z (I m.rank),Z (I m.turn)][i]?.getD Y,rfl,by rw[ey]⟩)
  [Z s.d,Z (I row),Z (R M.length),Y,Y,Y,Y,Y,Y] (M++[.lst []]) ⟨λ_=>Y,rfl,rfl⟩
 rw[bq,MB] at ef;have rt:=mh (M:=M) (xs:=(cM s row).map I) (gF 28 _) hM;show jO M.length (aI (dU [Z s.d,Z (I row),Y,Y,Y,Y,Y,Y,Y] M))=_;unfold dU;have kf:dJ (bt (aa (aE bh (aa (g2 aB (ae 0) (gC (I 3))) ag)) ag)) (aX 3) cJ [Z s.d,Z (I row),Z (R M.length),Y,Y,Y,Y,Y,Y] (M++[.lst []])=_:=fL (t:=⟨aw 0 s.movers.length,Y⟩) (cA (az (DI rfl) rfl) (by omega)) ef;rw[aA (aO kX)];refine(congrArg (jO M.length) (congrArg aI (aA kf))).trans ?_;exact rt
def ir {rs:List (List Int)}{way:Int}{n:Nat}{a b:Bool}{M:aF}(ha:decide (way / 2=1)=a)(hb:decide (way % 2=0)=b)(hn:n<rs.length)(hr:∀r∈rs,r.length<=1000) :
  gj [ut rs,I way,I n] M=O (U ((if b then(if a then rs.getD (rs.length-1-n) [] else rs.getD n []) else(if a then rs.getD (rs.length-1-n) [] else rs.getD n []).reverse).map I)) M:=by
 have e2:(rs.length:Int)-1-n=((rs.length-1-n:Nat):Int):=by omega
 have t1:aK (g2 (cD false) (g2 dg (ae 1) (gC (I 2))) (gC (I 1))) [Z (ut rs),Z (I way),Z (I n)] M=O a M:=aT (aj (aj rfl rfl (sk (by decide) (by decide) M)) rfl ((wd _ _ M).trans (by rw[ha])));have k1:gW (aK (g2 (cD false) (g2 dg (ae 1) (gC (I 2))) (gC (I 1)))) (aD 2 (g2 eM (g2 eM (aE bh (aa (ae 0) ag)) (gC (I 1))) (ae 2))) bf [Z (ut rs),Z (I way),Z (I n)] M=O (.nx [Z (ut rs),Z (I way),Z (I ((if a then rs.length-1-n else n:Nat):Int))]) M:=by
  cases a with
  | true=>exact(ju t1).trans (aO (aj (aj (mn (l:=rs) rfl) rfl rfl) rfl (by show aQ.ok (I ((rs.length:Int)-1-n)) M=_;rw[e2];rfl)))
  | false=>exact(fE t1).trans rfl
 have hk:(if a then rs.length-1-n else n)<rs.length:=by split <;> omega
 have er:(if a then rs.getD (rs.length-1-n) [] else rs.getD n [])=rs.getD (if a then rs.length-1-n else n) []:=by cases a <;> rfl
 rw[er];show aI (f6 [Z (ut rs),Z (I way),Z (I n)] M)=_;unfold f6;rw[aA k1];clear k1 er;generalize (if a then rs.length-1-n else n)=k at hk;have t2:aK (g2 (cD false) (g2 dq (ae 1) (gC (I 2))) (gC (I 0))) [Z (ut rs),Z (I way),Z (I k)] M=O b M:=aT (aj (aj rfl rfl (iA (by decide) M)) rfl ((wd _ _ M).trans (by rw[hb])));cases b with
 | true=>exact congrArg aI (nh ((ju t2).trans (cu (aj rfl rfl (Ht hk)))))
 | false=>
  have lr:(rs.getD k []).length<=1000:=by
   rw[Nc,Lh hk];exact hr _ (Qb hk)
  refine congrArg aI ((aA ((fE t2).trans rfl)).trans (cu (gZ (x:=.lst ((rs.getD k []).reverse.map I)) ?_ rfl)));have ln:aE bh (aa (g2 aB (ae 0) (ae 2)) ag) [Z (ut rs),Z (I way),Z (I k)] M=O (I ((rs.getD k []).length:Int)) M:=by
   refine gZ (aj rfl rfl (Ht hk)) ?_;show aQ.ok (I (((rs.getD k []).map I).length:Int)) M=_;rw[Lu]
  generalize hq:rs.getD k []=q at lr ln;have ec:=iN (ds0:=aw 0 q.length) (ge:=iD) (ρ:=[Z (ut rs),Z (I way),Z (I k)]) (f:=λd=>match d with | .int i=>I (q.getD (q.length-1-i.toNat) 0)|d=>d) (aw 0 q.length) (λd hd=>by
   obtain⟨i,rfl,i0,i1⟩:=jb hd;obtain⟨j,rfl⟩:=L3 i0;have e3:(q.length:Int)-1-j=((q.length-1-j:Nat):Int):=by omega
   have rw1:aB (ut rs) (I k) M=O (U (q.map I)) M:=by rw[Ht hk,hq]
   refine aj (f:=aB) (x:=U (q.map I)) (aj rfl rfl rw1) (aj (aj (gZ (aj rfl rfl rw1) (show aQ.ok (I ((q.map I).length:Int)) M=O (I (q.length:Int)) M by rw[Lu])) rfl rfl) rfl (by show aQ.ok (I ((q.length:Int)-1-j)) M=_;rw[e3])) (aL ?_);rw[LL,Lh (by omega)];show Z (I _)=Z (I (q.getD (q.length-1-((j:Int)).toNat) 0));rw[Mq,Nc,Lh (by omega)];rfl)
  have em:(aw 0 q.length).map (λd=>match d with | .int i=>I (q.getD (q.length-1-i.toNat) 0)|d=>d)=q.reverse.map I:=by
   apply TZ
   ·simp[aw]
   ·intro i q1 q2;simp[aw] at q1 q2 ⊢;rw[Lh (by omega)];rfl
  rw[em] at ec;exact cm (cA (az ln rfl) (by omega)) ec (by rw[Lu,NI];omega)
def yG {rs:List (List Int)}{way:Int}{n:Nat}{M:aF}(h0:0<=way)(h1:way<4)(hn:n<rs.length)(hr:∀r∈rs,r.length<=1000) :
  gj [ut rs,I way,I n] M=O (U ((gU rs way n).map I)) M:=by
 rcases GY h0 h1 with rfl|rfl|rfl|rfl
 ·exact ir rfl rfl hn hr
 ·exact ir rfl rfl hn hr
 ·exact ir rfl rfl hn hr
 ·exact ir rfl rfl hn hr
def vf (ok:eC mm s)(hn:n∈cM s row)(hl:E.length<=900) :
  ∃y:Nat->Option D,du [x0,Z s.d,Z (I row),x3,x4,x5,Z (R M.length),Z (I n),x8,x9,x10,x11,x12] (M++[.lst E]) =
   O (.nx [x0,Z s.d,Z (I row),x3,x4,x5,Z (R M.length),Z (I n),y 0,y 1,y 2,y 3,y 4]) (M++[.lst (E++[bn s row n])]):=by
 obtain⟨i,rfl,hi,m,gm,lz⟩:=l8 hn;have om:=ok.movers m (LU gm);unfold lO at lz;cases hs:m.shape with
 | none=>rw[hs] at lz;cases lz
 | some k=>
  rw[hs] at lz;have hk:=om.s k hs;have gb:s.book[k]?=Z s.book[k]:=Lh hk;have gd:s.book.getD k []=s.book[k]:=by rw[Nc,gb];rfl
  have lz:(decide (m.y<=row)&&decide (row<m.y+((s.book.getD k []).length:Int)))=true:=lz;rw[gd,LN,decide_eq_true_eq,decide_eq_true_eq] at lz;obtain⟨b1,b2,bw,b3,b4,b5⟩:=ok.book _ (Qb hk);obtain⟨r,hr⟩:=L3 (by omega:0<=row-m.y);have ls:=yG (rs:=s.book[k]) (way:=m.turn) (n:=r) (M:=M++[.lst E]) om.t.1 (by have:=om.t.2;omega) (by omega) (λq hq=>by have:=(b5 q hq).1;omega);have es:bn s row (i:Int)=U [I i,I m.x,I m.rank,U ((gU s.book[k] m.turn r).map I)]:=by
   unfold bn;rw[Mq,gm];have:(row-m.y).toNat=r:=by omega
   simp only[hs,VG,gd,this]
  rw[es];clear es;have md:m.d=U [I k,I m.x,I m.y,I m.rank,I m.turn]:=by unfold Mv.d;rw[hs]
  refine⟨λi=>[Z (I k),Z (I m.x),Z (I m.y),Z (I m.rank),Z (I m.turn)][i]?.getD Y,?_⟩;have k1:dH (cb [8,9,10,11,12]) (g2 aB (g2 aB (ae 1) (gC (I 3))) (ae 7)) [x0,Z s.d,Z (I row),x3,x4,x5,Z (R M.length),Z (I i),x8,x9,x10,x11,x12] (M++[.lst E])=O (.nx [x0,Z s.d,Z (I row),x3,x4,x5,Z (R M.length),Z (I i),Z (I k),Z (I m.x),Z (I m.y),Z (I m.rank),Z (I m.turn)]) (M++[.lst E]):=
   mB (aj (aj rfl rfl (aL (k:=3) rfl)) rfl (aL (by rw[LL,gm];exact congrArg Z md))) rfl
  unfold du;refine(aA k1).trans (j8 (oE (go:=ae 6) rfl (cV (ds:=[I i,I m.x,I m.rank,U ((gU s.book[k] m.turn r).map I)]) (az rfl (az rfl (az rfl (az (oB (aj (aj rfl rfl (aL (k:=2) rfl)) rfl (aL (by rw[LL,gb];rfl))) rfl (aj rfl rfl (by show aQ.ok (I (row-m.y)) _=_;rw[hr])) ls) rfl))))) (by omega)))
abbrev lt (s:kq)(row w hh g m:Int)(i:Nat)(y:Nat->Option D):fO:=[Z (U [I w,I hh,I g,I m]),Z s.d,Z (I row),Z (bi s.floor),Z (U [I s.sx,I s.sy]),Z (U ((aM s row).map I)),Z (R i),y 0,y 1,y 2,y 3,y 4,y 5]
def uh (ok:eC mm s)(hm:mm<=900)(hw:1<=w/\w<=900)(hM:gN M) :
  jf [U [I w,I hh,I g,I m],s.d,I row] M=O (cC s w m row) M:=by
 obtain⟨f1,f2,fw,f3,f4,f5⟩:=ok.floor;have hfl:0<=(row+s.sy) % (s.floor.length:Int)/\(row+s.sy) % (s.floor.length:Int)<s.floor.length:=⟨OI _ (by omega),NY _ (by omega)⟩;obtain⟨r,hr⟩:=L3 hfl.1;have hr2:r<s.floor.length:=by omega
 have er:aM s row=s.floor[r]:=by
  unfold aM;rw[hr,Mq,Nc,Lh hr2];rfl
 obtain⟨lw,lk⟩:=f5 _ (Qb hr2);rw[<-er] at lw lk;obtain⟨ys,ey,ly,qy⟩:=tv (cM s row) Y (Z m);have ll:(cM s row).length<=900:=by
  have:=iS s row s.movers.length;have:=ok.ml;unfold cM;omega
 have etk:kR s m row=ys.map (bn s row):=by unfold kR;rw[ey,OT];rfl
 have ely:=AY (row:=row) (M:=M++[.lst []]) ok hm (zQ hM rfl);obtain⟨ρ',N,⟨y,rfl,rfl⟩,ef⟩:=j4 (ds0:=ys.map I) (s:=aX 7) (body:=du)
  (W:=λi ρ N=>∃y:Nat->Option D,ρ=lt s row w hh g m M.length y/\N=M++[.lst ((ys.take i).map (bn s row))])
  (ys.map I) 0 (λj d hd ρ N hW=>by
   obtain⟨y,rfl,rfl⟩:=hW;rw[MB];rw[LL] at hd;cases hj:ys[j]? with
   | none=>rw[hj] at hd;cases hd
   | some n=>
    rw[hj] at hd;cases hd;obtain⟨z,e⟩:=vf (M:=M) (E:=(ys.take j).map (bn s row)) (x0:=Z (U [I w,I hh,I g,I m])) (x3:=Z (bi s.floor)) (x4:=Z (U [I s.sx,I s.sy])) (x5:=Z (U ((aM s row).map I))) (x8:=y 1) (x9:=y 2) (x10:=y 3) (x11:=y 4) (x12:=y 5) ok (qy n (LU hj)) (by rw[Lu,Nd];omega);refine⟨_,_,_,rfl,e,λi=>match i with|0=>Z (I n)|i+1=>z i,rfl,?_⟩;rw[Ud,hj,Rm];rfl)
  (lt s row w hh g m M.length λ_=>Y) (M++[.lst []]) ⟨λ_=>Y,rfl,rfl⟩
 rw[Lu,MB,T7] at ef;have ec:=iN (ds0:=aw 0 w.toNat) (ge:=fg) (ρ:=lt s row w hh g m M.length y) (f:=λd=>match d with | .int x=>I (aZ s row x)|d=>d) (M:=M++[.lst (ys.map (bn s row))]) (aw 0 w.toNat) (λd hd=>by
   obtain⟨x,rfl,x0,x1⟩:=jb hd;have hx:0<=(x+s.sx) % ((aM s row).length:Int)/\(x+s.sx) % ((aM s row).length:Int)<(aM s row).length:=⟨OI _ (by omega),NY _ (by omega)⟩;obtain⟨q,hq⟩:=L3 hx.1;refine aj (f:=aB) rfl (aj (f:=dq) (aj rfl (aj rfl rfl (aL (k:=0) rfl)) rfl) (mn (l:=aM s row) rfl) ((iA (by omega) _).trans (by rw[hq]))) (aL ?_);show _=Z (I (aZ s row x));unfold aZ;rw[hq,Mq,LL,Nc,Lh (by omega)];rfl)
 have em:(aw 0 w.toNat).map (λd=>match d with | .int x=>I (aZ s row x)|d=>d)=(Lw w.toNat).map λ(x:Nat)=>I (aZ s row x):=by
  unfold aw;rw[OT];apply Pp;intro x _;simp
 rw[em] at ec;show jO M.length (aI (dR [Z (U [I w,I hh,I g,I m]),Z s.d,Z (I row),Y,Y,Y,Y,Y,Y,Y,Y,Y,Y] M))=_;unfold dR;have k1:dH (cb [3,4]) (yh (ae 1) eE (jH (gC (I 2)))) [Z (U [I w,I hh,I g,I m]),Z s.d,Z (I row),Y,Y,Y,Y,Y,Y,Y,Y,Y,Y] M=O (.nx [Z (U [I w,I hh,I g,I m]),Z s.d,Z (I row),Z (bi s.floor),Z (U [I s.sx,I s.sy]),Y,Y,Y,Y,Y,Y,Y,Y]) M:=rfl;have k2:aD 5 (g2 aB (ae 3) (g2 dq (g2 bQ (ae 2) (g2 aB (ae 4) (gC (I 1)))) (aE bh (aa (ae 3) ag)))) [Z (U [I w,I hh,I g,I m]),Z s.d,Z (I row),Z (bi s.floor),Z (U [I s.sx,I s.sy]),Y,Y,Y,Y,Y,Y,Y,Y] M=O (.nx [Z (U [I w,I hh,I g,I m]),Z s.d,Z (I row),Z (bi s.floor),Z (U [I s.sx,I s.sy]),Z (U ((aM s row).map I)),Y,Y,Y,Y,Y,Y,Y]) M:=
  aO (aj (f:=aB) rfl (aj (f:=dq) (aj rfl (aj rfl rfl (aL (k:=1) rfl)) rfl) (mn (l:=s.floor) rfl) ((iA (by omega) M).trans (by rw[hr]))) (aL (by rw[LL,Lh hr2,er];rfl)))
 have ki:cN (yh (av 2 dP (aa (ae 1) (aa (ae 2) ag))) eE (jH (g2 aB (ae 0) (gC (I 3))))) (lt s row w hh g m M.length λ_=>Y) (M++[.lst []])=O ⟨ys.map I,Y⟩ (M++[.lst []]):=by
  have kc:yh (av 2 dP (aa (ae 1) (aa (ae 2) ag))) eE (jH (g2 aB (ae 0) (gC (I 3)))) (lt s row w hh g m M.length λ_=>Y) (M++[.lst []])=O (.lst (ys.map I)) (M++[.lst []]):=by
   unfold yh;rw[cE rfl rfl ely,am,<-ey];rfl
  unfold cN;rw[kc,am];rfl
 have kf:=fL (sg:=aX 7) ki ef;have k6:∀b:GS,ay (aD 6 (jw ag)) b [Z (U [I w,I hh,I g,I m]),Z s.d,Z (I row),Z (bi s.floor),Z (U [I s.sx,I s.sy]),Z (U ((aM s row).map I)),Y,Y,Y,Y,Y,Y,Y] M=b (lt s row w hh g m M.length λ_=>Y) (M++[.lst []]):=λb=>aA (aO kX)
 rw[aA k1,aA k2,k6,aA kf];have kr:bo (bC (aa (aE bW (aa (aP (bt (aa (g2 aB (ae 0) (gC (I 0))) ag)) aW fg aC) ag)) (aa (aE bW (aa (ae 6) ag)) ag))) (lt s row w hh g m M.length y) (M++[.lst (ys.map (bn s row))])=O (.rt (cC s w m row)) (M++[.lst (ys.map (bn s row))]):=by
  unfold cC;rw[etk];refine cu (cV (az (gZ (cm (cA (n:=w.toNat) (az (aj rfl rfl ((aL (k:=0) rfl).trans (by rw[RI (by omega)]))) rfl) (by omega)) ec (by rw[Lu,Mk];omega)) rfl) (az (gZ rfl ?_) rfl)));unfold bW;dsimp only;rw[show bx (R M.length) (M++[.lst (ys.map (bn s row))])=Z (ys.map (bn s row)) from by unfold bx;dsimp only;rw[nC]]
 rw[kr];refine Bh ?_ hM;unfold cC;rw[etk];have h1:((ys.map (bn s row)).all (bu 28))=true:=by rw[Vb];exact Lx.mpr λn _=>u9 n
 have h2:(((Lw w.toNat).map λ(x:Nat)=>I (aZ s row x)).all (bu 28))=true:=by rw[Vb];exact Lx.mpr λn _=>rfl
 show(bu 29 (U _)&&(bu 29 (U _)&&true))=true;rw[mZ,mZ,h1,h2];rfl
def jL (x fl:Int)(cs:List Sn)(k:Int):Prop:=(cs=[]/\k=fl)\/∃b∈cs,(∀s∈cs,uV b s)/\k=if 1<=b.r\/fl=0 then bp x b else fl
def tq:∃k,jL x fl cs k/\fI [I fl,.lst (cs.map (mW x))] M=O (I k) M:=by
 rcases yU (fl:=fl) (cs:=cs) with⟨e,h⟩|⟨b,hb,hl,h⟩
 ·exact⟨fl,.inl ⟨e,rfl⟩,h⟩
 ·exact⟨_,.inr ⟨b,hb,hl,rfl⟩,h⟩
def jL.rng {k:Int}(h:jL x fl cs k)(hf:0<=fl/\fl<=15)(hc:∀q∈cs,0<=bp x q/\bp x q<=15):0<=k/\k<=15:=by
 rcases h with⟨_,rfl⟩|⟨b,hb,_,rfl⟩
 ·exact hf
 ·split
  ·exact hc b hb
  ·exact hf
def gY (x:Int)(s:Sn):D:=U [I s.r,I (0-s.n),I (bp x s)]
def Jj (a b c d e f:Int):HT.lexLt [a,b,c] [d,e,f]=decide (a<d\/(a=d/\(b<e\/(b=e/\c<f)))):=by
 by_cases h1:a<d <;> by_cases h2:a=d <;> by_cases h3:b<e <;> by_cases h4:b=e <;> by_cases h5:c<f <;> simp[HT.lexLt,h1,h2,h3,h4,h5] <;> omega
theorem vX:∀(cs:List Sn) (b:Sn),∃b',b'∈b::cs/\(∀s∈b::cs,uV b' s)/\nB (cs.map (gY x)) (gY x b) [b.r,0-b.n,bp x b]=Z (gY x b')
 | [],b=>⟨b,Lz ..,wD b,rfl⟩
 | s::r,b=>by
  have hi:fG (gY x s)=Z [s.r,0-s.n,bp x s]:=rfl
  by_cases h:b.r<s.r\/(b.r=s.r/\(0-b.n<0-s.n\/(0-b.n=0-s.n/\bp x b<bp x s)))
  ·obtain⟨b',h1,h2,h3⟩:=vX r s;refine⟨b',LH _ h1,λt ht=>?_,?_⟩
   ·rcases L1.mp ht with z|z
    ·subst z;have:=h2 s (Lz ..);unfold uV at *;omega
    ·exact h2 t z
   ·rw[Nf];unfold nB;rw[hi];dsimp only;rw[Jj,if_pos (decide_eq_true h)];exact h3
  ·obtain⟨b',h1,h2,h3⟩:=vX r b;have hb:=h2 b (Lz ..);refine⟨b',?_,λt ht=>?_,?_⟩
   ·rcases L1.mp h1 with z|z
    ·exact z▸Lz ..
    ·exact LH _ (LH _ z)
   ·rcases L1.mp ht with z|z
    ·exact z▸hb
    ·rcases L1.mp z with z|z
     ·subst z;unfold uV at *;omega
     ·exact h2 t (LH _ z)
   ·rw[Nf];unfold nB;rw[hi];dsimp only;rw[Jj,if_neg (by simpa using h)];exact h3
def xA (hE:E.length<1000) :
  cK [x0,Z (I x),Z (R M.length),Z (I s.n),Z (I s.x),Z (I s.r),Z (U (s.ks.map I))] (M++[.lst E]) =
   O (.nx [x0,Z (I x),Z (R M.length),Z (I s.n),Z (I s.x),Z (I s.r),Z (U (s.ks.map I))]) (M++[.lst (E++if bp x s=0 then [] else [gY x s])]):=by
 unfold cK;have ln:aE bh (aa (ae 6) ag) [x0,Z (I x),Z (R M.length),Z (I s.n),Z (I s.x),Z (I s.r),Z (U (s.ks.map I))] (M++[.lst E])=O (I (s.ks.length:Int)) (M++[.lst E]):=by
  refine gZ (a:=ae 6) rfl ?_;show aQ.ok (I ((s.ks.map I).length:Int)) _=_;rw[Lu]
 have c0:=aT (aj (f:=wn) (a:=ae 4) (b:=ae 1) (ρ:=[x0,Z (I x),Z (R M.length),Z (I s.n),Z (I s.x),Z (I s.r),Z (U (s.ks.map I))]) (M:=M++[.lst E]) (o:=O (G (decide (s.x<=x))) (M++[.lst E])) rfl rfl rfl);have c1:=aT (aj (f:=oQ) (a:=ae 1) (o:=O (G (decide (x<s.x+(s.ks.length:Int)))) (M++[.lst E])) rfl (aj (f:=bQ) (a:=ae 4) rfl ln rfl) rfl)
 by_cases h:s.x<=x/\x<s.x+(s.ks.length:Int)
 ·obtain⟨i,hi,ai⟩:=uy h.1 h.2;have ix:g2 aB (ae 6) (g2 eM (ae 1) (ae 4)) [x0,Z (I x),Z (R M.length),Z (I s.n),Z (I s.x),Z (I s.r),Z (U (s.ks.map I))] (M++[.lst E])=O (I (bp x s)) (M++[.lst E]):=by
   refine aj (f:=aB) (a:=ae 6) (y:=I (x-s.x)) rfl rfl ?_;rw[hi];show(match nD (s.ks.map I) (i:Int) with|some d=>aQ.ok d (M++[MO.lst E])|none=>.bad)=_;rw[ai]
  have t:=c8 c0 λ_=>c8 c1 λ_=>aT (aj (f:=cD true) ix (b:=gC (I 0)) (y:=I 0) rfl (uF (bp x s) 0 _))
  rw[decide_eq_true h.1,decide_eq_true h.2] at t
  by_cases hz:bp x s=0
  ·rw[decide_eq_true hz] at t;rw[if_pos hz,Mo];exact(fE t).trans rfl
  ·rw[decide_eq_false hz] at t;rw[if_neg hz];exact(ju t).trans (j8 (oE (go:=ae 2) (d:=gY x s) rfl (cV (az rfl (az rfl (az ix rfl)))) (by omega)))
 ·rw[if_pos (qF h),Mo]
  by_cases h1:s.x<=x
  ·rw[decide_eq_false λh2=>h ⟨h1,h2⟩] at c1;exact(fE ((c8 c0 λ_=>c8 (y:=true) c1 λz=>by cases z).trans (by rw[Wp,T6]))).trans rfl
  ·rw[decide_eq_false h1] at c0;exact(fE ((c8 (y:=true) c0 λz=>by cases z).trans rfl)).trans rfl
def vL {ss:List Sn}(hs:ss.length<=900)(hM:gN M) :
  jh [U [fl,U (ss.map Sn.d)],I x] M=O (.lst ((ij x ss).map (gY x))) M:=by
 obtain⟨ρ',M',⟨x5,x6,x7,x8,rfl,rfl⟩,ef⟩:=j4 (ds0:=ss.map Sn.d) (s:=cb [3,4,5,6]) (body:=cK)
  (W:=λi ρ N=>∃x5 x6 x7 x8,ρ=[Z (U [fl,U (ss.map Sn.d)]),Z (I x),Z (R M.length),x5,x6,x7,x8]/\N=M++[.lst ((ij x (ss.take i)).map (gY x))])
  (ss.map Sn.d) 0 (λj d hd ρ N hW=>by
   obtain⟨x5,x6,x7,x8,rfl,rfl⟩:=hW;rw[MB];rw[LL] at hd;cases gs:ss[j]? with
   | none=>rw[gs] at hd;cases hd
   | some s=>
   rw[gs] at hd;cases hd;rw[sL gs];have ll:((ij x (ss.take j)).map (gY x)).length<1000:=by
    rw[Lu];exact Nv (qW x _) (by rw[Nd];omega)
   refine⟨_,_,_,rfl,xA ll,_,_,_,_,rfl,?_⟩;rw[Rm]
   by_cases hz:bp x s=0
   ·rw[if_pos hz,if_pos hz];rfl
   ·rw[if_neg hz,if_neg hz];rfl)
  [Z (U [fl,U (ss.map Sn.d)]),Z (I x),Z (R M.length),Y,Y,Y,Y] (M++[.lst []]) ⟨_,_,_,_,rfl,rfl⟩
 have e0:(0:Nat)+(ss.map Sn.d).length=ss.length:=by simp
 rw[e0,T7] at ef;have rt:=mh (M:=M) (xs:=(ij x ss).map (gY x)) (wO (λ_=>rfl) _) hM;show jO M.length (aI (eD [Z (U [fl,U (ss.map Sn.d)]),Z (I x),Y,Y,Y,Y,Y] M))=_;unfold eD;have kf:dJ (cN (g2 aB (ae 0) (gC (I 1)))) (cb [3,4,5,6]) cK [Z (U [fl,U (ss.map Sn.d)]),Z (I x),Z (R M.length),Y,Y,Y,Y] (M++[.lst []])=_:=fL (t:=⟨ss.map Sn.d,Y⟩) rfl ef;rw[aA (aO kX:aD 2 (jw ag) _ M=O (.nx [Z (U [fl,U (ss.map Sn.d)]),Z (I x),Z (R M.length),Y,Y,Y,Y]) (M++[.lst []])),aA kf];exact rt
theorem lE:∀cs:List Sn,bJ ⟨ds0,Y⟩ dD fD (cs.map (gY x)) ρ M=O ((cs.filter λs=>decide (0<s.r)).map (gY x)) M
 | []=>rfl
 | s::r=>by
  have ih:=lE (x:=x) (ρ:=ρ) (M:=M) (ds0:=ds0) r;have a0:∀a b c:D,nD [a,b,c] 0=Z a:=λ_ _ _=>rfl
  have et:dD (Z (gY x s)::ρ) M=O (decide (0<s.r)) M:=by simp_arith [dD,gY,a0]
  have ee:fD (Z (gY x s)::ρ) M=O (gY x s) M:=rfl;rw[Nf]
  by_cases h:0<s.r
  ·rw[PN (by simpa using h),Nf];simp[bJ,jR,et,ee,ih,h]
  ·rw[PP (by simpa using h)];simp[bJ,jR,et,ih,h]
theorem rf (x:Int)(n:Nat):∀cs:List Sn,a9 (n+1) (cs.map (gY x))=true
 | []=>rfl
 | s::r=>by
  rw[Nf];show(bN (n+1) (gY x s)&&a9 (n+1) (r.map (gY x)))=true;rw[rf x n r];rfl
def zx (cs:List Sn):dG (cs.map (gY x)) []=cs.isEmpty:=by
 cases cs <;> rfl
def v8 (h:cs≠[]):∃b∈cs,(∀s∈cs,uV b s)/\AZ (cs.map (gY x))=Z (U [I b.r,I (0-b.n),I (bp x b)]):=by
 cases cs with
 | nil=>exact absurd rfl h
 | cons s r=>
  obtain⟨b,h1,h2,h3⟩:=vX r s;exact⟨b,h1,h2,h3⟩
def xN {fs:List D}{ss:List Sn}(hs:ss.length<=900)(hM:gN M)(hf:nD fs x=Z (I fl)) :
  ∃k:Int,jL x fl (ij x ss) k/\gM [U [U fs,U (ss.map Sn.d)],I x] M=O (I k) M:=by
 have e2:=vL (fl:=U fs) (ss:=ss) (x:=x) (M:=M) hs hM;have ea:=λρ=>lE (x:=x) (ρ:=ρ) (M:=M) (ds0:=(ij x ss).map (gY x)) (ij x ss)
 have lc:(ij x ss).length<=1000000:=LG (qW x ss) (by omega);have lf:((ij x ss).filter λs=>decide (0<s.r)).length<=1000000:=LG (VH _ _) lc;have qn:=zx (x:=x) (ij x ss);have qf:=zx (x:=x) ((ij x ss).filter λs=>decide (0<s.r));have k1:=rf x 38 (ij x ss);have k2:=rf x 38 ((ij x ss).filter λs=>decide (0<s.r));generalize hfl:((ij x ss).filter λs=>decide (0<s.r))=ab at *;generalize hcs:ij x ss=cs at *;have mab:∀s,s∈ab↔s∈cs/\0<s.r:=λs=>by rw[<-hfl];simp
 generalize hr0:D.tup [D.tup fs,D.tup (ss.map Sn.d)]=rh at *;have ix:∀(ρ:fO),ρ[0]?=Z (Z rh)->ρ[1]?=Z (Z (I x))->g2 aB (g2 aB (ae 0) (gC (I 0))) (ae 1) ρ M=O (I fl) M:=λρ h0 h1=>by
  refine aj (x:=U fs) (y:=I x) (M1:=M) (M2:=M) (aj (x:=rh) (y:=I 0) (by unfold ae;rw[h0]) rfl (by rw[<-hr0];exact aL (k:=0) rfl)) (by unfold ae;rw[h1]) ?_;unfold aB bx;dsimp only;rw[hf]
 have en:∀(neg:Bool) (l:List Sn),a9 39 (l.map (gY x))=true->dG (l.map (gY x)) []=l.isEmpty->cD neg (.lst (l.map (gY x))) (.lst []) M=O (G (l.isEmpty != neg)) M:=λneg l c e=>by
  unfold cD;show(if(a9 39 (l.map (gY x))&&true)=true then aQ.ok (D.bl (dG (l.map (gY x)) [] != neg)) M else .bad)=_;rw[c,e];rfl
 have mx:∀(l:List Sn) (i:Nat) (ρ:fO),l≠[]->ρ[i]?=Z (Z (.lst (l.map (gY x))))->∃b,b∈l/\(∀s,s∈l->uV b s)/\g2 aB (aE iR (aa (ae i) ag)) (gC (I 2)) ρ M=O (I (bp x b)) M:=λl i ρ hl hv=>by
  obtain⟨b,b1,b2,e⟩:=v8 (x:=x) hl;refine⟨b,b1,b2,aj (x:=U [I b.r,I (0-b.n),I (bp x b)]) (y:=I 2) (M1:=M) (M2:=M) (gZ (x:=.lst (l.map (gY x))) (M1:=M) (by unfold ae;rw[hv]) ?_) rfl (aL (k:=2) rfl)⟩;unfold iR;dsimp only;rw[e]
 have run:∀o:aQ Fl,ay (gW (aK (g2 (cD true) (ae 3) (eU ag))) (bo (g2 aB (aE iR (aa (ae 3) ag)) (gC (I 2)))) bf) (ay (gW (fK (aK (g2 (cD true) (g2 aB (g2 aB (ae 0) (gC (I 0))) (ae 1)) (gC (I 0)))) (aK (g2 (cD false) (ae 2) (eU ag)))) (bo (g2 aB (g2 aB (ae 0) (gC (I 0))) (ae 1))) bf) (bo (g2 aB (aE iR (aa (ae 2) ag)) (gC (I 2))))) [Z rh,Z (I x),Z (.lst (cs.map (gY x))),Z (.lst (ab.map (gY x)))] M=o->gM [rh,I x] M=aI o:=λo h=>by
  rw[<-h];show aI (i3 [Z rh,Z (I x),Y,Y] M)=_;unfold i3;rw[aA (aO (cE rfl rfl e2))];have c3:aP (cN (ae 2)) dD fD aC [Z rh,Z (I x),Z (.lst (cs.map (gY x))),Y] M=O (.lst (ab.map (gY x))) M:=by
   unfold aP;rw[lL (xs:=cs.map (gY x)) rfl,am];dsimp only;rw[ea,am];unfold aC;rw[if_pos (bI (by rw[Lu];exact lf))]
  show aI (ay _ _ [Z rh,Z (I x),Z (.lst (cs.map (gY x))),Y] M)=_;rw[aA (aO c3)];rfl
 have t3:=λ(b:Bool) (hb:(ab.isEmpty != true)=b)=>(aT (aj (a:=ae 3) (b:=eU ag) (ρ:=[Z rh,Z (I x),Z (.lst (cs.map (gY x))),Z (.lst (ab.map (gY x)))]) (M:=M) rfl (kO jJ) (en true ab k2 qf))).trans (by rw[hb]:aQ.ok (ab.isEmpty != true) M=O b M)
 by_cases hab:ab=[]
 ·have nb:(ab.isEmpty != true)=false:=by rw[hab];rfl
  by_cases hz:fl=0/\cs≠[]
  ·obtain⟨b,b1,b2,e⟩:=mx cs 2 [Z rh,Z (I x),Z (.lst (cs.map (gY x))),Z (.lst (ab.map (gY x)))] hz.2 rfl;refine⟨bp x b,.inr ⟨b,b1,b2,by rw[if_pos (.inr hz.1)]⟩,(run (O (.rt (I (bp x b))) M) ?_).trans rfl⟩;rw[aA ((fE (t3 false nb)).trans rfl)];have n2:(cs.isEmpty != false)=false:=by cases cs with|nil=>exact absurd rfl hz.2|cons _ _=>rfl
   have t5:=i4 (x:=false) (y:=false) (a:=aK (g2 (cD true) (g2 aB (g2 aB (ae 0) (gC (I 0))) (ae 1)) (gC (I 0)))) (aT (aj (ix [Z rh,Z (I x),Z (.lst (cs.map (gY x))),Z (.lst (ab.map (gY x)))] rfl rfl) rfl ((uF fl 0 M).trans (by rw[decide_eq_true hz.1];rfl)))) λ_=>aT (aj (a:=ae 2) (b:=eU ag) rfl (kO jJ) ((en false cs k1 qn).trans (by rw[n2])))
   rw[aA ((fE t5).trans rfl)];exact cu e
  ·refine⟨fl,?_,(run (O (.rt (I fl)) M) ?_).trans rfl⟩
   ·by_cases hc:cs=[]
    ·exact .inl ⟨hc,rfl⟩
    ·obtain⟨b,b1,b2,_⟩:=v8 (x:=x) hc;have nr:¬1<=b.r:=λz=>by
      have q:=(mab b).mpr ⟨b1,by omega⟩;rw[hab] at q;cases q
     exact .inr ⟨b,b1,b2,by rw[if_neg (λz=>z.elim nr λz=>hz ⟨z,hc⟩)]⟩
   ·rw[aA ((fE (t3 false nb)).trans rfl)];have t5:fK (aK (g2 (cD true) (g2 aB (g2 aB (ae 0) (gC (I 0))) (ae 1)) (gC (I 0)))) (aK (g2 (cD false) (ae 2) (eU ag))) [Z rh,Z (I x),Z (.lst (cs.map (gY x))),Z (.lst (ab.map (gY x)))] M=O true M:=by
     have a:=aT (aj (ix [Z rh,Z (I x),Z (.lst (cs.map (gY x))),Z (.lst (ab.map (gY x)))] rfl rfl) (b:=gC (I 0)) (y:=I 0) rfl (uF fl 0 M))
     by_cases z:fl=0
     ·have hc:cs=[]:=O7 λq=>hz ⟨z,q⟩
      rw[decide_eq_true z] at a;exact i4 (x:=false) (y:=true) a λ_=>aT (aj (a:=ae 2) (b:=eU ag) rfl (kO jJ) ((en false cs k1 qn).trans (by rw[hc];rfl)))
     ·rw[decide_eq_false z] at a;exact i4 (x:=true) (y:=true) a λq=>by cases q
    rw[nh ((ju t5).trans (cu (ix _ rfl rfl)))]
 ·obtain⟨b,b1,b2,e⟩:=mx ab 3 [Z rh,Z (I x),Z (.lst (cs.map (gY x))),Z (.lst (ab.map (gY x)))] hab rfl;have bb:=(mab b).mp b1;refine⟨bp x b,.inr ⟨b,bb.1,λs hs=>?_,by rw[if_pos (.inl (by omega))]⟩,(run (O (.rt (I (bp x b))) M) ?_).trans rfl⟩
  ·by_cases q:0<s.r
   ·exact b2 s ((mab s).mpr ⟨hs,q⟩)
   ·unfold uV;have:=bb.2;omega
  ·have nb:(ab.isEmpty != true)=true:=by cases ab with|nil=>exact absurd rfl hab|cons _ _=>rfl
   exact nh ((ju (t3 true nb)).trans (cu e))
def xJ (xs:List Int)(lo hi:Option Int):List Int:=(xs.drop (HT.sIx xs.length 0 lo)).take (HT.sIx xs.length xs.length hi-HT.sIx xs.length 0 lo)
def Aa (xs:List Int)(lo hi:Option Int):kQ (xs.map I) lo hi=(xJ xs lo hi).map I:=by simp[kQ,xJ]
def A2 (xs:List Int)(lo hi:Option Int):(xJ xs lo hi).length<=xs.length:=by
 unfold xJ;rw[Nd,OE];omega
def Ac {lo hi:Option Int}(h:y∈xJ xs lo hi):y∈xs:=OA (OB h)
def oW (s:kq)(row n:Int):Sn:=match s.movers[n.toNat]? with
 | some m=>⟨n,m.x,m.rank,gU (s.book.getD (m.shape.getD 0) []) m.turn (row-m.y).toNat⟩
 | none=>⟨n,0,0,[]⟩
def fQ (s:kq)(m row:Int):List Sn:=(xJ (cM s row) Y (Z m)).map (oW s row)
def An (h:n∈cM s row):bn s row n=(oW s row n).d:=by
 obtain⟨i,rfl,hi,m,gm,lz⟩:=l8 h;unfold bn oW;rw[Mq,gm];rfl
def xS (s:kq)(m row:Int):kR s m row=(fQ s m row).map Sn.d:=by
 unfold kR fQ;rw[Aa,OT,OT];apply Pp;intro n hn;exact An (Ac hn)
def Cs (s:kq)(w row:Int):List Int:=(Lw w.toNat).map λ(x:Nat)=>aZ s row x
def xf (s:kq)(w m row:Int):cC s w m row=U [U ((Cs s w row).map I),U ((fQ s m row).map Sn.d)]:=by
 unfold cC;rw[xS];unfold Cs;rw[OT];rfl
def Ey (ok:eC mm s)(hm:mm<=12):(cM s row).length<=12:=by
 have:=iS s row s.movers.length;have:=ok.ml;unfold cM;omega
def B2 (ok:eC mm s)(hm:mm<=12):(fQ s m row).length<=12:=by
 unfold fQ;rw[Lu];exact LG (A2 _ _ _) (Ey ok hm)
def BN (ok:eC mm s):∀k∈Cs s w row,0<=k/\k<=15:=by
 intro k hk;obtain⟨x,_,rfl⟩:=OP.mp hk;obtain⟨f1,f2,fw,f3,f4,f5⟩:=ok.floor;unfold aZ;have fr:∀k∈aM s row,0<=k/\k<=15:=by
  intro k hk;unfold aM at hk;rw[Nc] at hk;cases q:s.floor[((row+s.sy) % (s.floor.length:Int)).toNat]? with
  | none=>rw[q] at hk;cases hk
  | some r=>
   rw[q] at hk;exact(f5 r (LU q)).2 k hk
 rw[Nc];cases q:(aM s row)[((↑x+s.sx) % ((aM s row).length:Int)).toNat]? with
 | none=>exact⟨by simp,by simp⟩
 | some r=>exact fr r (LU q)
def xp (h:∀r∈rs,∀k∈r,0<=k/\k<=15):∀k∈gU rs way n,0<=k/\k<=15:=by
 have g:∀(i:Nat),∀k∈rs.getD i [],0<=k/\k<=15:=by
  intro i k hk;rw[Nc] at hk;cases q:rs[i]? with
  | none=>rw[q] at hk;cases hk
  | some r=>rw[q] at hk;exact h r (LU q) k hk
 intro k hk;unfold gU at hk;dsimp only at hk;split at hk
 ·rw[MN] at hk;split at hk
  ·exact g _ k hk
  ·exact g _ k hk
 ·split at hk
  ·exact g _ k hk
  ·exact g _ k hk
def Fv (ok:eC mm s):∀q∈fQ s m row,0<=bp x q/\bp x q<=15:=by
 intro q hq;obtain⟨n,_,rfl⟩:=OP.mp hq;have a:∀k∈(oW s row n).ks,0<=k/\k<=15:=by
  intro k hk;unfold oW at hk;split at hk
  ·refine xp (λr hr k hk=>?_) k hk;rename_i m' _ _;rw[Nc] at hr;cases e:s.book[m'.shape.getD 0]? with
   | none=>rw[e] at hr;cases hr
   | some b=>
    rw[e] at hr;obtain⟨b1,b2,bw,b3,b4,b5⟩:=ok.book b (LU e);exact(b5 r hr).2 k hk
  ·cases hk
 unfold bp;split
 ·rw[Nc];cases e:(oW s row n).ks[(x-(oW s row n).x).toNat]? with
  | none=>exact⟨by simp,by simp⟩
  | some k=>exact a k (LU e)
 ·exact⟨by simp,by simp⟩
def jL.uniq {k:Int}(h:jL x fl (ij x (fQ s m row)) k)(h':jL x fl (ij x (fQ s m row)) k'):k=k':=by
 have nf:∀b∈ij x (fQ s m row),b=oW s row b.n:=λb hb=>by
  obtain⟨n,_,rfl⟩:=OP.mp (Q8.mp hb).1;have e:(oW s row n).n=n:=by
   unfold oW;split <;> rfl
  rw[e]
 rcases h with⟨e,rfl⟩|⟨b,hb,hl,rfl⟩
 ·rcases h' with⟨_,rfl⟩|⟨b,hb,_⟩
  ·rfl
  ·rw[e] at hb;cases hb
 ·rcases h' with⟨e,rfl⟩|⟨b',hb',hl',rfl⟩
  ·rw[e] at hb;cases hb
  ·have a1:uV b b':=hl b' hb';have a2:uV b' b:=hl' b hb;unfold uV at a1 a2;have e:b.n=b'.n:=by omega
   have e2:b=b':=by rw[nf b hb,nf b' hb',e]
   rw[e2]
def uL (s:kq)(m row x:Int):∃k,jL x (aZ s row x) (ij x (fQ s m row)) k:=by
 obtain⟨k,h,_⟩:=tq (x:=x) (fl:=aZ s row x) (cs:=ij x (fQ s m row)) (M:=[]);exact⟨k,h⟩
def inkV (s:kq) (m row x:Int):Int:=YS (uL s m row x)
def qY (s:kq)(m row x:Int):jL x (aZ s row x) (ij x (fQ s m row)) (inkV s m row x):=X1 (uL s m row x)
def mE {x:Nat}(hx:(x:Int)<w):(Cs s w row)[x]?=Z (aZ s row x):=by
 unfold Cs;rw[LL,Ob (by omega)];rfl
def AB {s:kq}{mm w m row:Int}{x:Nat}(ok:eC mm s)(hx:(x:Int)<w):0<=inkV s m row x/\inkV s m row x<=15:=
 (qY s m row x).rng (BN (w:=w) ok _ (LU (mE hx))) λq hq=>Fv ok q (Q8.mp hq).1
def ur {s:kq}{mm w m row:Int}{x:Nat}{M:aF}(ok:eC mm s)(hm:mm<=12)(hx:(x:Int)<w)(hM:gN M) :
  oN [cC s w m row,I x] M=O (I (inkV s m row x)) M/\gM [cC s w m row,I x] M=O (I (inkV s m row x)) M:=by
 have hf:nD ((Cs s w row).map I) (x:Int)=Z (I (aZ s row x)):=kg (by rw[LL,mE hx];rfl);have hs:(fQ s m row).length<=900:=LG (B2 ok hm) (by decide);obtain⟨k,h1,h2⟩:=xN (M:=M) hs hM hf;obtain⟨k2,h3,h4⟩:=tq (x:=x) (fl:=aZ s row x) (cs:=ij x (fQ s m row)) (M:=M);have e1:=uX (fl:=U ((Cs s w row).map I)) (ss:=fQ s m row) (x:=x) (M:=M) hs hM;cases jL.uniq h1 (qY s m row x);cases jL.uniq h3 (qY s m row x);rw[xf];refine⟨?_,h2⟩;show aI (lx [Z (U [U ((Cs s w row).map I),U ((fQ s m row).map Sn.d)]),Z (I x),Y,Y] M)=_;unfold lx;exact congrArg aI ((aA (mB rfl rfl)).trans (cu (cE (aj (x:=U ((Cs s w row).map I)) (y:=I x) rfl rfl (aL (by rw[LL,mE hx];rfl))) (cE rfl rfl e1) h4)))
def inkR (s:kq) (w m row:Int):List Int:=(Lw w.toNat).map λ(x:Nat)=>inkV s m row x
def inksL (s:kq) (w h m:Int):List (List Int):=(Lw h.toNat).map λ(r:Nat)=>inkR s w m r
def bF (r:List Int):D:=.lst (r.map I)
def ba (rs:List (List Int)):D:=.lst (rs.map bF)
def lP (h:g ρ M=O (I w) M)(h0:0<=w)(h1:w<=1000):bt (aa g ag) ρ M=O ⟨aw 0 w.toNat,Y⟩ M:=
 cA (az (d:=I (w.toNat:Int)) (by rw[RI h0];exact h) rfl) (by omega)
def Bg {f:Int->D}:(aw 0 n).map (λd=>match d with | .int x=>f x|d=>d)=(Lw n).map λ(x:Nat)=>f x:=by
 unfold aw;rw[OT];apply Pp;intro x _;simp
def jP (f:Int->D)(h:∀x:Nat,x<n->ge (Z (I x)::ρ) M=O (f x) M):bJ ⟨aw 0 n,Y⟩ aW ge (aw 0 n) ρ M=O ((Lw n).map λ(x:Nat)=>f x) M:=by
 rw[<-Bg];refine iN (aw 0 n) λd hd=>?_
 obtain⟨x,rfl,x0,x1⟩:=jb hd;obtain⟨j,rfl⟩:=L3 x0;exact h j (by omega)
def wC:(Lw w.toNat).map (λ(x:Nat)=>I (inkV s m row x))=(inkR s w m row).map I:=by
 unfold inkR;rw[OT];rfl
def tw:(Lw h.toNat).map (λ(r:Nat)=>D.lst ((inkR s w m r).map I))=(inksL s w h m).map bF:=by
 unfold inksL;rw[OT];rfl
theorem mw {f g:α->D}:∀l:List α,(∀a∈l,ge (Z (f a)::ρ) M=O (g a) M)->bJ ⟨ds0,Y⟩ aW ge (l.map f) ρ M=O (l.map g) M
 | [],_=>rfl
 | a::l,h=>by
  rw[Nf,Nf,bJ,if_pos (jR ..)];show(match ge (Z (f a)::ρ) M with | .ok e M2=>(bJ ⟨ds0,Y⟩ aW ge (l.map f) ρ M2).bind λes M3=>O (e::es) M3|_=>.bad)=_;rw[h a Lz];dsimp only;rw[mw l λb hb=>h b (LH _ hb),am]
def vY (ok:eC mm s)(hm:mm<=12)(hw:1<=w/\w<=900)(hh:1<=h/\h<=900)(hM:gN M) :
  cW [U [I w,I h,I g,I m],s.d] M=O (ba (inksL s w h m)) M:=by
 have c1:=jP (ge:=d9) (ρ:=[Z (U [I w,I h,I g,I m]),Z s.d,Y]) (M:=M) (n:=h.toNat) (λr=>cC s w m r) λr _=>oB (x:=U [I w,I h,I g,I m]) (y:=s.d) (z:=I r) rfl rfl rfl (uh ok (by omega) hw hM)
 generalize hT:(Lw h.toNat).map (λ(r:Nat)=>cC s w m (r:Int))=T at c1;have kr:∀r:Nat,cO (Z (cC s w m r)::[Z (U [I w,I h,I g,I m]),Z s.d,Z (.lst T)]) M=O (.lst ((inkR s w m r).map I)) M:=λr=>by
  have c2:=jP (ge:=dQ) (ρ:=[Z (cC s w m r),Z (U [I w,I h,I g,I m]),Z s.d,Z (.lst T)]) (M:=M) (n:=w.toNat) (λx=>I (inkV s m r x)) λx hx=>cE (x:=cC s w m r) (y:=I x) rfl rfl (ur ok hm (by omega) hM).2
  rw[wC] at c2;exact cm (lP (aj (x:=U [I w,I h,I g,I m]) (y:=I 0) rfl rfl (aL (k:=0) rfl)) (by omega) (by omega)) c2 (by rw[Lu];unfold inkR;rw[Lu,Mk];omega)
 have c3:∀ds0:List D,bJ ⟨ds0,Y⟩ aW cO T [Z (U [I w,I h,I g,I m]),Z s.d,Z (.lst T)] M=O ((inksL s w h m).map bF) M:=λds0=>by
  rw[<-tw,<-hT];exact mw _ λr _=>by rw[hT];exact kr r
 show aI (cY [Z (U [I w,I h,I g,I m]),Z s.d,Y] M)=_;unfold cY;refine congrArg aI ((aA (aO (cm (lP (aj (x:=U [I w,I h,I g,I m]) (y:=I 1) rfl rfl (aL (k:=1) rfl)) (by omega) (by omega)) c1 (by rw[<-hT,Lu,Mk];omega)))).trans (cu (cm (lL rfl) (c3 _) (by rw[Lu];unfold inksL;rw[Lu,Mk];omega))))
def o7 (ok:eC mm s)(hm:mm<=12)(hw:1<=w/\w<=900)(hh:1<=h/\h<=900)(hmo:0<=m/\m<=12)(hM:gN M) :
  cX [U [I w,I h,I g,I m],s.d] M=O (ba (inksL s w h m)) M:=by
 have c1:=jP (ge:=iC) (ρ:=[Z (U [I w,I h,I g,I m]),Z s.d,Z (I w),Z (I h),Z (I g),Z (I m),Y]) (M:=M) (n:=h.toNat) (λr=>cC s w m r) λr _=>oB (x:=U [I w,I h,I g,I m]) (y:=s.d) (z:=I r) rfl rfl rfl (AR ok (by omega) hw hmo hM)
 generalize hT:(Lw h.toNat).map (λ(r:Nat)=>cC s w m (r:Int))=T at c1;have kr:∀r:Nat,eZ (Z (cC s w m r)::[Z (U [I w,I h,I g,I m]),Z s.d,Z (I w),Z (I h),Z (I g),Z (I m),Z (.lst T)]) M=O (.lst ((inkR s w m r).map I)) M:=λr=>by
  have c2:=jP (ge:=iG) (ρ:=[Z (cC s w m r),Z (U [I w,I h,I g,I m]),Z s.d,Z (I w),Z (I h),Z (I g),Z (I m),Z (.lst T)]) (M:=M) (n:=w.toNat) (λx=>I (inkV s m r x)) λx hx=>cE (x:=cC s w m r) (y:=I x) rfl rfl (ur ok hm (by omega) hM).1
  rw[wC] at c2;exact cm (lP rfl (by omega) (by omega)) c2 (by rw[Lu];unfold inkR;rw[Lu,Mk];omega)
 have c3:∀ds0:List D,bJ ⟨ds0,Y⟩ aW eZ T [Z (U [I w,I h,I g,I m]),Z s.d,Z (I w),Z (I h),Z (I g),Z (I m),Z (.lst T)] M=O ((inksL s w h m).map bF) M:=λds0=>by
  rw[<-tw,<-hT];exact mw _ λr _=>by rw[hT];exact kr r
 show aI (gq [Z (U [I w,I h,I g,I m]),Z s.d,Y,Y,Y,Y,Y] M)=_;unfold gq;refine congrArg aI ((aA (mB rfl rfl)).trans ((aA (aO (cm (lP rfl (by omega) (by omega)) c1 (by rw[<-hT,Lu,Mk];omega)))).trans (cu (cm (lL rfl) (c3 _) (by rw[Lu];unfold inksL;rw[Lu,Mk];omega)))))
def cy (r:List Int):MO:=.lst (r.map I)
def Hw {i k:Nat}(h:M[i]?=Z (.lst xs))(hk:xs[k]?=Z d):aB (R i) (I k) M=O d M:=by
 have a:=kg (xs:=xs) (j:=k) hk;unfold aB bx;dsimp only;rw[h];dsimp only;rw[a]
theorem iV:∀a b:List Int,dG (a.map I) (b.map I)=decide (a=b)
 | [],[]=>rfl
 | [],_::_=>rfl
 | _::_,[]=>rfl
 | x::a,y::b=>by
  show((x==y)&&dG (a.map I) (b.map I))=_;rw[iV a b]
  by_cases h:x=y
  ·subst h;simp
  ·simp[h]
theorem pW:∀a b:List (List Int),dG (a.map bF) (b.map bF)=decide (a=b)
 | [],[]=>rfl
 | [],_::_=>rfl
 | _::_,[]=>rfl
 | x::a,y::b=>by
  show(dG (x.map I) (y.map I)&&dG (a.map bF) (b.map bF))=_;rw[iV,pW a b]
  by_cases h:x=y
  ·subst h;simp
  ·simp[h]
theorem oz (n:Nat):∀a:List Int,a9 n (a.map I)=true
 | []=>rfl
 | x::a=>oz n a
theorem uB (n:Nat):∀a:List (List Int),a9 (n+1) (a.map bF)=true
 | []=>rfl
 | x::a=>by
  show(a9 n (x.map I)&&a9 (n+1) (a.map bF))=true;rw[oz,uB n a];rfl
theorem tB {f:α->D}{g:α->List D}:∀(l:List α),(∀a∈l,∃ρ1,sg (f a) (Ms n Y++ρ)=Z ρ1/\gb ρ1 M=O (g a) M)->aY ⟨ds0,Y⟩ n sg aW gb (l.map f) ρ M=O (l.flatMap g) M
 | [],_=>rfl
 | a::l,h=>by
  obtain⟨ρ1,e1,e2⟩:=h a Lz;rw[Nf,flatMap_cons,aY,if_pos jR,e1];show(match gb ρ1 M with | .ok e M2=>(aY ⟨ds0,Y⟩ n sg aW gb (l.map f) ρ M2).bind λes M3=>O (e++es) M3|_=>.bad)=_;rw[e2];dsimp only;rw[tB l λb hb=>h b (LH _ hb),am]
def IJ {f g:Nat->D}(hx:xs.length=n)(hy:ys.length=n)(h:∀j,j<n->xs[j]?=Z (f j)/\ys[j]?=Z (g j)):dL (fM xs ys)=(Lw n).map λ(j:Nat)=>D.tup [I j,U [f j,g j]]:=by
 have lz:(fM xs ys).length=n:=by rw[jV (by omega),hx]
 apply Of;intro j
 by_cases hj:j<n
 ·rw[LL,Ob hj];have hj2:j<(dL (fM xs ys)).length:=by rw[dW,lz];exact hj
  have e:=Lh hj2;obtain⟨x,e1,e2⟩:=kj e;obtain⟨a,b,e3,e4,e5⟩:=n8 e1;obtain⟨h1,h2⟩:=h j hj;rw[h1] at e3;rw[h2] at e4;cases e3;cases e4;rw[e,e2,e5];rfl
 ·rw[NC (by rw[dW,lz];omega),NC (by rw[Lu,Mk];omega)]
def kN (M:aF)(d:D)(q:List Int):Prop:=d=bF q\/∃k,d=R k/\M[k]?=Z (cy q)
def kN.ix (h:kN M d q)(hx:x<q.length):aB d (I x) M=O (I (q.getD x 0)) M:=by
 have e:(q.map I)[x]?=Z (I (q.getD x 0)):=by rw[LL,Nc,Lh hx];rfl
 rcases h with rfl|⟨k,rfl,hk⟩
 ·exact gO e
 ·exact Hw hk e
def kN.zip {a:List Int}(h:kN M d q)(hl:a.length=q.length):∃t:jx,t.ok M=true/\t.ds=fM (a.map I) (q.map I)/\vH [bF a,d] M=O t M:=by
 have l:(a.map I).length=(q.map I).length:=by rw[Lu,Lu,hl]
 rcases h with rfl|⟨k,rfl,hk⟩
 ·exact⟨⟨_,Y⟩,rfl,rfl,if_pos l⟩
 ·refine⟨⟨_,Z (k,q.map I)⟩,?_,rfl,?_⟩
  ·show(match M[k]? with|some (.lst xs)=>jr xs (q.map I)|_=>false)=true;rw[hk];exact eV _
  ·show(match M[k]? with|some (.lst ys)=>if(a.map I).length=ys.length then aQ.ok (jx.mk (fM (a.map I) ys) (Z (k,ys))) M else .bad|_=>.bad)=_;rw[hk];exact if_pos l
def kN.now (h:kN M d q):DL.now d M=bF q:=by
 rcases h with rfl|⟨k,rfl,hk⟩
 ·rfl
 ·show(match M[k]? with|some (.lst xs)=>D.lst xs|_=>R k)=_;rw[hk];rfl
def kN.app (h:kN M d q):kN (M++E) d q:=by
 rcases h with h|⟨k,e,hk⟩
 ·exact .inl h
 ·exact .inr ⟨k,e,by rw[LY (Lj.mp hk).1];exact hk⟩
structure jc (M:aF)(ds:List D)(P:List (List Int)):Prop where
 len:ds.length=P.length
 row:∀(r:Nat) (d:D) (q:List Int),ds[r]?=Z d->P[r]?=Z q->kN M d q
def jc.at (h:jc M ds P)(hr:r<P.length):∃d,ds[r]?=Z d/\kN M d (P.getD r []):=by
 have hd:r<ds.length:=by rw[h.len];exact hr
 exact⟨ds[r],Lh hd,by rw[Nc,Lh hr];exact h.row r _ _ (Lh hd) (Lh hr)⟩
def jc.app (h:jc M ds P):jc (M++E) ds P:=⟨h.len,λr d q a b=>(h.row r d q a b).app⟩
def jc.rows (M:aF)(P:List (List Int)):jc M (P.map bF) P:=⟨by rw[Lu],λr d q a b=>by
 rw[LL,b] at a;cases a;exact .inl rfl⟩
def jc.now (h:jc M ds P):rQ (.lst ds) M=ba P:=by
 show D.lst (ds.map λx=>DL.now x M)=_;have e:ds.map (λx=>DL.now x M)=P.map bF:=by
  apply Of;intro r;rw[LL,LL]
  by_cases hr:r<P.length
  ·obtain⟨d,e1,e2⟩:=h.at hr;rw[e1,Lh hr];rw[Nc,Lh hr] at e2;exact congrArg Z e2.now
  ·rw[NC (by rw[h.len];omega),NC (by omega)];rfl
 rw[e];rfl
def Gh {a:List (List Int)}(hx:rQ x M=ba a)(hy:rQ y M=ba b):A4 neg x y M=O (G (decide (a=b) != neg)) M:=by
 unfold A4;rw[hx,hy];have c:∀a,bN 40 (ba a)=true:=λa=>uB 38 a
 rw[c,c];show aQ.ok (D.bl (dG (a.map bF) (b.map bF) != neg)) M=_;rw[pW]
structure eQ (P:List (List Int))(w h:Nat):Prop where
 len:P.length=h
 row:∀q∈P,q.length=w
def eQ.at (ok:eQ P w h)(hr:r<h):P[r]?=Z (P.getD r [])/\(P.getD r []).length=w:=by
 have hr':r<P.length:=by rw[ok.len];exact hr
 have e:P.getD r []=P[r]:=by rw[Nc,Lh hr'];rfl
 rw[e];exact⟨Lh hr',ok.row _ (Qb hr')⟩
def CL {M M1:aF}{i n:Nat}(h:ga ρ M=O [I ((i:Int)+1),I n] M1)(hi:i<=1000)(hn:n<=1000):fP ga ρ M=O ⟨aw ((i:Int)+1) (n-(i+1)),Y⟩ M1:=by
 unfold fP;rw[h,am,BZ ⟨by omega,by omega,by omega,by omega⟩];rw[show((n:Int)-((i:Int)+1)).toNat=n-(i+1) by omega]
theorem jN {f:α->D}{v:α->Option D}{W0:Nat->fO->Prop}{t:jx}(ht:t.ok M=true):∀(l:List α) (i:Nat) (ρ:fO),W0 i ρ->(∀j a,l[j]?=Z a->∀ρ,W0 (i+j) ρ->∃ρ1,sg (f a) ρ=Z ρ1/\((∃d,v a=Z d/\body ρ1 M=O (.rt d) M)\/(v a=Y/\∃ρ2,W0 (i+j+1) ρ2/\body ρ1 M=O (.nx ρ2) M)))->
  (∃d,l.findSome? v=Z d/\eO t sg body (l.map f) ρ M=O (.rt d) M)\/(l.findSome? v=Y/\∃ρ',W0 (i+l.length) ρ'/\eO t sg body (l.map f) ρ M=O (.nx ρ') M)
 | [],i,ρ,hR,_=>.inr ⟨rfl,ρ,hR,by
  show(if t.ok M=true then aQ.ok (Fl.nx ρ) M else .bad)=_;rw[if_pos ht]⟩
 | a::l,i,ρ,hR,h=>by
  obtain⟨ρ1,h0,h1⟩:=h 0 a rfl ρ hR;rw[Nf,eO,if_pos ht,h0,T9];dsimp only;rcases h1 with⟨d,e1,e2⟩|⟨e1,ρ2,r2,e2⟩
  ·rw[e1,e2,am];exact .inl ⟨d,rfl,rfl⟩
  ·rw[e1,e2,am];have k:=jN ht l (i+1) ρ2 r2 λj b hb ρ hr=>by
    have q:=h (j+1) b hb ρ;rw[show i+(j+1)=i+1+j by omega] at q;exact q hr
   rw[show i+(a::l).length=i+1+l.length by rw[Mm];omega];exact k
theorem Hj {f:α->Option β}{g:β->γ}:∀l:List α,(l.findSome? f).map g=l.findSome? λa=>(f a).map g
 | []=>rfl
 | a::l=>by
  rw[T9,T9];cases f a with
  | some b=>rfl
  | none=>exact Hj l
def bad (a q:List Int)(i j:Nat):Bool:=decide (a.getD i 0=a.getD j 0)&&!decide (q.getD i 0=q.getD j 0)
def F6 (a q:List Int)(i j:Nat):Option (Nat×Nat):=if bad a q i (i+1+j) then Z (i,i+1+j) else Y
def G7 (a q:List Int)(i:Nat):Option (Nat×Nat):=(Lw (a.length-(i+1))).findSome? (F6 a q i)
def tF (a q:List Int):Option (Nat×Nat):=(Lw a.length).findSome? (G7 a q)
theorem nO (lo:Int)(n:Nat):aw lo n=(Lw n).map λ(j:Nat)=>I (lo+(j:Int)):=rfl
def pX {a:List Int}{mk:Nat×Nat->D}{W0:fO->Prop}(la:a.length<=1000)(hR:W0 ρ)
  (h1:∀i:Nat,i<a.length->∀ρ,W0 ρ->∃ρ1:Option D->fO,∃x0,sg (I i) ρ=Z (ρ1 x0)/\(∀x,W0 (ρ1 x))/\(∀x,ga (ρ1 x) M=O [I ((i:Int)+1),I a.length] M)/\(∀(x:Option D) (j:Nat),sh (I j) (ρ1 x)=Z (ρ1 (Z (I j))))/\
   ∀j:Nat,j<a.length->body (ρ1 (Z (I j))) M=if bad a q i j then O (.rt (mk (i,j))) M else O (.nx (ρ1 (Z (I j)))) M) :
  (∃p,tF a q=Z p/\eO ⟨aw 0 a.length,Y⟩ sg (dJ (fP ga) sh body) (aw 0 a.length) ρ M=O (.rt (mk p)) M)\/(tF a q=Y/\∃ρ',W0 ρ'/\eO ⟨aw 0 a.length,Y⟩ sg (dJ (fP ga) sh body) (aw 0 a.length) ρ M=O (.nx ρ') M):=by
 have k:=jN (f:=λ(i:Nat)=>I (0+(i:Int))) (v:=λi=>(G7 a q i).map mk) (W0:=λ_=>W0) (sg:=sg) (body:=dJ (fP ga) sh body) (M:=M) (t:=⟨aw 0 a.length,Y⟩) rfl (Lw a.length) 0 ρ hR λi i' hi ρ hr=>by
  obtain⟨hl,e⟩:=Lj.mp hi;rw[Rq] at e;subst e;rw[Mk] at hl;obtain⟨ρ1,x0,s0,r1,g1,s1,b1⟩:=h1 i hl ρ hr;refine⟨ρ1 x0,by rw[SZ];exact s0,?_⟩;have k2:=jN (f:=λ(j:Nat)=>I ((i:Int)+1+(j:Int))) (v:=λj=>(F6 a q i j).map mk) (W0:=λ_ ρ=>∃x,ρ=ρ1 x) (sg:=sh) (body:=body) (M:=M) (t:=⟨aw ((i:Int)+1) (a.length-(i+1)),Y⟩) rfl (Lw (a.length-(i+1))) 0 (ρ1 x0) ⟨x0,rfl⟩ λj j' hj ρ hr=>by
   obtain⟨hl2,e⟩:=Lj.mp hj;rw[Rq] at e;subst e;rw[Mk] at hl2;obtain⟨x,rfl⟩:=hr;rw[show(i:Int)+1+(j:Int)=((i+1+j:Nat):Int) by omega];refine⟨_,s1 x (i+1+j),?_⟩;have b:=b1 (i+1+j) (by omega);unfold F6;cases z:bad a q i (i+1+j) with
   | true=>exact .inl ⟨_,rfl,by rw[b,z];rfl⟩
   | false=>exact .inr ⟨rfl,_,⟨_,rfl⟩,by rw[b,z];rfl⟩
  rw[<-nO,<-Hj] at k2;have kf:=λo=>fL (o:=o) (sg:=sh) (b:=body) (CL (g1 x0) (by omega) (by omega))
  rcases k2 with⟨d,e1,e2⟩|⟨e1,ρ',⟨x,rfl⟩,e2⟩
  ·exact .inl ⟨d,e1,kf _ e2⟩
  ·exact .inr ⟨e1,_,r1 x,kf _ e2⟩
 rw[<-nO,<-Hj] at k;unfold tF;rcases k with⟨d,e1,e2⟩|⟨e1,ρ',r',e2⟩
 ·obtain⟨p,h,rfl⟩:=NQ.mp e1;exact .inl ⟨p,h,e2⟩
 ·exact .inr ⟨Q1.mp e1,ρ',r',e2⟩
def wN (e1:g1 ρ M=O (I x) M)(e2:g2' ρ M=O (I y) M)(e3:g3 ρ M=O (I u) M)(e4:g4 ρ M=O (I v) M):cH (aK (g2 (cD false) g1 g2')) (aK (g2 (cD true) g3 g4)) ρ M=O (decide (x=y)&&!decide (u=v)) M:=
 c8 (aT (aj e1 e2 (wd _ _ M))) λ_=>aT (aj e3 e4 (uF _ _ M))
def j9 {M:aF}{q:List Int}{x:Nat}(hx:x<q.length):aB (bF q) (I x) M=O (I (q.getD x 0)) M:=(show kN M (bF q) q from .inl rfl).ix hx
def zG (p:Nat×Nat):D:=U [I p.1,I p.2]
def Kj:Option (Nat×Nat)->D
 | none=>.non
 | some p=>zG p
def pv {a q:List Int}{d:D}{M:aF}(la:a.length<=1000)(lq:q.length=a.length)(h:kN M d q):jn [bF a,d] M=O (Kj (tF a q)) M:=by
 have ln:∀x y,aE bh (aa (ae 0) ag) [Z (bF a),Z d,x,y] M=O (I a.length) M:=λx y=>by
  refine gZ (x:=bF a) rfl ?_;show aQ.ok (I ((a.map I).length:Int)) M=_;rw[Lu]
 have k:=pX (a:=a) (q:=q) (mk:=zG) (W0:=λρ=>∃x y,ρ=[Z (bF a),Z d,x,y]) (M:=M) (ga:=aa (g2 bQ (ae 2) (gC (I 1))) (aa (aE bh (aa (ae 0) ag)) ag)) (sg:=aX 2) (sh:=aX 3) (body:=dk) (ρ:=[Z (bF a),Z d,Y,Y]) la ⟨_,_,rfl⟩ λi hi ρ hr=>by
  obtain⟨x,y,rfl⟩:=hr;refine⟨λy=>[Z (bF a),Z d,Z (I i),y],y,rfl,λ_=>⟨_,_,rfl⟩,λy=>az (d:=I ((i:Int)+1)) rfl (az (ln _ _) rfl),λ_ _=>rfl,λj hj=>?_⟩;have t:=wN (ρ:=[Z (bF a),Z d,Z (I i),Z (I j)]) (M:=M) (g1:=g2 aB (ae 0) (ae 2)) (g2':=g2 aB (ae 0) (ae 3)) (g3:=g2 aB (ae 1) (ae 2)) (g4:=g2 aB (ae 1) (ae 3)) (aj rfl rfl (j9 hi)) (aj rfl rfl (j9 hj)) (aj rfl rfl (h.ix (by omega))) (aj rfl rfl (h.ix (by omega)));unfold dk;unfold bad;cases z:(decide (a.getD i 0=a.getD j 0)&&!decide (q.getD i 0=q.getD j 0)) with
  | true=>exact(ju (t.trans (by rw[z]))).trans (cu (cV rfl))
  | false=>exact(fE (t.trans (by rw[z]))).trans rfl
 show aI (fT [Z (bF a),Z d,Y,Y] M)=_;unfold fT iE;have kf:=λo=>fL (o:=o) (gi:=bt (aa (aE bh (aa (ae 0) ag)) ag)) (sg:=aX 2) (b:=dJ (fP (aa (g2 bQ (ae 2) (gC (I 1))) (aa (aE bh (aa (ae 0) ag)) ag))) (aX 3) dk) (cA (n:=a.length) (az (ln Y Y) rfl) (by omega))
 rcases k with⟨p,e1,e2⟩|⟨e1,ρ',r',e2⟩
 ·rw[e1];exact congrArg aI (nh (kf _ e2))
 ·rw[e1];exact congrArg aI ((aA (kf _ e2)).trans rfl)
def zR (r:Nat)(a q:List Int):List (List Int):=(Lw a.length).map λx=>[(r:Int),a.getD x 0,q.getD x 0]
def zT (L P:List (List Int))(n:Nat):List (List Int):=(Lw n).flatMap λr=>zR r (L.getD r []) (P.getD r [])
def wm (L P:List (List Int))(n:Nat):zT L P (n+1)=zT L P n++zR n (L.getD n []) (P.getD n []):=by
 unfold zT;rw[WJ,flatMap_append];simp
def u7 (r:Nat)(a q:List Int):(zR r a q).length=a.length:=by
 unfold zR;rw[Lu,Mk]
theorem oH (oi:eQ L w h):∀n,n<=h->(zT L P n).length=n*w
 | 0,_=>by rw[Nat.zero_mul];rfl
 | n+1,hn=>by rw[wm,Ll,oH oi n (by omega),u7,(oi.at (by omega)).2,Nat.succ_mul]
def Dw:∀z∈zT L P n,∃i y,z=i::y:=λz hz=>by
 unfold zT at hz;obtain⟨r,_,h⟩:=mem_flatMap.mp hz;obtain⟨x,_,rfl⟩:=OP.mp h;exact⟨_,_,rfl⟩
theorem oO:∀l:List Int,kW (l.map I)=Z l
 | []=>rfl
 | x::l=>by
  show(kW (l.map I)).map (x::·)=_;rw[oO l];rfl
theorem wy:∀{l:List (List Int)},(∀z∈l,∃i y,z=i::y)->bO (l.map aV)=Z l
 | [],_=>rfl
 | z::l,h=>by
  obtain⟨i,y,rfl⟩:=h z Lz;have e:fG (aV (i::y))=Z (i::y):=oO _;show(match fG (aV (i::y)),bO (l.map aV) with|some (i::z),Z zs=>Z ((i::z)::zs)|_,_=>Y)=_;rw[e,wy λz hz=>h z (LH _ hz)]
def B5 (T:List (List Int)):List (List Int):=gV (T.foldl dz [])
def rg (T:List (List Int)):(B5 T).length<=T.length:=by
 have:=iU T [];rw[NK] at this;unfold B5;rw[(ii _).length_eq];omega
def wG (h:∀z∈T,∃i y,z=i::y)(hl:T.length<2047):pE mk (T.map aV) M=mk ((B5 T).map aV) M:=by
 unfold pE;rw[wy h];dsimp only;rw[Lu,if_pos hl];rfl
def mG (L P:List (List Int))(h:Nat):Option (Nat×Nat×Nat):=(Lw h).findSome? λr=>(tF (L.getD r []) (P.getD r [])).map λp=>(r,p)
def bD (p:Nat×Nat×Nat):D:=U [S "bars",I p.1,I p.2.1,I p.2.2]
def pJ (L P:List (List Int))(h:Nat):D:=match mG L P h with
 | some p=>bD p
 | none=>U [S "wishes",.lst ((B5 (zT L P h)).map aV)]
def wv (oi:eQ L w h)(hr:r<h):aB (ba L) (I r) M=O (bF (L.getD r [])) M:=gO (by rw[LL,(oi.at hr).1];rfl)
def Fh (oi:eQ L w h)(op:eQ P w h)(pd:jc M ds P)(hw:w<=40)(hh:h<=40):hZ [ba L,.lst ds] M=O (pJ L P h) M:=by
 have lI:∀x2 x3 x4 x5,aE bh (aa (ae 0) ag) [Z (ba L),Z (.lst ds),x2,x3,x4,x5] M=O (I h) M:=λx2 x3 x4 x5=>by
  refine gZ (x:=ba L) rfl ?_;show aQ.ok (I ((L.map bF).length:Int)) M=_;rw[Lu,oi.len]
 have ep:∀r,r<h->∃d,ds[r]?=Z d/\kN M d (P.getD r []):=λr hr=>pd.at (by rw[op.len];exact hr)
 have k:=jN (f:=λ(r:Nat)=>I (0+(r:Int))) (v:=λr=>((tF (L.getD r []) (P.getD r [])).map λp=>(r,p)).map bD) (W0:=λr ρ=>∃x3 x4 x5,ρ=[Z (ba L),Z (.lst ds),Z (.lst ((zT L P r).map aV)),x3,x4,x5]) (sg:=aX 3) (body:=fB) (M:=M) (t:=⟨aw 0 h,Y⟩) rfl (Lw h) 0 [Z (ba L),Z (.lst ds),Z (.lst []),Y,Y,Y] ⟨_,_,_,rfl⟩ λr r' hr ρ hρ=>by
  obtain⟨hl,e⟩:=Lj.mp hr;rw[Rq] at e;subst e;rw[Mk] at hl;rw[MB] at hρ ⊢;obtain⟨x3,x4,x5,rfl⟩:=hρ;rw[SZ];refine⟨_,rfl,?_⟩;obtain⟨d,ed,hd⟩:=ep r hl;have ei:=wv (M:=M) oi hl;have ld:aB (.lst ds) (I r) M=O d M:=gO ed;have la:(L.getD r []).length=w:=(oi.at hl).2;have lq:(P.getD r []).length=w:=(op.at hl).2;generalize ha:L.getD r []=a at ei la ⊢;generalize hq:P.getD r []=q at hd lq ⊢;generalize hW:(zT L P r).map aV=W;have lW:W.length=r*w:=by rw[<-hW,Lu,oH oi r (by omega)]
  have ln:∀x4 x5,aE bh (aa (g2 aB (ae 0) (ae 3)) ag) [Z (ba L),Z (.lst ds),Z (.lst W),Z (I r),x4,x5] M=O (I a.length) M:=λx4 x5=>by
   refine gZ (aj (x:=ba L) (y:=I r) rfl rfl ei) ?_;show aQ.ok (I ((a.map I).length:Int)) M=_;rw[Lu]
  have k:=pX (a:=a) (q:=q) (mk:=λp=>bD (r,p)) (W0:=λρ=>∃x y,ρ=[Z (ba L),Z (.lst ds),Z (.lst W),Z (I r),x,y]) (M:=M) (ga:=aa (g2 bQ (ae 4) (gC (I 1))) (aa (aE bh (aa (g2 aB (ae 0) (ae 3)) ag)) ag)) (sg:=aX 4) (sh:=aX 5) (body:=fH) (ρ:=[Z (ba L),Z (.lst ds),Z (.lst W),Z (I r),x4,x5]) (by omega) ⟨_,_,rfl⟩ λi hi ρ hr=>by
   obtain⟨x,y,rfl⟩:=hr;refine⟨λy=>[Z (ba L),Z (.lst ds),Z (.lst W),Z (I r),Z (I i),y],y,rfl,λ_=>⟨_,_,rfl⟩,λy=>az (d:=I ((i:Int)+1)) rfl (az (ln _ _) rfl),λ_ _=>rfl,λj hj=>?_⟩;have t:=wN (ρ:=[Z (ba L),Z (.lst ds),Z (.lst W),Z (I r),Z (I i),Z (I j)]) (M:=M) (g1:=g2 aB (g2 aB (ae 0) (ae 3)) (ae 4)) (g2':=g2 aB (g2 aB (ae 0) (ae 3)) (ae 5)) (g3:=g2 aB (g2 aB (ae 1) (ae 3)) (ae 4)) (g4:=g2 aB (g2 aB (ae 1) (ae 3)) (ae 5)) (aj (aj rfl rfl ei) rfl (j9 hi)) (aj (aj rfl rfl ei) rfl (j9 hj)) (aj (aj rfl rfl ld) rfl (hd.ix (by omega))) (aj (aj rfl rfl ld) rfl (hd.ix (by omega)));unfold fH;unfold bad;cases z:(decide (a.getD i 0=a.getD j 0)&&!decide (q.getD i 0=q.getD j 0)) with
   | true=>exact(ju (t.trans (by rw[z]))).trans (cu (cV rfl))
   | false=>exact(fE (t.trans (by rw[z]))).trans rfl
  have kf:=λo=>fL (o:=o) (gi:=bt (aa (aE bh (aa (g2 aB (ae 0) (ae 3)) ag)) ag)) (sg:=aX 4) (b:=dJ (fP (aa (g2 bQ (ae 4) (gC (I 1))) (aa (aE bh (aa (g2 aB (ae 0) (ae 3)) ag)) ag))) (aX 5) fH) (cA (n:=a.length) (az (ln x4 x5) rfl) (by omega))
  unfold fB jX;rcases k with⟨p,e1,e2⟩|⟨e1,ρ',⟨x,y,rfl⟩,e2⟩
  ·rw[e1];exact .inl ⟨_,rfl,nh (kf _ e2)⟩
  ·rw[e1];refine .inr ⟨rfl,_,⟨Z (I r),x,y,rfl⟩,(aA (kf _ e2)).trans (aO ?_)⟩;have c:=jP (ge:=jE) (ρ:=[Z (ba L),Z (.lst ds),Z (.lst W),Z (I r),x,y]) (M:=M) (n:=a.length) (λj=>aV [(r:Int),a.getD j.toNat 0,q.getD j.toNat 0]) λj hj=>by
    rw[Mq];exact cV (ds:=[I r,I (a.getD j 0),I (q.getD j 0)]) (az rfl (az (aj (aj rfl rfl ei) rfl (j9 hj)) (az (aj (aj rfl rfl ld) rfl (hd.ix (by omega))) rfl)))
   have em:(Lw a.length).map (λ(x:Nat)=>aV [(r:Int),a.getD ((x:Int)).toNat 0,q.getD ((x:Int)).toNat 0])=(zR r a q).map aV:=by
    unfold zR;rw[OT];exact Pp λx _=>by rw[Mq];rfl
   rw[em] at c;refine aj (x:=.lst W) (y:=.lst ((zR r a q).map aV)) rfl (cm (cA (n:=a.length) (az (ln x y) rfl) (by omega)) c (by rw[Lu,u7];omega)) ?_;show(if W.length+((zR r a q).map aV).length<=LW then aQ.ok (D.lst (W++(zR r a q).map aV)) M else .bad)=_;have:r*w<=40*40:=R6 (by omega) hw;rw[if_pos (bI (by rw[Lu,u7,lW];omega)),<-hW,wm,Rm,ha,hq]
 rw[<-nO,<-Hj] at k;have kf:=λo=>fL (o:=o) (gi:=bt (aa (aE bh (aa (ae 0) ag)) ag)) (sg:=aX 3) (b:=fB) (cA (n:=h) (az (lI (Z (.lst [])) Y Y Y) rfl) (by omega))
 show aI (jg [Z (ba L),Z (.lst ds),Y,Y,Y,Y] M)=_;unfold jg pJ mG;have k0:∀b:GS,ay (aD 2 (eU ag)) b [Z (ba L),Z (.lst ds),Y,Y,Y,Y] M=b [Z (ba L),Z (.lst ds),Z (.lst []),Y,Y,Y] M:=λb=>aA (aO (kO rfl))
 rw[k0];rcases k with⟨p,e1,e2⟩|⟨e1,ρ',⟨x,y,z,rfl⟩,e2⟩
 ·obtain⟨q,h1,rfl⟩:=NQ.mp e1;rw[h1];exact congrArg aI (nh (kf _ e2))
 ·rw[Q1.mp e1];have l1:(zT L P h).length=h*w:=oH oi h (Lr _);have l2:h*w<=40*40:=R6 hh hw;rw[Mk,MB] at e2;refine congrArg aI ((aA (kf _ e2)).trans (cu (cV (ds:=[S "wishes",.lst ((B5 (zT L P h)).map aV)]) (az rfl (az ?_ rfl)))));show pE aC ((zT L P h).map aV) M=_;rw[wG Dw (by omega)];unfold aC;rw[if_pos (bI (by rw[Lu];have:=rg (zT L P h);omega))]
theorem sG {t:jx}{f g:α->D}{W0:fO->Prop}(ht:t.ok M=true):∀(l:List α) (ρ:fO),(∀a∈l,∀ρ,W0 ρ->∃ρ1,sg (f a) ρ=Z ρ1/\W0 ρ1/\ge ρ1 M=O (g a) M)->W0 ρ->ko t sg aW ge (l.map f) ρ M=O (l.map g) M
 | [],_,_,_=>by
  show(if t.ok M=true then aQ.ok [] M else .bad)=_;rw[if_pos ht];rfl
 | a::l,ρ,h,hr=>by
  obtain⟨ρ1,e1,r1,e2⟩:=h a Lz ρ hr;rw[Nf,Nf,ko,if_pos ht,e1];show(match ge ρ1 M with | .ok e M2=>(ko t sg aW ge (l.map f) ρ1 M2).bind λes M3=>O (e::es) M3|_=>.bad)=_;rw[e2];dsimp only;rw[sG ht l ρ1 (λb hb=>h b (LH _ hb)) r1,am]
def Ef {a q:List Int}(h:a.length=q.length):fM (a.map I) (q.map I)=(Lw a.length).map λ(j:Nat)=>D.tup [I (a.getD j 0),I (q.getD j 0)]:=by
 apply Of;intro j;unfold fM;rw[Sz,LL,LL,LL]
 by_cases hj:j<a.length
 ·rw[Ob hj,Lh hj,Lh (by omega:j<q.length)];show Z (D.tup [I a[j],I q[j]])=Z (D.tup [I (a.getD j 0),I (q.getD j 0)]);rw[Nc,Nc,Lh hj,Lh (by omega:j<q.length)];rfl
 ·rw[NC (by omega:a.length<=j),NC (by omega:q.length<=j),NC (show(Lw a.length).length<=j by rw[Mk];omega)];rfl
def sw (L P:List (List Int))(h n:Nat):D:=match mG L P h with
 | some p=>bD p
 | none=>U [S "wishes",R n]
def vG (L P:List (List Int))(h:Nat):aF:=match mG L P h with
 | some _=>[]
 | none=>[.lst ((B5 (zT L P h)).map aV)]
def Al {fr st:D}(hi:cX [fr,st] M=O (ba L) M)(oi:eQ L w h)(op:eQ P w h)(pd:jc M ds P)(hw:w<=40)(hh:h<=40) :
  cR [fr,st,.lst ds] M=O (sw L P h M.length) (M++vG L P h):=by
 have lds:ds.length=h:=by rw[pd.len,op.len]
 have ep:∀r,r<h->∃d,ds[r]?=Z d/\kN M d (P.getD r []):=λr hr=>pd.at (by rw[op.len];exact hr)
 have e1:dL (fM (L.map bF) ds)=(Lw h).map λ(r:Nat)=>D.tup [I r,U [bF (L.getD r []),ds.getD r .non]]:=by
  refine IJ (by rw[Lu,oi.len]) lds λr hr=>⟨?_,?_⟩
  ·rw[LL,(oi.at hr).1];rfl
  ·obtain⟨d,ed,_⟩:=ep r hr;rw[Nc,ed];rfl
 have ez:∀ρ:fO,ae 3 ρ M=O (ba L) M->ae 2 ρ M=O (.lst ds) M->C9 (aa (ae 3) (aa (ae 2) ag)) ρ M=O ⟨(Lw h).map λ(r:Nat)=>D.tup [I r,U [bF (L.getD r []),ds.getD r .non]],Y⟩ M:=λρ h1 h2=>by
  unfold C9;rw[az h1 (az h2 rfl),am,<-e1];show(if(L.map bF).length=ds.length then aQ.ok (jx.mk (dL (fM (L.map bF) ds)) Y) M else .bad)=_;rw[if_pos (by rw[Lu,oi.len,lds])]
 have k:=jN (f:=λ(r:Nat)=>D.tup [I r,U [bF (L.getD r []),ds.getD r .non]]) (v:=λr=>((tF (L.getD r []) (P.getD r [])).map λp=>(r,p)).map bD) (W0:=λ_ ρ=>∃a b c x,ρ=[Z fr,Z st,Z (.lst ds),Z (ba L),a,b,c,x]) (sg:=jW [(aX 4),(cb [5,6])]) (body:=eI) (M:=M) (t:=⟨(Lw h).map λ(r:Nat)=>D.tup [I r,U [bF (L.getD r []),ds.getD r .non]],Y⟩) rfl (Lw h) 0 [Z fr,Z st,Z (.lst ds),Z (ba L),Y,Y,Y,Y] ⟨_,_,_,_,rfl⟩ λr r' hr ρ hρ=>by
  obtain⟨hl,e⟩:=Lj.mp hr;rw[Rq] at e;subst e;rw[Mk] at hl;obtain⟨a,b,c,x,rfl⟩:=hρ;obtain⟨d,ed,hd⟩:=ep r hl;rw[show ds.getD r .non=d by rw[Nc,ed];rfl];have fb:=pv (M:=M) (by rw[(oi.at hl).2];omega) (by rw[(oi.at hl).2,(op.at hl).2]) hd;refine⟨[Z fr,Z st,Z (.lst ds),Z (ba L),Z (I r),Z (bF (L.getD r [])),Z d,x],rfl,?_⟩;unfold eI;rw[aA (aO (cE rfl rfl fb))];cases tF (L.getD r []) (P.getD r []) with
  | none=>exact .inr ⟨rfl,_,⟨_,_,_,_,rfl⟩,(fE rfl).trans rfl⟩
  | some p=>
   refine .inl ⟨_,rfl,(ju rfl).trans (cu (aj (x:=U [S "bars",I r]) (y:=zG p) (cV rfl) rfl ?_))⟩;show(if 2+2<=LW then aQ.ok (D.tup [S "bars",I r,I p.1,I p.2]) M else .bad)=_;rw[if_pos (bI (by decide))];rfl
 rw[<-Hj] at k;have k0:∀b:GS,ay (aD 3 (av 2 cX (aa (ae 0) (aa (ae 1) ag)))) b [Z fr,Z st,Z (.lst ds),Y,Y,Y,Y,Y] M=b [Z fr,Z st,Z (.lst ds),Z (ba L),Y,Y,Y,Y] M:=λb=>aA (aO (cE rfl rfl hi))
 have kf:=λo=>fL (o:=o) (gi:=C9 (aa (ae 3) (aa (ae 2) ag))) (sg:=jW [(aX 4),(cb [5,6])]) (b:=eI) (ez [Z fr,Z st,Z (.lst ds),Z (ba L),Y,Y,Y,Y] rfl rfl)
 show aI (iq [Z fr,Z st,Z (.lst ds),Y,Y,Y,Y,Y] M)=_;unfold iq sw vG mG;rw[k0];rcases k with⟨p,h1,h2⟩|⟨h1,ρ',⟨a,b,c,x,rfl⟩,h2⟩
 ·obtain⟨q,h3,rfl⟩:=NQ.mp h1;rw[h3];show _=aQ.ok (bD q) (M++[]);rw[Mo];exact congrArg aI (nh (kf _ h2))
 ·rw[Q1.mp h1];have l1:(zT L P h).length=h*w:=oH oi h (Lr _);have l2:h*w<=40*40:=R6 hh hw;refine congrArg aI ((aA (kf _ h2)).trans (cu (cV (ds:=[S "wishes",R M.length]) (az rfl (az ?_ rfl)))));unfold ka;rw[ez _ rfl rfl,am];have cB:=tB (ds0:=(Lw h).map λ(r:Nat)=>D.tup [I r,U [bF (L.getD r []),ds.getD r .non]]) (n:=5) (sg:=jW [(aX 0),(cb [1,2])]) (gb:=rV (oC (aa (ae 1) (aa (ae 2) ag))) (cb [3,4]) aW i8) (ρ:=[Z fr,Z st,Z (.lst ds),Z (ba L),a,b,c,x]) (M:=M) (f:=λ(r:Nat)=>D.tup [I r,U [bF (L.getD r []),ds.getD r .non]]) (g:=λr=>(zR r (L.getD r []) (P.getD r [])).map aV) (Lw h) λr hr=>by
   have hl:=OJ.mp hr;obtain⟨d,ed,hd⟩:=ep r hl;rw[show ds.getD r .non=d by rw[Nc,ed];rfl];refine⟨_,rfl,?_⟩;have la:=(oi.at hl).2;have lq:=(op.at hl).2;generalize L.getD r []=A at la ⊢;generalize P.getD r []=Q at hd lq ⊢;have l3:A.length=Q.length:=by rw[la,lq]
   obtain⟨t,t1,t2,t3⟩:=hd.zip l3;have gz:oC (aa (ae 1) (aa (ae 2) ag)) [Z (I r),Z (bF A),Z d,Y,Y,Z fr,Z st,Z (.lst ds),Z (ba L),a,b,c,x] M=O t M:=by
    unfold oC;rw[az rfl (az rfl rfl),am];exact t3
   show rV _ _ _ _ [Z (I r),Z (bF A),Z d,Y,Y,Z fr,Z st,Z (.lst ds),Z (ba L),a,b,c,x] M=_;unfold rV;rw[gz];dsimp only;rw[t2,Ef l3];have em:(zR r A Q).map aV=(Lw A.length).map λ(x:Nat)=>aV [(r:Int),A.getD x 0,Q.getD x 0]:=by
    unfold zR;rw[OT];rfl
   rw[em];refine sG (W0:=λρ=>∃u v:Option D,ρ=[Z (I r),Z (bF A),Z d,u,v,Z fr,Z st,Z (.lst ds),Z (ba L),a,b,c,x]) t1 (Lw A.length) _ (λj hj ρ hρ=>?_) ⟨_,_,rfl⟩;obtain⟨u,v,rfl⟩:=hρ;exact⟨_,rfl,⟨_,_,rfl⟩,cV (ds:=[I r,I (A.getD j 0),I (Q.getD j 0)]) rfl⟩
  rw[show(Lw h).flatMap (λr=>(zR r (L.getD r []) (P.getD r [])).map aV)=(zT L P h).map aV by unfold zT;rw[map_flatMap]] at cB;show(aY _ _ _ _ _ ((Lw h).map λ(r:Nat)=>D.tup [I r,U [bF (L.getD r []),ds.getD r .non]]) [Z fr,Z st,Z (.lst ds),Z (ba L),a,b,c,x] M).bind (pE bM)=_;rw[cB,am,wG Dw (by omega)];unfold bM;rw[if_pos (bI (by rw[Lu];have:=rg (zT L P h);omega))]
def Gq {rest N:aF}(t:bV l rest N)(hi:ρ[i]?=Z (Z (R 0)))(h0:0<many)(h1:many.natAbs.log2<9000):∃f N1,0<=f/\f<many/\bV l rest N1/\∀g:GE,g ρ N=O (I many) N->av 2 ao (aa (ae i) (aa g ag)) ρ N=O (I f) N1:=by
 obtain⟨f,N1,a,b,t1,e⟩:=bj h0 h1 t;exact⟨f,N1,a,b,t1,λg hg=>cE (a:=ae i) (by unfold ae;rw[hi]) hg e⟩
def Bw (l:List Int)(i c:Int):nk (tp l i c)=true:=by
 show(bu 30 (.lst (l.map I))&&(true&&(true&&true)))=true;rw[xB,gF 28 l];rfl
theorem ui {f g:α->D}{t:jx}(ht:t.ok M=true):∀l:List α,(∀a∈l,ge (Z (f a)::ρ) M=O (g a) M)->bJ t aW ge (l.map f) ρ M=O (l.map g) M
 | [],_=>by
  show(if t.ok M=true then aQ.ok [] M else .bad)=_;rw[if_pos ht];rfl
 | a::l,h=>by
  rw[Nf,Nf,bJ,if_pos ht];show(match ge (Z (f a)::ρ) M with | .ok e M2=>(bJ t aW ge (l.map f) ρ M2).bind λes M3=>O (e::es) M3|_=>.bad)=_;rw[h a Lz];dsimp only;rw[ui ht l λb hb=>h b (LH _ hb),am]
def Br {a:D}(h0:0<=f)(h1:f<4):∃v,(v=a\/v=b\/v=c\/v=d)/\∀M,aB (.lst [a,b,c,d]) (I f) M=O v M:=by
 have:f=0\/f=1\/f=2\/f=3:=by omega
 rcases this with rfl|rfl|rfl|rfl
 ·exact⟨a,.inl rfl,λM=>gO (k:=0) rfl⟩
 ·exact⟨b,.inr (.inl rfl),λM=>gO (k:=1) rfl⟩
 ·exact⟨c,.inr (.inr (.inl rfl)),λM=>gO (k:=2) rfl⟩
 ·exact⟨d,.inr (.inr (.inr rfl)),λM=>gO (k:=3) rfl⟩
def DR {a:D}(h0:0<=f)(h1:f<2):∃v,(v=a\/v=b)/\∀M,aB (.lst [a,b]) (I f) M=O v M:=by
 have:f=0\/f=1:=by omega
 rcases this with rfl|rfl
 ·exact⟨a,.inl rfl,λM=>gO (k:=0) rfl⟩
 ·exact⟨b,.inr rfl,λM=>gO (k:=1) rfl⟩
abbrev ev (sc tn:Option D)(y:Nat->Option D):fO:=[sc,Z (R 0),tn,y 3,y 4,y 5,y 6,y 7,y 8,y 9,y 10,y 11]
def DK (w h:Nat)(g m:Int):D:=U [I w,I h,I g,I m]
structure Dr (w h:Nat)(g m:Int)(s:kq):Prop where
 w:1<=w/\w<=40
 h:1<=h/\h<=40
 m:0<=m/\m<=12
 s:eC 6 s
def Pu (rest:aF):Prop:=rest.all nk=true
def Pu.shut {rest N:aF}(h:Pu rest)(t:bV l rest N):gN N:=by
 obtain⟨i,c,_,rfl⟩:=t;refine gN.pure ?_;rw[Pl,Bw,Bool.true_and];exact h
def Pu.app {rest E:aF}(h:Pu rest)(h2:E.all nk=true):Pu (rest++E):=by
 unfold Pu;rw[all_append,h2,Xn];exact h
def vE (P:List (List Int)):(P.map cy).all nk=true:=by
 rw[Vb];exact Lx.mpr λr _=>gF 29 r
def p6 (T:List (List Int)):nk (.lst (T.map aV))=true:=by
 show(T.map aV).all (bu 30)=true;rw[Vb];exact Lx.mpr λz _=>gF 28 z
def FQ (b:GS):GS:=ay (aD 3 (av 2 de (aa (ae 1) (aa (g2 aB (eU (aa (gC (I 12)) (aa (gC (I 40)) ag))) (g2 dg (av 2 ao (aa (ae 1) (aa (gC (I 4)) ag))) (gC (I 3)))) ag)))) (ay (aD 4 (av 3 dO (aa (ae 1) (aa (ae 3) (aa (gC (I 6)) ag))))) (ay (aD 5 (av 2 cW (aa (ae 3) (aa (ae 4) ag)))) b))
def DU (b:GS):GS:=ay (aD 6 (aP (cN (ae 5)) aW m6 aC)) (ay (aD 7 (jF (bt (aa (aE bh (aa (ae 5) ag)) ag)) mD aC)) b)
def E4 (b:GS):GS:=ay (dJ (bt (aa (g2 aB (eU (aa (gC (I 0)) (aa (gC (I 0)) (aa (gC (I 1)) (aa (gC (I 2)) ag))))) (av 2 ao (aa (ae 1) (aa (gC (I 4)) ag)))) ag)) (aX 8) mV) b
def Iw:GS:=ay (gW (fK (fv (gK (jA "list" (g2 aB (ae 11) (gC (I 1)))))) (fv (gK (aE oX (aa (aP (cN (g2 aB (ae 11) (gC (I 1)))) aW m3 aC) ag))))) (bo (gC (G false))) bf) (ay (gP (jC (g2 aB (ae 11) (gC (I 1))) (bC (aa (gC (I 0)) (aa (gC (I 0)) (aa (gC (I 0)) ag)))))) (gW (aK (g2 (mH true) (av 3 cR (aa (ae 3) (aa (ae 4) (aa (ae 7) ag)))) (ae 10))) (bo (gC (G false))) bf))
def Ed:GS:=ay (aD 9 (aP (cN (ae 7)) aW mP aC)) (ay (aD 10 (av 2 hZ (aa (ae 5) (aa (ae 7) ag)))) (ay (aD 11 (av 3 cR (aa (ae 3) (aa (ae 4) (aa (ae 9) ag))))) (ay (gW (fK (fv (gK (jA "tuple" (ae 11)))) (fK (aK (g2 (mH true) (ae 11) (ae 10))) (aK (g2 (A4 true) (ae 9) (ae 7))))) (bo (gC (G false))) bf) (gW (aK (g2 (cD false) (g2 aB (ae 11) (gC (I 0))) (gC (S "wishes")))) Iw bf))))
theorem xX:sA=FQ (DU (E4 Ed)):=rfl
def uC {w h:Nat}:eQ (inksL s w h m) w h:=⟨by unfold inksL;rw[Lu,Mk,Mq],λq e=>by
 unfold inksL at e;obtain⟨r,_,rfl⟩:=OP.mp e;unfold inkR;rw[Lu,Mk,Mq]⟩
def yn (ok:eC mm s):∀q∈inksL s w h m,∀k∈q,0<=k/\k<=15:=λq e k hk=>by
 unfold inksL at e;obtain⟨r,_,rfl⟩:=OP.mp e;unfold inkR at hk;obtain⟨x,hx,rfl⟩:=OP.mp hk;have:=OJ.mp hx;exact AB (w:=(w:Int)) ok (by omega)
abbrev eA (w h:Nat) (g m:Int) (s:kq) (y:Nat->Option D) (i:Nat):Option D:=match i with
 | 3=>Z (DK w h g m)
 | 4=>Z s.d
 | 5=>Z (ba (inksL s w h m))
 | i=>y i
def BB {rest M:aF}(t:bV l rest M)(hr:Pu rest):∃(w h:Nat) (g m:Int) (s:kq) (M':aF),Dr w h g m s/\bV l rest M'/\∀b:GS,FQ b (ev sc tn y) M=b (ev sc tn (eA w h g m s y)) M':=by
 obtain⟨f,M0,a0,b0,t0,e0⟩:=Gq (ρ:=ev sc tn y) (i:=1) (many:=4) t rfl (by decide) (aJ (by decide) (by decide));obtain⟨v,hv,ev0⟩:=DR (a:=I 12) (b:=I 40) (f:=f / 3) (by omega) (by omega);obtain⟨n,hn,rfl⟩:∃n:Int,(1<=n/\n<=40)/\v=I n:=by rcases hv with rfl|rfl <;> exact⟨_,by omega,rfl⟩
 obtain⟨w,h,g,m,M1,hw,hh,hg,hm,t1,e1⟩:=zv (most:=n) hn.1 (by omega) t0;obtain⟨w,rfl⟩:=L3 (by omega:0<=w);obtain⟨h,rfl⟩:=L3 (by omega:0<=h);obtain⟨s,M2,os,t2,e2⟩:=AD (w:=w) (hh:=h) (more:=[I g,I m]) (mm:=6) (by omega) (by omega) (by decide) t1;have e3:=vY (g:=g) (m:=m) (M:=M2) os (by decide) (w:=(w:Int)) (h:=(h:Int)) (by omega) (by omega) (hr.shut t2);refine⟨w,h,g,m,s,M2,⟨by omega,by omega,hm,os⟩,t2,λb=>?_⟩;unfold FQ;have k1:∀b:GS,ay (aD 3 (av 2 de (aa (ae 1) (aa (g2 aB (eU (aa (gC (I 12)) (aa (gC (I 40)) ag))) (g2 dg (av 2 ao (aa (ae 1) (aa (gC (I 4)) ag))) (gC (I 3)))) ag)))) b (ev sc tn y) M=b [sc,Z (R 0),tn,Z (DK w h g m),y 4,y 5,y 6,y 7,y 8,y 9,y 10,y 11] M1:=λb=>
  aA (aO (cE rfl (aj (f:=aB) (kO (ds:=[I 12,I 40]) rfl) (aj (e0 _ rfl) rfl (sk (by decide) (by decide) M0)) (ev0 M0)) e1))
 have k2:∀b:GS,ay (aD 4 (av 3 dO (aa (ae 1) (aa (ae 3) (aa (gC (I 6)) ag))))) b [sc,Z (R 0),tn,Z (DK w h g m),y 4,y 5,y 6,y 7,y 8,y 9,y 10,y 11] M1=b [sc,Z (R 0),tn,Z (DK w h g m),Z s.d,y 5,y 6,y 7,y 8,y 9,y 10,y 11] M2:=λb=>aA (aO (oB rfl rfl rfl e2))
 rw[k1,k2];exact aA (aO (cE rfl rfl e3))
def A5 (h:x<n):yB n (x:Int)=Z x:=by
 unfold yB;rw[if_pos (by omega),if_pos (by omega),Mq]
theorem tH {f:α->D}{g:α->List Int}:∀(l:List α) (E:aF),(∀a∈l,∀E,ge (Z (f a)::ρ) (M++E)=O (R (M++E).length) (M++E++[cy (g a)]))->
  bJ ⟨ds0,Y⟩ aW ge (l.map f) ρ (M++E)=O ((Lw l.length).map λj=>D.mr ((M++E).length+j)) (M++E++l.map λa=>cy (g a))
 | [],E,_=>by
  show aQ.ok [] (M++E)=aQ.ok [] (M++E++[]);rw[Mo]
 | a::l,E,h=>by
  rw[Nf,bJ,if_pos jR];show(match ge (Z (f a)::ρ) (M++E) with | .ok e M2=>(bJ ⟨ds0,Y⟩ aW ge (l.map f) ρ M2).bind λes M3=>O (e::es) M3|_=>.bad)=_;rw[h a Lz];dsimp only;have k:=tH (ds0:=ds0) l (E++[cy (g a)]) λb hb=>h b (LH _ hb)
  rw[<-LC] at k;rw[k,am,Mm,range_succ_eq_map,Nf,OT,Nf,QY];have e1:(Lw l.length).map (λj=>D.mr ((M++E++[cy (g a)]).length+j))=(Lw l.length).map ((λj=>D.mr ((M++E).length+j)) ∘ Nat.succ):=Pp λj _=>by
   show D.mr ((M++E++[cy (g a)]).length+j)=D.mr ((M++E).length+(j+1));rw[Ll (as:=M++E),NO,NN,U8 1 j]
  rw[e1,LC (M++E)];rfl
def ve (n k:Nat):List D:=(Lw k).map λj=>D.mr (n+j)
def CY (n k:Nat):D:=.lst (ve n k)
def Eb:jc (A++(P.map cy++B)) (ve A.length P.length) P:=⟨by unfold ve;rw[Lu,Mk],λr d q a b=>by
 have hr:=(Lj.mp b).1;unfold ve at a;rw[LL,Ob hr] at a;cases a;refine .inr ⟨_,rfl,?_⟩;rw[Lv (by omega),show A.length+r-A.length=r by omega,LY (by rw[Lu];exact hr),LL,b];rfl⟩
def yV {rest N:aF}(t:bV l rest N):N.length=rest.length+1:=by
 obtain⟨i,c,_,rfl⟩:=t;rfl
def xa {rest N:aF}(t:bV l (rest++P.map cy) N):jc N (ve (rest.length+1) P.length) P:=by
 obtain⟨i,c,_,rfl⟩:=t;have:=Eb (A:=tp l i c::rest) (B:=[]) (P:=P);rw[Mo] at this;exact this
def AT {rest N:aF}{P:List (List Int)}(t:bV l (rest++P.map cy) N):bV l (rest++(P.set r q).map cy) (N.set (rest.length+1+r) (cy q)):=by
 obtain⟨i,c,hi,rfl⟩:=t;refine⟨i,c,hi,?_⟩;rw[show rest.length+1+r=(rest.length+r)+1 by omega,Xi,Ul _ _ (by omega),show rest.length+r-rest.length=r by omega,map_set]
def eQ.put (op:eQ P w h)(hr:r<h):eQ (P.set r ((P.getD r []).set x v)) w h:=⟨by rw[Wy,op.len],λq e=>by
 rcases mem_or_eq_of_mem_set e with e|e
 ·exact op.row q e
 ·rw[e,Wy,(op.at hr).2]⟩
abbrev eB (w h:Nat) (g m:Int) (s:kq) (n:Nat) (z:Nat->Option D) (i:Nat):Option D:=match i with
 | 7=>Z (CY n h)
 | i=>eA w h g m s z i
def Ca {rest M:aF}(t:bV l rest M)(h2:ρ[1]?=Z (Z (R 0)))(x:D):∃hs:List Int,∃M',hs.length=16/\bV l rest M'/\m6 (Z x::ρ) M=O (bF hs) M':=by
 obtain⟨es,M',t',le,qe,ee⟩:=ft (ds0:=aw 0 16) (ge:=vz) (ρ:=Z x::ρ) (P:=bV l rest) (Q:=λe=>∃k,e=I k/\True) (aw 0 16) (λd hd M hM=>by
  obtain⟨f,M1,a1,b1,t1,e1⟩:=Gq (ρ:=Z d::Z x::ρ) (i:=3) (many:=64) hM h2 (by decide) (aJ (by decide) (by decide));exact⟨I f,M1,t1,⟨_,rfl,trivial⟩,e1 _ rfl⟩) M t
 obtain⟨ks,rfl,_⟩:=wa qe;rw[Lu,bq] at le;exact⟨ks,M',le,t',cm (cA (n:=16) (az rfl rfl) (by decide)) ee (by rw[Lu,le];decide)⟩
def BP {rest M:aF}(d:Dr w h g m s)(t:bV l rest M) :
  ∃(P:List (List Int)) (z:Nat->Option D) (M':aF),eQ P w h/\bV l (rest++P.map cy) M'/\∀b:GS,DU b (ev sc tn (eA w h g m s y)) M=b (ev sc tn (eB w h g m s (rest.length+1) z)) M':=by
 have oi:=uC (s:=s) (m:=m) (w:=w) (h:=h);have ri:=yn (m:=m) (w:=w) (h:=h) d.s;unfold DU;generalize hI:inksL s w h m=L at oi ri;have hw:=d.w;have hh:=d.h;obtain⟨es,M1,t1,le,qe,ee⟩:=ft (ds0:=L.map bF) (ge:=m6) (ρ:=ev sc tn (eA w h g m s y)) (P:=bV l rest) (Q:=λe=>∃hs:List Int,e=bF hs/\hs.length=16) (L.map bF) (λx _ M hM=>by
  obtain⟨hs,M1,a1,t1,e1⟩:=Ca hM (ρ:=ev sc tn (eA w h g m s y)) rfl x;exact⟨_,M1,t1,⟨hs,rfl,a1⟩,e1⟩) M t
 obtain⟨hu,rfl,qh⟩:=nZ qe;rw[Lu,Lu,oi.len] at le
 let y1:Nat->Option D:=λi=>if i=6 then Z (ba hu) else y i
 have k1:∀b:GS,ay (aD 6 (aP (cN (ae 5)) aW m6 aC)) b (ev sc tn (eA w h g m s y)) M=b (ev sc tn (eA w h g m s y1)) M1:=λb=>
  aA (aO (cm (lL (xs:=L.map bF) (by rw[<-hI];rfl)) ee (by rw[Lu,le];omega)))
 have nu:∀r,r<h->∃q,hu[r]?=Z q/\q.length=16:=λr hr=>by
  have hr':r<hu.length:=by omega
  exact⟨_,Lh hr',qh _ (Qb hr')⟩
 let row:Nat->List Int:=λr=>(L.getD r []).map λk=>(hu.getD r []).getD k.toNat 0
 have er:∀r∈Lw h,∀E:aF,mD (Z (I (0+(r:Int)))::ev sc tn (eA w h g m s y1)) (M1++E)=O (R (M1++E).length) (M1++E++[cy (row r)]):=λr hr E=>by
  have hl:=OJ.mp hr;rw[SZ];have ei:=wv (M:=M1++E) oi hl;have ra:∀k∈L.getD r [],0<=k/\k<=15:=ri _ (LU (oi.at hl).1);have la:=(oi.at hl).2;obtain⟨q,e1,e2⟩:=nu r hl;show _=aQ.ok _ (M1++E++[cy ((L.getD r []).map λk=>(hu.getD r []).getD k.toNat 0)]);rw[show hu.getD r []=q by rw[Nc,e1];rfl];have eh:aB (ba hu) (I r) (M1++E)=O (bF q) (M1++E):=gO (by rw[LL,e1];rfl);generalize M1++E=N at ei eh ⊢;unfold mD;have gi:cN (g2 aB (ae 6) (ae 0)) (Z (I r)::ev sc tn (eA w h g m s y1)) N=O ⟨(L.getD r []).map I,Y⟩ N:=by
   unfold cN;rw[aj (f:=aB) (a:=ae 6) (b:=ae 0) (x:=ba L) (y:=I r) (M1:=N) (M2:=N) (by rw[<-hI];rfl) rfl ei,am];rfl
  have c:=mw (ds0:=(L.getD r []).map I) (f:=I) (g:=λk=>I (q.getD k.toNat 0)) (ge:=vR) (ρ:=Z (I r)::ev sc tn (eA w h g m s y1)) (M:=N) (L.getD r []) λk hk=>by
   obtain⟨k0,k1⟩:=ra k hk;obtain⟨k,rfl⟩:=L3 k0;refine aj (f:=aB) (x:=bF q) (y:=I k) (aj (x:=ba hu) (y:=I r) rfl rfl eh) rfl ?_;show _=aQ.ok (I (q.getD ((k:Int)).toNat 0)) N;rw[Mq];exact j9 (by omega)
  unfold aP;rw[gi,am];dsimp only;rw[c,am];unfold bM;rw[if_pos (bI (by rw[Lu];omega))];unfold cy;rw[OT];rfl
 have c:=tH (f:=λ(r:Nat)=>I (0+(r:Int))) (g:=row) (ge:=mD) (ρ:=ev sc tn (eA w h g m s y1)) (M:=M1) (ds0:=aw 0 h) (Lw h) [] er;rw[Mo,yV t1,Mk,<-nO] at c;have lI:aE bh (aa (ae 5) ag) (ev sc tn (eA w h g m s y1)) M1=O (I h) M1:=by
  refine gZ (x:=ba L) (by rw[<-hI];rfl) ?_;show aQ.ok (I ((L.map bF).length:Int)) M1=_;rw[Lu,oi.len]
 refine⟨(Lw h).map row,y1,M1++(Lw h).map λa=>cy (row a),⟨by rw[Lu,Mk],λq hq=>?_⟩,?_,λb=>?_⟩
 ·obtain⟨r,hr,rfl⟩:=OP.mp hq;show((L.getD r []).map _).length=w;rw[Lu,(oi.at (OJ.mp hr)).2]
 ·obtain⟨i,cv,hi,rfl⟩:=t1;exact⟨i,cv,hi,by rw[OT];rfl⟩
 ·rw[k1];exact aA (aO (cm (cA (n:=h) (az lI rfl) (by omega)) c (show((Lw h).map λj=>D.mr (rest.length+1+j)).length<=1000000 by rw[Lu,Mk];omega)))
def Cv {rest M:aF}(d:Dr w h g m s)(op:eQ P w h)(t:bV l (rest++P.map cy) M) :
  ∃(P':List (List Int)) (z':Nat->Option D) (M':aF),eQ P' w h/\bV l (rest++P'.map cy) M'/\∀b:GS,E4 b (ev sc tn (eB w h g m s (rest.length+1) z)) M=b (ev sc tn (eB w h g m s (rest.length+1) z')) M':=by
 have hw:=d.w;have hh:=d.h;obtain⟨f,N1,a1,b1,t1,e1⟩:=Gq (ρ:=ev sc tn (eB w h g m s (rest.length+1) z)) (i:=1) (many:=4) t rfl (by decide) (aJ (by decide) (by decide));obtain⟨v,hv,ev1⟩:=Br (a:=I 0) (b:=I 0) (c:=I 1) (d:=I 2) a1 b1;obtain⟨n,hn,rfl⟩:∃n:Nat,n<=2/\v=I n:=by rcases hv with rfl|rfl|rfl|rfl <;> first|exact⟨0,by omega,rfl⟩|exact⟨1,by omega,rfl⟩|exact⟨2,by omega,rfl⟩
 obtain⟨ρ',M',⟨P',z',rfl,op',t'⟩,ef⟩:=j4 (ds0:=aw 0 n) (s:=aX 8) (body:=mV) (W:=λ_ ρ N=>∃(P':List (List Int)) (z':Nat->Option D),ρ=ev sc tn (eB w h g m s (rest.length+1) z')/\eQ P' w h/\bV l (rest++P'.map cy) N) (aw 0 n) 0 (λj dd hd ρ N hW=>by
  obtain⟨P',z',rfl,op',t'⟩:=hW;obtain⟨hj,rfl⟩:=kJ hd
  let z2:Nat->Option D:=λi=>if i=8 then Z (I (0+(j:Int))) else z' i
  obtain⟨v,N1,a1,b1,t1,e1⟩:=Gq (ρ:=ev sc tn (eB w h g m s (rest.length+1) z2)) (i:=1) (many:=64) t' rfl (by decide) (aJ (by decide) (by decide));obtain⟨r,N2,a2,b2,t2,e2⟩:=Gq (ρ:=ev sc tn (eB w h g m s (rest.length+1) z2)) (i:=1) (many:=h) t1 rfl (by omega) (aJ (by omega) (by omega));obtain⟨x,N3,a3,b3,t3,e3⟩:=Gq (ρ:=ev sc tn (eB w h g m s (rest.length+1) z2)) (i:=1) (many:=w) t2 rfl (by omega) (aJ (by omega) (by omega));obtain⟨r,rfl⟩:=L3 a2;obtain⟨x,rfl⟩:=L3 a3;have hr:r<h:=by omega
  refine⟨_,ev sc tn (eB w h g m s (rest.length+1) z2),N3.set (rest.length+1+r) (cy ((P'.getD r []).set x v)),rfl,?_,_,z2,rfl,op'.put hr,AT t3⟩;have lr:(P'.getD r []).length=w:=(op'.at hr).2;have mr:(ve (rest.length+1) h)[r]?=Z (R (rest.length+1+r)):=by
   unfold ve;rw[LL,Ob hr];rfl
  have at3:N3[rest.length+1+r]?=Z (cy (P'.getD r [])):=by
   obtain⟨i,c,_,rfl⟩:=t3;rw[show rest.length+1+r=(rest.length+r)+1 by omega,Rw,Lv (by omega),show rest.length+r-rest.length=r by omega,LL,(op'.at hr).1];rfl
  show mV (ev sc tn (eB w h g m s (rest.length+1) z2)) N=_;unfold mV jv;rw[e1 _ rfl,am,aj (f:=aB) (a:=ae 7) (x:=CY (rest.length+1) h) (y:=I r) rfl (e2 _ (aj (x:=DK w h g m) (y:=I 1) rfl rfl (aL (k:=1) rfl))) (gO mr),am,e3 _ (aj (x:=DK w h g m) (y:=I 0) rfl rfl (aL (k:=0) rfl)),am];have hs:uM (R (rest.length+1+r)) (I x) (I v) N3=O () (N3.set (rest.length+1+r) (cy ((P'.getD r []).set x v))):=by
   unfold uM;dsimp only;rw[at3];unfold cy;dsimp only;rw[show yB ((P'.getD r []).map I).length (x:Int)=Z x from A5 (by rw[Lu];omega)];dsimp only;rw[map_set]
  rw[hs,am]) (ev sc tn (eB w h g m s (rest.length+1) z)) N1 ⟨P,z,rfl,op,t1⟩
 refine⟨P',z',M',op',t',λb=>?_⟩;unfold E4;exact aA (fL (t:=⟨aw 0 n,Y⟩) (cA (n:=n) (az (aj (f:=aB) (kO (ds:=[I 0,I 0,I 1,I 2]) rfl) (e1 _ rfl) (ev1 N1)) rfl) (by omega)) ef)
def Dn (hx:xg x M=d)(hy:xg y M=d)(h:bN 40 d=true)(hs:pq d d=true):mH true x y M=O (G false) M:=by
 unfold mH;rw[hx,hy,h,hs];rfl
theorem tj (n:Nat):∀T:List (List Int),a9 (n+1) (T.map aV)=true
 | []=>rfl
 | z::T=>by
  show(a9 n (z.map I)&&a9 (n+1) (T.map aV))=true;rw[oz,tj n T];rfl
theorem qK:∀T:List (List Int),dG (T.map aV) (T.map aV)=true
 | []=>rfl
 | z::T=>by
  show(dG (z.map I) (z.map I)&&dG (T.map aV) (T.map aV))=true;rw[iV,qK T,decide_eq_true rfl];rfl
def IL (T:List (List Int)):D:=U [S "wishes",.lst (T.map aV)]
def D1 (T:List (List Int)):bN 40 (IL T)=true:=by
 show(PH "wishes"&&(a9 38 (T.map aV)&&true))=true;rw[tj,show PH "wishes"=true by decide +kernel];rfl
def HM (T:List (List Int)):pq (IL T) (IL T)=true:=by
 show(("wishes":Str)=="wishes"&&(dG (T.map aV) (T.map aV)&&true))=true;rw[qK,beq_self_eq_true];rfl
def IY (p:Nat×Nat×Nat):bN 40 (bD p)=true:=by
 show(PH "bars"&&true)=true;rw[show PH "bars"=true by decide +kernel];rfl
def JI (p:Nat×Nat×Nat):pq (bD p) (bD p)=true:=by
 show(("bars":Str)=="bars"&&(((p.1:Int)==p.1)&&(((p.2.1:Int)==p.2.1)&&(((p.2.2:Int)==p.2.2)&&true))))=true;simp
def xU (pa:jc N (ve n h) P)(op:eQ P w h)(hh:h<=900)(hp:ρ[7]?=Z (Z (CY n h))):aP (cN (ae 7)) aW mP aC ρ N=O (ba P) N:=by
 have c:=mw (ds0:=ve n h) (f:=λj=>D.mr (n+j)) (g:=λj=>bF (P.getD j [])) (ge:=mP) (ρ:=ρ) (M:=N) (Lw h) λj hj=>by
  have hl:=OJ.mp hj;refine gZ (x:=R (n+j)) (M1:=N) rfl ?_;have e:bx (R (n+j)) N=Z ((P.getD j []).map I):=by
   rcases pa.row j (R (n+j)) (P.getD j []) (by unfold ve;rw[LL,Ob hl];rfl) (op.at hl).1 with q|⟨k,q,hk⟩
   ·cases q
   ·cases q;unfold bx;dsimp only;rw[hk];rfl
  unfold kH;dsimp only;rw[e];rfl
 have em:(Lw h).map (λj=>bF (P.getD j []))=P.map bF:=by
  apply Of;intro j;rw[LL,LL]
  by_cases hj:j<h
  ·rw[Ob hj,(op.at hj).1];rfl
  ·rw[NC (by rw[Mk];omega),NC (by rw[op.len];omega)];rfl
 rw[em] at c;exact cm (lL (xs:=ve n h) hp) c (by rw[Lu,op.len];omega)
def zA {T:List (List Int)}{k:Nat}(hg:g ρ M=O (R k) M)(hk:M[k]?=Z (.lst (T.map aV)))(hT:T.length<=100000):gK (aE oX (aa (aP (cN g) aW m3 aC) ag)) ρ M=O true M:=by
 have hi:cN g ρ M=O ⟨T.map aV,Z (k,T.map aV)⟩ M:=by
  unfold cN;rw[hg,am];show(match M[k]? with|some (.lst ds)=>aQ.ok (jx.mk ds (Z (k,ds))) M|_=>.bad)=_;rw[hk]
 have ht:jx.ok ⟨T.map aV,Z (k,T.map aV)⟩ M=true:=by
  show(match M[k]? with|some (.lst xs)=>jr xs (T.map aV)|_=>false)=true;rw[hk];exact eV _
 have c:=ui ht (f:=aV) (g:=λ_=>D.bl true) (ge:=m3) (ρ:=ρ) T λz _=>rfl
 refine D8 (gZ (x:=.lst (T.map λ_=>D.bl true)) (M1:=M) ?_ ?_)
 ·unfold aP;rw[hi,am];dsimp only;rw[c,am];unfold aC;rw[if_pos (bI (by rw[Lu];omega))]
 ·have e:∀T:List (List Int),dZ (T.map λ_=>D.bl true)=Z (T.map λ_=>true):=λT=>by
   induction T with
   | nil=>rfl
   | cons a l ih=>
    show(dZ (l.map λ_=>D.bl true)).map (true::·)=_;rw[ih];rfl
  show(match dZ (T.map λ_=>D.bl true) with|some bs=>aQ.ok (D.bl (bs.all id)) M|none=>.bad)=_;rw[e];have e2:(T.map λ_=>true).all id=true:=by simp
  dsimp only;rw[e2]
def Cp {rest M:aF}(d:Dr w h g m s)(op:eQ P w h)(hr:Pu rest)(t:bV l (rest++P.map cy) M) :
  ∃(y:Nat->Option D) (rest' M':aF),Pu rest'/\bV l rest' M'/\Ed (ev sc tn (eB w h g m s (rest.length+1) z)) M=O (.nx (ev sc tn y)) M':=by
 have oi:=uC (s:=s) (m:=m) (w:=w) (h:=h);have hw:=d.w;have hh:=d.h;have pa:jc M (ve (rest.length+1) h) P:=by
  have:=xa t;rw[op.len] at this;exact this
 have pu:Pu (rest++P.map cy):=hr.app (vE P);have hi:∀N,gN N->cX [DK w h g m,s.d] N=O (ba (inksL s w h m)) N:=λN hN=>o7 (M:=N) d.s (by decide) (w:=(w:Int)) (h:=(h:Int)) (by omega) (by omega) d.m hN
 have e9:=xU (ρ:=ev sc tn (eB w h g m s (rest.length+1) z)) pa op (by omega) rfl;have e10:=Fh oi op pa hw.2 hh.2;have e11:=Al (hi M (pu.shut t)) oi op (jc.rows M P) hw.2 hh.2
 let y1:Nat->Option D:=λi=>if i=9 then Z (ba P) else z i
 let y2:Nat->Option D:=λi=>if i=10 then Z (pJ (inksL s w h m) P h) else y1 i
 let y3:Nat->Option D:=λi=>if i=11 then Z (sw (inksL s w h m) P h M.length) else y2 i
 have k1:∀b:GS,ay (aD 9 (aP (cN (ae 7)) aW mP aC)) b (ev sc tn (eB w h g m s (rest.length+1) z)) M=b (ev sc tn (eB w h g m s (rest.length+1) y1)) M:=λb=>aA (aO e9)
 have k2:∀b:GS,ay (aD 10 (av 2 hZ (aa (ae 5) (aa (ae 7) ag)))) b (ev sc tn (eB w h g m s (rest.length+1) y1)) M=b (ev sc tn (eB w h g m s (rest.length+1) y2)) M:=λb=>aA (aO (cE rfl rfl e10))
 have k3:∀b:GS,ay (aD 11 (av 3 cR (aa (ae 3) (aa (ae 4) (aa (ae 9) ag))))) b (ev sc tn (eB w h g m s (rest.length+1) y2)) M=b (ev sc tn (eB w h g m s (rest.length+1) y3)) (M++vG (inksL s w h m) P h):=λb=>aA (aO (oB rfl rfl rfl e11))
 unfold Ed;rw[k1,k2,k3];have eqH:∀N:aF,jc N (ve (rest.length+1) h) P->aK (g2 (A4 true) (ae 9) (ae 7)) (ev sc tn (eB w h g m s (rest.length+1) y3)) N=O false N:=λN pN=>
  aT (aj (x:=ba P) (y:=CY (rest.length+1) h) rfl rfl ((Gh (jc.rows N P).now pN.now).trans (by rw[decide_eq_true rfl];rfl)))
 have g11:∀N,ae 11 (ev sc tn (eB w h g m s (rest.length+1) y3)) N=O (sw (inksL s w h m) P h M.length) N:=λN=>rfl
 have g10:∀N,ae 10 (ev sc tn (eB w h g m s (rest.length+1) y3)) N=O (pJ (inksL s w h m) P h) N:=λN=>rfl
 generalize hI:inksL s w h m=L at *;have same:∀(F:D) (N:aF),sw L P h M.length=F->(∃xs,F=U xs)->jc N (ve (rest.length+1) h) P->mH true F (pJ L P h) N=O (G false) N->gW (fK (fv (gK (jA "tuple" (ae 11)))) (fK (aK (g2 (mH true) (ae 11) (ae 10))) (aK (g2 (A4 true) (ae 9) (ae 7))))) (bo (gC (G false))) bf (ev sc tn (eB w h g m s (rest.length+1) y3)) N=O (.nx (ev sc tn (eB w h g m s (rest.length+1) y3))) N:=λF N hF hx pN q=>by
  obtain⟨xs,rfl⟩:=hx;rw[hF] at g11;have v:=g11 N;refine(fE (M1:=N) (i4 (x:=false) (y:=false) (rF (x:=true) ?_) λ_=>i4 (x:=false) (y:=false) (aT (aj v (g10 N) q)) λ_=>eqH N pN)).trans rfl;unfold gK jA;rw[v];rfl
 cases hb:mG L P h with
 | some p=>
  have ew:sw L P h M.length=bD p:=by unfold sw;rw[hb]
  have ed:pJ L P h=bD p:=by unfold pJ;rw[hb]
  have em:vG L P h=[]:=by unfold vG;rw[hb]
  rw[em,Mo];have sm:=same (bD p) M ew ⟨_,rfl⟩ pa (by rw[ed];exact Dn rfl rfl (IY p) (JI p));refine⟨eB w h g m s (rest.length+1) y3,_,M,pu,t,(aA sm).trans ((fE (M1:=M) (aT (x:=false) (aj (x:=S "bars") (y:=S "wishes") (M1:=M) (aj (g11 M) rfl (by rw[ew];exact aL (k:=0) rfl)) rfl ?_))).trans rfl)⟩;rw[Dh (by decide +kernel) (by decide +kernel)];exact congrArg (λb=>aQ.ok (D.bl b) M) (by decide +kernel)
 | none=>
  have lz:(zT L P h).length<=1600:=by rw[oH oi h (Lr _)];exact R6 hh.2 hw.2
  have lS:=rg (zT L P h);generalize hS:B5 (zT L P h)=V0 at lS;have ew:∀n,sw L P h n=U [S "wishes",R n]:=λn=>by unfold sw;rw[hb]
  have ed:pJ L P h=IL V0:=by unfold pJ;rw[hb];show D.tup [S "wishes",.lst ((B5 (zT L P h)).map aV)]=_;rw[hS];rfl
  have em:vG L P h=[.lst (V0.map aV)]:=by unfold vG;rw[hb];show [MO.lst ((B5 (zT L P h)).map aV)]=_;rw[hS]
  have nw:∀N:aF,xg (U [S "wishes",R N.length]) (N++[.lst (V0.map aV)])=IL V0:=λN=>by
   show D.tup [S "wishes",match (N++[MO.lst (V0.map aV)])[N.length]? with|some (.lst xs)=>D.lst xs|_=>R N.length]=_;rw[nC];rfl
  have tm:∀N:aF,mH true (U [S "wishes",R N.length]) (pJ L P h) (N++[.lst (V0.map aV)])=O (G false) (N++[.lst (V0.map aV)]):=λN=>by
   rw[ed];exact Dn (nw N) rfl (D1 V0) (HM V0)
  rw[em];have pu1:Pu (rest++P.map cy++[.lst ((V0++[[0,0,0]]).map aV)]):=pu.app (by rw[Pl,p6];rfl);have t2:bV l (rest++P.map cy++[.lst ((V0++[[0,0,0]]).map aV)]) (M++[.lst ((V0++[[0,0,0]]).map aV)]):=by
   obtain⟨i,c,hi,rfl⟩:=t;exact⟨i,c,hi,rfl⟩
  have e12:=Al (ds:=ve (rest.length+1) h) (hi _ (pu1.shut t2)) oi op pa.app hw.2 hh.2;rw[ew,em] at e12;have sm:=same _ (M++[.lst (V0.map aV)]) (ew M.length) ⟨_,rfl⟩ pa.app (tm M);have g12:∀N,g2 aB (ae 11) (gC (I 1)) (ev sc tn (eB w h g m s (rest.length+1) y3)) N=O (R M.length) N:=λN=>aj (g11 N) rfl (by rw[ew];exact aL (k:=1) rfl)
  have tl:gK (jA "list" (g2 aB (ae 11) (gC (I 1)))) (ev sc tn (eB w h g m s (rest.length+1) y3)) (M++[.lst (V0.map aV)])=O true (M++[.lst (V0.map aV)]):=by
   unfold gK jA;rw[g12,am];have e:Ai (R M.length) (M++[MO.lst (V0.map aV)])=Z "list":=by
    unfold Ai;dsimp only;rw[nC]
   rw[e];rfl
  have ap:=Ge (go:=g2 aB (ae 11) (gC (I 1))) (ge:=bC (aa (gC (I 0)) (aa (gC (I 0)) (aa (gC (I 0)) ag)))) (ρ:=ev sc tn (eB w h g m s (rest.length+1) y3)) (g12 (M++[MO.lst (V0.map aV)])) (nC M _) (cV (ds:=[I 0,I 0,I 0]) rfl) (nC M _) (by rw[Lu];omega);rw[zn,show V0.map aV++[D.tup [I 0,I 0,I 0]]=(V0++[[0,0,0]]).map aV by rw[Rm];rfl] at ap;refine⟨eB w h g m s (rest.length+1) y3,_,_,pu1.app (E:=[MO.lst (V0.map aV)]) (by rw[Pl,p6];rfl),by
   obtain⟨i,c,hi,e⟩:=t2;exact⟨i,c,hi,show(M++[MO.lst ((V0++[[0,0,0]]).map aV)])++[MO.lst (V0.map aV)]=_ by rw[e];rfl⟩,(aA sm).trans ((ju (M1:=M++[MO.lst (V0.map aV)]) (aT (x:=true) (aj (x:=S "wishes") (y:=S "wishes") (aj (g11 _) rfl (by rw[ew];exact aL (k:=0) rfl)) rfl ?_))).trans ?_)⟩
  ·rw[Dh (by decide +kernel) (by decide +kernel),beq_self_eq_true]
  ·unfold Iw;have i1:gW (fK (fv (gK (jA "list" (g2 aB (ae 11) (gC (I 1)))))) (fv (gK (aE oX (aa (aP (cN (g2 aB (ae 11) (gC (I 1)))) aW m3 aC) ag))))) (bo (gC (G false))) bf (ev sc tn (eB w h g m s (rest.length+1) y3)) (M++[.lst (V0.map aV)])=O (.nx (ev sc tn (eB w h g m s (rest.length+1) y3))) (M++[.lst (V0.map aV)]):=
    (fE (M1:=M++[MO.lst (V0.map aV)]) (i4 (x:=false) (y:=false) (rF (x:=true) tl) λ_=>rF (x:=true) (zA (g12 _) (nC M _) (by omega)))).trans rfl
   exact(aA i1).trans ((aA (j8 ap)).trans ((fE (aT (x:=false) (aj (oB rfl rfl rfl e12) (g10 _) (tm _)))).trans rfl))
def law_true (ns:List Int)(hl:ns.length<=63):∃M',wq [.ro (ns.map I)] []=O (G true) M':=by
 generalize hsc:D.ro (ns.map I)=sc;have l3:(3:Nat)<=LW:=bI (by decide);have t0:bV ns [] [tp ns 0 0]:=⟨0,0,by decide,rfl⟩;have s1:∀b:GS,ay (aD 1 (jw (aa (aE kH (aa (ae 0) ag)) (aa (gC (I 0)) (aa (gC (I 0)) ag))))) b [Z sc,Y,Y,Y,Y,Y,Y,Y,Y,Y,Y,Y] []=b (ev (Z sc) Y λ_=>Y) [tp ns 0 0]:=λb=>by
  subst hsc;refine aA (aO (d:=R 0) (M1:=[tp ns 0 0]) ?_);show(if [D.lst (ns.map I),I 0,I 0].length<=LW then aQ.ok (D.mr 0) [MO.lst [D.lst (ns.map I),I 0,I 0]] else .bad)=_;rw[if_pos (show [D.lst (ns.map I),I 0,I 0].length<=LW from l3)];rfl
 obtain⟨ρ',N,_,ef⟩:=j4 (ds0:=aw 0 3) (s:=aX 2) (body:=sA) (W:=λ_ ρ N=>∃(tn:Option D) (y:Nat->Option D) (rest:aF),ρ=ev (Z sc) tn y/\Pu rest/\bV ns rest N) (aw 0 3) 0 (λj dd hd ρ N hW=>by
  obtain⟨tn,y,rest,rfl,hr,t⟩:=hW;obtain⟨hj,rfl⟩:=kJ hd;obtain⟨w,h,g,m,s,N1,d,t1,e1⟩:=BB (sc:=Z sc) (tn:=Z (I (0+(j:Int)))) (y:=y) t hr;obtain⟨P,z,N2,op,t2,e2⟩:=BP (sc:=Z sc) (tn:=Z (I (0+(j:Int)))) (y:=y) d t1;obtain⟨P',z',N3,op',t3,e3⟩:=Cv (sc:=Z sc) (tn:=Z (I (0+(j:Int)))) (z:=z) d op t2;obtain⟨y',rest',N4,pr,t4,e4⟩:=Cp (sc:=Z sc) (tn:=Z (I (0+(j:Int)))) (z:=z') d op' hr t3;refine⟨_,_,N4,rfl,?_,Z (I (0+(j:Int))),y',rest',rfl,pr,t4⟩;rw[xX];exact(e1 _).trans ((e2 _).trans ((e3 _).trans e4))) (ev (Z sc) Y λ_=>Y) [tp ns 0 0] ⟨Y,λ_=>Y,[],rfl,rfl,t0⟩
 refine⟨N,?_⟩;show aI (we [Z sc,Y,Y,Y,Y,Y,Y,Y,Y,Y,Y,Y] [])=_;unfold we;rw[s1];refine congrArg aI ((aA (fL (t:=⟨aw 0 3,Y⟩) (cA (n:=3) (az rfl rfl) (by decide)) ef)).trans (cu rfl))
end K35
theorem PySem.Challenge.cw_glowrow_k35_wishes_of_pictures_holds : PySem.Challenge.rw_glowrow_k35_wishes_of_pictures.Holds :=
 K35.pre K35.law_true
