import PyProof.Rows.All
import Wide.All
import KE.KNestM
import OpenK.KOwn
import OpenK.KRaise
import KE.KIsAll
import KE.KTypeName
import Wide.FinOn
import Lean
import PyProof.EqAt
import PyProof.EqKinds
import PyProof.TupleCall
import PyProof.Draws
import PyProof.EnumMake
import KE.KLam
import KE.KMinKey
import PyProof.StrCalls2
import PyProof.Rows.StrIndexOr
import PyProof.CollectIter
import PyProof.ListStr
import KE.KDictLaws
import PyProof.P3Eq
import KE.KSortTup
import KE.KDictList
import PyProof.DictItems
import PyProof.ZipIter
import PyProof.Rows.ZipGen
import PySem.Challenge.RW_glowrow_k27_whole_scores_played
set_option compiler.extract_closed false
set_option Elab.async false
set_option linter.all false
set_option maxRecDepth 100000
set_option maxHeartbeats 4000000
open Option renaming some → Z,none → Y
open PySem renaming wpAny_bind->Ud,wpAny_pure->Ue,Value->Uh,Shared->Ui,Addr->Ul,wpAny->Uq,sizeLine->Ur,mainGlobals->Uv,model->UA,Program->UI,wpAny_holding->UL,World->UN,starEach->UR,wpAny_newObj_type->UV,compareOp->UX,Expr->UY,wpAny_call_entry->UZ,sizeLine_eq->U3,foldedSetIterable->U4,wpAny_callSpecial?_slot->U7,Around->Vd,wpAny_truthy_bool->Vm,Heap->Vn,eval->Vo,sysModules->Vp,wpAny_field->Vt,attributeBase->Vu,bootBuiltins->Vv,assignEach->VB,wpAny_seqItems->VC,wpAny_tryCatch->VD,wpAny_mono->VF,wpAny_typeNameOfWhole_itemiter->VI,FuncData->VL,wpAny_typeNameOfWhole_keyiter->VM,holding->VN,wpAny_dictEntries->VO,codeAny_builtin->VP,binaryOp->VR,wpAny_pyNext_list_item->VU,keywordEach->VY,plainId_quiet->VZ,wpAny_typeNameOf_itemiter->V7,importedModules->V8,wpAny_passesOwn->Wa,wpAny_loadPart'->Wb,wpAny_updateSeq->Wc,wpAny_letGo->We,wpAny_typeNameOf_keyiter->Wk,backTo->Wm,wpAny_Call_Name_kw->Wu,wpAny_setField_rec->Wx,Stmt->WA,wpAny_dictEpoch->WD,wpAny_newList->WH,pyNext->WN,rawInt->WO,sliceBounds->WS,wpAny_of_eq->WT,firstArgMember->WU,IsItemIter->WW,DictEntry->WX,swappedStores->W2,behindInMarks->W3,backToKw->W4,wpAny_attempt->W5,OsState->W8,swapsWith->Xg,Builtin->Xj,codeAny_mono->Xm,wpAny_setField->Xo,wpAny_isOneOf_itemiter->Xq,wpAny_pyNext_list_end->Xu,wpAny_notOrdered_dict->Xw,tupleKind->Xz,wpAny_rule->XA,getMethod->XB,standAt->XE,wpAny_execs_nil->XQ,BindsTo->XU,Keyword->XX,call_meetsIn->X2,treeTable->X3,seqItems?->X4,builtinsNs->X5,wpAny_newFunctionEnv_cells->Yd,tupleKind_room_in1->Yg,wpAny_fieldsOf->Yj,wpAny_pyIter_slot->Yu,swapsWithSole->Yx,cLine->YG,atKey->YK,wpAny_isInstance->YL,codeAmong->YM,richCompare_meets_room->YV,IsPart->YW,getItem->YX,wpAny_typeOf->YY,valueAt->Y0,Scope->Y6,letOwnedTupleGo->Y7,wpAny_isOneOf_keyiter->Ze,wpAny_loadName_local->Zh,bindArgs->Zj,callWith->Zk,richCompare->Zm,wpAny_listPart->Zn,isSubtype_stop->Zp,dictSetDefault->Zq,wpAny_newTuple->Zu,setItem->Zx,inplaceOp->Zy,codeAny->Zz,updateSeq->ZC,callerA->ZD,wpAny_loadName_cell->ZG,wpAny_Assign_stores->ZH,kt_meets_setdefault->ZK,bltViewBooted->ZM,wpAny_standAt->ZO,wpAny_handled->ZR,evalPart_some->ZS,IsItemIterOut->ZU,Params->ZV,assign->ZY,pyIter->ZZ,wpAny_pyIter_tuple->Z6,wpAny_sequenceKey->aae,seqIndex_neg->aaf,slot_list_getitem->aag,slot_list_setitem->aah,wpAny_pyIter_enum->aal,wpAny_pyIter_list->aam,wpAny_eqBool_int->aau,wpAny_execs_cons->aaw,PassesOwn->aax,lastMarks->aay,cellsFrom->aaA,wpAny_forIn_list->aaD,noFill_tuple_add->aaE,wpAny_Dict_empty->aaF,wpAny_Slice->aaN,seqIndex_of->aaO,subscripted->aaP,wpAny_throw->aaQ,storedH_new->aaR,wpAny_specialOf->aaY,entryOfKey->abi,wpAny_Name->abj,wpAny_load->abk,wpAny_call->abn,NameKind->abo,typeLookup->abt,DefRec->abu,newExc->abw,setField->aby,storeName->abK,bindL->abO,bindC->abP,Arguments->abQ,TriplesOk->abR,Result->abW,storedH->abZ,collect->ab1
open PySem.Heap renaming get?_push_of_some->Ug,get?_push_size->Uo,lt_size->Ut,get?_update_other->Vf,SameBut->Vr,get?_push_ne->Wh,get?_update_ne->Wl,get?_update_self->WK,size_update->WZ,size_push->Xl,ExtBut->Yt,FlyingW->aaj,MadeExcOf->abv
open Nat renaming le_refl->Uj,lt_of_lt_of_le->Ux,ne_of_lt->Uz,le_trans->UK,zero_le->UW,zero_add->U2,lt_of_le_of_lt->VH,lt_of_lt_of_eq->VJ,le_of_lt->VT,le_of_ble_eq_true->V3,lt_irrefl->Wi,lt_succ_self->Wn,le_succ->Ws,ne_of_gt->Wt,add_assoc->WJ,add_sub_cancel_left->Xi,le_of_eq->Xk,lt_succ_of_lt->Xp,min_eq_left->XT,sub_self->XZ,mul_le_mul->Yk,le_succ_of_le->Yv,le_add_right->YJ,sub_zero->Y1,add_comm->Y3,add_le_add_left->ZI,not_le_of_gt->aaJ,log2_lt->aaT,min_le_left->aaZ,zero_lt_one->aa1
open List renaming getElem?_eq_some_iff->Uk,all_eq_true->Um,length_map->UB,replicate->UD,mem_cons_self->UG,range->UH,mem_cons_of_mem->UU,size_toArray->U1,length_cons->U6,getElem?_eq_getElem->U8,mem_cons->Va,getElem?_map->Vc,toArray->Vg,mem_append_right->Vh,mem_of_getElem?->Vw,mem_singleton->VE,getD->Wd,length_range->Wv,length_nil->Wy,length_append->WE,map_cons->WG,pairwise_cons->WI,all_cons->W1,zip_cons_cons->W9,mem_iff_getElem->Xa,find?_cons->Xc,getElem_mem->Xe,not_mem_nil->Xh,getElem?_append_right->Xv,lookup->XG,getElem?_append_left->XH,length_take->XW,append_nil->Yb,mem_append->Yq,zip_nil_left->Yr,getElem?_range->YQ,pairwise_iff_getElem->YR,mem_range->YT,zip_nil_right->Za,getD_eq_getElem?_getD->Zd,filterMap_cons->Zg,mem_map->ZF,mem_filterMap->ZP,nodup_cons->Z0,of_mem_zip->Z1,getElem?_replicate->Z2,length_drop->Z4,length_eq_zero_iff->Z7,pairwise_mergeSort->Z8,getElem?_set_self->aaa,map_map->aaq,length_replicate->aaB,getElem?_eq_none->aaH,countP_mono_left->aaI,mem_append_left->aaU,getElem?_set_ne->aaV,drop_eq_nil_iff->aa0,nodup_append->aa7,take_left->abz,map_append->abT
open Int renaming eq_ofNat_of_zero_le->Us,toNat_natCast->UC,emod_nonneg->Vz,emod_lt_of_pos->VA,mul_le_mul_of_nonneg_left->XO,fmod_eq_emod_of_nonneg->X8,fdiv_eq_ediv_of_nonneg->Yh,mul_le_mul->Yl,natCast_nonneg->Ym,zero_add->Y4,ne_of_gt->Y5,emod_add_mul_ediv->Zf,le_refl->Zs,le_trans->aai,mul_comm->aat,mul_nonneg->abB,sub_self->ab2
open PySem.W renaming Frag->Uu,findIn->V0,nsIn->V5,boot_heap->V9,tabIn->Wg,keepIn->WQ,kas_rev_size->WY,OpenLaw->Xy,emptyDict->XF,fnOf->XR,hideAll_get->Yw,instObj->YE,cellsFrom_some->YH,mroIn->YO,plainGet->YU,hasDictIn->Zi,codeIn->Zl,mg_of->ZE,fencedOpening->ZL,plainGet_of->ZQ,callWith_K->aad,hideAll->aav,makesIn->aaz,plainOver->aaM,methodCall_KW->aaW,SharedT->aa4,absHeap->aa5,kas_rev->aa8,namesBound->abb,boot_drawn->abc,looseW->abd,lookIn->abm,staticsOk->abI,boot_toks->abJ,takerIn->abN,kla_obj->abS,excIn->ab0,typeIn->ab4
open Bool renaming and_eq_true->Uw,false_ne_true->Uy,and_eq_true_iff->UE,false_eq_true->Vb,not_eq_true'->Ys,bne_false->Zo,false_and->abl,decide_or->abA,true_and->abH,true_or->abX
open PyProof.Rows renaming slot_tuple_getitem->UJ,seqObj->US,IntsAre->Ve,SortSt->Vk,get?_update_seq->VQ,wpS_bind->Wo,Keyed->WC,callWith_type1->WL,envOfC->WR,listUpdate_at->W6,seqEpoch_at->XJ,arrOf->XM,wpS_pure->XN,assignInOrder_cons->X7,kindOf->Yc,failedOf->Yi,AllBare->Yp,pendingOf->YN,recsOf->YS,subscriptTail_builtinR->YZ,size_push'->Y2,entry_list_sort->Y8,lt_int->Y9,mirror_perm->Zt,slot_list_sort->Zv,args_list_sort->Zw,Subscript_->Z5,assignInOrder_nil->aab,plain_sorted->aan,entry_sorted->aao,args_sorted1->aap,SortKind->aar,callWith_builtin1->aaC,IsTup->aaL,kind_sorted->aaS,list_sort_plain->aa2,iadd_int->aa6,wpS_get->aa9,expectedOf->abe,plainGoodE->abf,plainGoodD->abg,gt_int->abM,drecsOf->abU
open PySem.Obj renaming mapSeq->UM,data_mapFields->Xd,isFreed_of_fields->Zb,data_mapDictKeys->Zr,cls_mapFields->aak,mapFields->abF
open PySem.Value renaming ref->UO,none->U5,int->YD,isStrOf->abD,isInt->ab3,bool->ab6,type->ab7,str->aca
open Option renaming map_eq_some_iff->UP,isSome_iff_exists->Yy,getD_none->YI,getD_some->aaK
open Sum renaming inl->UQ,inr->XD
open Option.some renaming inj->UT,injEq->Wf
open Array renaming getElem?_eq_getElem->U0,length_toList->Vi,getElem?_toList->Vj,getElem?_eq_none->VX,getD_eq_getD_getElem?->WM,perm_iff_toList_perm->WV,toList_append->ZJ,mk->Z9,size_map->abx
open ForInStep renaming yield->U9
open Ne renaming symm->Vl
open PySem.Around renaming under_plainId->Vq
open PySem.Heap.SameBut renaming update->Vs
open PySem.Str renaming ofString->Vx,empty->ZA
open PySem.Builtin.Dict_items renaming ownsTuple->Vy,ownedTupleIsFree->W7,pairFromOwner->Xr,ownedTupleFields->ZT
open False renaming elim->VG
open PySem.Builtin.Builtins renaming bindParams->VW
open True renaming intro->V1
open PySem.F renaming slot_tuple_iterator_next->V2,args_tuple_iterator_next_1->XS,entry_tuple_iterator_next->X1,slot_enumerate_next->Zc
open PySem.Builtin.Slice renaming slicePlaces->V4,sliceAdjust->Yn,slicePartIndex->aaX,sliceApplied->abq
open PySem.Builtin.SmallTypes renaming nextOf->V6
open PySem.Builtin.Tuple renaming tupleExact->Wj,tupleCompareSizes->Xs,tupleItemsOf->abr
open Prod.mk renaming inj->Wq,injEq->abC
open PySem.PyData renaming strOk->Ww
open Prod renaming ext->Wz
open Array.Perm renaming refl->WB
open PySem.Calls renaming call_function_entry->W0,callWith_builtin->Xn,evalArgs_plain->XI,Name_function_global->X6,spliced_cons->X9,spliced_nil->aac
open PySem.W.KasT renaming kasWp_bind->Xb
open PySem.W.OpenLaw renaming row->Xf
open PySem.Builtin.Dict renaming showsAll->Xx
open Or renaming inr->XC,inl->YB
open PySem.Builtin.List renaming listSubscript?->XY,listAllItems->Yo,listSameRef->YA,listExtendWith->aba,listTooLong->abE,listItems->abY
open PySem.Heap.IsSliceOf renaming new->Ye
open PySem.AutoSeq1 renaming sub_tuple_tuple->Yz
open PyProof renaming noPylong_of_log2->YC
open PyProof.Rows.IsTup renaming new->YF
open List.cons renaming inj->ZN
open PySem.SeqAt.EqAt renaming int_str->ZW,str_int->ZX,int_int->Z3
open PySem.PassesOwn renaming leaving->aas
open List.Perm renaming nil_eq->aaG
open StateT renaming run_pure->aa3
open PySem.W.OpenRow renaming toRowW->abh
open PySem.SeqAt renaming EqAt->abp
open PySem.Shared renaming TypeIs->abG
open PySem.Builtin.Range renaming rangeSize->abL
open PySem.W.RowW renaming records->abV
open PySem.Heap.IsTupleIter renaming «at»->ab5
open PySem.Heap.IsListIter renaming «at»->ab8
open List.Pairwise renaming nil->ab9
open PySem.W.WData renaming int->acb
open PySem.Heap.DictOf renaming new->acd
noncomputable section
section
variable{c:Prop}{A B C E F H J L K:Sort _}
def q0x2{p p1:Prop}(h:p/\p1)(k:p->p1->c):c:=by obtain⟨h,h1⟩:=h;exact k h h1
def q0x3{p p1 p2:Prop}(h:p/\p1/\p2)(k:p->p1->p2->c):c:=by obtain⟨h,h1,h2⟩:=h;exact k h h1 h2
def q0x4{p p1 p2 p3:Prop}(h:p/\p1/\p2/\p3)(k:p->p1->p2->p3->c):c:=by obtain⟨h,h1,h2,h3⟩:=h;exact k h h1 h2 h3
def q0x5{p p1 p2 p3 p4:Prop}(h:p/\p1/\p2/\p3/\p4)(k:p->p1->p2->p3->p4->c):c:=by obtain⟨h,h1,h2,h3,h4⟩:=h;exact k h h1 h2 h3 h4
def q0x6{p p1 p2 p3 p4 p5:Prop}(h:p/\p1/\p2/\p3/\p4/\p5)(k:p->p1->p2->p3->p4->p5->c):c:=by obtain⟨h,h1,h2,h3,h4,h5⟩:=h;exact k h h1 h2 h3 h4 h5
def q1x1{p:A->Prop}(h:∃x,p x)(k:∀x,p x->c):c:=by obtain⟨x,h⟩:=h;exact k _ h
def q1x2{p p1:A->Prop}(h:∃x,p x/\p1 x)(k:∀x,p x->p1 x->c):c:=by obtain⟨x,h,h1⟩:=h;exact k _ h h1
def q1x3{p p1 p2:A->Prop}(h:∃x,p x/\p1 x/\p2 x)(k:∀x,p x->p1 x->p2 x->c):c:=by obtain⟨x,h,h1,h2⟩:=h;exact k _ h h1 h2
def q1x5{p p1 p2 p3 p4:A->Prop}(h:∃x,p x/\p1 x/\p2 x/\p3 x/\p4 x)(k:∀x,p x->p1 x->p2 x->p3 x->p4 x->c):c:=by obtain⟨x,h,h1,h2,h3,h4⟩:=h;exact k _ h h1 h2 h3 h4
def q2x1{p:A->B->Prop}(h:∃x y,p x y)(k:∀x y,p x y->c):c:=by obtain⟨x,y,h⟩:=h;exact k _ _ h
def q2x2{p p1:A->B->Prop}(h:∃x y,p x y/\p1 x y)(k:∀x y,p x y->p1 x y->c):c:=by obtain⟨x,y,h,h1⟩:=h;exact k _ _ h h1
def q2x3{p p1 p2:A->B->Prop}(h:∃x y,p x y/\p1 x y/\p2 x y)(k:∀x y,p x y->p1 x y->p2 x y->c):c:=by obtain⟨x,y,h,h1,h2⟩:=h;exact k _ _ h h1 h2
def q2x4{p p1 p2 p3:A->B->Prop}(h:∃x y,p x y/\p1 x y/\p2 x y/\p3 x y)(k:∀x y,p x y->p1 x y->p2 x y->p3 x y->c):c:=by obtain⟨x,y,h,h1,h2,h3⟩:=h;exact k _ _ h h1 h2 h3
def q3x2{p p1:A->B->C->Prop}(h:∃x y z,p x y z/\p1 x y z)(k:∀x y z,p x y z->p1 x y z->c):c:=by obtain⟨x,y,z,h,h1⟩:=h;exact k _ _ _ h h1
def q3x3{p p1 p2:A->B->C->Prop}(h:∃x y z,p x y z/\p1 x y z/\p2 x y z)(k:∀x y z,p x y z->p1 x y z->p2 x y z->c):c:=by obtain⟨x,y,z,h,h1,h2⟩:=h;exact k _ _ _ h h1 h2
def q3x4{p p1 p2 p3:A->B->C->Prop}(h:∃x y z,p x y z/\p1 x y z/\p2 x y z/\p3 x y z)(k:∀x y z,p x y z->p1 x y z->p2 x y z->p3 x y z->c):c:=by obtain⟨x,y,z,h,h1,h2,h3⟩:=h;exact k _ _ _ h h1 h2 h3
def q3x5{p p1 p2 p3 p4:A->B->C->Prop}(h:∃x y z,p x y z/\p1 x y z/\p2 x y z/\p3 x y z/\p4 x y z)(k:∀x y z,p x y z->p1 x y z->p2 x y z->p3 x y z->p4 x y z->c):c:=by obtain⟨x,y,z,h,h1,h2,h3,h4⟩:=h;exact k _ _ _ h h1 h2 h3 h4
def q3x6{p p1 p2 p3 p4 p5:A->B->C->Prop}(h:∃x y z,p x y z/\p1 x y z/\p2 x y z/\p3 x y z/\p4 x y z/\p5 x y z)(k:∀x y z,p x y z->p1 x y z->p2 x y z->p3 x y z->p4 x y z->p5 x y z->c):c:=by obtain⟨x,y,z,h,h1,h2,h3,h4,h5⟩:=h;exact k _ _ _ h h1 h2 h3 h4 h5
def q4x2{p p1:A->B->C->E->Prop}(h:∃x y z u,p x y z u/\p1 x y z u)(k:∀x y z u,p x y z u->p1 x y z u->c):c:=by obtain⟨x,y,z,u,h,h1⟩:=h;exact k _ _ _ _ h h1
def q4x4{p p1 p2 p3:A->B->C->E->Prop}(h:∃x y z u,p x y z u/\p1 x y z u/\p2 x y z u/\p3 x y z u)(k:∀x y z u,p x y z u->p1 x y z u->p2 x y z u->p3 x y z u->c):c:=by obtain⟨x,y,z,u,h,h1,h2,h3⟩:=h;exact k _ _ _ _ h h1 h2 h3
def q4x5{p p1 p2 p3 p4:A->B->C->E->Prop}(h:∃x y z u,p x y z u/\p1 x y z u/\p2 x y z u/\p3 x y z u/\p4 x y z u)(k:∀x y z u,p x y z u->p1 x y z u->p2 x y z u->p3 x y z u->p4 x y z u->c):c:=by obtain⟨x,y,z,u,h,h1,h2,h3,h4⟩:=h;exact k _ _ _ _ h h1 h2 h3 h4
def q9x3{p p1 p2:A->B->C->E->F->H->J->L->K->Prop}(h:∃x y z u v w a b d,p x y z u v w a b d/\p1 x y z u v w a b d/\p2 x y z u v w a b d)(k:∀x y z u v w a b d,p x y z u v w a b d->p1 x y z u v w a b d->p2 x y z u v w a b d->c):c:=by obtain⟨x,y,z,u,v,w,a,b,d,h,h1,h2⟩:=h;exact k _ _ _ _ _ _ _ _ _ h h1 h2
end
namespace Hd
open PySem PySem.W PySem.Calls PyProof.Rows
def topRunT (tb:String->Option Xj)(p:UI)(w:UN)(n0:Nat)(ann:Option Uh):Nat->aa4->Thread->Option aa4
 | 0,_,_=>Y
 | n+1,s,t=>match through t with
  | true=>Z s
  | false=>match stepOk n0 ann t with
   | false=>Y
   | true=>match stepT (denote tb) p w s t with
    | some (s',t')=>topRunT tb p w n0 ann n s' t'
    | none=>Y
theorem wj:∀{n:Nat} {s s':aa4} {t:Thread},topRunT tb p w n0 ann n s t=Z s'->topRun tb p w n0 ann n s.abs t=Z s'.abs
 | 0,_,_,_,h=>by cases h
 | n+1,s,s',t,h=>by
  unfold topRunT at h;unfold topRun;cases he:through t with
  | true=>simp_all
  | false=>
   rw[he] at h;cases hk:stepOk n0 ann t with
   | false=>simp_all
   | true=>
    rw[hk] at h;cases hs:stepT (denote tb) p w s t with
    | none=>simp_all
    | some r=>rw[hs] at h;rw[stepT_spec hs];exact wj h
def grow:List Obj->BT->Nat->BT
 | [],t,_=>t
 | o::r,t,n=>grow r (t.ins n o) (n+1)
def K7:List Obj->BT->Nat->Bool
 | [],_,_=>true
 | o::r,t,n=>((t.ins n o).get n).isSome&&K7 r (t.ins n o) (n+1)
theorem Ak (life:Life):∀(l:List Obj) (t:BT) (n:Nat),K7 l t n=true->aa5 (grow l t n) (n+l.length) life=⟨(aa5 t n life).objs++l.toArray,life⟩
 | [],t,n,_=>by rfl
 | o::r,t,n,h=>by
  refine q0x2 (UE.mp h) λh1 h2=>?_;show aa5 (grow r (t.ins n o) (n+1)) (n+(r.length+1)) life=_;rw[show n+(r.length+1)=n+1+r.length by omega,(Ak life r (t.ins n o) (n+1) h2),(absHeap_ins h1)];simp[Heap.push]
def BJ {Yf:Ui->A}{Ya:UN->A}{H:ZV->Vn}{k:Nat}{T:ZV->BT}
  (open_:∀w:UN,(ZL X3 p w N).map (λs=>(s.heap,s.gens,s.drawn,s.toks))=Z (H w.params,gs,d,k))
  (size:∀w:UN,((H w.params).isNs Uv&&gs.size==0,(H w.params).objs.size,(H w.params).nsMap Uv "__annotations__")=(true,m,ann))
  (tree:∀P,H P=aa5 (T P) m lf)
  (run:∀(w:UN) (os:W8),(topRunT X3 p w m ann N ⟨T w.params,m,lf,gs,d,k,os⟩ (topStub p)).map (λs=>
    ((abI (V8 p.main.body) (H w.params) s.abs.heap&&abb p s.abs.heap&&gensDone s.abs&&laidKept (H w.params) s.abs.heap),
    openSeen q loose (V8 p.main.body) Xt g0 s.abs,Yf s.abs))=Z (true,openGood q loose,Ya w)):LeftO p q loose Xt Yf Ya N g0:=λw=>by
 obtain⟨⟨h,gs',d',k',os⟩,e,e'⟩:=UP.mp (open_ w);obtain⟨rfl,rfl,rfl,rfl⟩:h=H w.params/\gs'=gs/\d'=d/\k'=k:=by simpa using e'
 obtain⟨z1,z2,z3⟩:_/\_/\_:=by simpa only[abC] using size w
 refine q1x2 (UP.mp (run w os)) λs r1 r2=>?_;obtain⟨l1,l2,l3⟩:_/\_/\_:=by simpa only[abC] using r2
 have r:=wj r1;have ea:SharedT.abs ⟨T w.params,m,lf,gs',d',k',os⟩=⟨H w.params,gs',d',k',os⟩:=by rw[tree];rfl
 rw[ea] at r;have t:topFrom X3 p w N ⟨H w.params,gs',d',k',os⟩=Z s.abs:=by
  unfold topFrom;rw[z1,z2,z3,r];show(match abI (V8 p.main.body) (H w.params) s.abs.heap&&abb p s.abs.heap&&gensDone s.abs&&laidKept (H w.params) s.abs.heap with|true=>_|false=>_)=_;rw[l1]
 unfold openEnds;rw[e];show(topFrom X3 p w N _).map _=_;rw[t];exact congrArg Z (Wz l2 l3)
noncomputable def bootT (P:ZV):BT:=grow (V9 P).objs.toList .nil 0
lay_quick Hd.topRunT W.topStub
def D4 (P:ZV):V9 P=aa5 (bootT P) 11 {}:=(Ak {} (V9 P).objs.toList .nil 0 (by kernel_rfl)).symm
noncomputable def RT (p:UI) (w:UN) (N:Nat) (os:W8):Option aa4:=topRunT X3 p w 11 (Z (UO 6)) N ⟨bootT w.params,11,{},Z9 [],abc,abJ,os⟩ (topStub p)
noncomputable def pA (p:UI) (P:ZV) (s:Ui):Bool:=abI (V8 p.main.body) (V9 P) s.heap&&abb p s.heap&&gensDone s&&laidKept (V9 P) s.heap
def pB (q:UI)(mods:List Str)(Xt:Ui->Bool)(s:Ui):Bool:=(s.heap.keysOk (abd q []) ((YS q).map (·.name)) ((litsOf q).map (·.1)) ((clssOf q (abd q [])).map (·.name))&&s.heap.accountedOkI mods&&s.heap.isNs Uv&&s.heap.isNs X5&&tablesOk q s.heap&&Xt s&&(if true then s.gens.size==0 else !leftWithCleanup s.gens))&&tabsOk q s
def pC (q:UI)(s:Ui):=(seen ((YS q).map (·.name)) (ownsOf q) [] {s with gens:=#[]},s.heap.bltView,wideSeen q s)
def pD (q:UI)(s:Ui):=(pinSeenD q (abU q) s,plainSeenE q (abd q []) s,plainSeenD q [] s,clsSeenW q [] s)
lay_quick Hd.pB
lay_quick Hd.pC
lay_quick Hd.pD
def yb {x:Option α}{f:α->A}{g:α->B}{a:A}{b:B}(h1:x.map f=Z a)(h2:x.map g=Z b):x.map (λs=>(f s,g s))=Z (a,b):=by
 cases x with
 | none=>cases h1
 | some s=>simp_all
def Bo {Yf:Ui->A}{Ya:UN->A}
  (open_:∀w:UN,(ZL X3 p w N).map (λs=>(s.heap,s.gens,s.drawn,s.toks))=Z (V9 w.params,Z9 [],abc,abJ))
  (size:∀w:UN,((V9 w.params).isNs Uv&&(Z9 ([]:List GenState)).size==0,(V9 w.params).objs.size,(V9 w.params).nsMap Uv "__annotations__")=(true,11,Z (UO 6)))
  (r1:∀(w:UN) (os:W8),(RT p w N os).map (λs=>pA p w.params s.abs&&pB q (V8 p.main.body) Xt s.abs)=Z true)
  (r2:∀(w:UN) (os:W8),(RT p w N os).map (λs=>pC q s.abs)=Z (abe q,ZM,wideGood q))
  (r3:∀(w:UN) (os:W8),(RT p w N os).map (λs=>pD q s.abs)=Z (pinGoodD (abU q),abf q (abd q []),abg q [],clsGoodW q []))
  (r4:∀(w:UN) (os:W8),(RT p w N os).map (λs=>Yf s.abs)=Z (Ya w)):LeftO p q [] Xt Yf Ya N true:=
 BJ open_ size D4 λw os=>by
  show(RT p w N os).map _=_;have h:=yb (yb (r1 w os) (r2 w os)) (yb (r3 w os) (r4 w os));cases e:RT p w N os with
  | none=>simp_all
  | some s=>
   rw[e] at h;refine q0x2 (Wq (UT h)) λh1 h2=>?_;refine q0x2 (Wq h1) λh1 h3=>?_;refine q0x2 (Wq h2) λh4 h5=>?_;refine q0x2 (UE.mp h1) λa b=>?_;refine q0x2 (UE.mp b) λb c=>?_;refine q0x2 (Wq h3) λc1 c2=>?_;refine q0x2 (Wq c2) λc2 c3=>?_;refine q0x2 (Wq h4) λd1 d2=>?_;refine q0x2 (Wq d2) λd2 d3=>?_;refine q0x2 (Wq d3) λd3 d4=>?_;exact congrArg Z (Wz a (Wz (Wz c1 (Wz c2 (Wz b (Wz c (Wz d1 (Wz d2 (Wz d3 (Wz c3 d4)))))))) h5))
def lk (s:aa4)(a:Nat):Option Obj:=match Nat.blt a s.n with
 | true=>(match s.tree.get a with
  | some o=>alive o
  | none=>Y)
 | false=>Y
def Rb {a:Nat}(h:lk s a=Z o):s.abs.heap.get? a=Z o:=by
 unfold lk at h;cases b:Nat.blt a s.n with
 | false=>simp_all
 | true=>
  rw[b] at h;cases g:s.tree.get a with
  | none=>simp_all
  | some x=>rw[g] at h;exact(abs_get (Nat.blt_eq.mp b) g).trans h
theorem BA {f:β->Obj}:∀{as:List Nat} {l:List β},as.map (lk s)=l.map (λp=>Z (f p))->as.map s.abs.heap.get?=l.map (λp=>Z (f p))
 | [],[],_=>rfl
 | [],_::_,h=>by cases h
 | _::_,[],h=>by cases h
 | a::as,p::l,h=>by
  refine q0x2 (ZN h) λx y=>?_;show s.abs.heap.get? a::as.map s.abs.heap.get?=_;rw[Rb x,BA y];rfl
def left_km {K:ZV->Uu}{as:List Ul}{e:∀P,as=(K P).map (·.1)}
  (open_:∀w:UN,(ZL X3 p w N).map (λs=>(s.heap,s.gens,s.drawn,s.toks))=Z (V9 w.params,Z9 [],abc,abJ))
  (size:∀w:UN,((V9 w.params).isNs Uv&&(Z9 ([]:List GenState)).size==0,(V9 w.params).objs.size,(V9 w.params).nsMap Uv "__annotations__")=(true,11,Z (UO 6)))
  (r1:∀(w:UN) (os:W8),(RT p w N os).map (λs=>pA p w.params s.abs&&pB q (V8 p.main.body) Xt s.abs)=Z true)
  (r2:∀(w:UN) (os:W8),(RT p w N os).map (λs=>pC q s.abs)=Z (abe q,ZM,wideGood q))
  (r3:∀(w:UN) (os:W8),(RT p w N os).map (λs=>pD q s.abs)=Z (pinGoodD (abU q),abf q (abd q []),abg q [],clsGoodW q []))
  (r4:∀(w:UN) (os:W8),(RT p w N os).map (λs=>(as.map (lk s),ts.map (lk s)))=Z ((K w.params).map (λp=>Z p.2),ts.map λ_=>Z (tabObj #[]))) :
  LeftO p q [] Xt (kmHook K as e ts).obs (kmHook K as e ts).val N true:=
 Bo open_ size r1 r2 r3 λw os=>by
  refine q1x2 (UP.mp (r4 w os)) λs h1 h2=>?_;refine q0x2 (Wq h2) λa b=>?_;rw[h1];exact congrArg Z (Wz (BA a) (BA b))
abbrev Bw:=Xy->Bool
abbrev Cu (t:Bw):={p:Bw×Bw×Bw×Bw×Bw×Bw×Bw×Bw×Bw×Bw×Bw×Bw×Bw //∀l,t l=(p.1 l&&p.2.1 l&&p.2.2.1 l&&p.2.2.2.1 l&&p.2.2.2.2.1 l&&p.2.2.2.2.2.1 l&&p.2.2.2.2.2.2.1 l&&p.2.2.2.2.2.2.2.1 l&&p.2.2.2.2.2.2.2.2.1 l&&p.2.2.2.2.2.2.2.2.2.1 l&&p.2.2.2.2.2.2.2.2.2.2.1 l&&p.2.2.2.2.2.2.2.2.2.2.2.1 l&&p.2.2.2.2.2.2.2.2.2.2.2.2 l)}
noncomputable abbrev Cu.a {t:Bw} (c:Cu t):Bw:=c.1.1
noncomputable def Cu.r {t:Bw} (c:Cu t) (l:Xy):Bool:=c.1.2.1 l&&c.1.2.2.1 l&&c.1.2.2.2.1 l&&c.1.2.2.2.2.1 l&&c.1.2.2.2.2.2.1 l&&c.1.2.2.2.2.2.2.1 l&&c.1.2.2.2.2.2.2.2.1 l&&c.1.2.2.2.2.2.2.2.2.1 l&&c.1.2.2.2.2.2.2.2.2.2.1 l&&c.1.2.2.2.2.2.2.2.2.2.2.1 l&&c.1.2.2.2.2.2.2.2.2.2.2.2.1 l&&c.1.2.2.2.2.2.2.2.2.2.2.2.2 l
def Cu.ok {t:Bw}{l:Xy}(c:Cu t)(x:c.a l=true)(y:c.r l=true):t l=true:=by
 rw[c.2];simp_all [Cu.r]
noncomputable def c0:Cu W.Fast.tw9446332074065402090:=⟨(_,_,_,_,_,_,_,_,_,_,_,_,_),λl=>rfl⟩
noncomputable def c1:Cu c0.a:=⟨(_,_,_,_,_,_,_,_,_,_,_,_,_),λl=>rfl⟩
noncomputable def c2:Cu c1.a:=⟨(_,_,_,_,_,_,_,_,_,_,_,_,_),λl=>rfl⟩
def said_of {l:Xy}(h1:c0.r l=true)(h2:c1.r l=true)(h3:c2.r l=true)(h4:c2.a l=true):l.wellSaid=true:=by
 rw[W.Fast.te9446332074065402090];exact c0.ok (c1.ok (c2.ok h4 h3) h2) h1
end Hd
section
open PySem PySem.W PyProof.Rows
noncomputable abbrev K27.VV:UI:=(view PySem.Challenge.pw_glowrow_k27_whole_scores_played [1,2,3,4,5,6,7,9,10,12,13,14,15,17,18,19,20,21,22,24,25,26,27,28,29,30,31,33,34,35,36,37,38,39,40,41,42,43,44,45,46,48,49,51,52,53,55,56,57,58,59,60,61,62,64,65,66,67,68,69,70,71,72,73,74,75,76,77,78,79,80,81,82,83])
set_option maxHeartbeats 0 in
def K27.s1:Hd.c0.r PySem.Challenge.rw_glowrow_k27_whole_scores_played=true:=by kernel_rfl
set_option maxHeartbeats 0 in
def K27.s2:Hd.c1.r PySem.Challenge.rw_glowrow_k27_whole_scores_played=true:=by kernel_rfl
set_option maxHeartbeats 0 in
def K27.s3:Hd.c2.r PySem.Challenge.rw_glowrow_k27_whole_scores_played=true:=by kernel_rfl
set_option maxHeartbeats 0 in
def K27.s4:Hd.c2.a PySem.Challenge.rw_glowrow_k27_whole_scores_played=true:=by kernel_rfl
set_option maxHeartbeats 0 in
def K27.h1:∀(w:UN) (os:W8),(Hd.RT (Xf PySem.Challenge.rw_glowrow_k27_whole_scores_played).prog w 8632 os).map (λs=>Hd.pA (Xf PySem.Challenge.rw_glowrow_k27_whole_scores_played).prog w.params s.abs&&Hd.pB K27.VV (V8 (Xf PySem.Challenge.rw_glowrow_k27_whole_scores_played).prog.main.body) (λs=>xlAt K27.VV [] s&&recOk (abV (abh (Xf PySem.Challenge.rw_glowrow_k27_whole_scores_played))) s) s.abs)=Z true:=by
 intro w os;unfold Hd.RT;rw[W.Fast.te15732481512506401174,W.Fast.te2530740449226627131,W.Fast.te13930993214811372802];kernel_rfl
set_option maxHeartbeats 0 in
def K27.h2:∀(w:UN) (os:W8),(Hd.RT (Xf PySem.Challenge.rw_glowrow_k27_whole_scores_played).prog w 8632 os).map (λs=>Hd.pC K27.VV s.abs)=Z (abe K27.VV,ZM,wideGood K27.VV):=by
 intro w os;unfold Hd.RT;rw[W.Fast.te15732481512506401174,W.Fast.te2530740449226627131,W.Fast.te7338995916957470747];kernel_rfl
set_option maxHeartbeats 0 in
def K27.h3:∀(w:UN) (os:W8),(Hd.RT (Xf PySem.Challenge.rw_glowrow_k27_whole_scores_played).prog w 8632 os).map (λs=>Hd.pD K27.VV s.abs)=Z (pinGoodD (abU K27.VV),abf K27.VV (abd K27.VV []),abg K27.VV [],clsGoodW K27.VV []):=by
 intro w os;unfold Hd.RT;rw[W.Fast.te15732481512506401174,W.Fast.te2530740449226627131,W.Fast.te4913325751328045840];kernel_rfl
end
namespace L2
open PySem PySem.Spec PyProof.Rows List
abbrev bM:=Sum Int Str
def uK:bM->Uh->Bool
 | .inl k,v=>ab3 k v
 | .inr x,v=>abD x v
def Tp (w:UN):bM->Int
 | .inl k=>hashInt k
 | .inr x=>hashStr w x
theorem bX:∀{k:bM} {v:Uh},uK k v=true->(∃i t,k=UQ i/\v=YD i t)\/(∃x t,k=XD x/\v=aca x t)
 | .inl i,v,h=>by
  refine q1x1 (Value.isInt_shape   h) λt e=>?_;exact .inl ⟨i,t,rfl,e⟩
 | .inr x,v,h=>by
  refine q1x1 (Value.isStrOf_shape   h) λt e=>?_;exact .inr ⟨x,t,rfl,e⟩
def Dj (i:Int)(t:Tok):uK (.inl i) (.int i t)=true:=by simp[uK,ab3]
def D0 (x:Str)(t:Tok):uK (.inr x) (.str x t)=true:=by simp[uK,abD]
def Oh (a b:Int):decide ((UQ a:bM)=UQ b)=(a==b):=by
 grind
def Ot (a b:Str):decide ((XD a:bM)=XD b)=decide (a=b):=by
 simp
def Mu (a:Int)(b:Str):decide ((UQ a:bM)=XD b)=false:=decide_eq_false (λq=>nomatch q)
def MD (a:Str)(b:Int):decide ((XD a:bM)=UQ b)=false:=decide_eq_false (λq=>nomatch q)
def bA (prog:UI)(w:UN):PySem.KeyKind prog w bM where
 is:=uK
 hash:=Tp w
 inj:=λv a b ha hb=>by
  rcases bX ha with⟨i,t,rfl,rfl⟩|⟨x,t,rfl,rfl⟩
  ·rcases bX hb with⟨j,u,rfl,e⟩|⟨y,u,rfl,e⟩
   ·injection e with e1 _;rw[e1]
   ·exact nomatch e
  ·rcases bX hb with⟨j,u,rfl,e⟩|⟨y,u,rfl,e⟩
   ·exact nomatch e
   ·injection e with e1 _;rw[e1]
 byValue:=λk v h=>by
  rcases bX h with⟨i,t,rfl,rfl⟩|⟨x,t,rfl,rfl⟩ <;> rfl
 pyHash:=λhv h=>by
  rcases bX hv with⟨i,t,rfl,rfl⟩|⟨x,t,rfl,rfl⟩
  ·exact wpAny_pyHash_int h
  ·exact wpAny_pyHash_str h
 eqBool:=λhu hv h=>by
  rcases bX hu with⟨i,t,rfl,rfl⟩|⟨x,t,rfl,rfl⟩
  ·rcases bX hv with⟨j,u,rfl,rfl⟩|⟨y,u,rfl,rfl⟩
   ·rw[Oh] at h;exact aau h
   ·rw[Mu] at h;exact ZW i t y u _ _ _ _ h
  ·rcases bX hv with⟨j,u,rfl,rfl⟩|⟨y,u,rfl,rfl⟩
   ·rw[MD] at h;exact ZX x t j u _ _ _ _ h
   ·rw[Ot] at h;exact wpAny_eqBool_str h
 «strs»:=λk x t v h=>by
  rcases bX h with⟨i,u,rfl,e⟩|⟨y,u,rfl,e⟩
  ·exact nomatch e
  ·injection e with e1 _
   subst e1;cases v <;> rfl
def yn (prog:UI)(w:UN)(i:Int)(t:Tok):(bA prog w).is (.inl i) (.int i t)=true:=Dj i t
def yU (prog:UI)(w:UN)(x:Str)(t:Tok):(bA prog w).is (.inr x) (.str x t)=true:=D0 x t
inductive V where
 | non|bl (b:Bool)|int (i:Int)|str (x:Str)|byt (b:Array UInt8)|flt (b:UInt64)|ref (a:Ul)|ty (n:String)
 deriving DecidableEq
def aS:V->Uh->Prop
 | .non,u=>u=U5
 | .bl b,u=>u=ab6 b
 | .int i,u=>∃t,u=YD i t
 | .str x,u=>∃t,u=aca x t
 | .byt b,u=>∃t,u=Value.bytes b t
 | .flt b,u=>∃t,u=Value.float b t
 | .ref a,u=>u=UO a
 | .ty n,u=>u=ab7 n
abbrev aV:List V->List Uh->Prop:=Paired aS
def aV.length (r:aV xs us):xs.length=us.length:=Paired.length r
theorem aV.get:∀{xs:List V} {us:List Uh} {i:Nat} {x:V},aV xs us->xs[i]?=Z x->∃u,us[i]?=Z u/\aS x u
 | _,_,_,_,.nil,e=>by simp_all
 | _,_,0,_,.cons r _,e=>by simp at e;subst e;exact⟨_,rfl,r⟩
 | _,_,i+1,x,.cons _ t,e=>by
  refine q1x2 (aV.get   t (by assumption)) λu h1 h2=>?_;exact⟨u,by assumption,h2⟩
theorem aV.set (r:aS x u):∀{xs:List V} {us:List Uh} (i:Nat),aV xs us->aV (xs.set i x) (us.set i u)
 | _,_,_,.nil=>.nil
 | _,_,0,.cons _ t=>.cons r t
 | _,_,i+1,.cons q t=>.cons q (aV.set r i t)
theorem aV.append:∀{xs ys:List V} {us ws:List Uh},aV xs us->aV ys ws->aV (xs++ys) (us++ws)
 | _,_,_,_,.nil,s=>s
 | _,_,_,_,.cons r t,s=>.cons r (aV.append t s)
theorem aV.take:∀{xs:List V} {us:List Uh} (n:Nat),aV xs us->aV (xs.take n) (us.take n)
 | _,_,0,_=>.nil
 | _,_,_+1,.nil=>.nil
 | _,_,n+1,.cons r t=>.cons r (aV.take n t)
theorem aV.drop:∀{xs:List V} {us:List Uh} (n:Nat),aV xs us->aV (xs.drop n) (us.drop n)
 | _,_,0,r=>r
 | _,_,_+1,.nil=>.nil
 | _,_,n+1,.cons _ t=>aV.drop n t
def lY:Option V->Option Uh->Prop
 | some v,Z u=>aS v u
 | none,Y=>True
 | _,_=>False
def KV {κ:Type}:List (κ×V)->List (κ×Uh)->Prop:=Paired λ(p:κ×V) (q:κ×Uh)=>p.1=q.1/\aS p.2 q.2
def kV:bM->V
 | .inl i=>.int i
 | .inr x=>.str x
inductive HO where
 | lst (xs:List V)
 | tup (xs:List V)
 | dK (kvs:List (bM×V))|dT (kvs:List (List bM×V))
 | set (S:Int->Bool) (n:Nat)
 | ins (C dx:Ul) (fs:List (Str×V))
 | own (x:Ul)
 | xd (fs:List (Str×V))
 | met (f x:Ul)
 | rng (lo hi:Int)
 | frz (o:Obj) (u:HO)
 | tbl (ps:Array Uh)
 | ext (φ:Vn->Prop)
abbrev Hp:=Ul->Option HO
def bB (H:Hp)(a:Ul)(o:HO):Hp:=λb=>if b=a then Z o else H b
def aX {a:Ul}:bB H a o a=Z o:=by unfold bB;simp
def ar {a:Ul}(h:b≠a):bB H a o b=H b:=by unfold bB;rw[if_neg h]
def Iz {a:Ul}:bB (bB H a o) a u=bB H a u:=by
 unfold bB;simp_all
def yu {H:Hp}{a:Ul}(h:H a=Z o)(h':H b=Z u)(d:o≠u):a≠b:=by
 intro e;simp_all
def bF {H:Hp}{a:Ul}(h:H a=Z o)(h':H b=Y):a≠b:=by
 grind
section
variable (P:UI)(w:UN)
def bK (H:Hp)(h:Vn)(a:Ul):HO->Prop
 | .lst xs=>xs.length<=Ur/\∃(its:List Uh) (n:Nat),aV xs its/\h.get? a=Z {cls:=.type "list",data:=.seq its.toArray n}
 | .tup xs=>xs.length<=Ur/\∃its:List Uh,aV xs its/\aaL h a its.toArray
 | .dK kvs=>kvs.length<=Ur/\(a==Vp)=false/\∃vs,KV kvs vs/\h.DictOf (bA P w) a vs
 | .dT kvs=>kvs.length<=Ur/\(a==Vp)=false/\∃xs:List (List bM×Ul×Uh),
   Paired (λ(p:List bM×V) (q:List bM×Ul×Uh)=>p.1=q.1/\H q.2.1=Z (.tup (p.1.map kV))/\aS p.2 q.2.2) kvs xs/\
   ∃o es ep,h.get? a=Z o/\o.ExactDict/\o.data=.dict es ep/\es.toList=xs.map (abi (Xz (bA P w)))/\(xs.map (·.1)).Nodup
 | .set S n=>h.SetOf (intKind P w) a S n
 | .ins C dx fs=>H dx=Z (.own a)/\fs.length<=1000/\dx≠a/\h.get? a=Z (YE C dx)/\
   ∃mA,h.Ns1 dx mA/\(∀f,lY (fs.lookup f) (mA f))/\PySem.Within mA (fs.map (·.1))
 | .own _=>∃o,h.get? a=Z o
 | .xd fs=>∃mA,h.Ns1 a mA/\∀f,lY (fs.lookup f) (mA f)
 | .rng lo hi=>∃t u v,h.get? a=Z {cls:=.type "range",data:=.fields #[.int lo t,.int hi u,.int 1 v]}
 | .frz o u=>h.get? a=Z o/\bK H h a u
 | .tbl ps=>h.get? a=Z {cls:=.none,data:=.fields ps}
 | .met f x=>h.get? a=Z (W.methodObj (.ref f) (.ref x))
 | .ext φ=>φ h/\(∃o,h.get? a=Z o)/\∀h1 h2:Vn,φ h1->(∀o,h1.get? a=Z o->h2.get? a=Z o)->φ h2
def mY (H:Hp)(h:Vn):Prop:=∀a o,H a=Z o->bK P w H h a o
end
section
variable {P:UI}{w:UN}{H H':Hp}{h h':Vn}{a:Ul}{o:HO}
def bK.lt (x:bK P w H h a o):a<h.objs.size:=by
 cases o with
 | lst xs=>obtain⟨_,_,_,_,e⟩:=x;exact Ut e
 | tup xs=>obtain⟨_,_,_,p⟩:=x;exact p.lt
 | dK kvs=>obtain⟨_,_,_,_,o,_,_,e,_⟩:=x;exact Ut e
 | dT kvs=>obtain⟨_,_,_,_,o,_,_,e,_⟩:=x;exact Ut e
 | set S n=>refine q4x2 x λo _ _ _ e _=>?_;exact Ut e
 | ins C dx fs=>refine q0x5 x λ_ _ _ e _=>?_;exact Ut e
 | own y=>refine q1x1 x λ_ e=>?_;exact Ut e
 | xd fs=>obtain⟨_,⟨_,_,_,e,_⟩,_⟩:=x;exact Ut e
 | rng lo hi=>obtain⟨_,_,_,e⟩:=x;exact Ut e
 | frz ob u=>refine q0x2 x λe _=>?_;exact Ut e
 | tbl ps=>exact Ut (x)
 | met f y=>exact Ut (x)
 | ext φ=>obtain⟨_,⟨_,e⟩,_⟩:=x;exact Ut e
theorem Paired.mapP {F G:α->β->Prop}:∀{l₁:List α} {l₂:List β},Paired F l₁ l₂->(∀a b,F a b->G a b)->Paired G l₁ l₂
 | _,_,.nil,_=>.nil
 | _,_,.cons r t,f=>.cons (f _ _ r) (Paired.mapP t f)
def bK.stay (x:bK P w H h a o)(k:∀b u,(b=a\/H b=Z (.own a))->h.get? b=Z u->h'.get? b=Z u)
  (ho:∀b,H b=Z (.own a)->H' b=Z (.own a)) (ht:∀b xs,H b=Z (.tup xs)->H' b=Z (.tup xs)):bK P w H' h' a o:=by
 induction o with
 | lst xs=>obtain⟨z,its,n,r,e⟩:=x;exact⟨z,its,n,r,k _ _ (.inl rfl) e⟩
 | tup xs=>obtain⟨z,its,r,ob,e,c⟩:=x;exact⟨z,its,r,ob,k _ _ (.inl rfl) e,c⟩
 | dK kvs=>obtain⟨z,y,vs,r,ob,es,ep,e,c⟩:=x;exact⟨z,y,vs,r,ob,es,ep,k _ _ (.inl rfl) e,c⟩
 | dT kvs=>
  obtain⟨z,y,xs,r,ob,es,ep,e,c⟩:=x;exact⟨z,y,xs,Paired.mapP r λp q z=>⟨z.1,ht _ _ z.2.1,z.2.2⟩,ob,es,ep,k _ _ (.inl rfl) e,c⟩
 | set S n=>refine q4x2 x λob es ep t e c=>?_;exact⟨ob,es,ep,t,k _ _ (.inl rfl) e,c⟩
 | ins C dx fs=>
  obtain⟨d,z,ne,e,mA,⟨od,es,ep,e2,c⟩,r⟩:=x;exact⟨ho _ d,z,ne,k _ _ (.inl rfl) e,mA,⟨od,es,ep,k _ _ (.inr d) e2,c⟩,r⟩
 | own y=>refine q1x1 x λob e=>?_;exact⟨ob,k _ _ (.inl rfl) e⟩
 | xd fs=>obtain⟨mA,⟨od,es,ep,e,c⟩,r⟩:=x;exact⟨mA,⟨od,es,ep,k _ _ (.inl rfl) e,c⟩,r⟩
 | rng lo hi=>obtain⟨t,u,v,e⟩:=x;exact⟨t,u,v,k _ _ (.inl rfl) e⟩
 | frz ob u ih=>refine q0x2 x λe q=>?_;exact⟨k _ _ (.inl rfl) e,ih q⟩
 | tbl ps=>
  have e:h.get? a=Z {cls:=.none,data:=.fields ps}:=x;exact k a _ (.inl rfl) e
 | met f y=>
  exact k a _ (.inl rfl) x
 | ext φ=>obtain⟨p,⟨o,e⟩,st⟩:=x;exact⟨st _ _ p λo q=>k _ _ (.inl rfl) q,⟨o,k _ _ (.inl rfl) e⟩,st⟩
def mY.lt (x:mY P w H h)(e:H a=Z o):a<h.objs.size:=(x a o e).lt
def mY.fresh (x:mY P w H h)(e:h.objs.size<=a):H a=Y:=by
 cases q:H a with
 | none=>rfl
 | some u=>exact absurd (Ux (x.lt q) e) (Wi _)
def mY.kept (x:mY P w H h)(k:∀b u,h.get? b=Z u->h'.get? b=Z u):mY P w H h':=λa o e=>
 (x a o e).stay (λb u _ q=>k b u q) (λ_ q=>q) λ_ _ q=>q
def mY.laid (x:mY P w H h)(k:∀b u,h.get? b=Z u->h'.get? b=Z u)(hp:h.objs.size<=a)(new:bK P w (bB H a o) h' a o):mY P w (bB H a o) h':=λb u e=>by
 have hn:=x.fresh hp
 by_cases hb:b=a
 ·subst hb;rw[aX] at e;grind
 ·rw[ar hb] at e;exact(x b u e).stay (λc v _ q=>k c v q) (λc q=>by rwa [ar (bF q hn)]) λc xs q=>by rwa [ar (bF q hn)]
end
def Rd (H:Hp)(a:Ul)(u:HO):Prop:=H a=Z u\/∃o,H a=Z (.frz o u)
def Rd.ok {a:Ul}(r:Rd H a u)(x:mY P w H h):bK P w H h a u:=by
 rcases r with r|⟨o,r⟩
 ·exact x a u r
 ·refine q0x2 (x a _ r) λ_ q=>?_;omega
def PL:Option HO->Prop
 | some (.lst _)=>True
 | some (.dK _)=>True
 | some (.dT _)=>True
 | some (.set _ _)=>True
 | some (.ins _ _ _)=>True
 | some (.ext _)=>True
 | _=>False
section
variable {P:UI}{w:UN}{H:Hp}{h h':Vn}{x e:Ul}{o':HO}
def mY.write (ok:mY P w H h)(mu:PL (H x))(he:e=x\/H e=Z (.own x))(k:∀b u,b≠e->h.get? b=Z u->h'.get? b=Z u)(heo:∃u,h'.get? e=Z u)
  (new:bK P w (bB H x o') h' x o'):mY P w (bB H x o') h':=λb u q=>by
 have nown:∀c y,H c=Z (.own y)->c≠x:=λc y r z=>by subst z;rwa [r] at mu
 by_cases hb:b=x
 ·subst hb;rw[aX] at q;cases q;exact new
 ·rw[ar hb] at q
  by_cases hbe:b=e
  ·have q':H b=Z (.own x):=by
    simp_all
   rw[q] at q';cases q';refine q1x1 heo λv hv=>?_;exact⟨v,by rwa [hbe]⟩
  ·refine(ok b u q).stay (λc v hc r=>k c v ?_ r) (λc r=>by rw[ar (nown c b r)];exact r) λc xs r=>by rw[ar ((λc xs r z=>by subst z;rw[r] at mu;exact mu) c xs r)];exact r
   grind
end
structure Un (fs ex:List Ul)(H H':Hp)(h h':Vn):Prop where
 keep:∀b o,h.get? b=Z o->H b=Y->b∉fs->b∉ex->h'.get? b=Z o
 slot:∀b o,h.get? b=Z o->H b=Y->b∈fs->b∉ex->∃sl,h'.get? b=Z {o with slots:=sl}
 free:∀b o,h.get? b=Z o->H b=Y->b∉ex->H' b=Y
 there:∀b o,h.get? b=Z o->b∉ex->∃o',h'.get? b=Z o'
 tups:∀b xs,H b=Z (.tup xs)->H' b=Z (.tup xs)
 frzs:∀b o u,H b=Z (.frz o u)->H' b=Z (.frz o u)
 tbls:∀b ps,H b=Z (.tbl ps)->∃more,H' b=Z (.tbl (ps++more))
section
variable {fs fs' ex ex':List Ul}{H H1 H2:Hp}{h h1 h2 h':Vn}{a x e:Ul}{o:HO}
def Un.any (u:Un fs ex H H1 h h1)(q:h.get? b=Z ob)(n:H b=Y)(hx:b∉ex):∃sl,h1.get? b=Z {ob with slots:=sl}:=by
 by_cases hb:b∈fs
 ·exact u.slot b ob q n hb hx
 ·exact⟨ob.slots,u.keep b ob q n hb hx⟩
def Un.kept (k:∀b u,h.get? b=Z u->h'.get? b=Z u):Un fs ex H H h h':=
 ⟨λb ob q _ _ _=>k b ob q,λb ob q _ _ _=>⟨ob.slots,k b ob q⟩,λ_ _ _ n _=>n,λb ob q _=>⟨ob,k b ob q⟩,λ_ _ q=>q,λ_ _ _ q=>q,λ_ ps q=>⟨#[],by simp_all⟩⟩
def Un.refl:Un fs ex H H h h:=Un.kept λ_ _ q=>q
def Un.laid (k:∀b u,h.get? b=Z u->h'.get? b=Z u)(hp:h.objs.size<=a)(hn:H a=Y):Un fs ex H (bB H a o) h h' where
 keep:=λb u q _ _ _=>k b u q
 slot:=λb u q _ _ _=>⟨u.slots,k b u q⟩
 free:=λb u q n _=>by rwa [ar (Uz (Ux (Ut q) hp))]
 there:=λb u q _=>⟨u,k b u q⟩
 tups:=λb xs q=>by rwa [ar (bF q hn)]
 frzs:=λb u xs q=>by rwa [ar (bF q hn)]
 tbls:=λb ps q=>⟨#[],by rw[ar (bF q hn),q];rfl⟩
def Un.write (mu:PL (H x))(he:e=x\/H e=Z (.own x))(k:∀b u,b≠e->h.get? b=Z u->h'.get? b=Z u)(heo:∃u,h'.get? e=Z u):Un fs ex H (bB H x o) h h':=by
 have hx:∀b,H b=Y->b≠x:=λb n z=>by subst z;rwa [n] at mu
 have hb:∀b,H b=Y->b≠e:=λb n z=>by
  grind
 have hm:∀b u,H b=Z u->¬PL (Z u)->b≠x:=λb u q nm z=>by simp_all
 refine⟨λb u q n _ _=>k b u (hb b n) q,λb u q n _ _=>⟨u.slots,k b u (hb b n) q⟩,λb u q n _=>by rw[ar (hx b n)];exact n,λb u q _=>?_,
  λb xs q=>by rw[ar (hm b _ q λz=>z)];exact q,λb u xs q=>by rwa [ar (hm b _ q λz=>z)],λb ps q=>⟨#[],by rw[ar (hm b _ q λz=>z),q];simp⟩⟩
 by_cases hbe:b=e
 ·simp_all
 ·exact⟨u,k b u hbe q⟩
end
def trk (h:Vn)(H:Hp):List Ul:=(UH h.objs.size).filter λa=>(H a).isSome
def xA (h:Vn)(H:Hp):Vn:=aav h (trk h H)
def C5 (h:Vn)(H:Hp):(xA h H).objs.size=h.objs.size:=W.hideAll_size _ _
def FW (e:h.get? b=Z o)(n:H b=Y):(xA h H).get? b=Z o:=
 Yw _ e λhm=>by
  have q:=(mem_filter.mp hm).2
  simp_all
def KD (e:(xA h H).get? b=Z o):h.get? b=Z o/\H b=Y:=by
 have e':=W.of_hideAll (trk h H) e;refine⟨e',?_⟩;cases q:H b with
 | none=>rfl
 | some x=>
  have z:(xA h H).get? b=Y:=W.hideAll_none (trk h H) (mem_filter.mpr ⟨YT.mpr (Ut e'),by simp[q]⟩)
  grind
def JG (g h:Vn)(L:Ul):List (Ul×Obj):=(UH h.objs.size).filterMap λa=>if a=L\/(g.get? a).isSome=true then Y else(h.get? a).map λo=>(a,o)
def rest (g h:Vn)(L d:Ul):List (Ul×Obj):=(JG g h L).filter λp=>decide (p.1≠d)
structure Mod (K:Uu)(mg:Str->Option Uh)(base:Vn):Prop where
 kin:K.In base
 glob:base.Ns Uv mg
 blt:∃mb,base.Ns X5 mb/\∀x:Str,x≠"__name__"->mb x=Vv x
 nolimit:base.NoLimit
structure Cx where
 prog:UI
 w:UN
 K:Uu
 mg:Str->Option Uh
 base:Vn
 A:Vd
 N:List Str
 s₀:Ui
 H₀:Hp
 env:Env
 outer:List Env
 stack:List Env
 ex:List Ul
 fn:Str->Bool
 calm:Bool
 pn:List (Ul×Obj)
 xe:Uh->Ui->Prop
def vq (l:List Env):List Ul:=l.filterMap (·.frame)
abbrev Cx.fs (X:Cx):List Ul:=vq X.outer
def LZ (sc:Y6)(x:Str):Prop:=sc.names.lookup x=Z .local\/sc.names.lookup x=Z .cell\/sc.names.lookup x=Z .free
def Ep (sc:Y6)(x:Str):Prop:=sc.names.lookup x=Z .local\/sc.names.lookup x=Z .cell
def SG (env:Env)(h:Vn)(m:Str->Option Uh)(x:Str)(u:Uh):Prop:=
 (env.kindOf x=Z .local/\m x=Z u)\/((env.kindOf x=Z .cell\/env.kindOf x=Z .free)/\∃c,env.cells.lookup x=Z c/\h.IsCell c (Z u))
structure Cx.Ok (X:Cx):Prop where
 mod:Mod X.K X.mg X.base
 kind:X.env.scope.kind=.function
 glob:X.env.globals=Uv
 blt:X.env.builtins=X5
 above:X.s₀.heap.objs.size<=X.env.locals
 inj:∀x y c,X.env.cells.lookup x=Z c->X.env.cells.lookup y=Z c->x=y
 has:∀x,(X.env.kindOf x=Z .cell\/X.env.kindOf x=Z .free)->∃c,X.env.cells.lookup x=Z c
 cab:∀x c,X.fn x=true->X.env.cells.lookup x=Z c->X.s₀.heap.objs.size<=c
 hd:X.calm=true->X.A.handled=Y
 frames:X.A.frames=Z X.stack
 stk:X.stack=X.outer\/(X.stack=X.env::X.outer/\X.env.frame=Z X.env.locals)
 exf:∀b∈X.ex,b≠X.env.locals/\∀x c,X.env.cells.lookup x=Z c->c≠b
 bs:∀b o,X.base.get? b=Z o->X.s₀.heap.get? b=Z o/\X.H₀ b=Y
 bsz:X.base.objs.size<=X.s₀.heap.objs.size
 noex:∀b o,X.base.get? b=Z o->b∉X.ex
 exfs:∀b∈X.ex,b∉X.fs
 funs:X.s₀.heap.FunFrames X.base X.outer
 frf:∀b∈X.fs,X.H₀ b=Y
structure Inv (X:Cx)(af:List (Ul×Obj))(σ:List (Option V))(H:Hp)(s:Ui):Prop where
 ok:X.Ok
 os:s.os=X.s₀.os
 bare:Yp s.gens
 base:Un X.fs X.ex X.H₀ H X.s₀.heap s.heap
 loc:∃m,s.heap.Ns X.env.locals m/\∀(i:Nat) (x:Str) (v:V),X.N[i]?=Z x->σ[i]?=Z (Z v)->LZ X.env.scope x->∃u,aS v u/\SG X.env s.heap m x u
 cell:∀x c,X.env.cells.lookup x=Z c->∃v,s.heap.IsCell c v
 free:H X.env.locals=Y
 freeC:∀x c,X.env.cells.lookup x=Z c->H c=Y
 pin:∀p∈X.pn++af,s.heap.get? p.1=Z p.2/\H p.1=Y/\p.1≠X.env.locals/\p.1∉X.fs/\∀v,p.2.data≠.cell v
 hok:mY X.prog X.w H s.heap
 len:σ.length=X.N.length
section
variable {X:Cx}{af:List (Ul×Obj)}{σ:List (Option V)}{H H':Hp}{s:Ui}{h':Vn}
def Cx.Ok.nofr (ok:X.Ok)(e:X.base.get? b=Z o):b∉X.fs:=λhb=>by
 have:=(ok.funs.mem hb).1
 grind
def Inv.bs (I:Inv X af σ H s):∀b o,X.base.get? b=Z o->s.heap.get? b=Z o/\H b=Y:=λb o e=>
 ⟨I.base.keep b o (I.ok.bs b o e).1 (I.ok.bs b o e).2 (I.ok.nofr e) (I.ok.noex b o e),I.base.free b o (I.ok.bs b o e).1 (I.ok.bs b o e).2 (I.ok.noex b o e)⟩
def Inv.bk (I:Inv X af σ H s):∀b o,X.base.get? b=Z o->s.heap.get? b=Z o:=λb o e=>(I.bs b o e).1
def Inv.mod (I:Inv X af σ H s):Mod X.K X.mg X.base:=I.ok.mod
def Inv.kIn (I:Inv X af σ H s):X.K.In s.heap:=I.ok.mod.kin.keeps I.bk
def Inv.lt (I:Inv X af σ H s):X.env.locals<s.heap.objs.size:=let ⟨_,hn,_⟩:=I.loc;hn.lt
def Inv.sz (I:Inv X af σ H s):X.s₀.heap.objs.size<=s.heap.objs.size:=UK I.ok.above (VT I.lt)
def Inv.nofs (I:Inv X af σ H s){a:Ul}(h:s.heap.objs.size<=a):a∉X.fs:=λhb=>by
 obtain⟨_,o,ho,_⟩:=I.ok.funs.mem hb;exact absurd (Ux (Ut ho) (UK I.sz h)) (Wi _)
def Inv.cne (I:Inv X af σ H s):∀x c,X.env.cells.lookup x=Z c->c≠X.env.locals:=λx c e z=>by
 refine q2x2 (I.cell x c e) λv o ho hd=>?_;obtain⟨m,⟨o',es,ep,ho',hd',_⟩,_⟩:=I.loc
 grind
def Inv.funs (I:Inv X af σ H s):s.heap.FunFrames X.base X.outer:=by
 have all:∀(l:List Env),(∀b∈vq l,b∈X.fs)->X.s₀.heap.FunFrames X.base l->s.heap.FunFrames X.base l:=by
  intro l
  induction l with
  | nil=>intro _ _;trivial
  | cons env r ih=>
   intro hs hl;obtain⟨hk,⟨L,o,hf,hn,ho,hd⟩,hr⟩:=hl;have hL:=hs L (by unfold vq;rw[Zg,hf];exact UG);refine q1x1 (I.base.slot L o ho (I.ok.frf L hL) hL λz=>I.ok.exfs L z hL) λsl e=>?_
   exact⟨hk,⟨L,_,hf,hn,e,hd⟩,ih (λb hb=>hs b (by unfold vq;rw[Zg,hf];exact UU _ hb)) hr⟩
 exact all X.outer (λ_ hb=>hb) I.ok.funs
def Inv.stack (I:Inv X af σ H s):s.heap.FunFrames X.base X.stack:=by
 rcases I.ok.stk with e|⟨e,hf⟩
 ·rw[e];exact I.funs
 ·rw[e];refine q1x2 I.loc λm hn _=>?_;refine .cons (by rw[I.ok.kind];decide) hf hn ?_ I.funs;exact Heap.get?_none_of_le (UK I.ok.bsz I.ok.above)
def Inv.stkSub (I:Inv X af σ H s):∀b∈vq X.stack,b∈X.env.locals::X.fs:=λb hb=>by
 rcases I.ok.stk with e|⟨e,hf⟩
 ·simp_all
 ·rw[e] at hb;unfold vq at hb;rwa [Zg,hf] at hb
def Inv.stkFree (I:Inv X af σ H s):∀b∈vq X.stack,H b=Y:=λb hb=>by
 rcases Va.mp (I.stkSub b hb) with e|hb
 ·rw[e];exact I.free
 ·obtain⟨_,o,ho,_⟩:=I.ok.funs.mem hb;exact I.base.free b o ho (I.ok.frf b hb) λz=>I.ok.exfs b z hb
def Inv.step {ch:List Ul}(I:Inv X af σ H s)
  (hch:∀b∈ch,(b∈X.ex\/X.s₀.heap.objs.size<=b)/\b≠X.env.locals/\(∀x c,X.env.cells.lookup x=Z c->c≠b)/\∀p∈X.pn++af,p.1≠b)
  (keep:∀b o,b≠X.env.locals->b∉X.fs->b∉ch->s.heap.get? b=Z o->H b=Y->h'.get? b=Z o)
  (slot:∀b o,b≠X.env.locals->b∈X.fs->b∉ch->s.heap.get? b=Z o->H b=Y->∃sl,h'.get? b=Z {o with slots:=sl}) (free:∀b o,b∉ch->s.heap.get? b=Z o->H b=Y->H' b=Y)
  (there:∀b o,b∉ch->s.heap.get? b=Z o->∃o',h'.get? b=Z o')
  (tups:∀b xs,H b=Z (.tup xs)->H' b=Z (.tup xs)) (frzs:∀b o u,H b=Z (.frz o u)->H' b=Z (.frz o u)) (tbls:∀b ps,H b=Z (.tbl ps)->∃more,H' b=Z (.tbl (ps++more)))
  (ns:∀m,s.heap.Ns X.env.locals m->h'.Ns X.env.locals m) (hok:mY X.prog X.w H' h') (hg:Yp g') :
  Inv X af σ H' {s with heap:=h',gens:=g',drawn:=d',toks:=t'}:=by
 have neL:∀b o,X.s₀.heap.get? b=Z o->b≠X.env.locals:=λb o e=>Uz (Ux (Ut e) I.ok.above)
 have neC:∀b o,X.s₀.heap.get? b=Z o->b∉X.ex->b∉ch:=λb o e hx hb=>by
  rcases(hch b hb).1 with z|z
  ·exact hx z
  ·exact absurd (Ux (Ut e) z) (Wi _)
 have cellK:∀x c,X.env.cells.lookup x=Z c->∀v,s.heap.IsCell c v->h'.IsCell c v:=λx c e v hxx=>by
  refine q1x2 hxx λo ho hd=>?_;have nch:c∉ch:=λz=>(hch c z).2.2.1 x c e rfl
  by_cases hc:c∈X.fs
  ·refine q1x1 (slot c o (I.cne x c e) hc nch ho (I.freeC x c e)) λsl q=>?_;exact⟨_,q,hd⟩
  ·exact⟨o,keep c o (I.cne x c e) hc nch ho (I.freeC x c e),hd⟩
 refine⟨I.ok,I.os,hg,⟨λb o e n hb hx=>?_,λb o e n hb hx=>?_,λb o e n hx=>?_,λb o e hx=>?_,λb xs e=>tups b xs (I.base.tups b xs e),λb o xs e=>frzs b o xs (I.base.frzs b o xs e),λb ps e=>?_⟩,?_,λx c e=>?_,?_,λx c e=>?_,λp hp=>?_,hok,I.len⟩
 ·exact keep b o (neL b o e) hb (neC b o e hx) (I.base.keep b o e n hb hx) (I.base.free b o e n hx)
 ·refine q1x1 (I.base.slot b o e n hb hx) λsl e1=>?_;refine q1x1 (slot b _ (neL b o e) hb (neC b o e hx) e1 (I.base.free b o e n hx)) λsl' e2=>?_;exact⟨sl',e2⟩
 ·refine q1x1 (I.base.there b o e hx) λo' e1=>?_;exact free b o' (neC b o e hx) e1 (I.base.free b o e n hx)
 ·refine q1x1 (I.base.there b o e hx) λo' e1=>?_;exact there b o' (neC b o e hx) e1
 ·refine q1x1 (I.base.tbls b ps e) λm1 e1=>?_;refine q1x1 (tbls b _ e1) λm2 e2=>?_;exact⟨m1++m2,by rw[e2,Array.append_assoc]⟩
 ·refine q1x2 I.loc λm hn hl=>?_;refine⟨m,ns m hn,λi x v e1 e2 e3=>?_⟩;refine q1x2 (hl i x v e1 e2 e3) λu r l=>?_;refine⟨u,r,?_⟩;rcases l with l|⟨k,c,e,z⟩
  ·exact .inl l
  ·exact .inr ⟨k,c,e,cellK x c e _ z⟩
 ·refine q1x1 (I.cell x c e) λv z=>?_;exact⟨v,cellK x c e v z⟩
 ·obtain⟨m,⟨o,_,_,ho,_⟩,_⟩:=I.loc;exact free _ o (λz=>(hch _ z).2.1 rfl) ho I.free
 ·refine q2x2 (I.cell x c e) λv o ho hd=>?_;exact free c o (λz=>(hch c z).2.2.1 x c e rfl) ho (I.freeC x c e)
 ·refine q0x5 (I.pin p hp) λe n ne nf d=>?_;have nch:p.1∉ch:=λz=>(hch p.1 z).2.2.2 p hp rfl
  exact⟨keep p.1 p.2 ne nf nch e n,free p.1 p.2 nch e n,ne,nf,d⟩
def Inv.un (I:Inv X af σ H s)(u:Un X.fs [] H H' s.heap h')(hok:mY X.prog X.w H' h'):Inv X af σ H' {s with heap:=h',toks:=t'}:=by
 obtain⟨m,⟨o,es,ep,ho,r⟩,_⟩:=id I.loc;refine q1x1 (u.any ho I.free (by simp)) λsl hL=>?_;exact I.step   (ch:=[]) (λ_ z=>nomatch z) (λb o _ hb _ e n=>u.keep b o e n hb (by simp)) (λb o _ hb _ e n=>u.slot b o e n hb (by simp)) (λb o _ e n=>u.free b o e n (by simp)) (λb o _ e=>u.there b o e (by simp)) u.tups u.frzs u.tbls (λm' hm=>by
  refine q3x2 hm λo' es' ep' ho' r'=>?_;rw[ho] at ho';cases ho';exact⟨_,es',ep',hL,r'⟩) hok I.bare
def Inv.call (I:Inv X af σ H s)(u:Un (vq X.stack) ch H H' s.heap h')(hok:mY X.prog X.w H' h')(hg:Yp g')
  (hch:∀b∈ch,(b∈X.ex\/X.s₀.heap.objs.size<=b)/\b≠X.env.locals/\(∀x c,X.env.cells.lookup x=Z c->c≠b)/\∀p∈X.pn++af,p.1≠b) :
  Inv X af σ H' {s with heap:=h',gens:=g',drawn:=d',toks:=t'}:=by
 obtain⟨m,⟨o,es,ep,ho,r⟩,_⟩:=id I.loc;refine q1x1 (u.any ho I.free λz=>(hch _ z).2.1 rfl) λsl hL=>?_
 exact I.step  hch (λb o hL hb hc e n=>u.keep b o e n (λz=>(Va.mp (I.stkSub b z)).elim hL hb) hc) (λb o _ _ hc e n=>u.any e n hc) (λb o hc e n=>u.free b o e n hc) (λb o hc e=>u.there b o e hc) u.tups u.frzs u.tbls (λm' hm=>by
  refine q3x2 hm λo' es' ep' ho' r'=>?_;rw[ho] at ho';cases ho';exact⟨_,es',ep',hL,r'⟩) hok hg
def Inv.turned (I:Inv X af σ H s)(k:∀b o,b≠it->s.heap.get? b=Z o->h'.get? b=Z o)(hn:H it=Y)(hL:it≠X.env.locals)
  (h1:it∈X.ex\/X.s₀.heap.objs.size<=it) (h2:∀x c,X.env.cells.lookup x=Z c->c≠it) (h3:∀p∈X.pn++af,p.1≠it):Inv X af σ H {s with heap:=h',toks:=t'}:=by
 have nit:∀b u,H b=Z u->b≠it:=λb u e z=>by grind
 refine I.step   (ch:=[it]) (λb hb=>?_) (λb o _ _ hc e _=>k b o (λz=>hc (by simp[z])) e) (λb o _ _ hc e _=>⟨o.slots,k b o (λz=>hc (by simp[z])) e⟩) (λ_ _ _ _ n=>n)
  (λb o hc e=>⟨o,k b o (λz=>hc (by simp[z])) e⟩) (λ_ _ e=>e) (λ_ _ _ e=>e) (λb ps e=>⟨#[],by rw[e];simp⟩) (λm hm=>?_) (λb u e=>?_) I.bare
 ·have e:b=it:=by simpa using hb
  subst e;exact⟨h1,hL,h2,h3⟩
 ·refine q3x2 hm λo es ep ho r=>?_;exact⟨o,es,ep,k _ o (Vl hL) ho,r⟩
 ·refine(I.hok b u e).stay (λc v hc q=>k c v ?_ q) (λ_ q=>q) λ_ _ q=>q
  rcases hc with z|z
  ·rw[z];exact nit b u e
  ·exact nit c _ z
def Inv.tok (I:Inv X af σ H s)(t:Nat):Inv X af σ H {s with toks:=t}:=I.un   Un.refl I.hok
def Inv.kept (I:Inv X af σ H s)(k:∀b u,s.heap.get? b=Z u->h'.get? b=Z u):Inv X af σ H {s with heap:=h',toks:=t'}:=I.un (Un.kept k) (I.hok.kept k)
def Inv.laid {a:Ul}(I:Inv X af σ H s)(k:∀b u,s.heap.get? b=Z u->h'.get? b=Z u)(hp:s.heap.objs.size<=a)(new:bK X.prog X.w (bB H a o) h' a o) :
  Inv X af σ (bB H a o) {s with heap:=h',toks:=t'}:=I.un (Un.laid k hp (I.hok.fresh hp)) (I.hok.laid k hp new)
def Inv.write (I:Inv X af σ H s)(mu:PL (H x))(he:e=x\/H e=Z (.own x))(k:∀b u,b≠e->s.heap.get? b=Z u->h'.get? b=Z u)(heo:∃u,h'.get? e=Z u)
  (new:bK X.prog X.w (bB H x o) h' x o):Inv X af σ (bB H x o) {s with heap:=h',toks:=t'}:=I.un (Un.write mu he k heo) (I.hok.write mu he k heo new)
def Inv.pins_of (I:Inv X af σ H s)(h:∀p∈pins',s.heap.get? p.1=Z p.2/\H p.1=Y/\p.1≠X.env.locals/\p.1∉X.fs/\∀v,p.2.data≠.cell v):Inv X pins' σ H s:=
 ⟨I.ok,I.os,I.bare,I.base,I.loc,I.cell,I.free,I.freeC,λp hp=>(Yq.mp hp).elim (λz=>I.pin p (aaU _ z)) (h p),I.hok,I.len⟩
def yA {N:List Str}(hN:N.Nodup){i j:Nat}(a:N[i]?=Z x)(b:N[j]?=Z x):i=j:=by
 refine q1x1 (Uk.mp a) λh1 e1=>?_;refine q1x1 (Uk.mp b) λh2 e2=>?_;exact(getElem_inj hN).mp (e1.trans e2.symm)
def wB (I:Inv X af σ H s)(hN:X.N.Nodup)(hi:X.N[i]?=Z x)(hx:Ep X.env.scope x)(r:aS v u)
  (h:∀s',Inv X af (σ.set i (Z v)) H s'->(∃a,Vr a s.heap s'.heap/\(a=X.env.locals\/X.env.cells.lookup x=Z a))->Q () s') (hf:X.fn x=true\/X.env.scope.names.lookup x=Z .local:=by first|exact .inl rfl|exact .inr rfl|assumption):Uq M A (abK X.env x u) Q E s:=by
 refine q1x2 (id I.loc) λm hn hl=>?_;have hcls:(X.env.scope.kind==.class||(X.env.scope.kind==.module&&X.env.locals != X.env.globals))=false:=by rw[I.ok.kind];rfl
 have hiσ:i<σ.length:=by rw[I.len];exact(Uk.mp hi).1
 have cne:=I.cne;have tracked:∀{a:Ul} {h':Vn},(∃o,s.heap.get? a=Z o/\H a=Y)->Vr a s.heap h'->mY X.prog X.w H h':=λ{a h'} ha hs b ob e=>by
  refine q1x2 ha λ_ _ hfree=>?_;refine(I.hok b ob e).stay (λc w' hc q=>(hs.2 c ?_).trans q) (λ_ q=>q) λ_ _ q=>q
  rintro rfl;rcases hc with rfl|hc
  ·rw[hfree] at e;cases e
  ·rw[hfree] at hc;cases hc
 rcases hx with hk|hk
 ·refine wpAny_storeName_local hk hn (λh' hn' hs=>?_) hcls;refine q3x2 (id hn) λoL _ _ hoL _=>?_;refine h _ ⟨I.ok,I.os,I.bare,⟨λb o e n hb hx=>?_,λb o e n hb hx=>?_,I.base.free,λb o e hx=>?_,I.base.tups,I.base.frzs,I.base.tbls⟩,⟨_,hn',λj y v' e1 e2 e3=>?_⟩,λy c e=>?_,I.free,I.freeC,λp hp=>?_,tracked ⟨oL,hoL,I.free⟩ hs,by simpa using I.len⟩ ⟨_,hs,.inl rfl⟩
  ·exact(hs.2 b (Uz (Ux (Ut e) I.ok.above))).trans (I.base.keep b o e n hb hx)
  ·refine q1x1 (I.base.slot b o e n hb hx) λsl e1=>?_;exact⟨sl,(hs.2 b (Uz (Ux (Ut e) I.ok.above))).trans e1⟩
  ·refine q1x1 (I.base.there b o e hx) λo' e1=>?_;exact⟨o',(hs.2 b (Uz (Ux (Ut e) I.ok.above))).trans e1⟩
  ·by_cases hj:j=i
   ·subst hj;rw[hi] at e1;cases e1;rw[aaa hiσ] at e2;cases e2;exact⟨u,r,.inl ⟨hk,by simp⟩⟩
   ·rw[aaV (Vl hj)] at e2;refine q1x2 (hl j y v' e1 e2 e3) λu' r' q=>?_;refine⟨u',r',?_⟩;rcases q with⟨k,e⟩|⟨k,c,e,z⟩
    ·refine .inl ⟨k,?_⟩;have:y≠x:=λe=>hj (yA hN e1 (e▸hi))
     simp[this,e]
    ·exact .inr ⟨k,c,e,z.sameBut hs (cne y c e)⟩
  ·refine q1x1 (I.cell y c e) λw' z=>?_;exact⟨w',z.sameBut hs (cne y c e)⟩
  ·refine q0x5 (I.pin p hp) λe n ne nf d=>?_;exact⟨(hs.2 p.1 ne).trans e,n,ne,nf,d⟩
 ·have hfn:X.fn x=true:=by
   rcases hf with z|z
   ·exact z
   ·rw[z] at hk;cases hk
  refine q1x1 (I.ok.has x (.inl hk)) λc hc=>?_;refine q1x1 (I.cell x c hc) λw' z=>?_;refine wpAny_storeName_cell I.ok.kind hk hc z (λh' hc' hs=>?_);refine q1x2 (id z) λoc hoc hocd=>?_;refine h {s with heap:=h'} ⟨I.ok,I.os,I.bare,⟨λb o e n hb hx=>?_,λb o e n hb hx=>?_,I.base.free,λb o e hx=>?_,I.base.tups,I.base.frzs,I.base.tbls⟩,⟨m,hn.sameBut hs (Vl (cne x c hc)),λj y v' e1 e2 e3=>?_⟩,λy c' e=>?_,I.free,I.freeC,λp hp=>?_,tracked ⟨oc,hoc,I.freeC x c hc⟩ hs,by simpa using I.len⟩ ⟨c,hs,.inr hc⟩
  ·exact(hs.2 b (Uz (Ux (Ut e) (I.ok.cab x c hfn hc)))).trans (I.base.keep b o e n hb hx)
  ·refine q1x1 (I.base.slot b o e n hb hx) λsl e1=>?_;exact⟨sl,(hs.2 b (Uz (Ux (Ut e) (I.ok.cab x c hfn hc)))).trans e1⟩
  ·refine q1x1 (I.base.there b o e hx) λo' e1=>?_;exact⟨o',(hs.2 b (Uz (Ux (Ut e) (I.ok.cab x c hfn hc)))).trans e1⟩
  ·by_cases hj:j=i
   ·subst hj;rw[hi] at e1;cases e1;rw[aaa hiσ] at e2;cases e2;exact⟨u,r,.inr ⟨.inl hk,c,hc,hc'⟩⟩
   ·rw[aaV (Vl hj)] at e2;refine q1x2 (hl j y v' e1 e2 e3) λu' r' q=>?_;refine⟨u',r',?_⟩;rcases q with q|⟨k,c',e,z'⟩
    ·exact .inl q
    ·refine .inr ⟨k,c',e,z'.sameBut hs ?_⟩;rintro rfl;exact hj (yA hN e1 (I.ok.inj _ _ _ e hc▸hi))
  ·by_cases hcc:c'=c
   ·subst hcc;exact⟨_,hc'⟩
   ·refine q1x1 (I.cell y c' e) λw2 z2=>?_;exact⟨w2,z2.sameBut hs hcc⟩
  ·refine q0x5 (I.pin p hp) λe n ne nf d=>?_;refine⟨(hs.2 p.1 ?_).trans e,n,ne,nf,d⟩;intro q;rw[q,hoc] at e;have q':oc=p.2:=UT e;exact d w' (by rw[<-q'];exact hocd)
def m6 (I:Inv X af σ H s)(hN:X.N.Nodup)(hi:X.N[i]?=Z x)(hx:Ep X.env.scope x)(r:aS v u)
  (h:∀s',Inv X af (σ.set i (Z v)) H s'->Q () s') (hf:X.fn x=true\/X.env.scope.names.lookup x=Z .local:=by first|exact .inl rfl|exact .inr rfl|assumption):Uq M A (abK X.env x u) Q E s:=
 wB I hN hi hx r (λs' I' _=>h s' I') hf
def Inv.call' (I:Inv X af σ H s)(ho:s'.os=s.os)(u:Un (vq X.stack) ch H H' s.heap s'.heap)(hok:mY X.prog X.w H' s'.heap)(hg:Yp s'.gens)
  (hch:∀b∈ch,(b∈X.ex\/X.s₀.heap.objs.size<=b)/\b≠X.env.locals/\(∀x c,X.env.cells.lookup x=Z c->c≠b)/\∀p∈X.pn++af,p.1≠b):Inv X af σ H' s':=by
 obtain⟨h',g',d',t',o'⟩:=s';subst ho;exact I.call    u hok hg hch
end
abbrev XK:=Uh->Option Ul->Hp->Prop
abbrev St:=List (Option V)
abbrev VK:=V->Hp->Prop
abbrev TE:=St->Hp->VK->Prop
abbrev TT:=St->Hp->(Bool->Hp->Prop)->Prop
abbrev TA:=St->Hp->(List V->Hp->Prop)->Prop
structure DH where
 nx:St->Hp->Prop
 rt:VK
 bk:St->Hp->Prop:=λ_ _=>False
 ct:St->Hp->Prop:=λ_ _=>False
abbrev TS:=DH->St->Hp->Prop
def EP (X:Cx)(af:List (Ul×Obj))(σ:St)(Q:VK)(u:Uh)(s':Ui):Prop:=∃v H',Inv X af σ H' s'/\aS v u/\Q v H'
def TP (X:Cx)(af:List (Ul×Obj))(σ:St)(Q:Bool->Hp->Prop)(b:Bool)(s':Ui):Prop:=∃H',Inv X af σ H' s'/\Q b H'
def AP (X:Cx)(af:List (Ul×Obj))(σ:St)(Q:List V->Hp->Prop)(us:List Uh)(s':Ui):Prop:=∃vs H',Inv X af σ H' s'/\aV vs us/\Q vs H'
def SP (X:Cx)(af:List (Ul×Obj))(D:DH)(f:Flow)(s':Ui):Prop:=
 match f with
 | .next=>∃σ' H',Inv X af σ' H' s'/\D.nx σ' H'
 | .brk=>∃σ' H',Inv X af σ' H' s'/\D.bk σ' H'
 | .cont=>∃σ' H',Inv X af σ' H' s'/\D.ct σ' H'
 | .ret u=>∃v σ' H',Inv X af σ' H' s'/\aS v u/\D.rt v H'
def PE (X:Cx)(e:UY)(t:TE):Prop:=
 ∀(af:List (Ul×Obj)) (s:Ui) (σ:St) (H:Hp) (Q:VK),Inv X af σ H s->t σ H Q->Uq (UA X.prog X.w) X.A (Vo e X.env) (EP X af σ Q) X.xe s
def PT (X:Cx)(e:UY)(t:TT):Prop:=
 ∀(af:List (Ul×Obj)) (s:Ui) (σ:St) (H:Hp) (Q:Bool->Hp->Prop),Inv X af σ H s->t σ H Q->Uq (UA X.prog X.w) X.A (isTrue e X.env (Vo e X.env)) (TP X af σ Q) X.xe s
def PW (X:Cx)(e:UY)(t:TT):Prop:=
 ∀(whole:Sem Uh) (af:List (Ul×Obj)) (s:Ui) (σ:St) (H:Hp) (Q:Bool->Hp->Prop),Inv X af σ H s->t σ H Q->Uq (UA X.prog X.w) X.A (isTrue e X.env whole) (TP X af σ Q) X.xe s
def PW.pt {t:TT}(h:PW X e t):PT X e t:=h _
def PA (X:Cx)(es:List UY)(t:TA):Prop:=
 ∀(pos:Pos) (af:List (Ul×Obj)) (s:Ui) (σ:St) (H:Hp) (Q:List V->Hp->Prop),Inv X af σ H s->t σ H Q->Uq (UA X.prog X.w) X.A (spliced (Wm pos (UR es X.env))) (AP X af σ Q) X.xe s
def PS (X:Cx)(st:WA)(t:TS):Prop:=
 ∀(af:List (Ul×Obj)) (s:Ui) (σ:St) (H:Hp) (D:DH),Inv X af σ H s->t D σ H->Uq (UA X.prog X.w) X.A (exec st X.env) (SP X af D) X.xe s
def PSs (X:Cx)(st:List WA)(t:TS):Prop:=
 ∀(af:List (Ul×Obj)) (s:Ui) (σ:St) (H:Hp) (D:DH),Inv X af σ H s->t D σ H->Uq (UA X.prog X.w) X.A (execs st X.env) (SP X af D) X.xe s
def bS {t:Sem α}{Q Q':α->Ui->Prop}(h:Uq M A t Q E s)(hQ:∀a s,Q a s->Q' a s):Uq M A t Q' E s:=VF h hQ λ_ _ x=>x
section
variable {X:Cx}
def Oc (i:Nat):TE:=λσ H Q=>∃v,σ[i]?=Z (Z v)/\Q v H
def tC (v:V):TE:=λ_ H Q=>Q v H
def FJ (hN:X.N[i]?=Z x)(hv:LZ X.env.scope x)(hd:(x==("__debug__":Str))=false:=by decide)(hcd:(x==("__classdict__":Str))=false:=by decide):PE X (.Name x pos) (Oc i):=by
 intro af s σ H Q I h;refine q1x2 h λv e h=>?_;refine q1x2 I.loc λm hn hl=>?_;refine q1x2 (hl i x v hN e hv) λu r l=>?_;have fin:EP X af σ Q u s:=⟨v,H,I,r,h⟩;rcases l with⟨hk,hm⟩|⟨hk,c,hc,hcell⟩
 ·exact abj (Zh I.ok.kind hk hn hm fin) hd
 ·rcases hk with hk|hk
  ·exact abj (ZG I.ok.kind hk hc hcell fin) hd
  ·exact abj (wpAny_loadName_free I.ok.kind hk hc hcell fin hcd) hd
def BC {i j pos}:PE X (.Constant (.int i) j pos) (tC (.int i)):=λ_ _ _ H _ I h=>wpAny_Constant_int ⟨.int i,H,I.tok _,⟨_,rfl⟩,h⟩
def Qm {b j pos}:PE X (.Constant (.bool b) j pos) (tC (.bl b)):=λ_ _ _ H _ I h=>Constant_bool ⟨.bl b,H,I,rfl,h⟩
def NE {j pos}:PE X (.Constant .none j pos) (tC .non):=λ_ _ _ H _ I h=>Constant_none ⟨.non,H,I,rfl,h⟩
def F3 {x j pos}:PE X (.Constant (.str x) j pos) (tC (.str x)):=λ_ _ _ H _ I h=>Calls.Constant_str ⟨.str x,H,I.tok _,⟨_,rfl⟩,h⟩
def Gl (X:Cx)(x:Str):Prop:=X.env.kindOf x=Z .globalImplicit
def tM (I:Inv X af σ H s)(hg:Gl X x)(hm:X.mg x=Z u)(h:Q u s)
  (hd:(x==("__debug__":Str))=false:=by decide):Uq (UA X.prog X.w) X.A (Vo (.Name x pos) X.env) Q E s:=
 X6 I.ok.kind hg (Calls.loadGlobal_global (by rw[I.ok.glob];exact I.mod.glob.keeps I.bk) hm h) hd
def rM (I:Inv X af σ H s)(hg:Gl X x)(hm:X.mg x=Y)(hv:Vv x=Z u)(h:Q u s)
  (hn:x≠"__name__":=by decide) (hd:(x==("__debug__":Str))=false:=by decide):Uq (UA X.prog X.w) X.A (Vo (.Name x pos) X.env) Q E s:=by
 refine q1x2 I.mod.blt λmb h1 h2=>?_;exact X6 I.ok.kind hg (Calls.loadGlobal_builtin (by rw[I.ok.glob];exact I.mod.glob.keeps I.bk) hm (by rw[I.ok.blt];exact h1.keeps I.bk) ((h2 x hn).trans hv) h) hd
def JC (hg:Gl X x)(hm:X.mg x=Z u)(r:aS v u)(hd:(x==("__debug__":Str))=false:=by decide):PE X (.Name x pos) (tC v):=
 λ_ _ _ H _ I h=>tM I hg hm ⟨v,H,I,r,h⟩ hd
def Jf (hg:Gl X x)(hm:X.mg x=Y)(hv:Vv x=Z u)(r:aS v u)(hn:x≠"__name__":=by decide)(hd:(x==("__debug__":Str))=false:=by decide):PE X (.Name x pos) (tC v):=
 λ_ _ _ H _ I h=>rM I hg hm hv ⟨v,H,I,r,h⟩ hn hd
variable {a b:UY}{ta tb:TE}{pos:Pos}
variable {tA tB':TT}{rest:List UY}
def RX (t u:TT):TT:=λσ H Q=>t σ H λc H1=>if c=true then u σ H1 Q else Q false H1
def TK (t u:TT):TT:=λσ H Q=>t σ H λc H1=>if c=true then Q true H1 else u σ H1 Q
def Tf (t:TT):TT:=λσ H Q=>t σ H λc H1=>Q (!c) H1
def Jz (ha:PT X a tA):PW X (.BoolOp .And [a] pos) tA:=by
 intro wh af s σ H Q I h;refine isTrue_and (bS (ha af s σ H Q I h) λc s1 e=>?_);cases c with
 | true=>exact isTrue_and_nil e
 | false=>exact e
def M8 (ha:PT X a tA):PW X (.BoolOp .Or [a] pos) tA:=by
 intro wh af s σ H Q I h;refine isTrue_or (bS (ha af s σ H Q I h) λc s1 e=>?_);cases c with
 | false=>exact isTrue_or_nil e
 | true=>exact e
def MZ (ha:PT X a tA)(hb:PW X (.BoolOp .And (b::rest) pos) tB'):PW X (.BoolOp .And (a::b::rest) pos) (RX tA tB'):=by
 intro wh af s σ H Q I h;refine isTrue_and (bS (ha af s σ H _ I h) λc s1 hxx=>?_);refine q1x2 hxx λH1 I1 q1=>?_;cases c with
 | true=>exact hb wh af s1 σ H1 Q I1 q1
 | false=>exact⟨H1,I1,q1⟩
def Qp (ha:PT X a tA)(hb:PW X (.BoolOp .Or (b::rest) pos) tB'):PW X (.BoolOp .Or (a::b::rest) pos) (TK tA tB'):=by
 intro wh af s σ H Q I h;refine isTrue_or (bS (ha af s σ H _ I h) λc s1 hxx=>?_);refine q1x2 hxx λH1 I1 q1=>?_;cases c with
 | true=>exact⟨H1,I1,q1⟩
 | false=>exact hb wh af s1 σ H1 Q I1 q1
def Mm (ha:PT X a tA):PT X (.UnaryOp .Not a pos) (Tf tA):=by
 intro af s σ H Q I h;exact isTrue_not (ha af s σ H (λc H1=>Q (!c) H1) I h)
def Pi (ta tb:TE):TE:=λσ H Q=>ta σ H λx H1=>∃c,x=.bl c/\if c=true then tb σ H1 Q else Q (.bl false) H1
def SY (ta tb:TE):TE:=λσ H Q=>ta σ H λx H1=>∃c,x=.bl c/\if c=true then Q (.bl true) H1 else tb σ H1 Q
def Qb (ta:TE):TE:=λσ H Q=>ta σ H λx H1=>∃c,x=.bl c/\Q (.bl (!c)) H1
def ML {op}{t:TE}(h:PE X a t):PE X (.BoolOp op [a] pos) t:=λaf s σ H Q I hw=>BoolOp_one (h af s σ H Q I hw)
def Ly (ha:PE X a ta)(hb:PE X (.BoolOp .And (b::rest) pos) tb):PE X (.BoolOp .And (a::b::rest) pos) (Pi ta tb):=by
 intro af s σ H Q I h;refine BoolOp_and (bS (ha af s σ H _ I h) λv s1 hxx=>?_);obtain⟨x,H1,I1,r1,q1⟩:=hxx;obtain⟨c,rfl,q1⟩:=q1;cases r1;refine Vm ?_;cases c with
 | true=>exact hb af s1 σ H1 Q I1 q1
 | false=>exact⟨.bl false,H1,I1,rfl,q1⟩
def Qs (ha:PE X a ta)(hb:PE X (.BoolOp .Or (b::rest) pos) tb):PE X (.BoolOp .Or (a::b::rest) pos) (SY ta tb):=by
 intro af s σ H Q I h;refine BoolOp_or (bS (ha af s σ H _ I h) λv s1 hxx=>?_);obtain⟨x,H1,I1,r1,q1⟩:=hxx;obtain⟨c,rfl,q1⟩:=q1;cases r1;refine Vm ?_;cases c with
 | false=>exact hb af s1 σ H1 Q I1 q1
 | true=>exact⟨.bl true,H1,I1,rfl,q1⟩
def N8 (ha:PE X a ta):PE X (.UnaryOp .Not a pos) (Qb ta):=by
 intro af s σ H Q I h;refine UnaryOp_ (bS (ha af s σ H _ I h) λv s1 hxx=>?_);obtain⟨x,H1,I1,r1,q1⟩:=hxx;obtain⟨c,rfl,q1⟩:=q1;cases r1;exact not_of (Vm ⟨.bl (!c),H1,I1,rfl,q1⟩)
def TV (t:TT)(ta tb:TE):TE:=λσ H Q=>t σ H λc H1=>if c=true then ta σ H1 Q else tb σ H1 Q
def FT (hc:PT X c tA)(ha:PE X a ta)(hb:PE X b tb):PE X (.IfExp c a b pos) (TV tA ta tb):=by
 intro af s σ H Q I h;refine wpAny_IfExp (bS (hc af s σ H _ I h) λd s1 hxx=>?_);refine q1x2 hxx λH1 I1 q1=>?_;cases d with
 | true=>exact ha af s1 σ H1 Q I1 q1
 | false=>exact hb af s1 σ H1 Q I1 q1
end
def pe (K:Uu)(H:Hp)(a:Ul)(xs:List V):Prop:=
 Rd H a (.lst xs)\/
  ∃(o:Obj) (its:Array Uh) (n:Nat),K.lookup a=Z o/\o.cls=.type "list"/\o.dict=Y/\o.data=.seq its n/\its.size<=Ur/\aV xs its.toList
def sX (K:Uu)(H:Hp)(a:Ul)(xs:List V):Prop:=
 Rd H a (.tup xs)\/
  ∃(o:Obj) (its:Array Uh) (n:Nat),K.lookup a=Z o/\o.cls=.type "tuple"/\o.data=.seq its n/\its.size<=Ur/\aV xs its.toList
def Tw:Uh->Option V
 | .none=>Z .non
 | .bool b=>Z (.bl b)
 | .int i _=>Z (.int i)
 | .str x _=>Z (.str x)
 | .bytes b _=>Z (.byt b)
 | .float b _=>Z (.flt b)
 | .ref a=>Z (.ref a)
 | .type n=>Z (.ty n)
 | _=>Y
def aS.abs (r:aS x u):Tw u=Z x:=by
 cases x with
 | non=>cases r;rfl
 | bl _=>cases r;rfl
 | int _=>refine q1x1 r λt zz1=>?_;subst zz1;rfl
 | str _=>refine q1x1 r λt zz1=>?_;subst zz1;rfl
 | byt _=>refine q1x1 r λt zz1=>?_;subst zz1;rfl
 | flt _=>refine q1x1 r λt zz1=>?_;subst zz1;rfl
 | ref _=>cases r;rfl
 | ty _=>cases r;rfl
def aS.inj {y:V}(r:aS x u)(q:aS y u):x=y:=UT (r.abs.symm.trans q.abs)
theorem aV.inj:∀{xs ys:List V} {us:List Uh},aV xs us->aV ys us->xs=ys
 | _,_,_,.nil,.nil=>rfl
 | _,_,_,.cons r t,.cons r' t'=>by rw[r.inj r',aV.inj t t']
section
variable {X:Cx}{af:List (Ul×Obj)}{σ:St}{H:Hp}{s:Ui}{a:Ul}{xs ys:List V}
def Inv.list (I:Inv X af σ H s)(h:pe X.K H a xs):∃its:List Uh,aV xs its/\PlainL s.heap a its.toArray/\xs.length<=Ur:=by
 rcases h with h|⟨o,its,n,hk,hc,hd,hs,hz,r⟩
 ·obtain⟨z,its,n,r,e⟩:=h.ok I.hok;exact⟨its,r,⟨_,n,e,rfl,rfl,rfl⟩,z⟩
 ·refine⟨its.toList,r,⟨o,n,I.kIn a o hk,hc,hd,by omega⟩,?_⟩;have e:=r.length
  grind
def Inv.tuple (I:Inv X af σ H s)(h:sX X.K H a xs):∃its:List Uh,aV xs its/\aaL s.heap a its.toArray/\xs.length<=Ur:=by
 rcases h with h|⟨o,its,n,hk,hc,hs,hz,r⟩
 ·obtain⟨z,its,r,p⟩:=h.ok I.hok;exact⟨its,r,p,z⟩
 ·refine⟨its.toList,r,⟨o,I.kIn a o hk,hc,n,by omega⟩,?_⟩;have e:=r.length
  simp_all
def Inv.list_inj (I:Inv X af σ H s)(h:pe X.K H a xs)(h':pe X.K H a ys):xs=ys:=by
 obtain⟨its,r,⟨o,n,e,_,_,d⟩,_⟩:=I.list h;obtain⟨its',r',⟨o',n',e',_,_,d'⟩,_⟩:=I.list h';have:its=its':=by simp_all
 subst this;exact r.inj r'
def Inv.tuple_inj (I:Inv X af σ H s)(h:sX X.K H a xs)(h':sX X.K H a ys):xs=ys:=by
 obtain⟨its,r,⟨o,e,_,n,d⟩,_⟩:=I.tuple h;obtain⟨its',r',⟨o',e',_,n',d'⟩,_⟩:=I.tuple h';have:its=its':=by simp_all
 subst this;exact r.inj r'
end
section
variable {X:Cx}{st:WA}{rest:List WA}{t u:TS}{e:UY}{te:TE}{pos:Pos}
def PF:TS:=λD σ H=>D.nx σ H
def Si (t u:TS):TS:=λD σ H=>t {D with nx:=u D} σ H
def Ih:PSs X [] PF:=λ_ _ σ H _ I h=>XQ ⟨σ,H,I,h⟩
def ED (h1:PS X st t)(h2:PSs X rest u):PSs X (st::rest) (Si t u):=by
 intro af s σ H D I h;refine aaw (bS (h1 af s σ H {D with nx:=u D} I h) λf s1 q=>?_);cases f with
 | next=>
  refine q2x2 q λσ' H' I' q=>?_;exact h2 af s1 σ' H' D I' q
 | ret v=>exact q
 | brk=>exact q
 | cont=>exact q
def Ig (h1:PS X st t):PSs X [st] t:=by
 intro af s σ H D I h;refine aaw (bS (h1 af s σ H D I h) λf s1 q=>?_);cases f with
 | next=>exact XQ q
 | ret v=>omega
 | brk=>omega
 | cont=>omega
def Inv.quiet (I:Inv X af σ H s):interactive X.env=false:=by simp[interactive,I.ok.kind]
def Qf (te:TE):TS:=λD σ H=>te σ H λ_ H1=>D.nx σ H1
def Jw (he:PE X e te)(hs:Xg e Y pos.line X.env=pure false:=by rfl):PS X (.Expr e pos) (Qf te):=by
 intro af s σ H D I h;exact wpAny_Expr_any (bS (he af s σ H _ I h) λv s1 ⟨x,H1,I1,r1,q1⟩=>⟨σ,H1,I1,q1⟩) I.quiet hs
def SH (te:TE):TS:=λD σ H=>te σ H D.rt
def Mo (he:PE X e te):PS X (.Return (Z e) pos) (SH te):=by
 intro af s σ H D I h;exact wpAny_Return_some (bS (he af s σ H _ I h) λv s1 ⟨x,H1,I1,r1,q1⟩=>⟨x,σ,H1,I1,r1,q1⟩)
def Ti (c:TT)(t u:TS):TS:=λD σ H=>c σ H λb H1=>if b=true then t D σ H1 else u D σ H1
def Rk {a:List WA}(hc:PT X c tc)(ha:PSs X a t)(hb:PSs X b u):PS X (.If c a b pos) (Ti tc t u):=by
 intro af s σ H D I h;refine wpAny_If (bS (hc af s σ H _ I h) λd s1 hxx=>?_);refine q1x2 hxx λH1 I1 q1=>?_;cases d with
 | true=>exact ha af s1 σ H1 D I1 q1
 | false=>exact hb af s1 σ H1 D I1 q1
end
abbrev TG:=V->St->Hp->(St->Hp->Prop)->Prop
abbrev Lf:=List V->St->Hp->(St->Hp->Prop)->Prop
def PG (X:Cx)(target:UY)(t:TG):Prop:=
 ∀(af:List (Ul×Obj)) (s:Ui) (σ:St) (H:Hp) (v:V) (u:Uh) (Q:St->Hp->Prop),Inv X af σ H s->aS v u->t v σ H Q->
  Uq (UA X.prog X.w) X.A (ZY target X.env u) (λ_ s'=>∃σ' H',Inv X af σ' H' s'/\Q σ' H') X.xe s
def Mg (X:Cx)(ts:List UY)(t:Lf):Prop:=
 ∀(af:List (Ul×Obj)) (s:Ui) (σ:St) (H:Hp) (vs:List V) (us:List Uh) (Q:St->Hp->Prop),Inv X af σ H s->aV vs us->t vs σ H Q->
  Uq (UA X.prog X.w) X.A (assignInOrder ((VB ts X.env).map (·.2)) us) (λ_ s'=>∃σ' H',Inv X af σ' H' s'/\Q σ' H') X.xe s
abbrev NJ:=V->V->V->Hp->(Hp->Prop)->Prop
def QZ (X:Cx)(t:NJ):Prop:=
 ∀(af:List (Ul×Obj)) (s:Ui) (σ:St) (H:Hp) (o i v:V) (ov iv u:Uh) (Q:Hp->Prop),Inv X af σ H s->aS o ov->aS i iv->aS v u->t o i v H Q->
  Uq (UA X.prog X.w) X.A (Zx ov iv u) (λ_ s'=>∃H',Inv X af σ H' s'/\Q H') X.xe s
abbrev R7:=V->V->Hp->VK->Prop
def RO (X:Cx)(op:Operator)(t:R7):Prop:=
 ∀(af:List (Ul×Obj)) (s:Ui) (σ:St) (H:Hp) (x y:V) (v u:Uh) (Q:VK),Inv X af σ H s->aS x v->aS y u->t x y H Q->
  Uq (UA X.prog X.w) X.A (Zy op v u) (EP X af σ Q) X.xe s
section
variable {X:Cx}{pos:Pos}
def KN (i:Nat):TG:=λv σ H Q=>Q (σ.set i (Z v)) H
def KA (hN:X.N.Nodup)(hi:X.N[i]?=Z x)(hx:Ep X.env.scope x)(hf:X.fn x=true\/X.env.scope.names.lookup x=Z .local:=by first|exact .inl rfl|exact .inr rfl|assumption):PG X (.Name x pos) (KN i):=by
 intro af s σ H v u Q I r h;exact wpAny_assign_Name (m6 I hN hi hx r (λs' I'=>⟨_,H,I',h⟩) hf)
def So:Lf:=λvs σ H Q=>vs=[]/\Q σ H
def P7 (t:TG)(u:Lf):Lf:=λvs σ H Q=>∃v r,vs=v::r/\t v σ H λσ' H'=>u r σ' H' Q
def CI:Mg X [] So:=by
 intro af s σ H vs us Q I r h;refine q0x2 h λe h=>?_;exact aab ⟨σ,H,I,h⟩
def Ae {t:TG}(h1:PG X e t)(h2:Mg X es u)
  (hs:(VB (e::es) X.env).map (·.2)=ZY e X.env::(VB es X.env).map (·.2):=by rfl):Mg X (e::es) (P7 t u):=by
 intro af s σ H vs us Q I r h;obtain⟨v,vr,e1,h⟩:=h;subst e1;cases r with
 | cons r rr=>
  rw[hs];refine X7 (bS (h1 af s σ H _ _ _ I r h) λ_ s1 hxx=>?_);obtain⟨σ1,H1,I1,q1⟩:=hxx;exact h2 af s1 σ1 H1 _ _ Q I1 rr q1
def S3 (K:Uu)(n:Nat)(t:Lf):TG:=λv σ H Q=>∃a xs,v=.ref a/\sX K H a xs/\xs.length=n/\t xs σ H Q
def GX {k:Nat}{t:Lf}{n:Nat}(hc:X.calm=true)(h:Mg X es t)
  (hn:(VB es X.env).length=n:=by rfl) (hst:(VB es X.env).findIdx? (·.1)=Y:=by rfl):PG X (.Tuple es k pos) (S3 X.K n t):=by
 intro af s σ H v u Q I r hw;obtain⟨a,xs,e1,hq,hl,hw⟩:=hw;subst e1;cases r;obtain⟨its,rv,ht,hz⟩:=I.tuple hq;refine assign_Tuple_tuple (I.ok.hd hc) ht (by simp[hn,<-hl,rv.length]) hst λh' hx=>?_
 exact h af _ σ H xs _ Q (I.kept  λb o e=>hx b o (Uz (Ut e)) e) (by omega) hw
def S9 (to ti:TE)(t:NJ):TG:=λv σ H Q=>to σ H λo H1=>ti σ H1 λi H2=>t o i v H2 λH3=>Q σ H3
def Lq {t:NJ}(ho:PE X o to)(hi:PE X i ti)(hs:QZ X t)
  (ha:∀v,ZY (.Subscript o i pos) X.env v=(do
   let ov <-VN [v] (Vo o X.env)
   let iv <-VN [v,ov] (Vo i X.env)
   XE pos
   VN [v,ov,iv] (Zx ov iv v)
   release [v,ov,iv] []):=by intro _;rfl):PG X (.Subscript o i pos) (S9 to ti t):=by
 intro af s σ H v u Q I r h;rw[ha];refine Ud (UL (bS (ho af s σ H _ I h) λov s1 hxx=>?_));refine q2x3 hxx λx H1 I1 r1 q1=>?_;refine Ud (UL (bS (hi af s1 σ H1 _ I1 q1) λiv s2 hxx=>?_));refine q2x3 hxx λy H2 I2 r2 q2=>?_;refine Ud (ZO (Ud (UL (bS (hs af s2 σ H2 x y v ov iv u _ I2 r1 r2 r q2) λ_ s3 hxx=>?_))));refine q1x2 hxx λH3 I3 q3=>?_;exact wpAny_release ⟨σ,H3,I3,q3⟩
def Ph (te:TE)(g:TG):TS:=λD σ H=>te σ H λx H1=>g x σ H1 D.nx
def FS (he:PE X e te)(hg:PG X tg g)(hs:Yx [tg] e pos.line X.env=pure false:=by rfl)(hw:W2 [tg] e X.env=pure Y:=by rfl)
  (h1:(VB [tg] X.env).map (·.2)=[ZY tg X.env]:=by rfl):PS X (.Assign [tg] e pos) (Ph te g):=by
 intro af s σ H D I h;refine ZH (bS (he af s σ H _ I h) λv s1 hxx=>?_) hs hw;refine q2x3 hxx λx H1 I1 r1 q1=>?_;rw[h1];exact bS (hg af s1 σ H1 x v _ I1 r1 q1) λ_ s2 q=>q
def Oo (hN:X.N.Nodup)(hi:X.N[i]?=Z x)(hx:Ep X.env.scope x)(he:PE X e te)(hs:Xg e (Z (.Name x pos')) pos.line X.env=pure false:=by rfl)(hf:X.fn x=true\/X.env.scope.names.lookup x=Z .local:=by first|exact .inl rfl|exact .inr rfl|assumption) :
  PS X (.Assign [.Name x pos'] e pos) (Ph te (KN i)):=by
 intro af s σ H D I h;refine wpAny_Assign_Name (bS (he af s σ H _ I h) λv s1 hxx=>?_) hs;refine q2x3 hxx λy H1 I1 r1 q1=>?_;exact m6 I1 hN hi hx r1 (λs2 I2=>⟨_,H1,I2,q1⟩) hf
def Sj (i j:Nat)(ta:TA):TS:=λD σ H=>ta σ H λvs H1=>∃v w,vs=[v,w]/\D.nx ((σ.set i (Z v)).set j (Z w)) H1
def Nb {y:Str}{a:UY}{pt:Pos}{kt k2 pt2}(hc:X.calm=true)(hN:X.N.Nodup)(hi:X.N[i]?=Z x)(hj:X.N[j]?=Z y)(hij:i≠j)
  (hx:X.env.scope.names.lookup x=Z .local) (hy:X.env.scope.names.lookup y=Z .local) (ha:PA X [a,b] ta)
  (hw:W2 [.Tuple [.Name x px,.Name y py] kt pt] (.Tuple [a,b] k2 pt2) X.env=pure (Z [x,y]))
  (hs:Yx [.Tuple [.Name x px,.Name y py] kt pt] (.Tuple [a,b] k2 pt2) pos.line X.env=pure false:=by rfl) :
  PS X (.Assign [.Tuple [.Name x px,.Name y py] kt pt] (.Tuple [a,b] k2 pt2) pos) (Sj i j ta):=by
 intro af s σ H D I h;rw[exec_Assign_arm];refine Ud (ZO ?_);rw[hs];refine Ud (Ue ?_);rw[if_neg (by decide)];refine Ud (Tuple_ (bS (ha _ af s σ H _ I h) λus s1 hxx=>?_));obtain⟨vs,H1,I1,r1,q1⟩:=hxx;obtain⟨v,w,e1,q1⟩:=q1;subst e1;obtain⟨u1,u2,rfl,rv,rw'⟩:∃u1 u2,us=[u1,u2]/\aS v u1/\aS w u2:=by
  cases r1 with
  | cons p q=>
   cases q with
   | cons p' q'=>
    cases q';exact⟨_,_,rfl,p,p'⟩
 refine UV ?_ (by show 2<=Ur;decide);have I2:Inv X af σ H1 {s1 with heap:=s1.heap.push {cls:=.type "tuple",data:=.seq [u1,u2].toArray}}:=I1.kept (t':=s1.toks) λb o e=>Ug _ e
 rw[hw];refine Ud (Ue ?_);refine Ud (XA (Ud (unpackItems_tuple (items:=#[u1,u2]) (I.ok.hd hc) (YF s1.heap _) λh' hx'=>?_)));have I3:=I2.kept (h':=h') (t':=s1.toks) λb o e=>hx' b o (Uz (Ut e)) e
 refine Ud (X7 (wpAny_bindName (m6 I3 hN hj (.inl hy) rw' (λs2 I4=>?_) (.inr hy))));refine X7 (wpAny_bindName (m6 I4 hN hi (.inl hx) rv (λs3 I5=>aab (Ue ?_)) (.inr hx)));rw[set_comm _ _ (Vl hij)] at I5;exact⟨_,H1,I5,q1⟩
def Tv (i:Nat)(te:TE)(ti:R7):TS:=λD σ H=>∃x,σ[i]?=Z (Z x)/\te σ H λy H1=>ti x y H1 λz H2=>D.nx (σ.set i (Z z)) H2
def OE (hN:X.N.Nodup)(hi:X.N[i]?=Z x)(hx:Ep X.env.scope x)(he:PE X e te)(ho:RO X op ti)(hf:X.fn x=true\/X.env.scope.names.lookup x=Z .local:=by first|exact .inl rfl|exact .inr rfl|assumption) :
  PS X (.AugAssign (.Name x pos') op e pos) (Tv i te ti):=by
 intro af s σ H D I h;refine q1x2 h λv e1 h=>?_;refine q1x2 I.loc λm hn hl=>?_;have vis:LZ X.env.scope x:=by rcases hx with k|k;exact .inl k;exact .inr (.inl k)
 refine q1x2 (hl i x v hi e1 vis) λu r l=>?_;refine wpAny_AugAssign_Name ?_;have go:Uq (UA X.prog X.w) X.A (Vo e X.env) (λw s₂=>Uq (UA X.prog X.w) X.A (Zy op u w) (λr s₃=>Uq (UA X.prog X.w) X.A (abK X.env x r) (λ_=>SP X af D .next) X.xe s₃) X.xe s₂) X.xe s:=by
  refine bS (he af s σ H _ I h) λw s1 hxx=>?_
  refine q2x3 hxx λy H1 I1 r1 q1=>?_;refine bS (ho af s1 σ H1 v y u w _ I1 r r1 q1) λz s2 hxx=>?_
  refine q2x3 hxx λzv H2 I2 r2 q2=>?_;exact m6 I2 hN hi hx r2 (λs3 I3=>⟨_,H2,I3,q2⟩) hf
 rcases l with⟨hk,hm⟩|⟨hk,c,hc,hcell⟩
 ·exact Zh I.ok.kind hk hn hm go
 ·rcases hk with hk|hk
  ·exact ZG I.ok.kind hk hc hcell go
  ·rcases hx with k|k
   ·have:X.env.scope.names.lookup x=Z .free:=hk;rw[k] at this;cases this
   ·have:X.env.scope.names.lookup x=Z .free:=hk;rw[k] at this;cases this
def R5 (f:Int->Int->Int):R7:=λx y H Q=>∃i j,x=.int i/\y=.int j/\Q (.int (f i j)) H
def Oj:RO X .Add (R5 λi j=>i+j):=by
 intro af s σ H x y v u Q I r1 r2 h;refine q2x3 h λi j e1 e2 q=>?_;subst e1;subst e2;refine q1x1 r1 λt zz1=>?_;subst zz1;refine q1x1 r2 λt' zz1=>?_;subst zz1;exact aa6 ⟨.int _,H,I.tok _,⟨_,rfl⟩,q⟩
def Ma:RO X .Sub (R5 λi j=>i-j):=by
 intro af s σ H x y v u Q I r1 r2 h;refine q2x3 h λi j e1 e2 q=>?_;subst e1;subst e2;refine q1x1 r1 λt zz1=>?_;subst zz1;refine q1x1 r2 λt' zz1=>?_;subst zz1;exact isub_int ⟨.int _,H,I.tok _,⟨_,rfl⟩,q⟩
end
section
variable {X:Cx}{pos:Pos}
def MB (c:TT)(tb:TS):TS:=λD σ H=>∃W:Nat->St->Hp->Prop,(∃m,W m σ H)/\∀m σ H,W m σ H->
 c σ H λb H1=>if b=true then∃N:St->Hp->Prop,(∀σ' H',N σ' H'->∃m',m'<m/\W m' σ' H')/\tb {D with nx:=N,ct:=N,bk:=D.nx} σ H1 else D.nx σ H1
def He (hp:aax (UA X.prog X.w) X.A X.env X.xe)(hc:PT X c tc)(hb:PSs X body tb):PS X (.While c body [] pos) (MB tc tb):=by
 intro af s σ H D I h;obtain⟨W,⟨m0,w0⟩,turn⟩:=h;refine wpAny_While (codeAny_whileLoop (λn s'=>∃σ' H',Inv X af σ' H' s'/\W n σ' H') ?_ m0 ⟨σ,H,I,w0⟩);rintro n s1 ⟨σ1,H1,I1,w1⟩;refine Wa hp (bS (hc af s1 σ1 H1 _ I1 (turn n σ1 H1 w1)) λb s2 hxx=>?_);refine q1x2 hxx λH2 I2 q2=>?_;cases b with
 | true=>
  refine q1x2 q2 λN hN q2=>?_;refine Wa hp (bS (hb af s2 σ1 H2 _ I2 q2) λf s3 q3=>?_);cases f with
  | next=>
   refine q2x2 q3 λσ3 H3 I3 n3=>?_;refine q1x2 (hN σ3 H3 n3) λm' hm w3=>?_;exact⟨m',hm,σ3,H3,I3,w3⟩
  | cont=>
   refine q2x2 q3 λσ3 H3 I3 n3=>?_;refine q1x2 (hN σ3 H3 n3) λm' hm w3=>?_;exact⟨m',hm,σ3,H3,I3,w3⟩
  | brk=>exact q3
  | ret v=>exact q3
 | false=>
  exact XQ ⟨σ1,H2,I2,q2⟩
end
structure It where
 go:Nat->Hp->Prop
 yld:Nat->Hp->V->Hp->Prop
 stop:Nat->Hp->Prop
def hV (X:Cx)(af:List (Ul×Obj))(H:Hp)(b:Ul):Prop:=
 H b=Y/\b≠X.env.locals/\b∉X.fs/\(b∈X.ex\/X.s₀.heap.objs.size<=b)/\(∀x c,X.env.cells.lookup x=Z c->c≠b)/\∀p∈X.pn++af,p.1≠b
def Inv.fpOk (I:Inv X af σ H s)(hb:s.heap.objs.size<=b)(hn:H' b=Y):hV X af H' b:=by
 refine⟨hn,Wt (Ux I.lt hb),I.nofs hb,.inr (UK I.sz hb),λx c e z=>?_,λp hp z=>?_⟩
 ·refine q1x1 (I.cell x c e) λv q=>?_;exact absurd (Ux q.lt (by rwa [z])) (Wi _)
 ·exact absurd (Ux (Ut (I.pin p hp).1) (by rwa [z])) (Wi _)
structure TurnF (P:UI)(w:UN)(K:Uu)(tg:UY)(J:It)(fp:List Ul)(it:Ul)(tn:Nat->Vn->Prop):Prop where
 mem:it∈fp
 obj:∀i h,tn i h->∀b∈fp,∃o,h.get? b=Z o/\∀v,o.data≠.cell v
 keep:∀i h h',tn i h->(∀b∈fp,∀o,h.get? b=Z o->h'.get? b=Z o)->tn i h'
 item:∀(X:Cx),X.prog=P->X.w=w->X.K=K->X.calm=true->∀(i:Nat) (af:List (Ul×Obj)) (s:Ui) (σ:St) (H:Hp) (E:Uh->Ui->Prop),Inv X af σ H s->(∀b∈fp,hV X af H b)->tn i s.heap->J.go i H->
  Uq (UA P w) X.A (WN (.ref it)) (λr s1=>∃u,r=Z u/\
   Uq (UA P w) X.A (Y7 tg (.ref it) u) (λ_ s2=>∃x H',Inv X af σ H' s2/\aS x u/\J.yld i H x H'/\tn (i+1) s2.heap/\∀b∈fp,H' b=Y) E s1) E s
 done:∀(X:Cx),X.prog=P->X.w=w->X.K=K->X.calm=true->∀(i:Nat) (af:List (Ul×Obj)) (s:Ui) (σ:St) (H:Hp) (E:Uh->Ui->Prop),Inv X af σ H s->(∀b∈fp,hV X af H b)->tn i s.heap->J.stop i H->
  Uq (UA P w) X.A (WN (.ref it)) (λr s1=>r=Y/\Inv X af σ H s1) E s
structure A7 (P:UI)(w:UN)(K:Uu)(tg:UY)(J:It)(fp:List Ul)(it:Ul)(tn:Nat->Vn->Prop):Prop extends TurnF P w K tg J fp it tn where
 self:∀(A:Vd) (i:Nat) (s:Ui) (Q:Uh->Ui->Prop) (E:Uh->Ui->Prop),tn i s.heap->Q (.ref it) s->Uq (UA P w) A (ZZ (.ref it)) Q E s
abbrev TI:=St->Hp->(It->Hp->Prop)->Prop
def Sa (X:Cx)(af:List (Ul×Obj))(σ:St)(tg:UY)(R:It->Hp->Prop)(itv:Uh)(s2:Ui):Prop:=
 ∃(it:Ul) (fp:List Ul) (tn:Nat->Vn->Prop) (J:It) (H':Hp),itv=.ref it/\Inv X af σ H' s2/\A7 X.prog X.w X.K tg J fp it tn/\tn 0 s2.heap/\(∀b∈fp,hV X af H' b)/\R J H'
def PI (X:Cx)(tg iter:UY)(wi:TI):Prop:=
 ∀(af:List (Ul×Obj)) (s:Ui) (σ:St) (H:Hp) (R:It->Hp->Prop),Inv X af σ H s->wi σ H R->
  Uq (UA X.prog X.w) X.A (Vo iter X.env) (λv s1=>Uq (UA X.prog X.w) X.A (ZZ v) (Sa X af σ tg R) X.xe s1) X.xe s
def S0 (X:Cx)(af:List (Ul×Obj))(σ:St)(tg:UY)(R:It->Hp->Prop)(itv:Uh)(s2:Ui):Prop:=
 ∃(it:Ul) (fp:List Ul) (tn:Nat->Vn->Prop) (J:It) (H':Hp),itv=.ref it/\Inv X af σ H' s2/\TurnF X.prog X.w X.K tg J fp it tn/\tn 0 s2.heap/\(∀b∈fp,hV X af H' b)/\R J H'
def Sl (X:Cx)(tg iter:UY)(wi:TI):Prop:=
 ∀(af:List (Ul×Obj)) (s:Ui) (σ:St) (H:Hp) (R:It->Hp->Prop),Inv X af σ H s->wi σ H R->
  Uq (UA X.prog X.w) X.A (Vo iter X.env) (λv s1=>Uq (UA X.prog X.w) X.A (ZZ v) (S0 X af σ tg R) X.xe s1) X.xe s
def PI.toF {iter:UY}(h:PI X tg iter wi):Sl X tg iter wi:=λaf s σ H R I q=>bS (h af s σ H R I q) λv s1 h1=>bS h1 λitv s2 h2=>by
 obtain⟨it,fp,tn,J,H2,e,I2,T,r⟩:=h2;exact⟨it,fp,tn,J,H2,e,I2,T.toTurnF,r⟩
def EK {n:String}(ho:s.heap.get? it=Z o)(hc:o.cls=.type n)(hd:o.data=.fields vs)
  (hn:["enumerate","zip","dict_itemiterator","dict_reverseitemiterator","odict_iterator","itertools.zip_longest","itertools.pairwise"].contains n=false) (hQ:Q () s):Uq M A (Y7 tg (.ref it) u) Q E s:=by
 cases tg <;> first
  | exact Ue hQ
  | (cases u <;> first
    | exact Ue hQ
    | (refine Ud (abk ho ?_)
       rw[hc,hd];show Uq M A (if(["enumerate","zip","dict_itemiterator","dict_reverseitemiterator","odict_iterator","itertools.zip_longest","itertools.pairwise"].contains n&&vs[0]?==Z (WO _))=true then _ else _) Q E s;rw[if_neg (by intro h;rw[hn,abl] at h;cases h)];exact Ue hQ))
def RE (K:Uu)(a:Ul):It:=
 ⟨λi H=>∃xs x,pe K H a xs/\xs[i]?=Z x,λi H x H'=>H'=H/\∀xs,pe K H a xs->xs[i]?=Z x,λi H=>∃xs,pe K H a xs/\xs.length<=i⟩
def SW (K:Uu)(a:Ul):It:=
 ⟨λi H=>∃xs x,sX K H a xs/\xs[i]?=Z x,λi H x H'=>H'=H/\∀xs,sX K H a xs->xs[i]?=Z x,λi H=>∃xs,sX K H a xs/\xs.length<=i⟩
def RM (lo:Int)(n:Nat):It:=⟨λi _=>i<n,λi H x H'=>H'=H/\x=.int (lo+i),λi _=>n<=i⟩
def DJ {P:UI}{w:UN}{K:Uu}{tg:UY}(a it:Ul):A7 P w K tg (RE K a) [it] it (λi h=>h.IsListIter it a i) where
 mem:=by simp
 obj:=λi h st b hb=>by
  have e:b=it:=by simpa using hb
  subst e;refine q1x3 st λo e c d=>?_;exact⟨o,e,λv z=>by rw[d] at z;cases z⟩
 keep:=λi h h' st k=>st.at λo e=>k it (by simp) o e
 item:=by
  intro X hP hw hK hc i af s σ H E I hf st hg;subst hP hw hK;refine q2x2 hg λxs x hq hx=>?_;refine q1x3 (I.list hq) λits rv p hz=>?_;refine q1x2 (rv.get hx) λu hu ru=>?_;refine q0x6 (hf it (by simp)) λf0 f1 f2 f3 f4 f5=>?_;refine VU st p.isList (x:=u) (by simpa using hu) λh' st' sb=>?_
  have I1:Inv X af σ H {s with heap:=h'}:=I.turned (t':=s.toks) (λb o hb e=>(sb.2 b hb).trans e) f0 f1 f3 f4 f5;refine q1x3 (id st') λo e c d=>?_;exact⟨u,rfl,EK (s:={s with heap:=h'}) e c d (by decide) ⟨x,H,I1,ru,⟨rfl,λys hy=>by rw[I.list_inj hy hq];exact hx⟩,st',λb hb=>(hf b hb).1⟩⟩
 done:=by
  intro X hP hw hK hc i af s σ H E I hf st hg;subst hP hw hK;refine q1x2 hg λxs hq hx=>?_;refine q1x3 (I.list hq) λits rv p hz=>?_;refine q0x6 (hf it (by simp)) λf0 f1 f2 f3 f4 f5=>?_;have hl:=rv.length;exact Xu (I.ok.hd hc) st p.isList (by simp;omega) λh' eb=>⟨rfl,I.turned (t':=s.toks) (λb o hb e=>eb b o hb e) f0 f1 f3 f4 f5⟩
 self:=λ_ _ _ _ _ st h=>wpAny_pyIter_listiter st h
def Bv {P:UI}{w:UN}{K:Uu}{tg:UY}(a it:Ul):A7 P w K tg (SW K a) [it] it (λi h=>h.IsTupleIter it a i) where
 mem:=by simp
 obj:=λi h st b hb=>by
  have e:b=it:=by simpa using hb
  subst e;refine q1x3 st λo e c d=>?_;exact⟨o,e,λv z=>by rw[d] at z;cases z⟩
 keep:=λi h h' st k=>st.at λo e=>k it (by simp) o e
 item:=by
  intro X hP hw hK hc i af s σ H E I hf st hg;subst hP hw hK;refine q2x2 hg λxs x hq hx=>?_;refine q1x3 (I.tuple hq) λits rv p hz=>?_;refine q1x2 (rv.get hx) λu hu ru=>?_;refine q0x6 (hf it (by simp)) λf0 f1 f2 f3 f4 f5=>?_;refine wpAny_pyNext_tuple_item st (show s.heap.IsTuple a its.toArray from p) (x:=u) (by simpa using hu) λh' st' sb=>?_
  have I1:Inv X af σ H {s with heap:=h'}:=I.turned (t':=s.toks) (λb o hb e=>(sb.2 b hb).trans e) f0 f1 f3 f4 f5;refine q1x3 (id st') λo e c d=>?_;exact⟨u,rfl,EK (s:={s with heap:=h'}) e c d (by decide) ⟨x,H,I1,ru,⟨rfl,λys hy=>by rw[I.tuple_inj hy hq];exact hx⟩,st',λb hb=>(hf b hb).1⟩⟩
 done:=by
  intro X hP hw hK hc i af s σ H E I hf st hg;subst hP hw hK;refine q1x2 hg λxs hq hx=>?_;refine q1x3 (I.tuple hq) λits rv p hz=>?_;refine q0x6 (hf it (by simp)) λf0 f1 f2 f3 f4 f5=>?_;have hl:=rv.length;exact wpAny_pyNext_tuple_end (I.ok.hd hc) st (show s.heap.IsTuple a its.toArray from p) (by simp;omega) λh' eb=>⟨rfl,I.turned (t':=s.toks) (λb o hb e=>eb b o hb e) f0 f1 f3 f4 f5⟩
 self:=λ_ _ _ _ _ st h=>wpAny_pyIter_tupleiter st h
def A8 {P:UI}{w:UN}{K:Uu}{tg:UY}(it:Ul)(lo:Int)(n:Nat):A7 P w K tg (RM lo n) [it] it (λi h=>IsRangeIter h it (lo+(i:Nat)*1) ((n:Int)-(i:Nat)) 1) where
 mem:=by simp
 obj:=λi h st b hb=>by
  simp_all
 keep:=λi h h' st k=>k it (by simp) _ st
 item:=by
  intro X hP hw hK hc i af s σ H E I hf st hg;subst hP hw hK;refine q0x6 (hf it (by simp)) λf0 f1 f2 f3 f4 f5=>?_;have W:=Walks.range (prog:=X.prog) (w:=X.w) (I.ok.hd hc) it lo 1 n;refine W.item i s _ _ hg st λv h' tk hv st' kk=>?_
  refine q1x1 hv λt zz1=>?_;subst zz1;have I1:Inv X af σ H {s with heap:=h',toks:=tk}:=I.turned (λb o hb e=>kk b o (by simpa using hb) e) f0 f1 f3 f4 f5;refine⟨_,rfl,EK (s:={s with heap:=h',toks:=tk}) (n:="range_iterator") st' rfl rfl (by decide) ⟨.int (lo+i),H,I1,⟨t,?_⟩,⟨rfl,rfl⟩,st',λb hb=>(hf b hb).1⟩⟩;rw[Int.mul_one]
 done:=by
  intro X hP hw hK hc i af s σ H E I hf st hg;subst hP hw hK;refine q0x6 (hf it (by simp)) λf0 f1 f2 f3 f4 f5=>?_;exact wpAny_pyNext_range_end (I.ok.hd hc) st (by have:n<=i:=hg;omega) λh' eb=>⟨rfl,I.turned (t':=s.toks) (λb o hb e=>eb b o hb e) f0 f1 f3 f4 f5⟩
 self:=λ_ _ _ _ _ st h=>wpAny_pyIter_rangeiter st h
section
variable {X:Cx}{tg:UY}
def EE {R:It->Hp->Prop}{lo hi:Int}{t:Tok}(I:Inv X af σ H s)(h1:-(2 ^ 62)<=lo)(h2:lo<2 ^ 62)(h3:-(2 ^ 62)<=hi)(h4:hi<2 ^ 62)
  (q:R (RM lo (hi-lo).toNat) H):Uq (UA X.prog X.w) X.A (ZZ (.ref s.heap.objs.size)) (Sa X af σ tg R) E {s with heap:=s.heap.push {cls:=.type "range",data:=.fields #[.int lo t,.int hi u,.int 1 v]},toks:=tk}:=by
 refine wpAny_pyIter_range (IsRange.new ..) (small_one h1 h2 h3 h4) ?_;have I1:Inv X af σ H {s with heap:=s.heap.push {cls:=.type "range",data:=.fields #[.int lo t,.int hi u,.int 1 v]},toks:=tk}:=I.kept λb o e=>Ug _ e
 refine⟨(s.heap.push {cls:=.type "range",data:=.fields #[.int lo t,.int hi u,.int 1 v]}).objs.size,[(s.heap.push {cls:=.type "range",data:=.fields #[.int lo t,.int hi u,.int 1 v]}).objs.size],_,_,H,rfl,
  I1.kept  λb o e=>Ug _ e,A8 _ lo (hi-lo).toNat,?_,λb hb=>?_,q⟩
 ·have e1:lo+((0:Nat):Int)*1=lo:=by simp
  have e2:(((hi-lo).toNat:Nat):Int)-((0:Nat):Int)=abL lo hi 1:=by rw[rangeSize_one];omega
  rw[e1,e2];exact Uo _ rfl
 ·have e:b=(s.heap.push {cls:=.type "range",data:=.fields #[.int lo t,.int hi u,.int 1 v]}).objs.size:=by simpa using hb
  subst e;exact I1.fpOk (Uj _) (I1.hok.fresh (Uj _))
def O1 (ta:TA):TI:=λσ H R=>ta σ H λvs H1=>∃j:Int,vs=[.int j]/\-(2 ^ 62)<=j/\j<2 ^ 62/\R (RM 0 j.toNat) H1
def Ek {a:UY}(hg:Gl X "range")(hm:X.mg "range"=Y)(ha:PA X [a] ta)(hs:UR [a] X.env=[(false,Vo a X.env)]:=by rfl):PI X tg (.Call (.Name "range" p) [a] [] pos) (O1 ta):=by
 intro af s σ H R I h;refine Call_ (rM I hg hm boot_range (WL (bS (ha pos af s σ H _ I h) λus s1 hxx=>?_) hs rfl));obtain⟨vs,H1,I1,r1,q1⟩:=hxx;obtain⟨j,e,q1,q2,q⟩:=q1;subst e;cases r1 with
 | cons r rr=>
  cases rr;obtain⟨t,rfl⟩:=r;exact call_range_1 (EE I1 (by simp) (by simp) q1 q2 (by simp_all))
def S7 (wi:TI)(g:TG)(tb:TS):TS:=λD σ H=>wi σ H λJ H1=>∃W:Nat->Nat->St->Hp->Prop,(∃m,W 0 m σ H1)/\∀i m σ H,W i m σ H->
 (J.stop i H/\D.nx σ H)\/(J.go i H/\∃N:St->Hp->Prop,(∀σ' H',N σ' H'->∃m',m'<m/\W (i+1) m' σ' H')/\∀x H',J.yld i H x H'->g x σ H' λσ2 H2=>tb {D with nx:=N,ct:=N,bk:=D.nx} σ2 H2)
def uU (fp:List Ul)(h:Vn):List (Ul×Obj):=fp.filterMap λb=>(h.get? b).map λo=>(b,o)
def lO (hb:b∈fp)(e:h.get? b=Z o):(b,o)∈uU fp h:=ZP.mpr ⟨b,hb,by simp_all⟩
def DE (hp:p∈uU fp h):p.1∈fp/\h.get? p.1=Z p.2:=by
 refine q1x2 (ZP.mp hp) λb hb e=>?_;cases q:h.get? b with
 | none=>simp_all
 | some o=>
  rw[q] at e;have e':=UT e;subst e';exact⟨hb,q⟩
def Inv.pinned (I:Inv X af σ H s)(hf:∀b∈fp,hV X af H b)(ho:∀b∈fp,∃o,s.heap.get? b=Z o/\∀v,o.data≠.cell v):Inv X (af++uU fp s.heap) σ H s:=
 I.pins_of λp hp=>(Yq.mp hp).elim (λz=>I.pin p (Vh _ z)) λz=>by
  refine q0x2 (DE z) λhb e=>?_;refine q0x4 (hf p.1 hb) λf0 f1 f2 _=>?_;refine q1x2 (ho p.1 hb) λo e' d=>?_
  simp_all
def Inv.unpinned (I:Inv X (af++pl) σ H s):Inv X af σ H s:=I.pins_of λp hp=>I.pin p (Vh _ (aaU _ hp))
def Nh {iter:UY}(hp:aax (UA X.prog X.w) X.A X.env X.xe)(hc:X.calm=true)(hi:Sl X tg iter wi)(hg:PG X tg g)(hb:PSs X body tb)
  (hs:∀x,U4 iter X.env x=pure x:=by intro _;rfl):PS X (.For tg iter body [] pos) (S7 wi g tb):=by
 intro af s σ H D I h;refine wpAny_For (bS (hi af s σ H _ I h) λv s1 h1=>bS h1 λitv s2 h2=>?_) hs;obtain⟨it,fp,tn,J,H2,e,I2,T,st2,f2,W,⟨m0,w0⟩,turn⟩:=h2;subst e;have stat:∀{H':Hp},(∀b∈fp,H' b=Y)->∀b∈fp,hV X af H' b:=λhn b hb=>⟨hn b hb,(f2 b hb).2⟩
 refine codeAny_forLoop_any (λn s'=>∃i σ' H',Inv X af σ' H' s'/\tn i s'.heap/\(∀b∈fp,H' b=Y)/\W i n σ' H') ?_ m0 ⟨0,σ,H2,I2,st2,λb hb=>(f2 b hb).1,w0⟩;rintro n s3 ⟨i,σ3,H3,I3,st3,fr3,w3⟩;rcases turn i n σ3 H3 w3 with⟨stop,qn⟩|⟨go,N,hN,step⟩
 ·refine Wa hp (bS (T.done X rfl rfl rfl hc i af s3 σ3 H3 X.xe I3 (stat fr3) st3 stop) λr s4 hxx=>?_);refine q0x2 hxx λhr I4=>?_;subst hr;exact XQ ⟨σ3,H3,I4,qn⟩
 ·refine Wa hp (bS (T.item X rfl rfl rfl hc i af s3 σ3 H3 X.xe I3 (stat fr3) st3 go) λr s4 hxx=>?_);refine q1x2 hxx λu hr h4=>?_;subst hr;refine Wa hp (bS h4 λ_ s5 hxx=>?_);obtain⟨x,H5,I5,r5,y5,st5,fr5⟩:=hxx;have I5':=I5.pinned (stat fr5) (T.obj _ _ st5);refine Wa hp (bS (hg _ s5 σ3 H5 x u _ I5' r5 (step x H5 y5)) λ_ s6 hxx=>?_);refine q2x2 hxx λσ6 H6 I6 q6=>?_;refine Wa hp (bS (hb _ s6 σ6 H6 _ I6 q6) λf s7 q7=>?_);have again:∀{σ7:St} {H7:Hp},Inv X (af++uU fp s5.heap) σ7 H7 s7->N σ7 H7->∃m,m<n/\∃i σ' H',Inv X af σ' H' s7/\tn i s7.heap/\(∀b∈fp,H' b=Y)/\W i m σ' H':=λ{σ7 H7} I7 n7=>by
   refine q1x2 (hN σ7 H7 n7) λm' hm w7=>?_;refine⟨m',hm,i+1,σ7,H7,I7.unpinned,T.keep _ _ _ st5 λb hb o e=>(I7.pin (b,o) (Vh _ (Vh _ (lO hb e)))).1,λb hb=>?_,w7⟩;refine q1x2 (T.obj _ _ st5 b hb) λo e d=>?_;exact(I7.pin (b,o) (Vh _ (Vh _ (lO hb e)))).2.1
  cases f with
  | next=>refine q2x2 q7 λσ7 H7 I7 n7=>?_;exact again I7 n7
  | cont=>refine q2x2 q7 λσ7 H7 I7 n7=>?_;exact again I7 n7
  | brk=>refine q2x2 q7 λσ7 H7 I7 q7=>?_;exact⟨σ7,H7,I7.unpinned,q7⟩
  | ret v=>refine q3x3 q7 λx7 σ7 H7 I7 r7 q7=>?_;exact⟨x7,σ7,H7,I7.unpinned,r7,q7⟩
end
abbrev R2:=V->V->Hp->VK->Prop
def ph (X:Cx)(f:Uh->Uh->Sem Uh)(r:R2):Prop:=
 ∀(af:List (Ul×Obj)) (s:Ui) (σ:St) (H:Hp) (x y:V) (v u:Uh) (Q:VK),Inv X af σ H s->aS x v->aS y u->r x y H Q->
  Uq (UA X.prog X.w) X.A (f v u) (EP X af σ Q) X.xe s
def Ts (X:Cx)(f:Uh->Sem Uh)(r:V->Hp->VK->Prop):Prop:=
 ∀(af:List (Ul×Obj)) (s:Ui) (σ:St) (H:Hp) (x:V) (v:Uh) (Q:VK),Inv X af σ H s->aS x v->r x H Q->
  Uq (UA X.prog X.w) X.A (f v) (EP X af σ Q) X.xe s
def fF (X:Cx)(f:Uh)(r:List V->Hp->VK->Prop):Prop:=
 ∀(af:List (Ul×Obj)) (s:Ui) (σ:St) (H:Hp) (xs:List V) (us:List Uh) (Q:VK),Inv X af σ H s->aV xs us->r xs H Q->
  Uq (UA X.prog X.w) X.A (call f us) (EP X af σ Q) X.xe s
def Th (X:Cx)(r:V->Hp->(Bool->Hp->Prop)->Prop):Prop:=
 ∀(af:List (Ul×Obj)) (s:Ui) (σ:St) (H:Hp) (x:V) (v:Uh) (Q:Bool->Hp->Prop),Inv X af σ H s->aS x v->r x H Q->
  Uq (UA X.prog X.w) X.A (truthy v) (TP X af σ Q) X.xe s
def Pe (r:R2)(ta tb:TE):TE:=λσ H Q=>ta σ H λx H1=>tb σ H1 λy H2=>r x y H2 Q
def T2 (r:V->Hp->VK->Prop)(ta:TE):TE:=λσ H Q=>ta σ H λx H1=>r x H1 Q
def rI (C:Int->Int->Prop)(g:Int->Int->V):R2:=λx y H Q=>∃i j,x=.int i/\y=.int j/\C i j/\Q (g i j) H
def KO (g:Int->Int->V):R2:=λx y H Q=>∃i j,x=.int i/\y=.int j/\Q (g i j) H
def rU (g:Int->V):V->Hp->VK->Prop:=λx H Q=>∃i,x=.int i/\Q (g i) H
section
variable {X:Cx}{a b c:UY}{ta tb tc:TE}{pos:Pos}
def Od (ha:PE X a ta)(hb:PE X b tb){R:V->V->Hp->Prop}(I:Inv X af σ H s)
  (h:ta σ H λx H1=>tb σ H1 λy H2=>R x y H2) {f:Uh->Uh->Sem Uh}
  (hf:∀v u s2 x y H2,Inv X af σ H2 s2->aS x v->aS y u->R x y H2->Uq (UA X.prog X.w) X.A (f v u) Q X.xe s2) :
  Uq (UA X.prog X.w) X.A (Vo a X.env) (λv s₁=>Uq (UA X.prog X.w) X.A (Vo b X.env) (λu s₂=>Uq (UA X.prog X.w) X.A (f v u) Q X.xe s₂) X.xe s₁) X.xe s:=by
 refine bS (ha af s σ H _ I h) λv s1 hxx=>?_
 refine q2x3 hxx λx H1 I1 r1 q1=>?_;refine bS (hb af s1 σ H1 _ I1 q1) λu s2 hxx=>?_
 refine q2x3 hxx λy H2 I2 r2 q2=>?_;exact hf v u s2 x y H2 I2 r1 r2 q2
def OQ (ho:ph X (VR op) r)(ha:PE X a ta)(hb:PE X b tb):PE X (.BinOp a op b pos) (Pe r ta tb):=by
 intro af s σ H Q I h;exact wpAny_BinOp (Od ha hb I h λv u s2 x y H2 I2 rx ry q=>ho af s2 σ H2 x y v u Q I2 rx ry q)
def Ll (ho:Ts X (unaryOp op) r)(ha:PE X a ta):PE X (.UnaryOp op a pos) (T2 r ta):=by
 intro af s σ H Q I h;exact UnaryOp_ (bS (ha af s σ H _ I h) λv s1 ⟨x,H1,I1,r1,q1⟩=>ho af s1 σ H1 x v Q I1 r1 q1)
def SX {g:Int->Int->Int}
  (rule:∀(i j:Int) (t u:Tok) (s:Ui) (Q:Uh->Ui->Prop) (E:Uh->Ui->Prop),C i j->Q (.int (g i j) s.toks) {s with toks:=s.toks+1}->Uq (UA X.prog X.w) X.A (f (.int i t) (.int j u)) Q E s) :
  ph X f (rI C λi j=>.int (g i j)):=by
 intro af s σ H x y v u Q I rx ry h;refine q2x4 h λi j zz2 zz3 hc q=>?_;subst zz2;subst zz3;refine q1x1 rx λt zz1=>?_;subst zz1;refine q1x1 ry λt' zz1=>?_;subst zz1;exact rule i j t t' s _ _ hc ⟨.int (g i j),H,I.tok _,⟨_,rfl⟩,q⟩
def Qc {g:Int->Int->Int}
  (rule:∀(i j:Int) (t u:Tok) (s:Ui) (Q:Uh->Ui->Prop) (E:Uh->Ui->Prop),Q (.int (g i j) s.toks) {s with toks:=s.toks+1}->Uq (UA X.prog X.w) X.A (f (.int i t) (.int j u)) Q E s) :
  ph X f (KO λi j=>.int (g i j)):=by
 intro af s σ H x y v u Q I rx ry h;refine q2x3 h λi j zz2 zz3 q=>?_;subst zz2;subst zz3;refine q1x1 rx λt zz1=>?_;subst zz1;refine q1x1 ry λt' zz1=>?_;subst zz1;exact rule i j t t' s _ _ ⟨.int (g i j),H,I.tok _,⟨_,rfl⟩,q⟩
def KG {g:Int->Int->Bool}
  (rule:∀(i j:Int) (t u:Tok) (s:Ui) (Q:Uh->Ui->Prop) (E:Uh->Ui->Prop),Q (.bool (g i j)) s->Uq (UA X.prog X.w) X.A (f (.int i t) (.int j u)) Q E s) :
  ph X f (KO λi j=>.bl (g i j)):=by
 intro af s σ H x y v u Q I rx ry h;refine q2x3 h λi j zz2 zz3 q=>?_;subst zz2;subst zz3;refine q1x1 rx λt zz1=>?_;subst zz1;refine q1x1 ry λt' zz1=>?_;subst zz1;exact rule i j t t' s _ _ ⟨.bl (g i j),H,I,rfl,q⟩
def Sq (i j:Int):Prop:=0<=j/\j<=1000000/\i.natAbs<2 ^ 64
def NF (i j:Int):Prop:=(-(2 ^ 64)<i/\i<2 ^ 64)\/(-(2 ^ 64)<j/\j<2 ^ 64)
def NF.ok (h:NF i j):IntMulOk i j:=by
 rcases h with⟨h1,h2⟩|⟨h1,h2⟩
 ·exact .of_left (intBits_le_64 h1 h2)
 ·exact .of_right (intBits_le_64 h1 h2)
def Nd:ph X (VR .Add) (KO λi j=>.int (i+j)):=Qc λ_ _ _ _ _ _ _ q=>add_int q
def LN:ph X (VR .Sub) (KO λi j=>.int (i-j)):=Qc λ_ _ _ _ _ _ _ q=>sub_int q
def Lz:ph X (VR .Mult) (rI NF λi j=>.int (i*j)):=SX λ_ _ _ _ _ _ _ hc q=>mul_int q hc.ok
def L6:ph X (VR .Mod) (rI (λ_ j=>0<j) λi j=>.int (i % j)):=SX λi j _ _ _ _ _ hc q=>mod_int' (by omega) (by rwa [X8 i (by omega)])
def N1:ph X (VR .Pow) (rI Sq λi j=>.int (i ^ j.toNat)):=SX λ_ _ _ _ _ _ _ hc q=>pow_int_small hc.1 hc.2.1 hc.2.2 q
def TJ {g:Int->Int}
  (rule:∀(i:Int) (t:Tok) (s:Ui) (Q:Uh->Ui->Prop) (E:Uh->Ui->Prop),Q (.int (g i) s.toks) {s with toks:=s.toks+1}->Uq (UA X.prog X.w) X.A (f (.int i t)) Q E s) :
  Ts X f (rU λi=>.int (g i)):=by
 intro af s σ H x v Q I rx h;refine q1x2 h λi zz1 q=>?_;subst zz1;refine q1x1 rx λt zz1=>?_;subst zz1;exact rule i t s _ _ ⟨.int (g i),H,I.tok _,⟨_,rfl⟩,q⟩
def FA:Ts X (unaryOp .USub) (rU λi=>.int (-i)):=TJ λ_ _ _ _ _ q=>neg_int q
end
section
variable {X:Cx}{a b c:UY}{ta tb tc:TE}{pos:Pos}
def Q5:ph X (UX .Lt) (KO λi j=>.bl (decide (i<j))):=KG λ_ _ _ _ _ _ _ q=>Y9 q
def OT:ph X (UX .LtE) (KO λi j=>.bl (decide (i<=j))):=KG λ_ _ _ _ _ _ _ q=>le_int q
def PP:ph X (UX .Gt) (KO λi j=>.bl (decide (j<i))):=KG λ_ _ _ _ _ _ _ q=>abM q
def Qa:ph X (UX .GtE) (KO λi j=>.bl (decide (j<=i))):=KG λ_ _ _ _ _ _ _ q=>ge_int q
def RA:HO->Bool
 | .lst _=>true
 | .ins _ _ _=>true
 | _=>false
def OG {a:Ul}(I:Inv X af σ H s)(h:H a=Z o)(p:RA o=true):∃ob,s.heap.get? a=Z ob/\ob.cls≠.type "tuple":=by
 cases o with
 | lst xs=>
  obtain⟨_,its,n,_,e⟩:xs.length<=Ur/\∃(its:List Uh) (n:Nat),aV xs its/\s.heap.get? a=Z {cls:=.type "list",data:=.seq its.toArray n}:=I.hok a _ h
  simp_all
 | ins C dx fs=>
  refine q0x5 ((I.hok a _ h)) λ_ _ _ e _=>?_
  simp_all
 | _=>exact absurd (show false=true from p) Uy
def Of (b:UY)(h:op≠.In:=by decide)(h2:op≠.NotIn:=by decide):W3 op b=false:=by
 have e1:(op==CmpOp.In)=false:=by grind
 have e2:(op==CmpOp.NotIn)=false:=by grind
 cases b <;> simp[W3,e1,e2]
def JR (ho:ph X (UX op) r)(ha:PE X a ta)(hb:PE X b tb)(hm:W3 op b=false):PE X (.Compare a [op] [b] pos) (Pe r ta tb):=by
 intro af s σ H Q I h;exact wpAny_Compare1 (Od ha hb I h λv u s2 x y H2 I2 rx ry q=>ho af s2 σ H2 x y v u Q I2 rx ry q) hm
def K4 (t:TE):TT:=λσ H Q=>t σ H λx H'=>∃k,x=.bl k/\Q k H'
def IP (ho:ph X (UX op) r)(ha:PE X a ta)(hb:PE X b tb)(hm:W3 op b=false):PT X (.Compare a [op] [b] pos) (K4 (Pe r ta tb)):=by
 intro af s σ H Q I h;refine wpAny_isTrue_Compare1 (bS (ha af s σ H _ I h) λv s1 ⟨x,H1,I1,r1,q1⟩=>bS (hb af s1 σ H1 _ I1 q1) λu s2 ⟨y,H2,I2,r2,q2⟩=>
  bS (ho af s2 σ H2 x y v u _ I2 r1 r2 q2) λc s3 hxx=>?_) hm
 obtain⟨z,H3,I3,r3,k,e,q3⟩:=hxx;subst e;cases r3;exact Vm ⟨H3,I3,q3⟩
def AQ (r r':R2)(ta tb tc:TE):TE:=λσ H Q=>ta σ H λx H1=>tb σ H1 λy H2=>r x y H2 λz H3=>∃k,z=.bl k/\
 (if k=true then tc σ H3 λw' H4=>r' y w' H4 Q else Q (.bl false) H3)
def Gu (ho:ph X (UX op) r)(ho':ph X (UX op') r')(ha:PE X a ta)(hb:PE X b tb)(hc:PE X c tc)
  (hm:aay [op,op'] [b,c]=false:=by with_unfolding_all rfl):PE X (.Compare a [op,op'] [b,c] pos) (AQ r r' ta tb tc):=by
 intro af s σ H Q I h;refine Compare_chain (bS (ha af s σ H _ I h) λv s1 ⟨x,H1,I1,r1,q1⟩=>chain_link (bS (hb af s1 σ H1 _ I1 q1) λu s2 ⟨y,H2,I2,r2,q2⟩=>
  bS (ho af s2 σ H2 x y v u _ I2 r1 r2 q2) λd s3 hxx=>?_)) hm
 obtain⟨z,H3,I3,r3,k,e,q3⟩:=hxx;subst e;cases r3;refine Vm ?_;cases k with
 | false=>exact ite_ff ⟨.bl false,H3,I3,rfl,q3⟩
 | true=>exact ite_tt (chain_last (bS (hc af s3 σ H3 _ I3 q3) λw' s4 ⟨z',H4,I4,r4,q4⟩=>ho' af s4 σ H4 y z' u w' Q I4 r2 r4 q4))
def GF (ho:ph X (UX op) r)(ho':ph X (UX op') r')(ha:PE X a ta)(hb:PE X b tb)(hc:PE X c tc)
  (hm:aay [op,op'] [b,c]=false:=by with_unfolding_all rfl):PT X (.Compare a [op,op'] [b,c] pos) (K4 (AQ r r' ta tb tc)):=by
 intro af s σ H Q I h;refine isTrue_chain (bS (ha af s σ H _ I h) λv s1 ⟨x,H1,I1,r1,q1⟩=>test_link (bS (hb af s1 σ H1 _ I1 q1) λu s2 ⟨y,H2,I2,r2,q2⟩=>
  bS (ho af s2 σ H2 x y v u _ I2 r1 r2 q2) λd s3 hxx=>?_)) hm
 obtain⟨z,H3,I3,r3,k,e,q3⟩:=hxx;subst e;cases r3;refine Vm ?_;cases k with
 | false=>
  refine q1x2 q3 λk' e' q'=>?_;cases e';exact ite_ff ⟨H3,I3,q'⟩
 | true=>
  refine ite_tt (test_last (bS (hc af s3 σ H3 _ I3 q3) λw' s4 ⟨z',H4,I4,r4,q4⟩=>bS (ho' af s4 σ H4 y z' u w' _ I4 r2 r4 q4) λd' s5 hxx=>?_));obtain⟨z2,H5,I5,r5,k2,e2,q5⟩:=hxx;subst e2;cases r5;exact Vm ⟨H5,I5,q5⟩
def Q6 (K:Uu)(x:V)(H:Hp)(k:Bool):Prop:=
 match x with
 | .non=>k=false
 | .bl b=>k=b
 | .int i=>k=(i != 0)
 | .str y=>y.length<=Ur/\k=((y.length:Int) != 0)
 | .byt y=>y.size<=Ur/\k=((y.size:Int) != 0)
 | .ref p=>(∃xs,pe K H p xs/\k=!xs.isEmpty)\/(∃xs,sX K H p xs/\k=!xs.isEmpty)\/∃kvs,H p=Z (.dK kvs)/\k=!kvs.isEmpty
 | _=>False
def Bq {kvs:List (κ×V)}{vs:List (κ×Uh)}(r:KV kvs vs):(!vs.isEmpty)=!kvs.isEmpty:=by
 cases r <;> rfl
def tQ (r:aV xs its):(!its.toArray.isEmpty)=!xs.isEmpty:=by
 cases r <;> simp
def re:(Ur:Nat)<2 ^ 63:=by decide
def MN:Th X (λx H Q=>∃k,Q6 X.K x H k/\Q k H):=by
 intro af s σ H x v Q I rx h;refine q1x2 h λk e q=>?_;have hl:=re;have hs:Ur=16777216:=U3;cases x with
 | non=>
  cases rx;have e':k=false:=e;subst e';exact truthy_none ⟨H,I,q⟩
 | bl b=>
  cases rx;have e':k=b:=e;subst e';exact Vm ⟨H,I,q⟩
 | int i=>
  refine q1x1 rx λt zz1=>?_;subst zz1;have e':k=(i != 0):=e;subst e';exact PySem.P.truthy_int ⟨H,I,q⟩
 | str y=>
  refine q1x1 rx λt zz1=>?_;subst zz1;obtain⟨hy,e'⟩:y.length<=Ur/\k=((y.length:Int) != 0):=e;subst e';exact PySem.P.truthy_str (by omega) ⟨H,I.tok _,q⟩
 | byt y=>
  refine q1x1 rx λt zz1=>?_;subst zz1;obtain⟨hy,e'⟩:y.size<=Ur/\k=((y.size:Int) != 0):=e;subst e';exact W.truthy_bytes (by omega) ⟨H,I.tok _,q⟩
 | ref p=>
  cases rx;have e':(∃xs,pe X.K H p xs/\k=!xs.isEmpty)\/(∃xs,sX X.K H p xs/\k=!xs.isEmpty)\/∃kvs,H p=Z (.dK kvs)/\k=!kvs.isEmpty:=e;rcases e' with⟨xs,hx,e'⟩|⟨xs,hx,e'⟩|⟨kvs,hx,e'⟩
  ·subst e';refine q1x3 (I.list hx) λits r pl hz=>?_;have hlen:=r.length;exact wpAny_truthy_list pl.isList (by simp only[U1];omega) ⟨H,I.tok _,by rw[tQ r];exact q⟩
  ·subst e';refine q1x3 (I.tuple hx) λits r pl hz=>?_;have hlen:=r.length;exact truthy_tuple pl (by simp only[U1];omega) ⟨H,I.tok _,by rw[tQ r];exact q⟩
  ·subst e';obtain⟨hz,hS,vs,r,m⟩:kvs.length<=Ur/\(p==Vp)=false/\∃vs,KV kvs vs/\s.heap.DictOf (bA X.prog X.w) p vs:=I.hok p _ hx;have hlen:kvs.length=vs.length:=Paired.length r;exact wpAny_truthy_dict hS m (by omega) ⟨H,I.tok _,by rw[Bq r];exact q⟩
 | _=>exact(show False from e).elim
def FH (ha:PE X a ta)(he:∀whole,isTrue a X.env whole=(do let v <-whole;XE a.pos;VN [v] (truthy v))) :
  PT X a (λσ H Q=>ta σ H λx H'=>∃k,Q6 X.K x H' k/\Q k H'):=by
 intro af s σ H Q I h;exact isTrue_plain (bS (ha af s σ H _ I h) λv s1 ⟨x,H1,I1,r1,q1⟩=>MN af s1 σ H1 x v Q I1 r1 q1) (he _)
def AX:ph X (VR .Add) (λx y H Q=>∃i j,x=.str i/\y=.str j/\i.length+j.length<=Ur/\Q (.str (i++j)) H):=by
 intro af s σ H x y v u Q I rx ry h;refine q2x4 h λi j zz2 zz3 hz q=>?_;subst zz2;subst zz3;refine q1x1 rx λt zz1=>?_;subst zz1;refine q1x1 ry λt' zz1=>?_;subst zz1;exact add_str (λt' tk=>⟨.str (i++j),H,I.tok _,⟨_,rfl⟩,q⟩) hz
def ju (r:aV [x] us):∃u,us=[u]/\aS x u:=by
 cases r with
 | cons r1 r2=>cases r2;exact⟨_,rfl,r1⟩
def B5 {y:V}(r:aV [x,y] us):∃u w',us=[u,w']/\aS x u/\aS y w':=by
 cases r with
 | cons r1 r2=>
  cases r2 with
  | cons r3 r4=>cases r4;exact⟨_,_,rfl,r1,r3⟩
def DK (hc:X.calm=true):fF X (.builtin "max") (λxs H Q=>∃i j,xs=[.int i,.int j]/\Q (.int (if j>i then j else i)) H):=by
 intro af s σ H xs us Q I r h;refine q2x2 h λi j zz2 q=>?_;subst zz2;obtain⟨u,w',rfl,⟨t,rfl⟩,⟨t',rfl⟩⟩:=B5 r;refine max_two_ints (I.ok.hd hc) λh' tk k=>⟨_,H,I.kept k,?_,q⟩
 by_cases hj:j>i
 ·rw[if_pos hj,if_pos hj];exact⟨_,rfl⟩
 ·rw[if_neg hj,if_neg hj];exact⟨_,rfl⟩
def Dg (hc:X.calm=true):fF X (.builtin "min") (λxs H Q=>∃i j,xs=[.int i,.int j]/\Q (.int (if j<i then j else i)) H):=by
 intro af s σ H xs us Q I r h;refine q2x2 h λi j zz2 q=>?_;subst zz2;obtain⟨u,w',rfl,⟨t,rfl⟩,⟨t',rfl⟩⟩:=B5 r;refine min_two_ints (I.ok.hd hc) λh' tk k=>⟨_,H,I.kept k,?_,q⟩
 by_cases hj:j<i
 ·rw[if_pos hj,if_pos hj];exact⟨_,rfl⟩
 ·rw[if_neg hj,if_neg hj];exact⟨_,rfl⟩
def wu:fF X (.type "int") (λxs H Q=>(∃i,xs=[.int i]/\Q (.int i) H)\/∃k,xs=[.bl k]/\Q (.int (if k then 1 else 0)) H):=by
 intro af s σ H xs us Q I r h;rcases h with⟨i,rfl,q⟩|⟨k,rfl,q⟩
 ·obtain⟨u,rfl,t,rfl⟩:=ju r;exact call_int_int ⟨.int i,H,I,⟨_,rfl⟩,q⟩
 ·refine q1x2 (ju r) λu zz1 r1=>?_;subst zz1;cases r1;exact call_int_bool ⟨.int (if k then 1 else 0),H,I.tok _,⟨_,rfl⟩,q⟩
end
structure BG (h:Vn)(x dx C:Ul)(mA:Str->Option Uh):Prop where
 obj:h.get? x=Z (YE C dx)
 ns:h.Ns1 dx mA
 ne:dx≠x
def D1 {h:Vn}(n:h.Ns1 dx mA):∃od,h.get? dx=Z od/\∀name,abm name od=Z (mA name):=by
 refine q3x5 n λo es ep ho hd hk _ hm=>?_;refine⟨o,ho,λname=>?_⟩;have e:=hm name;unfold nsFind findBy at e;rw[<-Array.find?_toList] at e;unfold abm;rw[hd];dsimp only;split
 ·simp_all
 ·rename_i q;rw[q] at e;have a:es.toList.any (·.refKey)=false:=by
   rw[any_eq_false];intro y hy;refine q2x1 (hk y (Array.mem_toList_iff.mp hy)) λz t hkey=>?_;simp[DictEntry.refKey,hkey]
  rw[if_neg (by rw[a];simp)];exact congrArg Z e
def BG.look (I:BG h x dx C mA):∃od,W.InstAt h x (YE C dx) C (Z od)/\∀name,abm name od=Z (mA name):=
 let ⟨od,ho,hl⟩:=D1 I.ns
 ⟨od,⟨I.obj,rfl,rfl,ho⟩,hl⟩
section
variable {prog:UI}{w:UN}{A:Vd}{E:Uh->Ui->Prop}{s:Ui}{K:Uu}{x dx C f:Ul}{mA:Str->Option Uh}{name:Str}{v:Uh}
def Im (X:K.In s.heap)(I:BG s.heap x dx C mA)(hg:YU K C name=true)(hh:Zi K C=true)
  (ha:V0 K (.ref C) name=Z Y) (hv:mA name=Z v) (hv':W.handedIn v=true) (h:Q v {s with toks:=s.toks+1}) :
  Uq (UA prog w) A (getAttr (.ref x) name expr) Q E s:=by
 refine q1x2 I.look λod J hl=>?_;exact W.get_value X J (ZQ hg).1 (W.findObj_own hh ha rfl (by simp_all)) hv' h
def FG (X:K.In s.heap)(I:BG s.heap x dx C mA)(hg:YU K C name=true)
  (hf:V0 K (.ref C) name=Z (Z (.ref f))) (ht:W.isFn K (.ref f)=true) (hv:mA name=Y) (h:Q (.ref f,[.ref x]) s) :
  Uq (UA prog w) A (XB (.ref x) name pl) Q E s:=by
 refine q1x2 I.look λod J hl=>?_;exact W.method_fn X J (ZQ hg).1 (ZQ hg).2 hf (beq_iff_eq.mp ht) (by show(abm name od).map (·.isSome)=Z false;simp_all) h
def Jy (X:K.In s.heap)(I:BG s.heap x dx C mA)
  (hs:V0 K (.ref C) "__setattr__"=Z (Z (.builtin "object.__setattr__"))) (hp:aaM K C=true) (ht:abN K C name=Z Y) (hh:Zi K C=true)
  (hw:PySem.Within mA ns) (hsz:ns.length<=Ur)
  (h:∀h',BG h' x dx C (λy=>if y=name then Z v else mA y)->Vr dx s.heap h'->Q () {s with heap:=h',toks:=s.toks+2}) :
  Uq (UA prog w) A (setAttr (.ref x) name v) Q E s:=by
 refine q1x2 I.look λod J hl=>?_;refine W.set_plain X J hs (W.osa_open  (r:=Y) X J hp ht λb=>?_);refine q1x2 (W.any_some hh) λcd hc hd'=>?_;refine Ud (Ue (Ud (Ud (wpAny_loadPart I.obj (Ud (W.Looks.here  (W.looks_clsIn X hc) ?_))))));rw[hd'];refine Ue (a:=Z dx) (Ud (Ue (Ud ?_)));refine wpAny_nsSet1 (s:={s with toks:=s.toks+1}) I.ns λh' hn2 hs2=>?_
 refine q3x3 (hn2.count (PySem.Within.cons name v hw)) λoD esD epD hoD hdD hcD=>?_;refine Ud (wpAny_lookBehind hoD (by rw[hdD];exact pastItsLine_dict (UK hcD (by rw[U6];omega))) ?_);exact Ue (h _ ⟨(hs2.2 _ (Vl I.ne)).trans I.obj,hn2,I.ne⟩ hs2)
def Hj {R:abW->Ui->Prop}(X:K.In s.heap)(hm:aaz K C=true)
  (hi:V0 K (.ref C) "__init__"=Z (Z (.ref f))) (hf:ab4 K (.ref f)=Z (.type "function"))
  (h:Zz (UA prog w) (A.under (.builtin "type.__call__" ⟨.ref C::vs,kw⟩)) (.call (.ref f) ⟨.ref (s.heap.objs.size+1)::vs,kw⟩) (W.InitBack (s.heap.objs.size+1) R)
   {s with heap:=(s.heap.push XF).push (YE C s.heap.objs.size)}) :
  Zz (UA prog w) A (.call (.ref C) ⟨vs,kw⟩) R s:=W.make_core (W.makes_of X hm) (W.looks_findIn X hi) (λself=>W.bind_fn X self hf) (.inl rfl) h
end
def lD (f:Str)(v:V):List (Str×V)->List (Str×V)
 | []=>[(f,v)]
 | (g,x)::r=>if g=f then(g,v)::r else(g,x)::lD f v r
theorem rR (f g:Str)(v:V):∀fs:List (Str×V),(lD f v fs).lookup g=if g=f then Z v else fs.lookup g
 | []=>by
  show XG g [(f,v)]=_
  by_cases h:g=f
  ·simp_all
  simp_all
 | (k,x)::r=>by
  have ih:=rR f g v r;rw[show lD f v ((k,x)::r)=(if k=f then(k,v)::r else(k,x)::lD f v r) from rfl]
  by_cases hk:k=f
  ·rw[if_pos hk]
   by_cases h:g=k
   ·simp_all
   ·simp only[XG,(beq_eq_false_iff_ne.mpr h),if_neg (λe:g=f=>h (e.trans hk.symm))]
  ·rw[if_neg hk]
   by_cases h:g=k
   ·simp_all
   ·simp only[XG,(beq_eq_false_iff_ne.mpr h)];exact ih
theorem qR (f:Str)(v:V):∀fs:List (Str×V),f∈(lD f v fs).map (·.1)/\∀g,g∈fs.map (·.1)->g∈(lD f v fs).map (·.1)
 | []=>⟨by simp[lD],λg h=>by simp_all⟩
 | (k,x)::r=>by
  refine q0x2 (qR f v r) λi1 i2=>?_;rw[show lD f v ((k,x)::r)=(if k=f then(k,v)::r else(k,x)::lD f v r) from rfl]
  grind
theorem si (f:Str)(v:V):∀fs:List (Str×V),(lD f v fs).length<=fs.length+1
 | []=>by simp[lD]
 | (k,x)::r=>by
  have ih:=si f v r;rw[show lD f v ((k,x)::r)=(if k=f then(k,v)::r else(k,x)::lD f v r) from rfl]
  grind
def lY.some_of (r:lY (Z v) o):∃u,o=Z u/\aS v u:=by
 cases o with
 | none=>exact(r).elim
 | some u=>exact⟨u,rfl,r⟩
def lY.none_of (r:lY Y o):o=Y:=by
 cases o with
 | none=>rfl
 | some u=>exact(r).elim
def Ei (r:aS v u):W.handedIn u=true:=by
 cases v with
 | non=>cases (r);rfl
 | bl b=>cases (r);rfl
 | int i=>refine q1x1 ((r)) λt e=>?_;cases e;rfl
 | str x=>refine q1x1 ((r)) λt e=>?_;cases e;rfl
 | byt b=>refine q1x1 ((r)) λt e=>?_;cases e;rfl
 | flt b=>refine q1x1 ((r)) λt e=>?_;cases e;rfl
 | ref a=>cases (r);rfl
 | ty n=>cases (r);rfl
section
variable {P:UI}{w:UN}{H H':Hp}{h h':Vn}{a C dx:Ul}{fs fs':List (Str×V)}
def xE (hok:mY P w H h)(e:H a=Z (.ins C dx fs)):∃mA,BG h a dx C mA/\(∀f,lY (fs.lookup f) (mA f))/\PySem.Within mA (fs.map (·.1))/\fs.length<=1000/\H dx=Z (.own a):=by
 obtain⟨d,z,ne,ob,mA,n,r,q⟩:=(hok a _ e);exact⟨mA,⟨ob,n,ne⟩,r,q,z,d⟩
end
structure Gh (K:Uu)(C:Ul):Prop where
 pg:YU K C ZA=true
 hd:Zi K C=true
 po:aaM K C=true
 sa:V0 K (.ref C) "__setattr__"=Z (Z (.builtin "object.__setattr__"))
def Gh.get {K:Uu}(c:Gh K C)(f:Str):YU K C f=true:=c.pg
def hO (K:Uu)(C:Ul)(f:Str):Prop:=V0 K (.ref C) f=Z Y
def hO.taker {K:Uu}(n:hO K C f):abN K C f=Z Y:=by
 unfold abN;rw[n];rfl
structure Ay (K:Uu)(C:Ul)(m:Str)(f:Ul):Prop where
 at_:V0 K (.ref C) m=Z (Z (.ref f))
 fn:W.isFn K (.ref f)=true
 kp:WQ K (.ref f)=true
section
variable {X:Cx}{af:List (Ul×Obj)}{σ:St}{H:Hp}{s:Ui}{a C dx:Ul}{fs:List (Str×V)}{f:Str}{v:V}{A:Vd}{E:Uh->Ui->Prop}
def uV (I:Inv X af σ H s)(e:H a=Z (.ins C dx fs))(c:Gh X.K C)(n:hO X.K C f)(l:fs.lookup f=Z v)
  (h:∀u s',Inv X af σ H s'->aS v u->Q u s'):Uq (UA X.prog X.w) A (getAttr (.ref a) f b) Q E s:=by
 refine q1x5 (xE I.hok e) λmA O r _ _ _=>?_;refine q1x2 (lY.some_of   (by rw[<-l];exact r f)) λu hu ru=>?_;exact Im I.kIn O (c.get f) c.hd n hu (Ei ru) (h u _ (I.tok _) ru)
def t8 (I:Inv X af σ H s)(e:H a=Z (.ins C dx fs))(c:Gh X.K C)(k:Ay X.K C m g)(l:fs.lookup m=Y)
  (h:Q (.ref g,[.ref a]) s):Uq (UA X.prog X.w) A (XB (.ref a) m pl) Q E s:=by
 refine q1x5 (xE I.hok e) λmA O r _ _ _=>?_;exact FG I.kIn O (c.get m) k.at_ k.fn (lY.none_of (by rw[<-l];exact r m)) h
def uP {y:V}(I:Inv X af σ H s)(e:H a=Z (.ins C dx fs))(c:Gh X.K C)(n:hO X.K C f)(hl:fs.length<1000)(ry:aS y u)
  (h:∀s',Inv X af σ (bB H a (.ins C dx (lD f y fs))) s'->Q () s'):Uq (UA X.prog X.w) A (setAttr (.ref a) f u) Q E s:=by
 refine q1x5 (xE I.hok e) λmA O r wi _ ho=>?_;refine Jy I.kIn O c.sa c.po n.taker c.hd wi (by rw[UB,U3];omega) λh' O' sb=>h _ ?_
 refine I.write (x:=a) (e:=dx) (by rw[e];exact V1) (.inr ho) (λb q hb z=>(sb.2 b hb).trans z) (let ⟨o,_,_,e',_⟩:=O'.ns;⟨o,e'⟩) ?_;refine⟨by rw[ar O.ne];exact ho,?_,O.ne,O'.obj,_,O'.ns,λg=>?_,λg hg=>?_⟩
 ·have:=si f y fs;omega
 ·rw[rR]
  by_cases q:g=f
  ·rw[if_pos q,if_pos q];exact ry
  ·rw[if_neg q,if_neg q];exact r g
 ·by_cases q:g=f
  ·rw[q];exact(qR f y fs).1
  ·refine(qR f y fs).2 g (wi g λz=>hg ?_)
   simp_all
def Inv.made (I:Inv X af σ H s):Inv X af σ (bB (bB H s.heap.objs.size (.own (s.heap.objs.size+1))) (s.heap.objs.size+1) (.ins C s.heap.objs.size []))
  {s with heap:=(s.heap.push XF).push (YE C s.heap.objs.size)}:=by
 have e1:(s.heap.push XF).get? s.heap.objs.size=Z XF:=Uo s.heap rfl;refine(I.laid  (o:=.own (s.heap.objs.size+1))  (t':=s.toks) (λb u q=>Ug _ q) (Uj _) ⟨_,e1⟩).laid    (λb u q=>Ug _ q) (Xk (Xl _ _)) ?_;have ne:s.heap.objs.size≠s.heap.objs.size+1:=Uz (Wn _);refine⟨by rw[ar ne,aX],UW _,ne,(by
  have:=Uo (s.heap.push XF) (o:=YE C s.heap.objs.size) rfl;rwa [Xl] at this),λ_=>Y,(Heap.Ns1.of_empty (⟨XF,#[],_,e1,rfl,(λe he=>absurd he (by simp)),λ_=>rfl⟩)).at λo q=>Ug _ q,λ_=>V1,λy hy=>absurd rfl hy⟩
def J6 {f:Str}{s:Ui}(hb:Vu e f env (Vo e env)=Vo e env)
  (h:Uq (UA prog w) A (Vo e env) (λo s₁=>Uq (UA prog w) A (getAttr o f true) Q E s₁) E s):Uq (UA prog w) A (Vo (.Attribute e f pos) env) Q E s:=
 Attribute_any_ h (by rw[arm_eval_Attribute,hb])
end
def R3 (K:Uu)(ta:TE)(f:Str):TE:=λσ H Q=>ta σ H λx H1=>∃a C dx fs v,x=.ref a/\H1 a=Z (.ins C dx fs)/\Gh K C/\hO K C f/\fs.lookup f=Z v/\Q v H1
def Se (K:Uu)(ta tv:TE)(f:Str):TS:=λD σ H=>tv σ H λy H1=>ta σ H1 λx H2=>∃a C dx fs,x=.ref a/\H2 a=Z (.ins C dx fs)/\Gh K C/\hO K C f/\fs.length<1000/\
 D.nx σ (bB H2 a (.ins C dx (lD f y fs)))
def IJ (X:Cx)(op:Operator)(rd:V->V->Hp->VK->Prop):Prop:=
 ∀(af:List (Ul×Obj)) (s:Ui) (σ:St) (H:Hp) (x y:V) (u v:Uh) (Q:VK),Inv X af σ H s->aS x u->aS y v->rd x y H Q->Uq (UA X.prog X.w) X.A (Zy op u v) (EP X af σ Q) X.xe s
def JI (K:Uu)(ta tv:TE)(rd:V->V->Hp->VK->Prop)(f:Str):TS:=λD σ H=>ta σ H λx H1=>∃a C dx fs v,x=.ref a/\H1 a=Z (.ins C dx fs)/\Gh K C/\hO K C f/\fs.lookup f=Z v/\
 tv σ H1 λy H2=>rd v y H2 λz H3=>∃dx' fs',H3 a=Z (.ins C dx' fs')/\fs'.length<1000/\D.nx σ (bB H3 a (.ins C dx' (lD f z fs')))
section
variable {X:Cx}{o e value:UY}{f:Str}{pos pos' tpos:Pos}{ta tv:TE}
def NB (he:PE X e ta)(hb:Vu e f X.env (Vo e X.env)=Vo e X.env):PE X (.Attribute e f pos) (R3 X.K ta f):=by
 intro af s σ H Q I h;refine J6 hb (bS (he af s σ H _ I h) λu s1 hxx=>?_);obtain⟨x,H1,I1,rx,a,C,dx,fs,v,ex,ea,c,n,l,q⟩:=hxx;subst ex;obtain rfl:u=UO a:=rx;exact uV I1 ea c n l λu' s2 I2 ru=>⟨v,H1,I2,ru,q⟩
def L3 (ha:PE X o ta)(hv:PE X value tv)(hs:Xg value (Z (.Attribute o f pos')) pos.line X.env=pure false):PS X (.Assign [.Attribute o f pos'] value pos) (Se X.K ta tv f):=by
 intro af s σ H D I h;refine plainObj_wpAny_Assign_Attribute (bS (hv af s σ H _ I h) λu s1 ⟨y,H1,I1,ry,q⟩=>bS (ha af s1 σ H1 _ I1 q) λov s2 hxx=>?_) hs;obtain⟨x,H2,I2,rx,a,C,dx,fs,ex,ea,c,n,l,q2⟩:=hxx;subst ex;obtain rfl:ov=UO a:=rx;exact uP I2 ea c n l ry λs3 I3=>⟨σ,_,I3,q2⟩
def D8 (ha:PE X o ta)(hv:PE X value tv)(hop:IJ X op rd):PS X (.AugAssign (.Attribute o f tpos) op value pos) (JI X.K ta tv rd f):=by
 intro af s σ H D I h;refine wpAny_AugAssign_AttributeAny (bS (ha af s σ H _ I h) λov s1 hxx=>?_);obtain⟨x,H1,I1,rx,a,C,dx,fs,v,ex,ea,c,n,l,q⟩:=hxx;subst ex;obtain rfl:ov=UO a:=rx;refine uV I1 ea c n l λu s2 I2 ru=>bS (hv af s2 σ H1 _ I2 q) λw3 s3 ⟨y,H2,I3,ry,q3⟩=>bS (hop af s3 σ H2 v y u w3 _ I3 ru ry q3) λw4 s4 hxx=>?_
 obtain⟨z,H3,I4,rz,dx',fs',ea',l',q4⟩:=hxx;exact uP I4 ea' c n l' rz λs5 I5=>⟨σ,_,I5,q4⟩
def SM:V->V->Hp->VK->Prop:=λx y H Q=>∃i j,x=.int i/\y=.int j/\Q (.int (i+j)) H
def L7:IJ X .Add SM:=by
 rintro af s σ H x y u v Q I rx ry ⟨i,j,rfl,rfl,q⟩;refine q1x1 ((rx)) λt zz1=>?_;subst zz1;refine q1x1 ((ry)) λt' zz1=>?_;subst zz1;exact aa6 ⟨.int (i+j),H,I.tok _,⟨_,rfl⟩,q⟩
end
structure bn (k:Nat)(A:Vd):Prop where
 hd:A.handled=Y
 dp:A.depth+3*k+5<recursionLimit
 un:A.units+16*k+200<YG
def bn.mono {k:Nat}(r:bn k A)(h:j<=k):bn j A:=⟨r.hd,by have:=r.dp;omega,by have:=r.un;omega⟩
def bn.deeper {k:Nat}(r:bn (k+1) A)(env:Env):bn k (A.deeper env):=
 ⟨r.hd,by have:=r.dp;show A.depth+1+3*k+5<_;omega,by have:=r.un;show A.units+3+16*k+200<_;omega⟩
def bn.in1 {k:Nat}(r:bn (k+1) A):bn k A.in1:=
 ⟨r.hd,by have:=r.dp;grind,by have:=r.un;grind⟩
def BH {A:Vd}:(A.under (.builtin "type.__call__" ⟨.ref C::us,kw⟩)).depth=A.depth+1:=by
 rfl
def Bz {A:Vd}:(A.under (.builtin "type.__call__" ⟨.ref C::us,kw⟩)).units=A.units+1:=by
 rfl
def bn.make {k:Nat}(r:bn (k+1) A)(C:Ul)(us:List Uh)(kw:List (Str×Uh)):bn k (A.under (.builtin "type.__call__" ⟨.ref C::us,kw⟩)):=
 ⟨r.hd,by have:=r.dp;rw[BH];omega,by have:=r.un;rw[Bz];omega⟩
def bn.depth {k:Nat}(r:bn k A):A.depth<recursionLimit:=by have:=r.dp;omega
def bn.units {k:Nat}(r:bn k A):A.units+64<YG:=by have:=r.un;omega
def bn.units0 {k:Nat}(r:bn k A):A.units<YG:=by have:=r.un;omega
def MM:TA:=λ_ H Q=>Q [] H
def KY (ta:TE)(tr:TA):TA:=λσ H Q=>ta σ H λx H1=>tr σ H1 λxs H2=>Q (x::xs) H2
section
variable {X:Cx}{e:UY}{es:List UY}{te:TE}{t:TA}{pos:Pos}
def uE:PA X [] MM:=λ_ _ _ _ H Q I h=>aac ⟨[],H,I,.nil,h⟩
def nL (ha:PE X e te)(hr:PA X es t)(hs:UR (e::es) X.env=(false,Vo e X.env)::UR es X.env:=by rfl):PA X (e::es) (KY te t):=by
 intro pos af s σ H Q I h;rw[hs];refine X9 (bS (ha af s σ H _ I h) λu s1 hxx=>?_);refine q2x3 hxx λx H1 I1 r1 q1=>?_;exact bS (hr pos af s1 σ H1 _ I1 q1) λus s2 ⟨xs,H2,I2,r2,q2⟩=>⟨x::xs,H2,I2,.cons r1 r2,q2⟩
def SJ (t:TA):TE:=λσ H Q=>t σ H λxs H1=>xs.length<=Ur/\∀p,H1 p=Y->Q (.ref p) (bB H1 p (.tup xs))
def R6 (t:TA):TE:=λσ H Q=>t σ H λxs H1=>xs.length<=Ur/\∀p,H1 p=Y->Q (.ref p) (bB H1 p (.lst xs))
def Mj {x1}(h:PA X es t):PE X (.Tuple es x1 pos) (SJ t):=by
 intro af s σ H Q I hq;refine wpAny_Tuple_spliced (bS (h pos af s σ H _ I hq) λus s1 ⟨xs,H1,I1,r,z,q⟩=>⟨by rwa [<-r.length],?_⟩);refine⟨.ref s1.heap.objs.size,bB H1 s1.heap.objs.size (.tup xs),I1.laid  (λb u e=>Ug _ e) (Uj _) ?_,rfl,q _ (I1.hok.fresh (Uj _))⟩;exact⟨z,us,r,⟨_,Uo _ rfl,rfl,_,rfl⟩⟩
def Hl (h:PA X es t):PE X (.List es pos) (R6 t):=by
 intro af s σ H Q I hq;refine wpAny_List_spliced (bS (h pos af s σ H _ I hq) λus s1 ⟨xs,H1,I1,r,z,q⟩=>⟨by rwa [<-r.length],?_⟩);refine⟨.ref s1.heap.objs.size,bB H1 s1.heap.objs.size (.lst xs),I1.laid  (λb u e=>Ug _ e) (Uj _) ?_,rfl,q _ (I1.hok.fresh (Uj _))⟩;exact⟨z,us,0,r,Uo _ rfl⟩
end
abbrev Sp:=List V->Hp->VK->XK->Prop
abbrev LS:=List Env->Hp->Ui->XK->Uh->Ui->Prop
structure vA (P:UI)(w:UN)(K:Uu)(mg:Str->Option Uh)(base:Vn)(A:Vd)(outer:List Env)(s:Ui)(H:Hp):Prop where
 frames:A.frames=Z outer
 mod:Mod K mg base
 bs:∀b o,base.get? b=Z o->s.heap.get? b=Z o/\H b=Y
 bsz:base.objs.size<=s.heap.objs.size
 funs:s.heap.FunFrames base outer
 frf:∀b∈vq outer,H b=Y
 hok:mY P w H s.heap
 bare:Yp s.gens
def CE (outer:List Env)(P:UI)(w:UN)(H:Hp)(s:Ui)(Q:VK)(u:Uh)(s':Ui):Prop:=
 ∃v H',s'.os=s.os/\Yp s'.gens/\Un (vq outer) [] H H' s.heap s'.heap/\mY P w H' s'.heap/\aS v u/\Q v H'
def CR (CX:LS)(outer:List Env)(P:UI)(w:UN)(H:Hp)(s:Ui)(Q:VK)(E:XK)(r:abW)(s':Ui):Prop:=
 match r with
 | .ok (.ret u)=>CE outer P w H s Q u s'
 | .ok _=>False
 | .error e=>CX outer H s E e s'
structure eM (P:UI)(w:UN)(K:Uu)(mg:Str->Option Uh)(base:Vn)(CX:LS)(k:Nat)(f:Ul)(fd:VL)(ps:List Str)(sp:Sp):Prop where
 len:∀vs H Q E,sp vs H Q E->vs.length=ps.length
 run:∀(A:Vd) (outer:List Env) (s:Ui) (H:Hp) (args:Args) (us:List Uh) (vs:List V) (Q:VK) (E:XK),bn k A->vA P w K mg base A outer s H->XU s fd args (ps.zip us)->aV vs us->sp vs H Q E->
  Zz (UA P w) A (.call (.ref f) args) (CR CX outer P w H s Q E) s
def eM.imp {K:Uu}{k:Nat}(F:eM P w K mg base CX k f fd ps sp)
  (h:∀vs H Q E,sp' vs H Q E->sp vs H Q E):eM P w K mg base CX k f fd ps sp':=
 ⟨λvs H Q E q=>F.len vs H Q E (h _ _ _ _ q),λA outer s H args us vs Q E hr he hb hv hs=>F.run A outer s H args us vs Q E hr he hb hv (h _ _ _ _ hs)⟩
def vA.make {K:Uu}(e:vA P w K mg base A outer s H)(C:Ul)(us:List Uh)(kw:List (Str×Uh)) :
  vA P w K mg base (A.under (.builtin "type.__call__" ⟨.ref C::us,kw⟩)) outer s H:=⟨by first|exact e.frames|rfl,e.mod,e.bs,e.bsz,e.funs,e.frf,e.hok,e.bare⟩
def vA.in1 {K:Uu}(e:vA P w K mg base A outer s H) :
  vA P w K mg base A.in1 outer s H:=⟨e.frames,e.mod,e.bs,e.bsz,e.funs,e.frf,e.hok,e.bare⟩
section
variable {X:Cx}{af:List (Ul×Obj)}{σ:St}{H:Hp}{s s':Ui}
def Inv.env0 (I:Inv X af σ H s):vA X.prog X.w X.K X.mg X.base X.A X.stack s H:=
 ⟨I.ok.frames,I.ok.mod,I.bs,UK I.ok.bsz I.sz,I.stack,I.stkFree,I.hok,I.bare⟩
def Inv.after (I:Inv X af σ H s)(h:CE X.stack X.prog X.w H s Q u s'):EP X af σ Q u s':=by
 obtain⟨v,H',os,bare,un,hok,r,q⟩:=h;obtain⟨hh,g,d,t,os'⟩:=s';obtain rfl:os'=s.os:=os;exact⟨v,H',I.call      un hok bare (λb z=>absurd z (by simp)),r,q⟩
end
def Pm (sp:Sp)(dvs:List V)(E:XK)(t:TA):TE:=λσ H Q=>t σ H λvs H1=>sp (vs++dvs) H1 Q E
def FC (C:Ul)(m:Str)(sp:Sp)(dvs:List V)(E:XK)(ta:TE)(t:TA):TE:=λσ H Q=>ta σ H λx H1=>∃a dx fs,x=.ref a/\H1 a=Z (.ins C dx fs)/\fs.lookup m=Y/\
 t σ H1 λvs H2=>sp (x::(vs++dvs)) H2 Q E
def Le (C:Ul)(sp:Sp)(dvs:List V)(E:XK)(t:TA):TE:=λσ H Q=>t σ H λvs H1=>∀x dx,H1 x=Y->H1 dx=Y->dx≠x->
 sp (.ref x::(vs++dvs)) (bB (bB H1 dx (.own x)) x (.ins C dx [])) (λv H2=>v=.non/\Q (.ref x) H2) E
def f7 (K:Uu)(fd:VL)(ps:List Str)(ds:List Uh):Prop:=
 ∀(s:Ui) (us:List Uh),K.In s.heap->(us++ds).length=ps.length->XU s fd ⟨us,[]⟩ (ps.zip (us++ds))
def f7.all {K:Uu}(h:∀us:List Uh,us.length=ps.length->Zj fd ⟨us,[]⟩=pure (ps.zip us)):f7 K fd ps []:=λs us _ hl=>by
 rw[Yb] at hl ⊢;exact .of_eq (h us hl)
def oQ (CX:LS)(X:Cx)(E:XK):Prop:=∀(af:List (Ul×Obj)) (σ:St) (H:Hp) (s:Ui) (e:Uh) (s':Ui),Inv X af σ H s->CX X.stack H s E e s'->X.xe e s'
section
variable {X:Cx}{CX:LS}{k:Nat}{f C:Ul}{fd:VL}{ps:List Str}{sp:Sp}{dvs:List V}{ds:List Uh}{E:XK}{x m:Str}{p pos apos:Pos}{e o:UY}{es:List UY}{ta:TE}{t:TA}
def BK (F:eM X.prog X.w X.K X.mg X.base CX k f fd ps sp)(hr:bn k X.A)(hb:f7 X.K fd ps ds)(hd:aV dvs ds)(hx:oQ CX X E)
  (I:Inv X af σ H s) (r:aV vs us) (h:sp (vs++dvs) H Q E):Uq (UA X.prog X.w) X.A (call (.ref f) us) (EP X af σ Q) X.xe s:=by
 have r2:=r.append hd;refine abn (Xm (F.run X.A X.stack s H ⟨us,[]⟩ (us++ds) (vs++dvs) Q E hr I.env0 (hb s us I.kIn (by rw[<-r2.length];exact F.len _ _ _ _ h)) r2 h) λr s' hq=>?_);cases r with
 | error e=>exact hx af σ H s e s' I hq
 | ok fl=>
  cases fl with
  | ret u=>exact I.after hq
  | next=>assumption
  | brk=>assumption
  | cont=>assumption
def II (F:eM X.prog X.w X.K X.mg X.base CX k f fd ps sp)(hr:bn k X.A)(hg:Gl X x)(hm:X.mg x=Z (.ref f))(hk:WQ X.K (.ref f)=true)(hb:f7 X.K fd ps ds)(hd:aV dvs ds)(hx:oQ CX X E)
  (ha:PA X (e::es) t) (hdb:(x==("__debug__":Str))=false:=by decide) (he:UR (e::es) X.env=(false,Vo e X.env)::UR es X.env:=by rfl) (hpl:(Wm pos (UR es X.env)).any (·.1)=false:=by rfl) :
  PE X (.Call (.Name x p) (e::es) [] pos) (Pm sp dvs E t):=by
 intro af s σ H Q I h;refine Wu (tM I hg hm ?_ hdb);refine aad  I.ok.mod.kin hk (bS (ha pos af s σ H _ I h) λus s1 ⟨vs,H1,I1,r,q⟩=>⟨I1.kIn,?_⟩) he hpl;exact BK F hr hb hd hx I1 r q
def IH (he:PE X o ta)(c:Gh X.K C)(hm:Ay X.K C m f)(F:eM X.prog X.w X.K X.mg X.base CX k f fd ps sp)(hr:bn k X.A)(hb:f7 X.K fd ps ds)(hd:aV dvs ds)(hx:oQ CX X E)(ha:PA X (e::es) t)
  (hst:UR (e::es) X.env=(false,Vo e X.env)::UR es X.env:=by rfl) (hpl:(Wm pos (UR es X.env)).any (·.1)=false:=by rfl)
  (ht:Vo (.Call (.Attribute o m apos) (e::es) [] pos) X.env=(do
   let ov <-Vo o X.env
   XE apos.atName
   let (f,first) <-VN [ov] (XB ov m pl)
   Zk pos f first (Wm pos (UR (e::es) X.env)) (W4 pos (VY [] X.env))):=by rfl) :
  PE X (.Call (.Attribute o m apos) (e::es) [] pos) (FC C m sp dvs E ta t):=by
 intro af s σ H Q I h;refine aaW  (bS (he af s σ H _ I h) λu s1 hxx=>?_) ht;obtain⟨x,H1,I1,rx,a,dx,fs,ex,ea,l,q⟩:=hxx;subst ex;obtain rfl:u=UO a:=rx;refine t8 I1 ea c hm l ?_;refine aad   I.ok.mod.kin hm.kp (bS (ha pos af s1 σ H1 _ I1 q) λus s2 ⟨vs,H2,I2,r,q2⟩=>⟨I2.kIn,?_⟩) hst hpl;exact BK  (vs:=.ref a::vs) F hr hb hd hx I2 (.cons rfl r) q2
def E3 (he:PE X o ta)(c:Gh X.K C)(hm:Ay X.K C m f)(F:eM X.prog X.w X.K X.mg X.base CX k f fd ps sp)(hr:bn k X.A)(hb:f7 X.K fd ps ds)(hd:aV dvs ds)(hx:oQ CX X E)
  (ht:Vo (.Call (.Attribute o m apos) [] [] pos) X.env=(do
   let ov <-Vo o X.env
   XE apos.atName
   let (f,first) <-VN [ov] (XB ov m pl)
   Zk pos f first (Wm pos (UR [] X.env)) (W4 pos (VY [] X.env))):=by rfl) :
  PE X (.Call (.Attribute o m apos) [] [] pos) (FC C m sp dvs E ta MM):=by
 intro af s σ H Q I h;refine aaW  (bS (he af s σ H _ I h) λu s1 hxx=>?_) ht;obtain⟨x,H1,I1,rx,a,dx,fs,ex,ea,l,q⟩:=hxx;subst ex;obtain rfl:u=UO a:=rx;refine t8 I1 ea c hm l ?_;exact W.callWith_K0  I1.kIn hm.kp (BK  (vs:=[.ref a]) F hr hb hd hx I1 (.cons rfl .nil) q)
structure Mk (K:Uu)(C f:Ul):Prop where
 makes:aaz K C=true
 init:V0 K (.ref C) "__init__"=Z (Z (.ref f))
 fn:W.isFn K (.ref f)=true
 kp:WQ K (.ref C)=true
def EH (M:Mk X.K C f)(F:eM X.prog X.w X.K X.mg X.base CX k f fd ps sp)(hr:bn (k+1) X.A)(hb:f7 X.K fd ps ds)(hd:aV dvs ds)
  (hx:oQ CX X E) (I:Inv X af σ H s) (r:aV vs us)
  (h:∀x dx,H x=Y->H dx=Y->dx≠x->sp (.ref x::(vs++dvs)) (bB (bB H dx (.own x)) x (.ins C dx [])) (λv H2=>v=.non/\Q (.ref x) H2) E) :
  Uq (UA X.prog X.w) X.A (call (.ref C) us) (EP X af σ Q) X.xe s:=by
 have hq:=h (s.heap.objs.size+1) s.heap.objs.size (I.hok.fresh (Ws _)) (I.hok.fresh (Uj _)) (Uz (Wn _));have I2:=Inv.made (C:=C) I;have r2:aV (V.ref (s.heap.objs.size+1)::(vs++dvs)) (UO (s.heap.objs.size+1)::(us++ds)):=.cons rfl (r.append hd);refine abn (Hj  I.kIn M.makes M.init (beq_iff_eq.mp M.fn) (Xm (F.run _ X.stack _ _ ⟨UO (s.heap.objs.size+1)::us,[]⟩ (UO (s.heap.objs.size+1)::(us++ds)) _ _ E (hr.make C us [])
  (I2.env0.make C us []) (hb _ (UO (s.heap.objs.size+1)::us) I2.kIn (by
  have e:=r2.length;rw[F.len _ _ _ _ hq] at e;exact e.symm)) r2 hq) λr s' hq'=>?_))
 cases r with
 | error e=>exact hx af σ _ _ e s' I2 hq'
 | ok fl=>
  cases fl with
  | ret u=>
   refine q2x4 (I2.after hq') λv H' I3 rv ev q3=>?_;subst ev;exact⟨rv,⟨V.ref (s.heap.objs.size+1),H',I3,rfl,q3⟩⟩
  | next=>assumption
  | brk=>exact VG hq'
  | cont=>assumption
def Jm (M:Mk X.K C f)(F:eM X.prog X.w X.K X.mg X.base CX k f fd ps sp)(hr:bn (k+1) X.A)(hg:Gl X x)(hm:X.mg x=Z (.ref C))(hb:f7 X.K fd ps ds)(hd:aV dvs ds)(hx:oQ CX X E)
  (ha:PA X (e::es) t) (hdb:(x==("__debug__":Str))=false:=by decide) (he:UR (e::es) X.env=(false,Vo e X.env)::UR es X.env:=by rfl) (hpl:(Wm pos (UR es X.env)).any (·.1)=false:=by rfl) :
  PE X (.Call (.Name x p) (e::es) [] pos) (Le C sp dvs E t):=by
 intro af s σ H Q I h;refine Wu (tM I hg hm ?_ hdb);refine aad  I.ok.mod.kin M.kp (bS (ha pos af s σ H _ I h) λus s1 ⟨vs,H1,I1,r,q⟩=>⟨I1.kIn,?_⟩) he hpl;exact EH M F hr hb hd hx I1 r q
end
structure fe (N P:List Str)(sc:Y6):Prop where
 kind:sc.kind=.function
 co:sc.isCoroutine=false
 gen:sc.isGenerator=false
 nd:N.Nodup
 pre:N.take P.length=P
 par:∀x∈P,sc.names.lookup x=Z .local\/sc.names.lookup x=Z .cell
 nofree:∀y∈sc.names,y.2≠.free
theorem wt {Yc:Str->Option abo}:∀{binds:List (Str×Uh)} {m:Str->Option Uh},(∀v,(x,v)∉binds)->abO Yc binds m x=m x
 | [],_,_=>rfl
 | (n,v)::r,m,h=>by
  unfold abO;rw[wt λw hw=>h w (UU _ hw)];split
  ·have:x≠n:=by rintro rfl;exact h v UG
   simp[this]
  rfl
theorem wR {Yc:Str->Option abo}:∀{binds:List (Str×Uh)} {m:Str->Option Uh},(∀v,(x,v)∉binds)->abP Yc binds m x=m x
 | [],_,_=>rfl
 | (n,v)::r,m,h=>by
  unfold abP;rw[wR λw hw=>h w (UU _ hw)];split
  ·rfl
  ·have:x≠n:=by rintro rfl;exact h v UG
   simp[this]
theorem v9 {Yc:Str->Option abo}:∀{P:List Str} {vs:List Uh} {i:Nat} {m:Str->Option Uh},P.Nodup->P[i]?=Z x->vs[i]?=Z v->Yc x=Z .local->
  abO Yc (P.zip vs) m x=Z v
 | [],_,_,_,_,h,_,_=>by simp_all
 | _::_,[],_,_,_,_,h,_=>by simp_all
 | p::P,w::vs,0,m,nd,h1,h2,hk=>by
  simp at h1 h2;subst h1;subst h2;show abO Yc ((p,w)::P.zip vs) m p=_;unfold abO;rw[wt λv hv=>(Z0.mp nd).1 (Z1 hv).1,if_pos hk];simp
 | p::P,w::vs,i+1,m,nd,h1,h2,hk=>by
  unfold abO;exact v9  (Z0.mp nd).2 (by assumption) (by assumption) hk
theorem wO {Yc:Str->Option abo}:∀{P:List Str} {vs:List Uh} {i:Nat} {m:Str->Option Uh},P.Nodup->P[i]?=Z x->vs[i]?=Z v->Yc x≠Z .local->
  abP Yc (P.zip vs) m x=Z v
 | [],_,_,_,_,h,_,_=>by simp_all
 | _::_,[],_,_,_,_,h,_=>by simp at h
 | p::P,w::vs,0,m,nd,h1,h2,hk=>by
  simp at h1 h2;subst h1;subst h2;show abP Yc ((p,w)::P.zip vs) m p=_;unfold abP;rw[wR λv hv=>(Z0.mp nd).1 (Z1 hv).1,if_neg hk];simp
 | p::P,w::vs,i+1,m,nd,h1,h2,hk=>by
  unfold abP;exact wO  (Z0.mp nd).2 (by assumption) (by assumption) hk
def start (N:List Str)(vs:List V):St:=vs.map Z++UD (N.length-vs.length) Y
def iS (CX:LS)(P:UI)(w:UN)(K:Uu)(mg:Str->Option Uh)(base:Vn)(N:List Str)(qual:Str)(scope:Y6)(f:Ul)(cd:Uh)(A:Vd)(outer:List Env)(s:Ui)(H:Hp)(E:XK):Cx where
 prog:=P
 w:=w
 K:=K
 mg:=mg
 base:=base
 A:=A.deeper (WR qual scope s.heap.objs.size f cd)
 N:=N
 s₀:=s
 H₀:=H
 env:=WR qual scope s.heap.objs.size f cd
 outer:=outer
 stack:=WR qual scope s.heap.objs.size f cd::outer
 ex:=[]
 calm:=true
 fn:=λ_=>true
 pn:=[]
 xe:=λe s'=>Uq (UA P w) (A.deeper (WR qual scope s.heap.objs.size f cd)) (leaving (WR qual scope s.heap.objs.size f cd) e) (λ_ s''=>CX outer H s E e s'') (λe' s''=>CX outer H s E e' s'') s'
def yK {sc:Y6}{n:Nat}(h:sc.names.lookup x=Z .cell):∃c,(aaA n sc.names []).lookup x=Z c:=Yy.mp (YH sc.names n [] (.inl h))
def wn {K:Uu}
  (S:fe N ps scope) (hd:A.handled=Y) (e0:vA P w K mg base A outer s H) (hl:vs.length=ps.length) (r:aV vs us)
  (x:InCallC s s.heap.objs.size (abO (WR qual scope s.heap.objs.size f cd).kindOf (ps.zip us) λ_=>Y) (aaA (s.heap.objs.size+1) scope.names []) (abP (WR qual scope s.heap.objs.size f cd).kindOf (ps.zip us) λ_=>Y) s1) :
  Inv (iS CX P w K mg base N qual scope f cd A outer s H E) [] (start N vs) H s1:=by
 have hpl:ps.length<=N.length:=by have:=congrArg List.length S.pre;rw[XW] at this;omega
 refine q2x2 x.done λh1 tk zz2 hk=>?_;subst zz2;have noA:∀b:Ul,b∉(iS CX P w K mg base N qual scope f cd A outer s H E).ex:=λb z=>absurd (show b∈([]:List Ul) from z) (by simp)
 refine⟨⟨e0.mod,S.kind,rfl,rfl,Uj _,λy z c h1 h2=>?_,λy hy=>?_,λy c _ h=>?_,λ_=>hd,Around.frames_deeper e0.frames,.inr ⟨rfl,rfl⟩,λb z=>absurd z (noA b),e0.bs,e0.bsz,λb _ _=>noA b,λb z=>absurd z (noA b),e0.funs,e0.frf⟩,
  rfl,e0.bare,Un.kept hk,⟨_,x.toInCall.ns,λi y v h1 h2 h3=>?_⟩,λy c h=>⟨_,x.cell y c h⟩,e0.hok.fresh (Uj _),λy c h=>?_,λp hp=>absurd (show p∈([]:List (Ul×Obj)) from hp) (by simp),e0.hok.kept hk,?_⟩
 ·exact name_of_addr x.apart (PySem.mem_of_lookup h1) (PySem.mem_of_lookup h2)
 ·have hy:scope.names.lookup y=Z .cell\/scope.names.lookup y=Z .free:=hy;rcases hy with hy|hy
  ·exact yK hy
  ·exact absurd rfl (S.nofree _ (PySem.mem_of_lookup hy))
 ·exact VT (x.above y c (PySem.mem_of_lookup h))
 ·have hi:i<vs.length:=by
   unfold start at h2
   by_cases hi:i<vs.length
   ·exact hi
   ·rw[Xv (by simpa using hi)] at h2;rw[Z2] at h2;split at h2 <;> cases h2
  have ha:vs[i]?=Z v:=by
   unfold start at h2;rw[XH (by simpa using hi),Vc] at h2;cases e:vs[i]? with
   | none=>rw[e] at h2;cases h2
   | some a=>rw[e] at h2;cases h2;rfl
  refine q1x2 (r.get ha) λu hu rv=>?_;have hp:ps[i]?=Z y:=by
   rw[<-S.pre,getElem?_take_of_lt (by omega)];exact h1
  have ndP:ps.Nodup:=by rw[<-S.pre];exact S.nd.sublist (take_sublist _ _)
  refine⟨u,rv,?_⟩;rcases S.par y (Vw hp) with k|k
  ·exact .inl ⟨k,v9 ndP hp hu k⟩
  ·refine q1x1 (yK (n:=s.heap.objs.size+1) k) λc e=>?_;refine .inr ⟨.inl k,c,e,?_⟩;have q:=x.cell y c e;rw[wO ndP hp hu (by show scope.names.lookup y≠_;rw[k];decide)] at q;exact q
 ·exact e0.hok.fresh (VT (x.above y c (PySem.mem_of_lookup h)))
 ·unfold start;show _=N.length;rw[WE,UB,aaB];omega
def KJ {K:Uu}{k:Nat}{kV:Uh}
 (lk:K.lookup f=Z ⟨oc,od,.func (XR name qual params body scope dV kV doc pm an cdv ct),osl⟩) (hcd:Zl K cdv qual=true) (S:fe N ps scope)
  (len:∀vs H Q E,sp vs H Q E->vs.length=ps.length)
  (hbody:∀(A:Vd) (outer:List Env) (s:Ui) (H:Hp) (vs:List V) (Q:VK) (E:XK),bn k (A.deeper (WR qual scope s.heap.objs.size f cdv))->sp vs H Q E->
   ∃t,PSs (iS CX P w K mg base N qual scope f cdv A outer s H E) body t/\t {nx:=λ_ H'=>Q .non H',rt:=Q} (start N vs) H) :
  eM P w K mg base CX (k+1) f (XR name qual params body scope dV kV doc pm an cdv ct) ps sp:=by
 refine⟨len,λA outer s H args us vs Q E hr e0 hb r hsp=>?_⟩;have hl:=len _ _ _ _ hsp;have KX:K.In s.heap:=e0.mod.kin.keeps λb o e=>(e0.bs b o e).1
 have lim:s.heap.NoLimit:=e0.mod.nolimit.keeps λb o e=>(e0.bs b o e).1
 have hkind:∀y∈ps.zip us,scope.names.lookup y.1=Z .local\/(scope.names.lookup y.1=Z .cell/\((aaA (s.heap.objs.size+1) scope.names []).lookup y.1).isSome=true):=λ⟨n,v⟩ hy=>by
  rcases S.par n (Z1 hy).1 with q|q
  ·exact .inl q
  ·exact .inr ⟨q,YH _ _ _ (.inl q)⟩
 refine codeAny_call_function hr.depth (KX _ _ lk) rfl S.co S.gen rfl (W.codeRec_of KX hcd) (hb _ _ _ _ ?_);refine Yd S.kind hkind λenv he s1 x=>?_
 subst he;refine⟨lim.keeps x.toInCall.keep,codeAny_func ?_⟩;refine q1x2 (hbody A outer s H vs Q E (hr.deeper _) hsp) λt ht hq=>?_;have I:Inv (iS CX P w K mg base N qual scope f cdv A outer s H E) [] (start N vs) H s1:=wn S hr.hd e0 hl r x;refine VF (ht [] s1 (start N vs) H _ I hq) (λfl s' hs=>?_) λe s' hs=>hs
 have fin:∀{σ':St} {H':Hp} {v:V} {u:Uh},Inv (iS CX P w K mg base N qual scope f cdv A outer s H E) [] σ' H' s'->aS v u->Q v H'->CE outer P w H s Q u s':=
  λ{σ' H' v u} J rv q=>⟨v,H',J.os,J.bare,J.base,J.hok,rv,q⟩
 cases fl with
 | ret u=>
  refine q3x3 hs λv σ' H' J rv q=>?_;exact fin J rv q
 | next=>
  refine q2x2 hs λσ' H' J q=>?_;exact fin (v:=V.non) (u:=U5) J rfl q
 | brk=>
  refine q2x2 hs λ_ _ _ q=>?_;exact VG q
 | cont=>
  refine q2x2 hs λ_ _ _ q=>?_;exact VG q
section
variable {X:Cx}{x:Str}{p pos:Pos}{e:UY}{es:List UY}{t:TA}{id T:String}{r:List V->Hp->VK->Prop}
def S6 (r:List V->Hp->VK->Prop)(t:TA):TE:=λσ H Q=>t σ H λvs H1=>r vs H1 Q
def z8 (hc:fF X (.builtin id) r)(hg:Gl X x)(hm:X.mg x=Y)(hv:Vv x=Z (.builtin id))(ha:PA X (e::es) t)(hn:x≠"__name__":=by decide)(hdb:(x==("__debug__":Str))=false:=by decide)
  (he:UR (e::es) X.env=(false,Vo e X.env)::UR es X.env:=by rfl) (hpl:(Wm pos (UR es X.env)).any (·.1)=false:=by rfl):PE X (.Call (.Name x p) (e::es) [] pos) (S6 r t):=by
 intro af s σ H Q I h;refine Wu (rM I hg hm hv ?_ hn hdb);exact aaC (bS (ha pos af s σ H _ I h) λus s1 ⟨vs,H1,I1,r1,q1⟩=>hc af s1 σ H1 vs us Q I1 r1 q1) he hpl
def D5 (hc:fF X (.type T) r)(hg:Gl X x)(hm:X.mg x=Y)(hv:Vv x=Z (.type T))(ha:PA X (e::es) t)(hn:x≠"__name__":=by decide)(hdb:(x==("__debug__":Str))=false:=by decide)
  (he:UR (e::es) X.env=(false,Vo e X.env)::UR es X.env:=by rfl) (hpl:(Wm pos (UR es X.env)).any (·.1)=false:=by rfl):PE X (.Call (.Name x p) (e::es) [] pos) (S6 r t):=by
 intro af s σ H Q I h;refine Wu (rM I hg hm hv ?_ hn hdb);exact WL (bS (ha pos af s σ H _ I h) λus s1 ⟨vs,H1,I1,r1,q1⟩=>hc af s1 σ H1 vs us Q I1 r1 q1) he hpl
end
end L2
namespace HT
open PySem PyProof.Rows
def lexLt:List Int->List Int->Bool
 | [],[]=>false
 | [],_::_=>true
 | _::_,[]=>false
 | x::xs,y::ys=>if x=y then lexLt xs ys else decide (x<y)
theorem lexLt_cons (x y:Int)(xs ys:List Int):lexLt (x::xs) (y::ys)=if x=y then lexLt xs ys else decide (x<y):=rfl
theorem lexLt_nil_nil:lexLt [] []=false:=rfl
theorem lexLt_nil_cons (y:Int)(ys:List Int):lexLt [] (y::ys)=true:=rfl
theorem lexLt_cons_nil (x:Int)(xs:List Int):lexLt (x::xs) []=false:=rfl
def eqAt_int (A:Vd)(s:Ui)(a:Int)(t:Tok)(c:Int)(u:Tok):∃e,abp A s (.int a t) (.int c u) e/\(e=true↔a=c):=
 ⟨(a==c),Z3 a t c u,by simp⟩
def Eu (A:Vd)(s:Ui)(a:Int)(t:Tok)(c:Int)(u:Tok)(prog:UI)(w:UN)(E:Uh->Ui->Prop)(Q:Uh->Ui->Prop)(h:Q (.bool (decide (a<c))) s) :
  Uq (UA prog w) A (Zm .Lt (.int a t) (.int c u)) Q E s:=
 (Y9 h)
section
open PySem.SeqAt
open PySem.AutoSeq1 (wpAny_loadPart')
open PySem.MeetsSeq PySem.MeetsSeq2 PySem.MeetsSeq3
def vR (l b:Ul)(items items2:Array Uh)(n n2:Nat)(dd dd2:Option Ul)(sl sl2:Array (Option Uh))(ns ms:List Int)(hi:Ve items.toList ns)(hj:Ve items2.toList ms) :
  Meets (Xj.«tuple.__lt__» ⟨[.ref l,.ref b],[]⟩)
   (λ_ R s=>s.heap.get? l=Z {cls:=.type "tuple",dict:=dd,data:=.seq items n,slots:=sl}/\s.heap.get? b=Z {cls:=.type "tuple",dict:=dd2,data:=.seq items2 n2,slots:=sl2}/\
    R (.ok (.ret (.bool (lexLt ns ms)))) s):=
 .of_wp λprog w A R s h=>by
  obtain⟨hp,g,d,tk,os⟩:=s;refine q0x3 h λhl hb h=>?_;have f2:=Yz;have z1:items.size=ns.length:=by rw[<-hi.length];simp
  have z2:items2.size=ms.length:=by rw[<-hj.length];simp
  wp_walk using Wb hl,Wb hb,aaD _ (λrest b s'=>b.1=Y/\s'=⟨hp,g,d,tk,os⟩/\∃(vs ws:List Uh) (ns' ms':List Int),rest=vs.zip ws/\
   Ve vs ns'/\Ve ws ms'/\ns'.length+items2.size=ms'.length+items.size/\R (.ok (.ret (.bool (lexLt ns' ms')))) ⟨hp,g,d,tk,os⟩) _
  case turn=>
   rintro ⟨y,x⟩ rest b s' ⟨hb',rfl,vs,ws,ns',ms',hz,hvi,hwi,hlen,hR⟩;cases hvi with
   | nil=>rw[Yr] at hz;cases hz
   | cons a t hvi'=>
    cases hwi with
    | nil=>rw[Za] at hz;cases hz
    | cons c u hwi'=>
     rw[W9] at hz;injection hz with hyx hrest
     injection hyx with hy hx
     subst hy hx;rw[lexLt_cons] at hR;simp only[U6] at hlen;refine q1x2 (eqAt_int A.in1 ⟨hp,g,d,tk,os⟩ a t c u) λe he hiff=>?_;refine Ud (he prog w _ _ ?_);cases e with
     | true=>
      rw[if_pos (hiff.mp rfl)] at hR
      wp_walk
      exact⟨rfl,rfl,_,_,_,_,hrest,hvi',hwi',by omega,hR⟩
     | false=>
      rw[if_neg (λq=>absurd (hiff.mpr q) Uy)] at hR;have hri:=Eu A.in1 ⟨hp,g,d,tk,os⟩ a t c u prog w
      wp_walk using hri
      exact⟨_,rfl,by simpa using hR⟩
  case fin=>
   rintro ⟨b1,b2⟩ s' ⟨hb',rfl,vs,ws,ns',ms',hz,hvi,hwi,hlen,hR⟩;simp only at hb';subst hb';have hv:lexLt ns' ms'=decide (items.size<items2.size):=by
    cases hvi with
    | nil=>
     cases hwi with
     | nil=>
      simp only[Wy] at hlen;rw[lexLt_nil_nil];exact(decide_eq_false (by omega)).symm
     | cons c u hw=>
      simp only[Wy,U6] at hlen;rw[lexLt_nil_cons];exact(decide_eq_true (by omega)).symm
    | cons a t hv=>
     cases hwi with
     | nil=>
      simp only[Wy,U6] at hlen;rw[lexLt_cons_nil];exact(decide_eq_false (by omega)).symm
     | cons c u hw=>
      rw[W9] at hz;cases hz
   rw[hv] at hR
   wp_walk
   exact⟨_,rfl,by simpa[Xs] using hR⟩
  case h=>
   exact⟨rfl,rfl,items.toList,items2.toList,ns,ms,rfl,hi,hj,by omega,h⟩
end
section
variable {prog:UI}{w:UN}{A:Vd}{E:Uh->Ui->Prop}{s:Ui}
def lt_tupInts (hl:aaL s.heap l items)(hb:aaL s.heap b items2)(hi:Ve items.toList ns)(hj:Ve items2.toList ms)
  (hu:A.units<YG) (h:Q (.bool (lexLt ns ms)) s):Uq (UA prog w) A (UX .Lt (.ref l) (.ref b)) Q E s:=by
 obtain⟨⟨cls,dd,data,sl⟩,ho,hc,n,hd⟩:=id hl;obtain⟨⟨cls2,dd2,data2,sl2⟩,ho2,hc2,n2,hd2⟩:=id hb;subst hc hd hc2 hd2;exact YV (op:=.Lt) ⟨_,ho,rfl⟩ ⟨_,ho2,rfl⟩ PySem.F.slot_tuple_lt PySem.F.entry_tuple_lt (PySem.F.args_tuple_lt_2 _ _) (vR l b items items2 n n2 dd dd2 sl sl2 ns ms hi hj)
  ⟨ho,ho2,⟨(λx=>nomatch x),h⟩⟩ hu
def cat_tup {t:Ul}(ht:aaL s.heap t vs.toArray)(hb:aaL s.heap b ws.toArray)(hv:vs≠[])
  (h1:ws=[]->Q (.ref t) s) (h2:ws≠[]->Q (.ref s.heap.objs.size) {s with heap:=s.heap.push {cls:=.type "tuple",data:=.seq (vs++ws).toArray}})
  (hsz:vs.length+ws.length<=Ur):Uq (UA prog w) A (VR .Add (.ref t) (.ref b)) Q E s:=by
 obtain⟨⟨cls,dd,data,sl⟩,ho,hc,n,hd⟩:=id ht;obtain⟨⟨cls2,dd2,data2,sl2⟩,ho2,hc2,n2,hd2⟩:=id hb;subst hc hd hc2 hd2;have e:vs.toArray++ws.toArray=(vs++ws).toArray:=by simp
 by_cases hw:ws=[]
 ·exact concat_meets ⟨_,ho,rfl⟩ ⟨_,ho2,rfl⟩ aaE seq_tuple_add PySem.F.slot_tuple_add PySem.F.entry_tuple_add (PySem.F.args_tuple_add_2 _ _)
   (tuple_addW1 t b vs.toArray ws.toArray n n2 dd dd2 sl sl2 (by simpa using hv) (by simp_all)) ⟨ho,ho2,h1 hw⟩
 ·refine concat_meets ⟨_,ho,rfl⟩ ⟨_,ho2,rfl⟩ aaE seq_tuple_add PySem.F.slot_tuple_add PySem.F.entry_tuple_add (PySem.F.args_tuple_add_2 _ _)
   (tuple_addW2 t b vs.toArray ws.toArray n n2 dd dd2 sl sl2 (by simpa using hv) (by simp_all) (by omega)) ⟨ho,ho2,?_⟩
  rw[e];exact h2 hw
def sIx (n d:Nat):Option Int->Nat
 | none=>d
 | some v=>if v<0 then(v+(n:Int)).toNat else min v.toNat n
theorem sIx_none (n d:Nat):sIx n d Y=d:=rfl
def sIx_nat (n d k:Nat):sIx n d (Z (k:Int))=min k n:=by
 rfl
def MY (n d:Nat)(hd:d<=n)(o:Option Int):sIx n d o<=n:=by
 cases o with
 | none=>exact hd
 | some v=>
  show(if v<0 then(v+(n)).toNat else min v.toNat n)<=n
  by_cases hv:v<0
  ·grind
  ·rw[if_neg hv];exact Nat.min_le_right _ _
def B0 (v:Int)(n d:Nat):(if v<0 then max (v+(n:Int)) 0 else min v (n:Int))=((sIx n d (Z v):Nat):Int):=by
 show(if v<0 then max (v+(n)) 0 else min v (n))=(((if v<0 then(v+(n)).toNat else min v.toNat n)))
 grind
def A4 (lo hi:Option Int)(n:Nat):Yn lo hi 1 (n:Int)=(((sIx n 0 lo:Nat):Int),((sIx n n hi:Nat):Int)):=by
 refine Wz ?_ ?_
 ·cases lo with
  | none=>rfl
  | some v=>exact B0 v n 0
 ·cases hi with
  | none=>rfl
  | some v=>exact B0 v n n
def Bi (i j:Nat):V4 (i:Int) (j:Int) 1=j-i:=by
 unfold V4
 grind
def u5 (p:YW v o)(h:Q o s):Uq (UA prog w) A (aaX v) Q E s:=by
 cases p with
 | none=>exact slicePart_none h
 | int i t=>exact slicePart_int h
def sliceApplied_gen {sl:Ul}{vl vu:Uh}{lo hi:Option Int}{n:Nat}{Q:Int×Int×Nat->Ui->Prop}(hs:s.heap.IsSliceOf sl vl vu .none)(pl:YW vl lo)(pu:YW vu hi)
  (h:Q (((sIx n 0 lo:Nat):Int),1,sIx n n hi-sIx n 0 lo) s):Uq (UA prog w) A (abq (.ref sl) (pure (n:Int))) Q E s:=by
 refine q1x3 (id hs) λos hos hcs hds=>?_;refine Ud (Ud (Vt hos hds (x:=vl) rfl (Ud (Vt hos hds (x:=vu) rfl (Ud (Vt hos hds  rfl (Ue ?_)))))));refine Ud (slicePart_none ?_);refine Ud (u5 pl (Ud (u5 pu (Ud (Ue ?_)))));show Uq _ _ (match Yn lo hi 1 (n:Int) with|(lo,hi)=>pure (lo,(1:Int),V4 lo hi 1)) _ _ s;rw[A4 lo hi n];show Uq _ _ (pure (((sIx n 0 lo:Nat):Int),(1),V4 ((sIx n 0 lo)) ((sIx n n hi)) 1)) _ _ s;rw[Bi];exact Ue h
def Gi (xs:Array Uh)(i k:Nat):((UH k).filterMap λ(m:Nat)=>xs[((i:Int)+(m:Int)*1).toNat]?).toArray=((xs.toList.drop i).take k).toArray:=by
 have e:(λ(m:Nat)=>xs[((i)+(m:Int)*1).toNat]?)=λm=>xs[i+m]?:=by
  funext m;have:((i)+(m:Int)*1).toNat=i+m:=by omega
  rw[this]
 rw[e];have:=pick_run xs i k;have e2:((λx=>xs[x]?) ∘ λx=>i+x)=λm=>xs[i+m]?:=rfl
 simp_all
def getItem_tuple_cut {t:Ul}{lo hi:Option Int}(ht:aaL s.heap t items)(hs:s.heap.IsSliceOf sl vl vu .none)(pl:YW vl lo)(pu:YW vu hi)
  (hw:¬(sIx items.size 0 lo=0/\sIx items.size items.size hi=items.size))
  (h:Q (.ref s.heap.objs.size) {s with heap:=s.heap.push {cls:=.type "tuple",data:=.seq ((items.toList.drop (sIx items.size 0 lo)).take (sIx items.size items.size hi-sIx items.size 0 lo)).toArray}})
  (hsz:items.size<=Ur):Uq (UA prog w) A (YX (.ref t) (.ref sl)) Q E s:=by
 have htake:sizeOk (.seq ((items.toList.drop (sIx items.size 0 lo)).take (sIx items.size items.size hi-sIx items.size 0 lo)).toArray):=by
  show((items.toList.drop (sIx items.size 0 lo)).take (sIx items.size items.size hi-sIx items.size 0 lo)).toArray.size<=Ur;rw[U1,XW,Z4,Vi];omega
 have hj:sIx items.size items.size hi<=items.size:=MY _ _ (Uj _) hi;refine q1x3 (id hs) λos hos hcs hds=>?_;have hTs:s.TypeIs (.ref sl) "slice":=⟨os,hos,hcs⟩;unfold YX
 try with_reducible refine UL ?_
 first|refine Ud (Ue ?_)|skip
 refine Ud (aae ht.typeIs (by decide) ?_);refine Ud (U7 (name:=Vx "__getitem__") ht.typeIs UJ
  (UZ UJ ht.typeIs entry_tuple_getitem ?_ (args_tuple_getitem _ _)))
 show Uq _ _ (abr (.ref t) >>= _) _ _ s;refine Ud (tupleItemsOf_ ht ?_);refine Ud (YY hTs ?_);rw[if_pos (by decide)];refine Ud (sliceApplied_gen hs pl pu ?_);have hno:¬((((sIx items.size 0 lo:Nat):Int)==0&&(1:Int)==1&&(sIx items.size items.size hi-sIx items.size 0 lo)==items.size)=true):=by
  grind
 show Uq _ _ (if(((sIx items.size 0 lo:Nat):Int)==0&&(1:Int)==1&&(sIx items.size items.size hi-sIx items.size 0 lo)==items.size)=true then _ else _) _ _ s;rw[if_neg hno,Gi]
 first
  | exact Ud (m:=Wj _) (UV (Ue ⟨_,rfl,Ue h⟩) htake)
  | exact Ud (m:=Wj _) (UV (Ud (Ue (Ue ⟨_,rfl,Ue h⟩))) htake)
  | exact Ud (Ud (m:=Wj _) (UV (Ue (Ue ⟨_,rfl,Ue h⟩)) htake))
  | exact Ud (Ud (m:=Wj _) (UV (Ue ⟨_,rfl,Ue h⟩) htake))
end
end HT
namespace L2
open PySem PySem.Spec PyProof.Rows List
abbrev TO:=St->Hp->(Option Int->Hp->Prop)->Prop
def PO (X:Cx)(e:Option UY)(t:TO):Prop:=
 ∀(af:List (Ul×Obj)) (s:Ui) (σ:St) (H:Hp) (Q:Option Int->Hp->Prop),Inv X af σ H s->t σ H Q->
  Uq (UA X.prog X.w) X.A (evalPart e X.env) (λu s'=>∃o H',Inv X af σ H' s'/\YW u o/\Q o H') X.xe s
def J4:TO:=λ_ H Q=>Q Y H
def Pr (t:TE):TO:=λσ H Q=>t σ H λx H1=>∃i,x=.int i/\Q (Z i) H1
def i9:∀{us:List Uh},aV (ns.map V.int) us->Ve us ns:=by
 induction ns with
 | nil=>intro us r;cases r;exact .nil
 | cons n ns ih=>
  intro us r;cases r with
  | cons r1 r2=>
   refine q1x1 r1 λt e=>?_;subst e;exact .cons n t (ih r2)
section
variable {X:Cx}{e:UY}{te:TE}{lo hi:Option UY}{tl th:TO}{pos p2:Pos}
def IV:PO X Y J4:=by
 intro af s σ H Q I h;exact Ue ⟨Y,H,I,.none,h⟩
def Jx (h:PE X e te):PO X (Z e) (Pr te):=by
 intro af s σ H Q I hw;refine bS (h af s σ H _ I hw) λu s1 hxx=>?_
 refine q2x3 hxx λx H1 I1 r1 q1=>?_;refine q1x2 q1 λi zz1 q=>?_;subst zz1;refine q1x1 r1 λt zz1=>?_;subst zz1;exact⟨Z i,H1,I1,.int i t,q⟩
def RI (X:Cx)(r:V->Option Int->Option Int->Hp->VK->Prop):Prop:=
 ∀(af:List (Ul×Obj)) (s:Ui) (σ:St) (H:Hp) (x:V) (v vl vu:Uh) (lo hi:Option Int) (sl:Ul) (Q:VK),Inv X af σ H s->aS x v->s.heap.IsSliceOf sl vl vu .none->YW vl lo->YW vu hi->r x lo hi H Q->
  ∃T id,abt (.type T) "__getitem__"=pure (Z (.builtin id))/\s.TypeIs v T/\Uq (UA X.prog X.w) X.A (YX v (.ref sl)) (EP X af σ Q) X.xe s
def T1 (r:V->Option Int->Option Int->Hp->VK->Prop)(te:TE)(tl th:TO):TE:=λσ H Q=>te σ H λx H1=>tl σ H1 λl H2=>th σ H2 λu H3=>r x l u H3 Q
def F7 (hr:RI X r)(he:PE X e te)(hl:PO X lo tl)(hu:PO X hi th):PE X (.Subscript e (.Slice lo hi Y p2) pos) (T1 r te tl th):=by
 intro af s σ H Q I h;refine Z5 (bS (he af s σ H _ I h) λv s1 hxx=>?_);refine q2x3 hxx λx H1 I1 r1 q1=>?_;refine aaN (bS (hl af s1 σ H1 _ I1 q1) λvl s2 ⟨l,H2,I2,pl,q2⟩=>bS (hu af s2 σ H2 _ I2 q2) λvu s3 hxx=>?_);refine q2x3 hxx λu H3 I3 pu q3=>?_;refine Ue ?_;have I4:Inv X af σ H3 {s3 with heap:=s3.heap.push {cls:=.type "slice",data:=.fields #[vl,vu,.none]}}:=I3.kept  λb ob q=>Ug _ q
 refine q2x3 (hr af {s3 with heap:=s3.heap.push {cls:=.type "slice",data:=.fields #[vl,vu,.none]}} σ H3 x v vl vu l u s3.heap.objs.size Q I4 r1 (Ye ..) pl pu q3) λT id hT ht hg=>?_;exact tail_any  ht hT hg (by rfl)
def Do (xs:List V)(lo hi:Option Int):List V:=(xs.drop (HT.sIx xs.length 0 lo)).take (HT.sIx xs.length xs.length hi-HT.sIx xs.length 0 lo)
def rT (xs:List V)(lo hi:Option Int):(Do xs lo hi).length<=xs.length:=by
 unfold Do;rw[XW,Z4];omega
def S1 (K:Uu):V->Option Int->Option Int->Hp->VK->Prop:=λx lo hi H Q=>∃a xs,x=.ref a/\sX K H a xs/\
 ¬(HT.sIx xs.length 0 lo=0/\HT.sIx xs.length xs.length hi=xs.length)/\∀p,H p=Y->Q (.ref p) (bB H p (.tup (Do xs lo hi)))
def MP:RI X (S1 X.K):=by
 intro af s σ H x v vl vu lo hi sl Q I rx hs pl pu h;refine q2x4 h λa xs zz2 hx hw q=>?_;subst zz2;cases rx;refine q1x3 (I.tuple hx) λits r ht hz=>?_;have hlen:its.toArray.size=xs.length:=r.length.symm;refine⟨"tuple",_,UJ.lookup,ht.typeIs,?_⟩;refine HT.getItem_tuple_cut ht hs pl pu (by rwa [hlen]) ?_ (by rwa [hlen]);rw[hlen];refine⟨.ref s.heap.objs.size,_,I.laid   (λb ob q=>Ug _ q) (Uj _) ?_,rfl,q _ (I.hok.fresh (Uj _))⟩;exact⟨UK (rT xs lo hi) hz,_,(r.drop (HT.sIx xs.length 0 lo)).take (HT.sIx xs.length xs.length hi-HT.sIx xs.length 0 lo),YF _ _⟩
def Px (K:Uu):R2:=λx y H Q=>∃a b xs ys,x=.ref a/\y=.ref b/\sX K H a xs/\sX K H b ys/\xs≠[]/\xs.length+ys.length<=Ur/\
 (ys=[]->Q (.ref a) H)/\(ys≠[]->∀p,H p=Y->Q (.ref p) (bB H p (.tup (xs++ys))))
def aV.nil_iff (r:aV xs us):us=[]↔xs=[]:=by
 cases r with
 | nil=>simp
 | cons _ _=>simp
def IM:ph X (VR .Add) (Px X.K):=by
 intro af s σ H x y v u Q I rx ry h;obtain⟨a,b,xs,ys,rfl,rfl,ha,hb,hx,hz,q1,q2⟩:=h;cases rx;cases ry;refine q1x3 (I.tuple ha) λits r1 p1 _=>?_;refine q1x3 (I.tuple hb) λits2 r2 p2 _=>?_;refine HT.cat_tup p1 p2 (λz=>hx (r1.nil_iff.mp z)) (λz=>⟨.ref a,H,I,rfl,q1 (r2.nil_iff.mp z)⟩) (λz=>?_) (by rwa [<-r1.length,<-r2.length]);refine⟨.ref s.heap.objs.size,_,I.laid   (λb ob q=>Ug _ q) (Uj _) ?_,rfl,q2 (λw=>z (r2.nil_iff.mpr w)) _ (I.hok.fresh (Uj _))⟩;exact⟨by simp_all,_,r1.append r2,YF _ _⟩
end
def Co (n:Nat)(i:Int):Option Nat:=if 0<=i then(if i<n then Z i.toNat else Y) else if -(n:Int)<=i then Z (i+n).toNat else Y
def wa {α:Type}(xs:List α)(i:Int):Option α:=(Co xs.length i).bind λj=>xs[j]?
def Cf {n:Nat}(h:Co n i=Z j):seqIndex? i n=Z j/\j<n/\-(n:Int)<=i/\i<n:=by
 unfold Co at h
 by_cases h0:0<=i
 ·rw[if_pos h0] at h
  by_cases h1:i<n
  ·rw[if_pos h1] at h;have e:=UT h;exact⟨by rw[aaO h0 h1,e],by omega,by omega,h1⟩
  simp_all
 ·rw[if_neg h0] at h
  by_cases h1:-(n:Int)<=i
  ·rw[if_pos h1] at h;have e:=UT h;exact⟨by rw[aaf (by omega) h1,e],by omega,h1,by omega⟩
  simp_all
def B6 {xs:List α}{v:α}(h:wa xs i=Z v):∃j,seqIndex? i xs.length=Z j/\xs[j]?=Z v/\j<xs.length/\-(xs.length:Int)<=i/\i<xs.length:=by
 unfold wa at h;cases e:Co xs.length i with
 | none=>simp_all
 | some j=>
  rw[e] at h;refine q0x4 (Cf e) λh1 h2 h3 h4=>?_;exact⟨j,h1,h,h2,h3,h4⟩
def gK {xs:List α}{j:Nat}{v:α}(h:xs[j]?=Z v):wa xs (j:Int)=Z v:=by
 have hj:=(Uk.mp h).1;have e:Co xs.length (j)=Z j:=by
  unfold Co
  simp_all
 unfold wa;rwa [e]
def Cw (b:UY):Prop:=∀o i,aaP b false o i=operate [o,i] (YX o i)
def RB (X:Cx)(r:R2):Prop:=
 ∀(value slice:UY) (af:List (Ul×Obj)) (s:Ui) (σ:St) (H:Hp) (x y:V) (v u:Uh) (Q:VK),Inv X af σ H s->aS x v->aS y u->r x y H Q->
  aaP slice false v u=operate [v,u] (YX v u)->Uq (UA X.prog X.w) X.A (subscriptTail value slice v u) (EP X af σ Q) X.xe s
def Ub (X:Cx)(id:String)(r:V->List V->Hp->VK->Prop):Prop:=
 ∀(af:List (Ul×Obj)) (s:Ui) (σ:St) (H:Hp) (x:V) (xs:List V) (v:Uh) (us:List Uh) (Q:VK),Inv X af σ H s->aS x v->aV xs us->r x xs H Q->
  Uq (UA X.prog X.w) X.A (call (.builtin id) (v::us)) (EP X af σ Q) X.xe s
section
variable {X:Cx}{a b:UY}{ta tb:TE}{pos:Pos}
def PR (hr:RB X r)(ha:PE X a ta)(hb:PE X b tb)(hs:Cw b):PE X (.Subscript a b pos) (Pe r ta tb):=by
 intro af s σ H Q I h;exact Z5 (Od ha hb I h λv u s2 x y H2 I2 rx ry q=>hr a b af s2 σ H2 x y v u Q I2 rx ry q (hs _ _))
def SU (K:Uu):R2:=λx y H Q=>∃p xs i v,x=.ref p/\y=.int i/\pe K H p xs/\wa xs i=Z v/\Q v H
def RY (K:Uu):R2:=λx y H Q=>∃p xs i v,x=.ref p/\y=.int i/\sX K H p xs/\wa xs i=Z v/\Q v H
def Jb:RB X (SU X.K):=by
 intro value slice af s σ H x y v u Q I rx ry h hs;refine q4x5 h λp xs i z zz4 zz5 hq he q=>?_;subst zz4;subst zz5;cases rx;refine q1x1 ry λt zz1=>?_;subst zz1;refine q1x3 (I.list hq) λits r pl hz=>?_;refine q1x5 (B6 he) λj h1 h2 h3 h4 h5=>?_;refine q1x2 (r.get h2) λw ew rw'=>?_;have hl:=r.length;have hn:=re;have fin:EP X af σ Q w s:=⟨z,H,I,rw',q⟩
 by_cases h0:0<=i
 ·have hj:i.toNat=j:=by
   rw[aaO h0 h5] at h1;exact UT h1
  exact item_listR pl.isList h0 (by omega) (by rw[hj];simpa using ew) fin hs
 ·have hj:(i+(its.toArray.size:Int)).toNat=j:=by
   rw[aaf (by omega) h4] at h1
   simp_all
  exact YZ (x:=w) pl.isList.typeIs aag.lookup
   (wpAny_getItem_list_neg  pl.isList (by omega) (by rw[U1] <;> omega) (by omega) (by rw[hj];simpa using ew) ⟨rfl,fin⟩) hs
def Nw:RB X (RY X.K):=by
 intro value slice af s σ H x y v u Q I rx ry h hs;refine q4x5 h λp xs i z zz4 zz5 hq he q=>?_;subst zz4;subst zz5;cases rx;refine q1x1 ry λt zz1=>?_;subst zz1;refine q1x3 (I.tuple hq) λits r pl hz=>?_;refine q1x5 (B6 he) λj h1 h2 h3 h4 h5=>?_;refine q1x2 (r.get h2) λw ew rw'=>?_;have hl:=r.length;have hn:=re;exact YZ  pl.typeIs UJ.lookup
  (getItem_tuple (j:=j)  pl (by omega) (by omega) (by simp_all) (by simpa using ew) ⟨rfl,(⟨z,H,I,rw',q⟩)⟩) hs
def AS (its:List Uh)(n j:Nat)(u:Uh):UM (·.setIfInBounds j u) {cls:=.type "list",data:=.seq its.toArray n}={cls:=.type "list",data:=.seq (its.set j u).toArray n}:=by
 simp[UM]
def Inv.lst {af:List (Ul×Obj)}{σ:St}{H:Hp}{s:Ui}{p:Ul}{xs:List V}(I:Inv X af σ H s)(h:H p=Z (.lst xs)) :
  ∃(its:List Uh) (n:Nat),aV xs its/\s.heap.get? p=Z {cls:=.type "list",data:=.seq its.toArray n}/\xs.length<=Ur:=by
 obtain⟨z,its,n,r,e⟩:=I.hok p _ h;exact⟨its,n,r,e,z⟩
def Inv.lstUpd {its its':List Uh}{n:Nat}(I:Inv X af σ H s)(h:H p=Z (.lst xs))
  (ho:s.heap.get? p=Z {cls:=.type "list",data:=.seq its.toArray n}) (hf:f {cls:=.type "list",data:=.seq its.toArray n}={cls:=.type "list",data:=.seq its'.toArray n'}) (r:aV ys its') (hz:ys.length<=Ur) (t:Nat) :
  Inv X af σ (bB H p (.lst ys)) {s with heap:=s.heap.update p f,toks:=t}:=by
 have e:(s.heap.update p f).get? p=Z {cls:=.type "list",data:=.seq its'.toArray n'}:=by
  rw[WK f ho (by rw[hf] <;> rfl),hf]
 refine I.write   (by rw[h];trivial) (.inl rfl) (λb u hb q=>(Vf _ _ (Vl hb)).trans q) ⟨_,e⟩ ?_;exact⟨hz,its',n',r,e⟩
def O7:V->V->V->Hp->(Hp->Prop)->Prop:=λo i v H Q=>∃p xs k j,o=.ref p/\i=.int k/\H p=Z (.lst xs)/\Co xs.length k=Z j/\Q (bB H p (.lst (xs.set j v)))
def Ht:QZ X O7:=by
 intro af s σ H o i v ov iv u Q I ro ri rv h;refine q4x5 h λp xs k j zz4 zz5 hp hj q=>?_;subst zz4;subst zz5;cases ro;refine q1x1 ri λt zz1=>?_;subst zz1;refine q2x3 (I.lst hp) λits n r ho hz=>?_;refine q0x4 (Cf hj) λh1 h2 h3 h4=>?_;have hl:=r.length;have hn:=re;have I':=
  I.lstUpd hp ho (AS its n j u) (r.set rv j) (by rw[length_set];exact hz) s.toks
 by_cases h0:0<=k
 ·have hk:k.toNat=j:=by
   rw[aaO h0 h4] at h1;exact UT h1
  exact W.ki_setAt ho h0 (by omega) (by simp_all) (by rw[hk];exact⟨_,I',q⟩)
 ·have hk:(k+(its.toArray.size:Int)).toNat=j:=by
   rw[aaf (by omega) h3] at h1
   simp_all
  exact W.ki_setBack ho (by omega) (by rw[U1,<-hl];exact h3) (by omega) (by rw[hk];exact⟨_,I',q⟩)
def xM (lo hi:Option Int)(n:Nat):(WS lo hi Y n).1=((HT.sIx n 0 lo:Nat):Int)/\(WS lo hi Y n).2.1=((HT.sIx n n hi:Nat):Int)/\(WS lo hi Y n).2.2=1:=by
 refine⟨?_,?_,rfl⟩
 ·cases lo with
  | none=>rfl
  | some i=>
   simp only[WS,HT.sIx,YI,show(1:Int)>0 by decide,if_true]
   by_cases h:i<0
   ·simp only[h,if_true] <;> omega
   ·simp only[h,if_false] <;> omega
 ·cases hi with
  | none=>simp[WS,HT.sIx]
  | some i=>
   simp only[WS,HT.sIx,YI,show(1:Int)>0 by decide,if_true]
   by_cases h:i<0
   ·simp only[h,if_true] <;> omega
   ·simp only[h,if_false] <;> omega
def vn (its:List Uh)(lo hi:Option Int):slicePick its.toArray lo hi Y=((its.drop (HT.sIx its.length 0 lo)).take (HT.sIx its.length its.length hi-HT.sIx its.length 0 lo)).toArray:=by
 refine q0x3 (xM lo hi its.toArray.size) λh1 h2 h3=>?_;unfold slicePick;rw[h1,h2,h3];simp only[sliceRange_one,pick_run,U1] <;> rfl
def Sx (K:Uu):V->Option Int->Option Int->Hp->VK->Prop:=λx lo hi H Q=>∃a xs,x=.ref a/\pe K H a xs/\∀p,H p=Y->Q (.ref p) (bB H p (.lst (Do xs lo hi)))
def xb:RI X (Sx X.K):=by
 intro af s σ H x v vl vu lo hi sl Q I rx hs pl pu h;refine q2x3 h λa xs zz2 hx q=>?_;subst zz2;cases rx;refine q1x3 (I.list hx) λits r ht hz=>?_;have hlen:=r.length;refine⟨"list",_,aag.lookup,ht.isList.typeIs,?_⟩;refine wpAny_getItem_list_slice ht.isList hs pl pu .none (by simp) ?_ (by grind);rw[vn,<-hlen];refine⟨.ref s.heap.objs.size,_,I.laid   (λb ob q=>Ug _ q) (Uj _) ?_,rfl,q _ (I.hok.fresh (Uj _))⟩;exact⟨UK (rT xs lo hi) hz,_,0,(r.drop (HT.sIx xs.length 0 lo)).take (HT.sIx xs.length xs.length hi-HT.sIx xs.length 0 lo),Uo _ rfl⟩
def n6:V->Bool
 | .non=>true
 | .bl _=>true
 | .int _=>true
 | .str _=>true
 | _=>false
def IC:V->V->Bool
 | .non,.non=>true
 | .bl a,.bl b=>a==b
 | .bl a,.int b=>(if a then 1 else 0)==b
 | .int a,.bl b=>a==(if b then 1 else 0)
 | .int a,.int b=>a==b
 | .str a,.str b=>a==b
 | _,_=>false
def MT {y:V}(ry:aS y u)(rx:aS x v)(fy:n6 y=true)(fx:n6 x=true):abp A s u v (IC y x):=by
 cases y with
 | non=>
  cases ry;cases x with
  | non=>cases rx;exact SeqAt.EqAt.same _
  | bl b=>cases rx;exact SeqAt.EqAt.none_bool b
  | int b=>refine q1x1 rx λt zz1=>?_;subst zz1;exact SeqAt.EqAt.none_int b t
  | str b=>refine q1x1 rx λt zz1=>?_;subst zz1;exact SeqAt.EqAt.none_str b t
  | _=>exact absurd (show false=true from fx) Uy
 | bl a=>
  cases ry;cases x with
  | non=>cases rx;exact SeqAt.EqAt.bool_none a
  | bl b=>cases rx;exact SeqAt.EqAt.bool_bool a b
  | int b=>refine q1x1 rx λt zz1=>?_;subst zz1;exact SeqAt.EqAt.bool_int a b t
  | str b=>refine q1x1 rx λt zz1=>?_;subst zz1;exact SeqAt.EqAt.bool_str a b t
  | _=>exact absurd (show false=true from fx) Uy
 | int a=>
  refine q1x1 ry λt' zz1=>?_;subst zz1;cases x with
  | non=>cases rx;exact SeqAt.EqAt.int_none a t'
  | bl b=>cases rx;exact SeqAt.EqAt.int_bool a t' b
  | int b=>refine q1x1 rx λt zz1=>?_;subst zz1;exact Z3 a t' b t
  | str b=>refine q1x1 rx λt zz1=>?_;subst zz1;exact ZW a t' b t
  | _=>exact absurd (show false=true from fx) Uy
 | str a=>
  refine q1x1 ry λt' zz1=>?_;subst zz1;cases x with
  | non=>cases rx;exact SeqAt.EqAt.str_none a t'
  | bl b=>cases rx;exact SeqAt.EqAt.str_bool a t' b
  | int b=>refine q1x1 rx λt zz1=>?_;subst zz1;exact ZX a t' b t
  | str b=>refine q1x1 rx λt zz1=>?_;subst zz1;exact SeqAt.EqAt.str_str a t' b t
  | _=>exact absurd (show false=true from fx) Uy
 | _=>exact absurd (show false=true from fy) Uy
def JM (x:V)(u:Uh):Bool:=match u with
 | .none=>IC .non x
 | .bool b=>IC (.bl b) x
 | .int i _=>IC (.int i) x
 | .str z _=>IC (.str z) x
 | _=>false
def Fp {y:V}(r:aS y u)(f:n6 y=true):JM x u=IC y x:=by
 cases y with
 | non=>cases r;rfl
 | bl b=>cases r;rfl
 | int i=>refine q1x1 r λt zz1=>?_;subst zz1;rfl
 | str z=>refine q1x1 r λt zz1=>?_;subst zz1;rfl
 | _=>exact absurd (f) Uy
theorem xB:∀{xs:List V} {us:List Uh},aV xs us->xs.all n6=true->us.any (JM x)=xs.any λy=>IC y x
 | _,_,.nil,_=>rfl
 | y::xs,u::us,.cons r t,f=>by
  rw[W1,Uw] at f;rw[any_cons,any_cons,Fp r f.1,xB t f.2]
theorem t5 (rx:aS x v)(fx:n6 x=true):∀{xs:List V} {us:List Uh},aV xs us->xs.all n6=true->∀u∈us,abp A s u v (JM x u)
 | _,_,.nil,_=>λu hu=>by cases hu
 | y::xs,u::us,.cons r t,f=>λu' hu=>by
  rw[W1,Uw] at f;rcases Va.mp hu with rfl|hu
  ·rw[Fp r f.1];exact MT r rx f.1 fx
  ·exact t5 rx fx t f.2 u' hu
def RJ (x:V)(xs:List V):Bool:=xs.any λy=>IC y x
def TY (K:Uu)(neg:Bool):R2:=λx y H Q=>∃p xs,y=.ref p/\(pe K H p xs\/sX K H p xs)/\n6 x=true/\xs.all n6=true/\Q (.bl (if neg then !RJ x xs else RJ x xs)) H
def D9:ph X (UX .In) (TY X.K false):=by
 intro af s σ H x y v u Q I rx ry h;obtain⟨p,xs,rfl,hq,fx,fs,q⟩:=h;cases ry;rcases hq with hq|hq
 ·refine q1x3 (I.list hq) λits r pl hz=>?_;refine SeqAt.in_listAt (JM x) pl.isList (λw hw=>t5 rx fx r fs w (by simpa using hw)) ⟨.bl _,H,I,rfl,?_⟩;rwa [show its.toArray.any (JM x)=its.any (JM x) by simp,xB r fs]
 ·refine q1x3 (I.tuple hq) λits r pl hz=>?_;refine SeqAt.in_tupleAt (JM x) pl (λw hw=>t5 rx fx r fs w (by simp_all)) ⟨.bl _,H,I,rfl,?_⟩;rwa [show its.toArray.any (JM x)=its.any (JM x) by simp,xB r fs]
def xt:fF X (.builtin "len") (λxs H Q=>∃p ys,xs=[.ref p]/\(pe X.K H p ys\/sX X.K H p ys)/\Q (.int ys.length) H):=by
 intro af s σ H xs us Q I r h;refine q2x3 h λp ys zz2 hq q=>?_;subst zz2;refine q1x2 (ju r) λu zz1 rx=>?_;subst zz1;cases rx;have hn:=re;rcases hq with hq|hq
 ·refine q1x3 (I.list hq) λits r' pl hz=>?_;have hlen:=r'.length;exact Calls.call_len_list pl.isList (by simp only[U1] <;> omega) ⟨.int ys.length,H,I.tok _,⟨s.toks+1,by rw[U1,hlen]⟩,q⟩
 ·refine q1x3 (I.tuple hq) λits r' pl hz=>?_;have hlen:=r'.length;exact len_tuple pl (by simp only[U1] <;> omega) ⟨.int ys.length,H,I.tok _,⟨s.toks+1,by rw[U1,hlen]⟩,q⟩
def xv:fF X (.builtin "len") (λxs H Q=>∃z,xs=[.str z]/\z.length<=Ur/\Q (.int z.length) H):=by
 intro af s σ H xs us Q I r h;refine q1x3 h λz zz1 hz q=>?_;subst zz1;obtain⟨u,rfl,t,rfl⟩:=ju r;have hn:=re;exact len_str (by omega) ⟨.int z.length,H,I.tok _,⟨_,rfl⟩,q⟩
def qC:fF X (.type "list") (λxs H Q=>∃p ys,xs=[.ref p]/\(pe X.K H p ys\/sX X.K H p ys)/\∀l,H l=Y->Q (.ref l) (bB H l (.lst ys))):=by
 intro af s σ H xs us Q I r h;refine q2x3 h λp ys zz2 hq q=>?_;subst zz2;refine q1x2 (ju r) λu zz1 rx=>?_;subst zz1;cases rx;have fin:∀(its:List Uh),aV ys its->ys.length<=Ur->∀(h':Vn) (c':Nat),(∀b o',s.heap.get? b=Z o'->h'.get? b=Z o')->
   h'.get? s.heap.objs.size=Z {cls:=.type "list",dict:=Y,data:=.seq its.toArray c',slots:=#[]}->EP X af σ Q (.ref s.heap.objs.size) {s with heap:=h'}:=λits r' hz h' c' kp e=>
  ⟨.ref s.heap.objs.size,_,I.laid  kp (Uj _) (show bK X.prog X.w _ h' _ (.lst ys) from⟨hz,its,c',r',e⟩),rfl,q _ (I.hok.fresh (Uj _))⟩
 rcases hq with hq|hq
 ·refine q1x3 (I.list hq) λits r' pl hz=>?_;have hlen:=r'.length;obtain⟨o,ho,hc,n,hd⟩:=pl.isList;exact call_list_seq p (.inl rfl) ho hc hd (λh' c' kp e=>fin its r' hz h' c' kp e) (by simp_all)
 ·refine q1x3 (I.tuple hq) λits r' pl hz=>?_;have hlen:=r'.length;obtain⟨o,ho,hc,n,hd⟩:=pl;exact call_list_seq p (.inr rfl) ho hc hd (λh' c' kp e=>fin its r' hz h' c' kp e) (by simp_all)
def gL:fF X (.type "tuple") (λxs H Q=>∃p ys,xs=[.ref p]/\((pe X.K H p ys/\∀l,H l=Y->Q (.ref l) (bB H l (.tup ys)))\/(sX X.K H p ys/\Q (.ref p) H))):=by
 intro af s σ H xs us Q I r h;obtain⟨p,ys,rfl,h⟩:=h;obtain⟨u,rfl,rx⟩:=ju r;cases rx;rcases h with⟨hq,q⟩|⟨hq,q⟩
 ·obtain⟨its,r',pl,hz⟩:=I.list hq;have hlen:=r'.length;refine call_tuple_list pl.isList (λh' kp=>?_) (by simp_all);have I1:=I.kept (t':=s.toks) kp;exact⟨.ref h'.objs.size,_,(I1.laid  (λb o e=>Ug _ e) (Uj _) (show bK X.prog X.w _ _ _ (.tup ys) from⟨hz,its,r',YF _ _⟩)),rfl,q _ (I1.hok.fresh (Uj _))⟩
 ·obtain⟨its,r',pl,hz⟩:=I.tuple hq;exact call_tuple_same pl ⟨.ref p,H,I,rfl,q⟩
def TH (K:Uu)(T:String)(x:V)(H:Hp):Prop:=match x with
 | .str _=>T="str"
 | .int _=>T="int"
 | .ref p=>(T="list"/\∃xs,pe K H p xs)\/(T="tuple"/\∃o,K.lookup p=Z o/\o.cls=.type "tuple"/\o.dict=Y)\/
   (T="dict"/\((∃kvs,H p=Z (.dK kvs))\/∃kvs,H p=Z (.dT kvs)))\/(T="set"/\∃S n,H p=Z (.set S n))
 | _=>False
def MG (I:Inv X af σ H s)(r:aS x v)(ty:TH X.K T x H) :
  s.TypeIs v T/\∀a,v=.ref a->∃ob,s.heap.get? a=Z ob/\ob.dict=Y:=by
 cases x with
 | str z=>
  refine q1x1 r λt zz1=>?_;subst zz1;cases (show T="str" from ty);exact⟨typeIs_str s z t,λ_ e=>nomatch e⟩
 | int i=>
  refine q1x1 r λt zz1=>?_;subst zz1;cases (ty);exact⟨typeIs_int s i t,λ_ e=>nomatch e⟩
 | ref p=>
  cases r;rcases ty with⟨rfl,xs,hq⟩|⟨rfl,o,hk,hc,hd⟩|⟨rfl,hk⟩|⟨rfl,S,n,hk⟩
  ·refine q1x3 (I.list hq) λits _ pl _=>?_;refine⟨pl.isList.typeIs,λa e=>?_⟩;cases e;refine q2x4 pl λo n e c hd _=>?_;exact⟨o,e,hd⟩
  ·refine⟨⟨o,I.kIn p o hk,hc⟩,λa e=>?_⟩;cases e;exact⟨o,I.kIn _ o hk,hd⟩
  ·have z:∃o,s.heap.get? p=Z o/\o.ExactDict:=by
    rcases hk with⟨kvs,hk⟩|⟨kvs,hk⟩
    ·obtain⟨_,_,_,_,o,_,_,e,ex,_⟩:=I.hok p _ hk;exact⟨o,e,ex⟩
    ·obtain⟨_,_,_,_,o,_,_,e,ex,_⟩:=I.hok p _ hk;exact⟨o,e,ex⟩
   refine q1x2 z λo e ex=>?_;refine⟨⟨o,e,ex.1⟩,λa e2=>?_⟩;cases e2;exact⟨o,e,ex.2.1⟩
  ·obtain⟨o,_,_,_,e,ex,_⟩:=I.hok p _ hk;refine⟨⟨o,e,ex.1⟩,λa e2=>?_⟩;cases e2;exact⟨o,e,ex.2.1⟩
 | _=>exact VG ty
def TQ (K:Uu)(T:String)(r:V->List V->Hp->VK->Prop)(to:TE)(t:TA):TE:=λσ H Q=>to σ H λx H1=>TH K T x H1/\t σ H1 λxs H2=>r x xs H2 Q
variable {o e:UY}{es:List UY}{to:TE}{t:TA}{name:Str}{apos cpos:Pos}{T id:String}{r:V->List V->Hp->VK->Prop}
def Q9 (pa:PlainAttrs T)(slot:Slot T name id)(hty:typeOf (.builtin id)=pure (.type "method_descriptor"))(hm:Ub X id r)(ho:PE X o to)(ha:PA X (e::es) t)
  (hbase:Vu o name X.env (Vo o X.env)=Vo o X.env:=by rfl)
  (hfew:((Wm cpos (UR (e::es) X.env)).all (λx=>!x.1)&&(W4 cpos (VY [] X.env)).all (λx=>x.1.isSome)
   && decide ((e::es).length+([]:List XX).length+(if([]:List XX).isEmpty then 0 else 1)<30))=true:=by rfl)
  (hline:(apos.endLine==cpos.line)=true:=by rfl) (hs:UR (e::es) X.env=(false,Vo e X.env)::UR es X.env:=by rfl) (hplain:(Wm cpos (UR es X.env)).any (·.1)=false:=by rfl) :
  PE X (.Call (.Attribute o name apos) (e::es) [] cpos) (TQ X.K T r to t):=by
 intro af s σ H Q I h;refine wpAny_Call_method_late hbase hfew hline rfl (bS (ho af s σ H _ I h) λv s1 hxx=>?_);refine q2x4 hxx λx H1 I1 r1 ty q1=>?_;refine q0x2 (MG I1 r1 ty) λh1 h2=>?_;refine⟨T,id,pa,slot,hty,h1,h2,?_⟩;have hA:=ha cpos af s1 σ H1 _ I1 q1;rw[hs] at hA ⊢;refine Xn (by assumption) (XI ?_);exact bS hA λus s2 ⟨vs,H2,I2,r2,q2⟩=>hm af s2 σ H2 x vs v us Q I2 r1 r2 q2
end
def Ua (X:Cx)(id:String)(r:V->List V->Hp->VK->Prop):Prop:=
 ∀(af:List (Ul×Obj)) (s:Ui) (σ:St) (H:Hp) (x:V) (xs:List V) (v:Uh) (us:List Uh) (Q:VK),Inv X af σ H s->aS x v->aV xs us->r x xs H Q->
  Uq (UA X.prog X.w) X.A (call (.builtin id) (v::us)) (EP X af σ Q) X.xe s
theorem aV.one:∀{x:V} {us:List Uh},aV [x] us->∃u,us=[u]/\aS x u
 | _,_,.cons r .nil=>⟨_,rfl,r⟩
def aV.reverse (h:aV xs us):aV xs.reverse us.reverse:=by
 induction h with
 | nil=>exact .nil
 | cons r t ih=>rw[reverse_cons,reverse_cons];exact aV.append ih (.cons r .nil)
section
variable {X:Cx}{af:List (Ul×Obj)}{σ:St}{H:Hp}{s:Ui}{l b:Ul}{xs ys zs:List V}
def Inv.lset {its its':List Uh}{n:Nat}(I:Inv X af σ H s)(hH:H l=Z (.lst xs))
  (e:s.heap.get? l=Z {cls:=.type "list",data:=.seq its.toArray n}) (hf:f its.toArray=its'.toArray) (hv:aV ys its') (hz:ys.length<=Ur) :
  Inv X af σ (bB H l (.lst ys)) {s with heap:=s.heap.update l (UM f),toks:=t'}:=by
 have q:=PySem.IsL.update e f;rw[hf] at q;refine I.write   (by rw[hH];exact trivial) (.inl rfl) (λb' u hb hu=>(Vf s.heap (UM f) (Vl hb)).trans hu) ⟨_,q⟩ ?_;exact⟨hz,its',_,hv,q⟩
def Inv.lnew (I:Inv X af σ H s)(hv:aV ys its)(hz:ys.length<=Ur) :
  Inv X af σ (bB H s.heap.objs.size (.lst ys)) {s with heap:=s.heap.push {cls:=.type "list",data:=.seq its.toArray},toks:=t'}:=
 I.laid (λ_ _ q=>Ug _ q) (Uj _) ⟨hz,its,0,hv,Uo _ rfl⟩
def Inv.fresh (I:Inv X af σ H s):H s.heap.objs.size=Y:=I.hok.fresh (Uj _)
def Inv.lstM (I:Inv X af σ H s)(hH:H l=Z (.lst xs)):xs.length<=Ur/\∃(its:List Uh) (n:Nat),aV xs its/\xs.length=its.length/\s.heap.get? l=Z {cls:=.type "list",data:=.seq its.toArray n}:=by
 obtain⟨z,its,n,r,e⟩:=I.hok l _ hH;exact⟨z,its,n,r,r.length,e⟩
def uR {n:Nat}(h:n<=Ur):abE n=false:=decide_eq_false (by omega)
end
section
variable {X:Cx}
def Ju:V->List V->Hp->VK->Prop:=λx vs H Q=>∃l xs y,x=.ref l/\vs=[y]/\H l=Z (.lst xs)/\xs.length<Ur/\Q .non (bB H l (.lst (xs++[y])))
def DO:Ua X "list.append" Ju:=by
 intro af s σ H x vs v us Q I rx rv h;refine q3x5 h λl xs y zz3 zz4 hH hz q=>?_;subst zz3;subst zz4;cases rx;refine q1x2 rv.one λu zz1 ru=>?_;subst zz1;obtain⟨z,its,n,r,hl,e⟩:=I.lstM hH;refine call_meets F.slot_list_append ⟨_,e,rfl⟩ F.entry_list_append (F.args_list_append_2 _ _) (PySem.list_append l its.toArray n u (by grind)) ⟨e,?_⟩;refine⟨.non,_,I.lset  hH e (by simp) (r.append (.cons ru .nil)) ?_,rfl,q⟩
 grind
def S2:R2:=λx y H Q=>∃l b xs zs,x=.ref l/\y=.ref b/\H l=Z (.lst xs)/\H b=Z (.lst zs)/\xs.length+zs.length<=Ur/\∀p,H p=Y->Q (.ref p) (bB H p (.lst (xs++zs)))
def Nc:ph X (VR .Add) S2:=by
 intro af s σ H x y v u Q I rx ry h;obtain⟨l,b,xs,zs,rfl,rfl,hH,hB,hz,q⟩:=h;cases rx;cases ry;obtain⟨z,its,n,r,hl,e⟩:=I.lstM hH;obtain⟨z2,its2,n2,r2,hl2,e2⟩:=I.lstM hB;refine PySem.P.add_list e e2 ?_ (by simp_all);have ea:its.toArray++its2.toArray=(its++its2).toArray:=by simp
 rw[ea];exact⟨.ref _,_,I.lnew  (r.append r2) (by rw[WE];omega),rfl,q _ I.fresh⟩
end
section
variable {prog:UI}{w:UN}{A:Vd}{E:Uh->Ui->Prop}{s:Ui}
def Eo (its its2:List Uh)(a c:Nat):its.toArray.extract 0 a++its2.toArray++its.toArray.extract c its.toArray.size=(its.take a++its2++its.drop c).toArray:=by
 first
  | rfl
  | simp[take_of_length_le]
  | rfl
def AR {a c n:Nat}(hac:a<=c)(hc:c<=n):WS (Z (a:Int)) (Z (c:Int)) Y n=((a:Int),(c:Int),1):=by
 simp only[WS,YI]
 grind
set_option maxRecDepth 100000 in
def vQ {new:Array Uh}{n:Nat}{a c:Nat}
  (e:s.heap.get? l=Z {cls:=.type "list",data:=.seq items n}) (e2:s.heap.get? b=Z {cls:=.type "list",data:=.seq new n2}) (hne:l≠b)
  (hs:s.heap.IsSliceOf sl vl vu .none) (pl:YW vl (Z (a:Int))) (pu:YW vu (Z (c:Int))) (hac:a<=c) (hc:c<=items.size)
  (hsz:items.size+new.size<=Ur) (h:Q () {s with heap:=s.heap.update l (UM λxs=>xs.extract 0 a++new++xs.extract c xs.size)}) :
  Uq (UA prog w) A (Zx (.ref l) (.ref sl) (.ref b)) Q E s:=by
 have hl:s.heap.IsList l items:=PySem.IsL.isList e;have hb:s.heap.IsList b new:=PySem.IsL.isList e2;refine q1x3 (id hs) λos hos hcs hds=>?_;have hTs:s.TypeIs (.ref sl) "slice":=⟨os,hos,hcs⟩;have hstep:¬((rawPart Y==WO 0)=true):=Uy;have hsame:YA (.ref l) (.ref b)=false:=by
  unfold YA;exact beq_eq_false_iff_ne.mpr hne
 have hmax:(max (a:Int) (c:Int)).toNat=c:=by omega
 have hz':((λxs:Array Uh=>xs.extract 0 a++new++xs.extract c xs.size) items).size<=Ur+1:=by
  simp only[Array.size_append,Array.size_extract];omega
 unfold Zx
 try with_reducible refine UL ?_
 first|refine Ud (Ue ?_)|skip
 refine Ud (aae hl.typeIs (by decide) ?_);refine Ud (U7 (name:=Vx "__setitem__") hl.typeIs aah
  (UZ aah hl.typeIs entry_list_setitem ?_ (args_list_setitem _ _ _)))
 show Uq _ _ (XY (.ref sl) >>= _) _ _ s;refine Ud ?_;unfold XY;refine Ud (aaY hTs slice_no_index ?_);simp only[Option.isNone_none,if_true];refine Ue ?_;show Uq _ _ (typeOf (.ref sl) >>= _) _ _ s;refine Ud (YY hTs ?_)
 first
  | rw[if_neg (by decide)]
  | refine W.KFB.if_not (by decide) ?_
 rw[listSliceParts_eq];refine Ud (Ud (Vt hos hds (x:=.none) rfl (Ud (Zn .none ?_))));rw[if_neg hstep];refine Ud (Vt hos hds (x:=vl) rfl (Ud (Zn pl ?_)));refine Ud (Vt hos hds (x:=vu) rfl (Ud (Zn pu (Ue ?_))))
 first
  | simp only[hsame,Vb,if_false]
  | refine W.KFB.if_not hsame ?_
  | (dsimp only
     rw[if_neg (by rw[hsame];exact Uy)])
 refine Ud (m:=Yo (.ref b) "must assign iterable to extended slice") ?_;unfold Yo;refine Ud (YY hb.typeIs ?_)
 first
  | refine W.KFB.if_so (by decide) ?_
  | rw[if_pos (by decide)]
  | simp only[beq_self_eq_true,abX,if_true]
 unfold abY;refine Ud (VC e2 rfl (Ue ?_));refine Ud (Ud (VC e rfl (Ue ?_)));refine Ud (WT ((sliceIndices_raw (Z (a:Int)) (Z (c:Int)) Y items.size (by simp)).trans (congrArg (pure:Int×Int×Int->Sem (Int×Int×Int)) (AR hac hc))) ?_);show Uq _ _ (if((1:Int)==1)=true then _ else _) _ _ s;rw[if_pos (by decide)];refine Ud (XA ?_)
 first
  | simp only[uR hsz,Vb,if_false]
  | refine W.KFB.if_not (uR hsz) ?_
 first|refine Ud (Ue ?_)|skip
 show Uq _ _ (ZC l (λxs=>xs.extract 0 ((a:Int)).toNat++new++xs.extract (max (a:Int) (c:Int)).toNat xs.size) >>= _) _ _ s;rw[hmax,UC];refine Ud (Wc (hz:=UK (YJ _ _) hsz) (_hz':=hz') e rfl ?_);refine Ud (We ?_)
 first
  | exact Ud (Ue (Ue ⟨.none,rfl,Ue h⟩))
  | exact Ue ⟨.none,rfl,Ue h⟩
end
section
variable {X:Cx}
def Dw {a:Int}(I:Inv X af σ H s)
  (hH:H l=Z (.lst xs)) (hB:H b=Z (.lst ys)) (hne:l≠b) (hs:s.heap.IsSliceOf sl vl vu .none) (ra:aS (.int a) vl) (rc:aS (.int c) vu) (h0:0<=a) (hac:a<=c) (hc:c<=xs.length)
  (hz:xs.length+ys.length<=Ur) (h:∀s',Inv X af σ (bB H l (.lst (xs.take a.toNat++ys++xs.drop c.toNat))) s'->Q () s') :
  Uq (UA X.prog X.w) X.A (Zx (.ref l) (.ref sl) (.ref b)) Q X.xe s:=by
 refine q1x1 ra λta zz1=>?_;subst zz1;refine q1x1 rc λtc zz1=>?_;subst zz1;obtain⟨z,its,n,r,hl,e⟩:=I.lstM hH;obtain⟨z2,its2,n2,r2,hl2,e2⟩:=I.lstM hB;refine q1x1 (Us h0) λa' zz1=>?_;subst zz1;refine q1x1 (Us (aai h0 hac)) λc' zz1=>?_;subst zz1;simp only[UC] at h;refine vQ  (c:=c') e e2 hne hs (.int _ _) (.int _ _) (by omega) (by grind) (by grind) (h _ ?_);refine I.lset   hH e ?_ (aV.append (aV.append (r.take _) r2) (r.drop _)) ?_
 ·exact Eo its its2 a' c'
 grind
end
end L2
namespace Att
open PySem PySem.W PySem.Calls PyProof.Rows
def sT:∀(ns:List Int) (vs:List Uh),WellAll P h vs (ns.map acb)->Ve vs ns:=by
 intro ns
 induction ns with
 | nil=>
  intro vs w;cases w;exact .nil
 | cons n ns ih=>
  intro vs w;cases w with
  | cons a b=>
   cases a;exact .cons _ _ (ih _ b)
def Ej {l:Xy}{n:Nat}(hn:l.most=Z n)
  (hpre:l.row.toRowW.claim.pre args=true) (hwl:WellAll P h vals args) :
  ∃a vs ns,vals=[UO a]/\args=[WData.list (ns.map acb)]/\h.get? a=Z {cls:=.type "list",data:=.seq vs.toArray}/\Ve vs ns/\ns.length<=n:=by
 refine q2x3 (hasAllW_cons ((pre_splitW hpre).1)) λd r zz2 h1 h2=>?_;subst zz2;obtain rfl:=hasAllW_nil h2;refine q1x2 (hasW_list h1) λxs zz1 h3=>?_;subst zz1;refine q1x1 (items_int h3) λns zz1=>?_;subst zz1;cases hwl with
 | cons w1 w2=>
  cases w2;cases w1 with
  | list ho hall=>exact⟨_,_,ns,rfl,rfl,ho,sT ns _ hall,(by
  have h5:=condW_of (by
   have h4:=(holds_andW ((pre_splitW hpre).2)).1;rwa [hn] at h4) (w_not (w_lt w_lit (w_len_list (w_arg rfl))))
  simp_all)⟩
def DQ (l:Xy)(args:List WData):l.row.toRowW.claim.post args (.bool true) args=true:=
 postW_of
  (show WShape.has [] (.bool true) .bool=true by rfl)
  (w_eq_bool (w_res rfl) w_lit) rfl
def attach_call {l:Xy}{n:Nat}{d:abu}
  (hn:l.most=Z n) (hdf:d.params.defaults=[])
  (call:∀(w:UN) (s₀ s₁:Ui) (mg mb:Str->Option Uh) (fa:Ul) (o:Obj) (pm cd doc:Uh) (a:Ul) (vs:List Uh) (ns:List Int),
   Ground q loose [] XP w s₀ mg mb s₁.heap->YP w s₁.heap->
   s₁.heap.get? fa=Z o->o.data=.func (docDef d.name d.params d.body d.scope pm cd doc)->s₁.heap.CodeRec cd d.name->mg d.name=Z (.ref fa)->
   s₁.heap.get? a=Z {cls:=.type "list",data:=.seq vs.toArray}->Ve vs ns->ns.length<=n->s₁.gens=#[]->
   Zz (UA l.prog w) ZD (.call (.ref fa) ⟨[.ref a],[]⟩) (λr s'=>r=.ok (.ret (.bool true))/\OldK s₁.heap s'.heap/\s'.os=s₁.os/\Yp s'.gens) s₁) :
  WalkO q loose XP YP l.row.toRowW d [] (λf vs=>PySem.call f vs):=by
 intro w s₀ s₁ mg mb G Y fa o pm cd doc dV kV ho hd hcd hD hmg hg args vals as hpre hlay hrd hwl hlo;obtain rfl:dV=.none:=Dflts.none hD hdf;obtain rfl:kV=.none:=Dflts.noKw hD;refine q3x5 (Ej hn hpre hwl) λa vs ns zz3 zz4 hobj hints hlen=>?_;subst zz3;subst zz4;refine enter_call (Xm (call w s₀ s₁ mg mb fa o pm cd doc a vs ns G Y ho (fd_plain hd) hcd hmg hobj hints hlen hg) λr s' hq=>?_);refine q0x4 hq λzz0 h2 h3 h4=>?_;subst zz0;exact⟨.inl ⟨.bool true,.bool true,[],rfl,λ_=>rfl,.bool true,DQ l _,λ_=>⟨ab9,λ_ hm=>(nomatch hm)⟩⟩,h2,h3,h4⟩
end Att
namespace L2
open PySem PySem.Spec PyProof.Rows List
theorem vY:∀{vs:List Uh} {ns:List Int},Ve vs ns->aV (ns.map V.int) vs
 | _,_,.nil=>.nil
 | _,_,.cons n t h=>.cons ⟨t,rfl⟩ (vY h)
def dg (s:WA)(j:Nat):WA:=match s with
 | .ClassDef _ _ _ body _ _ _ _ _ _ _=>body.getD j (.Pass ⟨0,0,0,0⟩)
 | _=>.Pass ⟨0,0,0,0⟩
def fQ (s:WA):abQ:=match s with
 | .FunctionDef _ a _ _ _ _ _ _ _ _=>a
 | _=>{posonlyargs:=[],args:=[],vararg:=Y,kwonlyargs:=[],kw_defaults:=[],kwarg:=Y,defaults:=[]}
def cz (s:WA):List WA:=match s with
 | .FunctionDef _ _ b _ _ _ _ _ _ _=>b
 | _=>[]
def aM (s:WA):Y6:=match s with
 | .FunctionDef _ _ _ _ _ _ sc _ _ _=>sc
 | _=>{kind:=.function,names:=[],isGenerator:=false,isCoroutine:=false}
structure IK (K:Uu)(x qual:Str)(st:WA)(f:Ul)(fd:VL):Prop where
 ex:∃(oc:Uh) (od:Option Ul) (kV doc pm:Uh) (an:Option Ul) (cdv ct:Uh) (osl:Array (Option Uh)),
  fd=XR x qual (fQ st) (cz st) (aM st) .none kV doc pm an cdv ct/\K.lookup f=Z ⟨oc,od,.func fd,osl⟩/\Zl K cdv qual=true
 kp:WQ K (.ref f)=true
section
variable {P:UI}{w:UN}{K:Uu}{mg:Str->Option Uh}{base:Vn}
def IK.binds {st:WA}(F:IK K x qual st f fd)
  (h:∀(kV doc pm:Uh) (an:Option Ul) (cdv ct:Uh) (us:List Uh),us.length=ps.length->Zj (XR x qual (fQ st) (cz st) (aM st) .none kV doc pm an cdv ct) ⟨us,[]⟩=pure (ps.zip us)):f7 K fd ps []:=by
 refine q9x3 F.ex λoc od kV doc pm an cdv ct osl zz9 lk hcd=>?_;subst zz9;exact .all (h kV doc pm an cdv ct)
def rK {st:WA}{kV:Uh}(l:K.lookup f=Z ⟨oc,od,.func (XR x qual (fQ st) (cz st) (aM st) .none kV doc pm an cdv ct),osl⟩)
  (c:Zl K cdv qual=true) (k:WQ K (.ref f)=true):IK K x qual st f (XR x qual (fQ st) (cz st) (aM st) .none kV doc pm an cdv ct):=⟨⟨oc,od,kV,doc,pm,an,cdv,ct,osl,rfl,l,c⟩,k⟩
end
def F4 {k:Nat}(hr:bn k A):A.units+1<YG:=VH (ZI (by simp) _) hr.units
section
variable {X:Cx}
def pv (i:Nat)(hN:X.N[i]?=Z x:=by rfl)(hv:LZ X.env.scope x:=by first|exact YB rfl|exact XC (YB rfl)|exact XC (XC rfl))(hd:(x==("__debug__":Str))=false:=by decide)
  (hcd:(x==("__classdict__":Str))=false:=by decide):PE X (.Name x pos) (Oc i):=FJ hN hv hd hcd
end
section
variable {κ:Type}[DecidableEq κ]
def jU (kvs:List (κ×V))(k:κ):Option V:=(kvs.find? λkv=>decide (kv.1=k)).map (·.2)
def oY (kvs:List (κ×V))(k:κ)(v:V):List (κ×V):=
 if(kvs.any λkv=>decide (kv.1=k))=true then kvs.map (λkv=>if kv.1=k then(kv.1,v) else kv) else kvs++[(k,v)]
def qh {k:κ}(e:p.1=k):jU (p::r) k=Z p.2:=by simp[jU,Xc,e]
def pW {k:κ}(e:¬p.1=k):jU (p::r) k=jU r k:=by simp[jU,Xc,e]
theorem ul (k:κ):∀kvs:List (κ×V),(kvs.any λkv=>decide (kv.1=k))=(jU kvs k).isSome
 | []=>rfl
 | p::r=>by
  rw[any_cons]
  by_cases e:p.1=k
  ·simp only[qh e,decide_eq_true e,abX,Option.isSome_some]
  ·rw[pW e,decide_eq_false e];exact ul k r
def nu (kvs:List (κ×V))(k:κ)(v:V):(oY kvs k v).length<=kvs.length+1:=by
 unfold oY
 grind
def yQ {k:κ}(v:V)(h:jU kvs k=Y):oY kvs k v=kvs++[(k,v)]:=by
 unfold oY;rw[ul,h];rfl
def lY.isSome_eq (r:lY o u):o.isSome=u.isSome:=by
 cases o with
 | none=>cases u with
  | none=>rfl
  | some _=>exact(r).elim
 | some _=>cases u with
  | none=>exact(r).elim
  | some _=>rfl
def KV.val (r:KV kvs vs)(k:κ):lY (jU kvs k) (Y0 vs k):=by
 induction r with
 | nil=>exact V1
 | @cons p q ps qs h t ih=>
  refine q0x2 h λh1 h2=>?_
  by_cases e:p.1=k
  ·have e':=h1.symm.trans e;have b:Y0 (q::qs) k=Z q.2:=by simp[Y0,Xc,e']
   rwa [qh e,b]
  ·have e':¬q.1=k:=λz=>e (h1.trans z)
   have b:Y0 (q::qs) k=Y0 qs k:=by simp[Y0,Xc,e']
   rwa [pW e,b]
def KV.any (r:KV kvs vs)(k:κ):(kvs.any λkv=>decide (kv.1=k))=vs.any λkv=>decide (kv.1=k):=by
 induction r with
 | nil=>rfl
 | cons h t ih=>simp_all
def KV.repl (r:KV kvs vs)(k:κ){y:V}(ry:aS y u) :
  KV (kvs.map λkv=>if kv.1=k then(kv.1,y) else kv) (vs.map λkv=>if kv.1=k then(kv.1,u) else kv):=by
 induction r with
 | nil=>exact .nil
 | @cons p q ps qs h t ih=>
  refine .cons ?_ ih
  by_cases e:p.1=k
  ·simp_all
  simp_all
def KV.put (r:KV kvs vs)(k:κ){y:V}(ry:aS y u):KV (oY kvs k y) (stored vs k u):=by
 unfold oY stored;rw[r.any k]
 by_cases e:(vs.any λkv=>decide (kv.1=k))=true
 ·rw[if_pos e,if_pos e];exact r.repl k ry
 ·rw[if_neg e,if_neg e];exact Paired.snoc r ⟨rfl,ry⟩
def KV.keys {kvs:List (κ×V)}{vs:List (κ×Uh)}(r:KV kvs vs):kvs.map (·.1)=vs.map (·.1):=by
 induction r with
 | nil=>rfl
 | cons h t ih=>simp_all
def KV.length (r:KV kvs vs):kvs.length=vs.length:=Paired.length r
end
def Ai {k:bM}(r:aS (kV k) u):(bA P w).is k u=true:=by
 cases k with
 | inl i=>refine q1x1 ((r)) λt e=>?_;subst e;exact yn P w i t
 | inr x=>refine q1x1 ((r)) λt e=>?_;subst e;exact yU P w x t
theorem v8:∀{ks:List bM} {us:List Uh},aV (ks.map kV) us->ItemsAre (bA P w) ks us
 | [],_,r=>by cases r;exact .nil
 | k::ks,_,r=>by
  cases r with
  | cons h t=>exact .cons (Ai h) (v8 t)
abbrev KT (H:Hp):List (List bM×V)->List (List bM×Ul×Uh)->Prop:=Paired λp q=>p.1=q.1/\H q.2.1=Z (.tup (p.1.map kV))/\aS p.2 q.2.2
def KT.val (r:KT H kvs xs)(k:List bM):lY (jU kvs k) ((YK xs k).map (·.2)):=by
 induction r with
 | nil=>exact V1
 | @cons p q ps qs h t ih=>
  refine q0x3 h λh1 _ h2=>?_
  by_cases e:p.1=k
  ·have b:YK (q::qs) k=Z q.2:=by simp[YK,Xc,(h1.symm.trans e)]
   rwa [qh e,b]
  ·have e':¬q.1=k:=λz=>e (h1.trans z)
   have b:YK (q::qs) k=YK qs k:=by simp[YK,Xc,e']
   rwa [pW e,b]
def KT.repl (r:KT H kvs xs)(k:List bM){y:V}(ry:aS y u) :
  KT H (kvs.map λkv=>if kv.1=k then(kv.1,y) else kv) (xs.map (putAt k u)):=by
 induction r with
 | nil=>exact .nil
 | @cons p q ps qs h t ih=>
  rw[WG];refine .cons ?_ ih;refine q0x3 h λh1 h2 h3=>?_;unfold putAt
  by_cases e:p.1=k
  ·rw[if_pos e,if_pos (h1.symm.trans e)];exact⟨h1,h2,ry⟩
  ·rw[if_neg e,if_neg (λz=>e (h1.trans z))];exact⟨h1,h2,h3⟩
def KT.put (r:KT H kvs xs)(k:List bM){y:V}(hb:H b=Z (.tup (k.map kV)))(ry:aS y u) :
  KT H (oY kvs k y) (abZ xs k b u):=by
 have e:(kvs.any λkv=>decide (kv.1=k))=(YK xs k).isSome:=by
  rw[ul,(r.val k).isSome_eq,Option.isSome_map]
 unfold oY abZ;rw[e]
 by_cases q:(YK xs k).isSome=true
 ·rw[if_pos q,if_pos q];exact r.repl k ry
 ·rw[if_neg q,if_neg q];exact Paired.snoc r ⟨rfl,hb,ry⟩
def KT.keeps (r:KT H kvs xs)(ht:∀b ys,H b=Z (.tup ys)->H' b=Z (.tup ys)):KT H' kvs xs:=
 Paired.mapP r λ_ _ z=>⟨z.1,ht _ _ z.2.1,z.2.2⟩
section
variable {P:UI}{w:UN}{H:Hp}{h:Vn}{a:Ul}
def Li (ok:mY P w H h)(e:Rd H a u):bK P w H h a u:=e.ok ok
def Aj (ok:mY P w H h)(e:Rd H a (.dK kvs)):kvs.length<=Ur/\(a==Vp)=false/\∃vs,KV kvs vs/\h.DictOf (bA P w) a vs:=
 Li ok e
def Ld (ok:mY P w H h)(e:H a=Z (.dK kvs)):kvs.length<=Ur/\(a==Vp)=false/\∃vs,KV kvs vs/\h.DictOf (bA P w) a vs:=Aj ok (.inl e)
def xU (ok:mY P w H h)(e:H a=Z (.tup (ks.map kV))):(Xz (bA P w)).is h ks a:=by
 obtain⟨_,its,r,o,h1,h2,n,h3⟩:=(ok a _ e);exact⟨o,its.toArray,n,h1,h2,h3,by simpa using v8 r⟩
def z5 (ok:mY P w H h)(e:Rd H a (.dT kvs)):kvs.length<=Ur/\(a==Vp)=false/\
  ∃xs,KT H kvs xs/\h.DictOfH (Xz (bA P w)) a xs:=by
 obtain⟨z,y,xs,r,o,es,ep,h1,h2,h3,h4,h5⟩:=(Li ok e);refine⟨z,y,xs,r,o,es,ep,h1,h2,h3,h4,λx hx=>?_,h5⟩;have all:∀{l:List (List bM×V)} {m:List (List bM×Ul×Uh)},KT H l m->∀x∈m,(Xz (bA P w)).is h x.1 x.2.1:=by
  intro l m q
  induction q with
  | nil=>simp
  | @cons p q ps qs hq t ih=>
   intro x hx;rcases Va.mp hx with e|hx
   ·exact xU ok (by simp_all)
   ·exact ih x hx
 exact all r x hx
def O3 (ok:mY P w H h)(e:H a=Z (.dT kvs)):kvs.length<=Ur/\(a==Vp)=false/\
  ∃xs,KT H kvs xs/\h.DictOfH (Xz (bA P w)) a xs:=z5 ok (.inl e)
end
def uj (H:Hp)(a:Ul)(y:V)(r:Option V):Prop:=
 (∃kvs k,Rd H a (.dK kvs)/\y=kV k/\r=jU kvs k)\/∃kvs k b,Rd H a (.dT kvs)/\y=.ref b/\H b=Z (.tup (k.map kV))/\r=jU kvs k
theorem uj.k {a:Ul}{k:bM}(e:H a=Z (.dK kvs)):uj H a (kV k) (jU kvs k):=.inl ⟨kvs,k,.inl e,rfl,rfl⟩
def uj.t {a:Ul}{k:List bM}(e:H a=Z (.dT kvs))(eb:H b=Z (.tup (k.map kV))):uj H a (.ref b) (jU kvs k):=.inr ⟨kvs,k,b,.inl e,rfl,eb,rfl⟩
section
variable {X:Cx}{af:List (Ul×Obj)}{σ:St}{H:Hp}{s:Ui}{a:Ul}{y v:V}{u r:Uh}{o:Option V}{A:Vd}{E:Uh->Ui->Prop}
def Inv.big (I:Inv X af σ H s):Vp<s.heap.objs.size:=Nat.lt_trans (by decide) ((I.mod.glob.keeps I.bk).lt)
def DG (hu:A.units+1<YG)(I:Inv X af σ H s)(g:uj H a y (Z v))(ry:aS y u)(h:∀w' s',Inv X af σ H s'->aS v w'->Q w' s') :
  Uq (UA X.prog X.w) A (YX (.ref a) u) Q E s:=by
 rcases g with⟨kvs,k,e,ey,l⟩|⟨kvs,k,b,e,ey,eb,l⟩
 ·subst ey;obtain⟨z,hd,vs,rel,dd⟩:=Aj I.hok e;refine q1x2 (lY.some_of   (by rw[l];exact rel.val k)) λw' hw rw'=>?_;exact wpAny_getItem_of (Ai ry) dd.mapOf hw (h w' _ (I.tok _) rw')
 ·subst ey;cases (ry);obtain⟨z,hd,xs,rel,dd⟩:=z5 I.hok e;refine q1x2 (lY.some_of (v:=v)  (by rw[l];exact rel.val k)) λw' hw rw'=>?_;refine q1x2 (UP.mp hw) λp hp hp2=>?_;refine wpAny_getItem_heap (Yg hu) (xU I.hok eb) dd hp ?_;rw[hp2];exact h w' _ (I.tok _) rw'
def wZ (I:Inv X af σ H s)(mu:PL (H a))(hs:Vr a s.heap h')(he:∃q,h'.get? a=Z q)(new:bK X.prog X.w (bB H a ob) h' a ob) :
  Inv X af σ (bB H a ob) {s with heap:=h',toks:=t'}:=
 I.write   mu (.inl rfl) (λb q hb z=>(hs.2 b hb).trans z) he new
def EO (z:kvs.length<=Ur)(hd:(a==Vp)=false)(rel:KV kvs vs)(dd:h'.DictOf (bA P w) a vs) :
  bK P w H' h' a (.dK kvs):=⟨z,hd,vs,rel,dd⟩
end
def DI (i:UY):Prop:=∀ov iv,aaP i false ov iv=operate [ov,iv] (YX ov iv)
def Ki {id:String}
  (hl:abt (.type T) "__getitem__"=pure (Z (.builtin id))) (hs:DI slice)
  (h:Uq (UA prog w) A (Vo value env) (λo s₁=>Uq (UA prog w) A (Vo slice env) (λi s₂=>s₂.TypeIs o T/\Uq (UA prog w) A (YX o i) Q E s₂) E s₁) E s) :
  Uq (UA prog w) A (Vo (.Subscript value slice pos) env) Q E s:=by
 refine Z5 (VF h (λo s₁ h₁=>VF h₁ (λi s₂ h₂=>?_) λ_ _ x=>x) λ_ _ x=>x);refine q0x2 h₂ λhT h₂=>?_;refine Ud ?_;refine Ud (aaY hT hl ?_)
 first
  | exact Ue (Ud (by
  rw[hs o i];exact wpAny_operating (VF h₂ (λr s₃ h₃=>Ud (wpAny_letTemporaryGo (Ue h₃))) λ_ _ x=>x)))
  | rfl
  | rfl
def zk {a:Ul}{y:V}(I:Inv X af σ H s)(g:uj H a y o):s.TypeIs (.ref a) "dict":=by
 rcases g with⟨kvs,k,e,_,_⟩|⟨kvs,k,b,e,_,_,_⟩
 ·obtain⟨_,_,vs,_,dd⟩:=Aj I.hok e;exact dd.typeIs
 ·obtain⟨_,_,xs,_,dd⟩:=z5 I.hok e;exact dd.typeIs
def Po (td ty:TE):TE:=λσ H Q=>td σ H λx H1=>ty σ H1 λy H2=>∃a v,x=.ref a/\uj H2 a y (Z v)/\Q v H2
section
variable {X:Cx}{o i e value:UY}{pos pos' tpos:Pos}{td ty tv:TE}
def wU (hu:X.A.units+1<YG)(ho:PE X o td)(hi:PE X i ty)(hs:DI i):PE X (.Subscript o i pos) (Po td ty):=by
 intro af s σ H Q I h;refine Ki PySem.F.slot_dict_getitem.lookup hs (bS (ho af s σ H _ I h) λu s1 ⟨x,H1,I1,rx,q1⟩=>bS (hi af s1 σ H1 _ I1 q1) λiv s2 hxx=>?_);obtain⟨y,H2,I2,ry,a,v,ex,g,q2⟩:=hxx;subst ex;obtain rfl:u=UO a:=rx;exact⟨zk I2 g,DG hu I2 g ry λw' s3 I3 rw'=>⟨v,H2,I3,rw',q2⟩⟩
end
def yZ (h:Vn)(hb:Vp<h.objs.size):bK P w H (h.push {cls:=.type "dict",data:=.dict #[]}) h.objs.size (.dK []):=
 ⟨UW _,beq_eq_false_iff_ne.mpr (Vl (Uz hb)),[],.nil,acd h⟩
def Ga (h:Vn)(hb:Vp<h.objs.size):bK P w H (h.push {cls:=.type "dict",data:=.dict #[]}) h.objs.size (.dT []):=
 ⟨UW _,beq_eq_false_iff_ne.mpr (Vl (Uz hb)),[],.nil,_,#[],0,Uo _ rfl,⟨rfl,rfl,rfl⟩,rfl,rfl,nodup_nil⟩
def NH:TE:=λ_ H Q=>∀p,H p=Y->Q (.ref p) (bB H p (.dK []))
def MU:TE:=λ_ H Q=>∀p,H p=Y->Q (.ref p) (bB H p (.dT []))
section
variable {X:Cx}{pos:Pos}
def Ft:PE X (.Dict [] [] pos) NH:=λaf s σ H Q I h=>
 aaF ⟨.ref s.heap.objs.size,_,I.laid    (λ_ _ q=>Ug _ q) (Uj _) (yZ s.heap I.big),rfl,h _ (I.hok.fresh (Uj _))⟩
def Hk:PE X (.Dict [] [] pos) MU:=λaf s σ H Q I h=>
 aaF ⟨.ref s.heap.objs.size,_,I.laid    (λ_ _ q=>Ug _ q) (Uj _) (Ga s.heap I.big),rfl,h _ (I.hok.fresh (Uj _))⟩
end
def xD:List (TE×TE)->St->Hp->(List (V×V)->Hp->Prop)->Prop
 | [],_,H,Q=>Q [] H
 | (tk,tv)::r,σ,H,Q=>tk σ H λx H1=>tv σ H1 λy H2=>xD r σ H2 λps H3=>Q ((x,y)::ps) H3
abbrev VV:List (V×V)->List (Uh×Uh)->Prop:=Paired λp q=>aS p.1 q.1/\aS p.2 q.2
def Q1 (X:Cx)(pos:Pos)(keys:List (Option UY))(values:List UY)(trs:List (TE×TE)):Prop:=
 ∀(af:List (Ul×Obj)) (s:Ui) (σ:St) (H:Hp) (Q:List (V×V)->Hp->Prop),Inv X af σ H s->xD trs σ H Q->
  Uq (UA X.prog X.w) X.A (evalPairs (pairTrees keys values X.env pos)) (λvs s'=>∃ps H',Inv X af σ H' s'/\VV ps vs/\Q ps H') X.xe s
def Kb:Q1 X pos [] [] []:=λaf s σ H Q I h=>pairTrees_nil_walk ⟨[],H,I,.nil,h⟩
def Gb {k:UY}(hk:PE X k tk)(hv:PE X v tv)(hr:Q1 X pos ks vs trs) :
  Q1 X pos (Z k::ks) (v::vs) ((tk,tv)::trs):=λaf s σ H Q I h=>
 pairTrees_cons_walk (bS (hk af s σ H _ I h) λu s1 ⟨x,H1,I1,rx,q1⟩=>bS (hv af s1 σ H1 _ I1 q1) λw2 s2 ⟨y,H2,I2,ry,q2⟩=>
  bS (hr af s2 σ H2 _ I2 q2) λws s3 ⟨ps,H3,I3,rel,q3⟩=>⟨(x,y)::ps,H3,I3,.cons ⟨rx,ry⟩ rel,q3⟩)
def jd (kvs more:List (bM×V)):List (bM×V):=more.foldl (λacc kv=>oY acc kv.1 kv.2) kvs
def KV.merge:∀{more:List (bM×V)} {rs:List (bM×Uh)} {kvs:List (bM×V)} {vs:List (bM×Uh)},KV more rs->KV kvs vs->KV (jd kvs more) (merged vs rs):=by
 intro more rs kvs vs r
 induction r generalizing kvs vs with
 | nil=>intro q;exact q
 | @cons p q ps qs h t ih=>
  intro r0;exact ih (by
   have:=r0.put p.1 h.2
   simp_all)
theorem n8:∀(more kvs:List (bM×V)),(jd kvs more).length<=kvs.length+more.length
 | [],kvs=>by show kvs.length<=kvs.length+0;simp
 | p::r,kvs=>by
  have h1:=n8 r (oY kvs p.1 p.2);have h2:=nu kvs p.1 p.2;show(jd (oY kvs p.1 p.2) r).length<=_
  grind
theorem tY:∀{kvs:List (bM×V)} {ws:List (Uh×Uh)},VV (kvs.map λkv=>(kV kv.1,kv.2)) ws->∃rs,Carries (bA P w) ws rs/\KV kvs rs
 | [],_,r=>by cases r;exact⟨[],V1,.nil⟩
 | p::kvs,_,r=>by
  cases r with
  | @cons a b as bs h t=>
   refine q1x2 (tY (P:=P) (w:=w) t) λrs c q=>?_;obtain⟨b1,b2⟩:=b;exact⟨(p.1,b2)::rs,⟨Ai h.1,rfl,c⟩,.cons ⟨rfl,h.2⟩ q⟩
def Rr (trs:List (TE×TE)):TE:=λσ H Q=>∀p,H p=Y->xD trs σ (bB H p (.dK [])) λps H2=>H2 p=Z (.dK [])/\∃kvs:List (bM×V),ps=kvs.map (λkv=>(kV kv.1,kv.2))/\kvs.length<=15/\Q (.ref p) (bB H2 p (.dK (jd [] kvs)))
def H9 {keys:List (Option UY)}(h:Q1 X pos keys values trs)(hall:keys.all (·.isSome)=true)(hl:keys.length=values.length)(h0:keys≠[])
  (h15:keys.length<=15):PE X (.Dict keys values pos) (Rr trs):=by
 intro af s σ H Q I q;refine wpAny_Dict_walk (knd:=bA X.prog X.w) hall hl h0 h15 (bS (h af _ σ _ _ (I.laid     (λ_ _ q=>Ug _ q) (Uj _) (yZ s.heap I.big)) (q _ (I.hok.fresh (Uj s.heap.objs.size)))) λws s2 hxx=>?_);obtain⟨ps,H2,I2,rel,e,kvs,ep,lk,q2⟩:=hxx;subst ep;refine q1x2 (tY (P:=X.prog) (w:=X.w) rel) λrs c rk=>?_;obtain⟨z,hd,vs0,r0,dd⟩:=Ld I2.hok e;cases r0;refine⟨rs,c,dd,λh' dd' hs=>⟨.ref s.heap.objs.size,_,?_,rfl,q2⟩⟩;exact wZ I2 (by rw[e];exact V1) hs (let ⟨q,_,_,hq,_⟩:=dd';⟨q,hq⟩) (EO (by
  have h1:=n8 kvs [];rw[Wy] at h1;rw[U3];omega) hd (rk.merge .nil) dd')
structure M1 (X:Cx)(o:UY)(m:Str)(apos:Pos)(e:UY)(cpos:Pos):Prop where
 base:Vu o m X.env (Vo o X.env)=Vo o X.env
 few:((Wm cpos (UR [e] X.env)).all (λx=>!x.1)&&(W4 cpos (VY [] X.env)).all (λx=>x.1.isSome)
  && decide (([e]:List UY).length+([]:List XX).length+(if([]:List XX).isEmpty then 0 else 1)<30))=true
 line:(apos.endLine==cpos.line)=true
 trees:Wm cpos (UR [e] X.env)=[(false,Vo e X.env)]
structure M2 (X:Cx)(o:UY)(m:Str)(apos:Pos)(e f:UY)(cpos:Pos):Prop where
 base:Vu o m X.env (Vo o X.env)=Vo o X.env
 few:((Wm cpos (UR [e,f] X.env)).all (λx=>!x.1)&&(W4 cpos (VY [] X.env)).all (λx=>x.1.isSome)
  && decide (([e,f]:List UY).length+([]:List XX).length+(if([]:List XX).isEmpty then 0 else 1)<30))=true
 line:(apos.endLine==cpos.line)=true
 trees:Wm cpos (UR [e,f] X.env)=[(false,Vo e X.env),(false,Vo f X.env)]
def Sg (H:Hp)(a:Ul):Prop:=(∃kvs,Rd H a (.dK kvs))\/∃kvs,Rd H a (.dT kvs)
def Nx {a:Ul}(I:Inv X af σ H s)(d:Sg H a) :
  s.TypeIs (.ref a) "dict"/\(∀b,UO a=.ref b->∃ob,s.heap.get? b=Z ob/\ob.dict=Y)/\(a==Vp)=false:=by
 rcases d with⟨kvs,e⟩|⟨kvs,e⟩
 ·obtain⟨_,hd,vs,_,dd⟩:=Aj I.hok e;refine⟨dd.typeIs,λb q=>?_,hd⟩;cases q;refine q3x3 dd λob _ _ h1 h2 _=>?_;exact⟨ob,h1,h2.2.1⟩
 ·obtain⟨_,hd,xs,_,dd⟩:=z5 I.hok e;refine⟨dd.typeIs,λb q=>?_,hd⟩;cases q;refine q3x3 dd λob _ _ h1 h2 _=>?_;exact⟨ob,h1,h2.2.1⟩
end L2
namespace Att
open PySem PySem.W PySem.Calls PyProof.Rows
end Att
namespace L2
open PySem PySem.Spec PyProof.Rows List
end L2
namespace DL
open PySem PySem.Spec PyProof.Rows L2 List
structure Pz (X:Cx)(af:List (Ul×Obj))(H:Hp)(B:Vn):Prop where
 trk:∀b o,H b=Z o->∃o',B.get? b=Z o'
 pin:∀p∈X.pn++af,∃o',B.get? p.1=Z o'
 old:∀b o,X.s₀.heap.get? b=Z o->b∉X.ex->b∉vq X.stack->∃o',B.get? b=Z o'
def SI (X:Cx)(H:Hp)(a C:Ul)(s:Ui):Prop:=∃af σ,
 (∃h vs,L2.Inv X af σ H {s with heap:=h}/\abv h s.heap a (.ref C) vs)\/
 (L2.Inv X af σ H s/\H a=Y/\∃B a0,aaj B X.stack a (.ref C) a0 s.heap/\Pz X af H B)\/
 (L2.Inv X af σ H s/\H a=Y/\∃B a0 L,X.env.frame=Z L/\Heap.HeldW B X.stack a (.ref C) a0 L s.heap/\Pz X af H B)
def iM (K:Uu)(c:Str)(C:Ul):Prop:=V5 K Uv c=Z (Z (.ref C))
def iM.inj {K:Uu}(a:iM K c C)(b:iM K c C'):C=C':=by
 unfold iM at a b
 grind
def u6 {a:Ul}(x:bK P w H h a o):∃u,h.get? a=Z u:=by
 cases o with
 | lst xs=>obtain⟨_,_,_,_,e⟩:=x;exact⟨_,e⟩
 | tup xs=>obtain⟨_,_,_,o,e,_⟩:=x;exact⟨_,e⟩
 | dK kvs=>obtain⟨_,_,_,_,o,_,_,e,_⟩:=x;exact⟨_,e⟩
 | dT kvs=>obtain⟨_,_,_,_,o,_,_,e,_⟩:=x;exact⟨_,e⟩
 | set S n=>refine q4x2 x λo _ _ _ e _=>?_;exact⟨_,e⟩
 | ins C dx fs=>refine q0x5 x λ_ _ _ e _=>?_;exact⟨_,e⟩
 | own y=>assumption
 | xd fs=>obtain⟨_,⟨_,_,_,e,_⟩,_⟩:=x;exact⟨_,e⟩
 | rng lo hi=>obtain⟨_,_,_,e⟩:=x;exact⟨_,e⟩
 | frz ob u=>refine q0x2 x λe _=>?_;exact⟨_,e⟩
 | tbl ps=>exact⟨_,x⟩
 | met f y=>exact⟨_,x⟩
 | ext φ=>obtain⟨_,⟨_,e⟩,_⟩:=x;exact⟨_,e⟩
section
variable {X:Cx}{af:List (Ul×Obj)}{σ:List (Option V)}{H:Hp}{s:Ui}{B h':Vn}{a C:Ul}
def wX (I:L2.Inv X af σ H s)(e:X.s₀.heap.get? b=Z o)(n:b∉X.fs):b∉vq X.stack:=λz=>by
 rcases Va.mp (I.stkSub b z) with q|q
 ·have h1:=Ut e;rw[q] at h1;exact absurd (Ux h1 I.ok.above) (Wi _)
 ·exact n q
def CU {h h':Vn}(u:h.UpToSlots h')(x:h.IsCell c v):h'.IsCell c v:=by
 refine q1x2 x λo e d=>?_;refine q1x1 (u c o e λvs q=>by grind) λsl e'=>?_
 exact⟨_,e',d⟩
def Ey (I:L2.Inv X af σ H s)(eN:Pz X af H B)(hB:B.StaysIn s.heap)(hB':B.StaysIn h')(up:s.heap.UpToSlots h'):L2.Inv X af σ H {s with heap:=h'}:=by
 have keepB:∀b o o',B.get? b=Z o'->s.heap.get? b=Z o->h'.get? b=Z o:=λb o o' e1 e2=>by
  have:=hB b o' e1;rw[e2] at this;cases this;exact hB' b _ e1
 refine⟨I.ok,I.os,I.bare,⟨λb o e n nf nx=>?_,λb o e n hf nx=>?_,λb o e n nx=>I.base.free b o e n nx,λb o e nx=>?_,I.base.tups,I.base.frzs,I.base.tbls⟩,?_,λx c e=>?_,I.free,I.freeC,λp hp=>?_,λb o e=>?_,I.len⟩
 ·refine q1x1 (eN.old b o e nx (wX I e nf)) λo' e'=>?_;exact keepB b o o' e' (I.base.keep b o e n nf nx)
 ·refine q1x1 (I.base.slot b o e n hf nx) λsl e1=>?_;obtain⟨_,ob,e2,nf⟩:=I.funs.mem hf;rw[e1] at e2;cases e2;refine q1x1 (up b _ e1 nf) λsl' e3=>?_;exact⟨sl',e3⟩
 ·by_cases hf:b∈X.fs
  ·obtain⟨_,ob,e2,nf⟩:=I.funs.mem hf;refine q1x1 (up b _ e2 nf) λsl' e3=>?_;exact⟨_,e3⟩
  ·refine q1x1 (eN.old b o e nx (wX I e hf)) λo' e'=>?_;exact⟨o',hB' b o' e'⟩
 ·refine q1x2 I.loc λm hn hl=>?_;refine⟨m,up.ns hn,λi x v e1 e2 e3=>?_⟩;refine q1x2 (hl i x v e1 e2 e3) λu r lk=>?_;refine⟨u,r,?_⟩;rcases lk with lk|⟨k,c,ec,ic⟩
  ·exact .inl lk
  ·exact .inr ⟨k,c,ec,CU up ic⟩
 ·refine q1x1 (I.cell x c e) λv ic=>?_;exact⟨v,CU up ic⟩
 ·refine q0x5 (I.pin p hp) λe n ne nf d=>?_;refine q1x1 (eN.pin p hp) λo' e'=>?_;exact⟨keepB p.1 p.2 o' e' e,n,ne,nf,d⟩
 ·refine(I.hok b o e).stay (λc u hc q=>?_) (λ_ q=>q) λ_ _ q=>q
  have:∃o,H c=Z o:=by
   rcases hc with z|z
   ·simp_all
   ·exact⟨_,z⟩
  refine q1x1 this λoc ec=>?_;refine q1x1 (eN.trk c oc ec) λo' e'=>?_;exact keepB c u o' e' q
def FQ (I:L2.Inv X af σ H s):Pz X af H (aav s.heap (vq X.stack)):=by
 refine⟨λb o e=>?_,λp hp=>?_,λb o e nx nf=>?_⟩
 ·refine q1x1 (u6 (I.hok b o e)) λu q=>?_;exact⟨u,Yw _ q λz=>by rw[I.stkFree b z] at e;grind⟩
 ·refine q0x5 (I.pin p hp) λe n ne nf d=>?_;exact⟨p.2,Yw _ e λz=>by
   rcases Va.mp (I.stkSub _ z) with q|q
   ·exact ne q
   ·exact nf q⟩
 ·refine q1x1 (I.base.there b o e nx) λo' e'=>?_;exact⟨o',Yw _ e' nf⟩
def zb (I:L2.Inv X af σ H s):s.heap.FunFrames (aav s.heap (vq X.stack)) X.stack:=
 W.funFrames_hide I.stack λenv he b hb=>ZP.mpr ⟨env,he,hb⟩
def DD (I:L2.Inv X af σ H {s with heap:=h})(m:abv h s.heap a (.ref C) vs):H a=Y:=by
 cases q:H a with
 | none=>rfl
 | some o=>
  refine q1x1 (u6 (I.hok a o q)) λu e=>?_;rw[m.new] at e;grind
end
def jF (P:UI)(w:UN):LS:=λouter H s E e s'=>∃a C H' B a0,e=.ref a/\s'.os=s.os/\Yp s'.gens/\Un (vq outer) [] H H' s.heap s'.heap/\mY P w H' s'.heap/\H' a=Y/\
 aaj B outer a (.ref C) a0 s'.heap/\(∀b o,H' b=Z o->∃o',B.get? b=Z o')/\(∀b o,s.heap.get? b=Z o->b∉vq outer->∃o',B.get? b=Z o')/\E (.ref C) (Z a) H'
def oT {K:Uu}{a:Ul}
  (fl:SI (iS (jF P w) P w K mg base N qual scope f cdv A outer s H E) H' a C s') (hE:E (.ref C) (Z a) H'):(iS (jF P w) P w K mg base N qual scope f cdv A outer s H E).xe (.ref a) s':=by
 show Uq (UA P w) (A.deeper (WR qual scope s.heap.objs.size f cdv)) (leaving (WR qual scope s.heap.objs.size f cdv) (.ref a)) (λ_ s''=>jF P w outer H s E (.ref a) s'') (λe' s''=>jF P w outer H s E e' s'') s';refine q2x1 fl λaf σ fl=>?_;have key:∀(B:Vn) (a0:Uh) (h':Vn) (I:L2.Inv (iS (jF P w) P w K mg base N qual scope f cdv A outer s H E) af σ H' s'),B.StaysIn s'.heap->Pz (iS (jF P w) P w K mg base N qual scope f cdv A outer s H E) af H' B->H' a=Y->
   aaj B outer a (.ref C) a0 h'->s'.heap.UpToSlots h'->jF P w outer H s E (.ref a) {s' with heap:=h'}:=λB a0 h' I hB eN hn fl' up=>by
  have I':=Ey I eN hB fl'.1 up;refine⟨a,C,H',B,a0,rfl,I'.os,I'.bare,I'.base,I'.hok,hn,fl',eN.trk,λb o e nf=>?_,hE⟩;exact eN.old b o e (by show b∉([]:List Ul);simp) (wX I e nf)
 rcases fl with⟨h,vs,I,m⟩|⟨I,hn,B,a0,fl,eN⟩|⟨I,hn,B,a0,L,hL,held,eN⟩
 ·have eN:=FQ I;have hid:∀b o,(aav h (vq (iS (jF P w) P w K mg base N qual scope f cdv A outer s H E).stack)).get? b=Z o->h.get? b=Z o:=λb o q=>W.of_hideAll _ q
  refine wpAny_leaves_madeW  (outer:=outer) I.ok.frames rfl hid (zb I) m λh' t x1 x2 x3 x4=>?_
  exact key _ _ h' (I.kept (t':=s'.toks) (h':=s'.heap) m.keeps) (λb o q=>m.keeps b o (hid b o q)) eN (DD I m) x1 x4
 ·refine wpAny_leaves_onW  (outer:=outer) I.ok.frames rfl fl λh' x1 x2=>?_
  exact key B a0 h' I fl.1 eN hn x1 x2
 ·unfold leaving;refine Ud (wpAny_noteFrame_againW hL held.2.2.2 ?_);refine wpAny_landsW held λh' x1 x2=>?_
  obtain⟨k1,k2,⟨_,_,k3⟩,k4⟩:=x1;exact key B a0 h' I held.1 eN hn ⟨k1,k2,k3,k4⟩ x2
def Dk (I:L2.Inv X af σ H s)(h:jF X.prog X.w X.stack H s E e s'):∃a C H',e=.ref a/\SI X H' a C s'/\E (.ref C) (Z a) H':=by
 obtain⟨a,C,H',B,a0,rfl,os,bare,un,hok,hn,fl,trk,old,hE⟩:=h;refine⟨a,C,H',rfl,⟨af,σ,.inr (.inl ⟨I.call' os un hok bare (λb z=>absurd z (by simp)),hn,B,a0,fl,trk,λp hp=>?_,λb o eb nx nf=>?_⟩)⟩,hE⟩
 ·refine q0x5 (I.pin p hp) λeb n ne nf d=>?_;exact old p.1 p.2 eb λz=>by
   rcases Va.mp (I.stkSub _ z) with q|q
   ·exact ne q
   ·exact nf q
 ·refine q1x1 (I.base.there b o eb nx) λo' e'=>?_;exact old b o' e' nf
inductive D where
 | non|bl (b:Bool)|int (i:Int)|str (x:Str)|tup (xs:List D)|lst (xs:List D)|ro (xs:List D)|mr (i:Nat)|exc (c:Str)|any
instance:Inhabited D:=⟨.non⟩
inductive MO where
 | lst (xs:List D)|obj (c:Str) (fs:List (Str×D))|dK (kvs:List (bM×D))|dT (kvs:List (List bM×D))
instance:Inhabited MO:=⟨.lst []⟩
abbrev ay:=List MO
abbrev fE:=List (Option D)
inductive bc (α:Type) where
 | ok (a:α) (M:ay)
 | err (c:Str) (M:ay)
 | bad
noncomputable def bc.bind {α β:Type}(o:bc α)(f:α->ay->bc β):bc β:=
 match o with
 | .ok a M=>f a M
 | .err c M=>.err c M
 | .bad=>.bad
@[simp] theorem az (a:α) (M:ay) (f:α->ay->bc β):(bc.ok a M).bind f=f a M:=by rfl
@[simp] theorem PN {α β:Type} (c:Str) (M:ay) (f:α->ay->bc β):(bc.err c M:bc α).bind f=.err c M:=by rw[bc.bind]
@[simp] theorem P4 {α β:Type} (f:α->ay->bc β):(bc.bad:bc α).bind f=.bad:=by rw[bc.bind]
def Uc (K:Uu)(a:Ul)(xs:List V):Prop:=∃(o:Obj) (its:Array Uh) (n:Nat),K.lookup a=Z o/\o.cls=.type "tuple"/\o.data=.seq its n/\its.size<=Ur/\aV xs its.toList
def KL (K:Uu)(a:Ul)(xs:List V):Prop:=∃(o:Obj) (its:Array Uh) (n:Nat),K.lookup a=Z o/\o.cls=.type "list"/\o.dict=Y/\o.data=.seq its n/\its.size<=Ur/\aV xs its.toList
def pj (K:Uu)(θ:List Ul)(H:Hp)(a:Ul)(xs:List V):Prop:=H a=Z (.tup xs)/\a∉θ
def wf (θ:List Ul)(H:Hp)(a:Ul)(xs:List V):Prop:=H a=Z (.lst xs)/\a∉θ
def sL (K:Uu)(θ:List Ul)(H:Hp)(a:Ul)(xs:List V):Prop:=(Rd H a (.lst xs)/\a∉θ)\/KL K a xs
def pj.sq {K:Uu}{a:Ul}(h:pj K θ H a xs):sX K H a xs:=.inl (.inl h.1)
def wf.sq {K:Uu}{a:Ul}(h:wf θ H a xs):pe K H a xs:=.inl (.inl h.1)
def sL.sq {K:Uu}{a:Ul}(h:sL K θ H a xs):pe K H a xs:=by
 rcases h with⟨h,_⟩|h
 ·exact .inl h
 ·exact .inr h
def Sr (a C:Ul):HO:=.ext λh=>∃o,h.get? a=Z o/\o.cls=.ref C
mutual
def cC (K:Uu)(θ:List Ul)(H:Hp):D->V->Prop
 | .non,v=>v=.non
 | .bl b,v=>v=.bl b
 | .int i,v=>v=.int i
 | .str x,v=>v=.str x
 | .tup ds,v=>∃a vs,v=.ref a/\pj K θ H a vs/\a6 K θ H ds vs
 | .lst ds,v=>∃a vs,v=.ref a/\wf θ H a vs/\a6 K θ H ds vs
 | .ro ds,v=>∃a vs,v=.ref a/\sL K θ H a vs/\a6 K θ H ds vs
 | .mr i,v=>∃a,v=.ref a/\θ[i]?=Z a
 | .exc c,v=>∃a C,v=.ref a/\iM K c C/\H a=Z (Sr a C)/\a∉θ
 | .any,_=>True
def a6 (K:Uu)(θ:List Ul)(H:Hp):List D->List V->Prop
 | [],vs=>vs=[]
 | d::ds,vs=>∃v r,vs=v::r/\cC K θ H d v/\a6 K θ H ds r
end
def qj (K:W.Frag)(θ:List Addr)(H:Hp):List (Str×D)->List (Str×V)->Prop
 | [],vs=>vs=[]
 | (f,d)::fs,vs=>∃v r,vs=(f,v)::r/\cC K θ H d v/\qj K θ H fs r
def ow {κ:Type}(K:W.Frag)(θ:List Addr)(H:Hp):List (κ×D)->List (κ×V)->Prop
 | [],vs=>vs=[]
 | (k,d)::fs,vs=>∃v r,vs=(k,v)::r/\cC K θ H d v/\ow K θ H fs r
def vH (K:W.Frag)(θ:List Addr)(H:Hp):MO->Addr->Prop
 | .lst ds,a=>∃vs,H a=Z (.lst vs)/\a6 K θ H ds vs
 | .obj c fs,a=>∃C dx vs,iM K c C/\H a=Z (.ins C dx vs)/\qj K θ H fs vs
 | .dK kvs,a=>∃vs,H a=Z (.dK vs)/\ow K θ H kvs vs
 | .dT kvs,a=>∃vs,H a=Z (.dT vs)/\ow K θ H kvs vs
def cw:List Str:=["ink_shown","table_within","slots_given","cast_on_slots"]
def dD (x:Str):Str:=x++(".<locals>.<lambda>":Str)
def jC (c:Addr)(q:Str):HO:=.ext λh=>h.CodeRec (.ref c) q
def RL (ob:Obj):HO:=.frz ob (.ext λ_=>True)
structure nP (K:W.Frag)(H:Hp):Prop where
 tab:∀x,x∈cw->∀c P,W.tabIn K x=Z (c,P)->∃ps,H P=Z (.tbl ps)/\TriplesOk ps.toList/\∀pos cv,codeAmong pos ps.toList=Z cv->∃c',cv=.ref c'/\H c'=Z (jC c' (dD x))
 bm:∀x,x∈cw->∀c P,W.tabIn K x=Z (c,P)->∃bm ob,W.nsIn K mainGlobals "__builtins__"=Z (Z (.ref bm))/\H bm=Z (RL ob)/\ob.cls=.type "module"/\ob.dict=Z builtinsNs/\ob.data=.plain/\bm≠builtinsNs/\bm≠mainGlobals
def nP.of {K:W.Frag}(t:nP K H)(k1:∀b ps,H b=Z (.tbl ps)->H' b=Z (.tbl ps))(k2:∀b φ,H b=Z (.ext φ)->H' b=Z (.ext φ))(k3:∀b o u,H b=Z (.frz o u)->H' b=Z (.frz o u)):nP K H':=
 ⟨λx hx c P e=>by
  refine q1x3 (t.tab x hx c P e) λps h1 h2 h3=>?_;refine⟨ps,k1 _ _ h1,h2,λpos cv q=>?_⟩;refine q1x2 (h3 pos cv q) λc' e1 e2=>?_;exact⟨c',e1,k2 _ _ e2⟩,λx hx c P e=>by
  refine q2x3 (t.bm x hx c P e) λbm ob e1 e2 r=>?_;exact⟨bm,ob,e1,k3 _ _ _ e2,r⟩⟩
def nP.new {K:W.Frag}(t:nP K H)(hp:H p=Y):nP K (bB H p o):=
 t.of (λb ps e=>by rwa [ar (bF e hp)]) (λb φ e=>by rwa [ar (bF e hp)]) λb o u e=>by rwa [ar (bF e hp)]
def xi:HO->Bool
 | .tbl _=>false
 | .ext _=>false
 | .frz _ _=>false
 | _=>true
def nP.at_ {K:W.Frag}{a:Addr}(t:nP K H)(ha:H a=Z u)(hu:xi u=true):nP K (bB H a o):=
 t.of (λb ps e=>by rwa [ar (yu e ha (by intro z;subst z;cases hu))]) (λb φ e=>by rwa [ar (yu e ha (by intro z;subst z;cases hu))]) λb o u e=>by rwa [ar (yu e ha (by intro z;subst z;cases hu))]
structure Wr (K:W.Frag)(θ:List Addr)(H:Hp)(M:ay):Prop where
 len:θ.length=M.length
 nd:θ.Nodup
 at_:∀(i:Nat) a m,θ[i]?=Z a->M[i]?=Z m->vH K θ H m a
 tb:nP K H
structure mj (K:W.Frag)(θ:List Addr)(H:Hp)(σ:L2.St)(ρ:fE):Prop where
 len:ρ.length=σ.length
 at_:∀(i:Nat) d,ρ[i]?=Z (Z d)->∃v,σ[i]?=Z (Z v)/\cC K θ H d v
structure Grow (θ:List Addr)(H:Hp)(θ':List Addr)(H':Hp):Prop where
 ext:∃more,θ'=θ++more/\∀a∈more,H a=Y
 keep:∀b o,H b=Z o->b∉θ->(∀ps,o≠.tbl ps)->H' b=Z o
 tkeep:∀b ps,H b=Z (.tbl ps)->∃ps',H' b=Z (.tbl ps')
structure Go (K:W.Frag)(θ:List Addr)(H:Hp)(θ':List Addr)(H':Hp)(M':ay):Prop extends Grow θ H θ' H' where
 wr:Wr K θ' H' M'
section
variable {K:W.Frag}{θ θ' θ1 θ2:List Addr}{H H' H1 H2:Hp}{M M' M1 M2:ay}{a p:Addr}{σ:L2.St}{ρ:fE}
def Wr.tracked (w:Wr K θ H M)(h:a∈θ):H a≠Y:=by
 obtain⟨i,hi,e⟩:=mem_iff_getElem.mp h;have h2:i<M.length:=by rwa [<-w.len]
 have h3:=w.at_ i a _ (by simp_all) (getElem?_eq_getElem h2);cases q:M[i] with
 | lst ds=>
  rw[q] at h3;refine q1x2 h3 λvs e _=>?_
  simp_all
 | obj c fs=>
  rw[q] at h3;refine q3x3 h3 λC dx vs _ e _=>?_
  simp_all
 | dK kvs=>
  rw[q] at h3;refine q1x2 h3 λvs e _=>?_
  simp_all
 | dT kvs=>
  rw[q] at h3;refine q1x2 h3 λvs e _=>?_
  simp_all
def vH.plain (h:vH K θ H m a):∃o,H a=Z o/\xi o=true:=by
 cases m with
 | lst ds=>refine q1x2 h λvs e _=>?_;exact⟨_,e,rfl⟩
 | obj c fs=>refine q3x3 h λC dx vs _ e _=>?_;exact⟨_,e,rfl⟩
 | dK kvs=>refine q1x2 h λvs e _=>?_;exact⟨_,e,rfl⟩
 | dT kvs=>refine q1x2 h λvs e _=>?_;exact⟨_,e,rfl⟩
def Wr.plain (w:Wr K θ H M){i:Nat}(h:θ[i]?=Z a):∃o,H a=Z o/\xi o=true:=(w.at_ i a _ h (getElem?_eq_getElem (by rw[<-w.len];exact(Uk.mp h).1))).plain
def Wr.fresh (w:Wr K θ H M)(h:H p=Y):p∉θ:=λz=>w.tracked z h
def Grow.refl (θ:List Addr)(H:Hp):Grow θ H θ H:=⟨⟨[],by simp,λ_ z=>by cases z⟩,λ_ _ h _ _=>h,λb ps e=>⟨ps,e⟩⟩
def Go.refl (w:Wr K θ H M):Go K θ H θ H M:=⟨.refl θ H,w⟩
def Go.trans (a:Go K θ H θ1 H1 M1)(b:Go K θ1 H1 θ2 H2 M2):Go K θ H θ2 H2 M2:=by
 refine q1x2 a.ext λm1 e1 f1=>?_;refine q1x2 b.ext λm2 e2 f2=>?_;refine⟨⟨⟨m1++m2,by rw[e2,e1,append_assoc],λx hx=>?_⟩,λx o hx nx nt=>?_,λx ps e=>?_⟩,b.wr⟩
 ·rcases mem_append.mp hx with z|z
  ·exact f1 x z
  ·cases q:H x with
   | none=>rfl
   | some o=>
    exfalso
    by_cases nt:∃ps,o=.tbl ps
    ·refine q1x1 nt λps zz1=>?_;subst zz1;refine q1x1 (a.tkeep x ps q) λps' e'=>?_
     simp_all
    ·have:=a.keep x o q (by
     intro y;have nd:=b.wr.nd;rw[e2] at nd;exact(nodup_append.mp nd).2.2 x (by rw[e1];exact mem_append_left _ y) x z rfl) λps e'=>nt ⟨ps,e'⟩
     simp_all
 ·have h1:=a.keep x o hx nx nt;refine b.keep x o h1 ?_ nt;rw[e1];intro z
  simp_all
 ·refine q1x1 (a.tkeep x ps e) λps' e'=>?_;exact b.tkeep x ps' e'
def Grow.notin (g:Grow θ H θ' H')(h:H a=Z o)(n:a∉θ):a∉θ':=by
 refine q1x2 g.ext λm e f=>?_
 grind
def pj.grow (g:Grow θ H θ' H')(h:pj K θ H a xs):pj K θ' H' a xs:=⟨g.keep _ _ h.1 h.2 (by simp),g.notin h.1 h.2⟩
def wf.grow (g:Grow θ H θ' H')(h:wf θ H a xs):wf θ' H' a xs:=⟨g.keep _ _ h.1 h.2 (by simp),g.notin h.1 h.2⟩
def sL.grow (g:Grow θ H θ' H')(h:sL K θ H a xs):sL K θ' H' a xs:=by
 rcases h with⟨h|⟨o,h⟩,n⟩|h
 ·exact .inl ⟨.inl (g.keep _ _ h n (by simp)),g.notin h n⟩
 ·exact .inl ⟨.inr ⟨o,g.keep _ _ h n (by simp)⟩,g.notin h n⟩
 ·exact .inr h
mutual
theorem pI (g:Grow θ H θ' H'):∀(d:D) (v:V),cC K θ H d v->cC K θ' H' d v
 | .non,v,h=>h
 | .bl b,v,h=>h
 | .int i,v,h=>h
 | .str x,v,h=>h
 | .tup ds,v,h=>by
  refine q2x3 h λa vs e t r=>?_;exact⟨a,vs,e,t.grow g,dB g ds vs r⟩
 | .lst ds,v,h=>by
  refine q2x3 h λa vs e t r=>?_;exact⟨a,vs,e,t.grow g,dB g ds vs r⟩
 | .ro ds,v,h=>by
  refine q2x3 h λa vs e t r=>?_;exact⟨a,vs,e,t.grow g,dB g ds vs r⟩
 | .mr i,v,h=>by
  refine q1x2 h λa e t=>?_;refine q1x2 g.ext λm em _=>?_;refine⟨a,e,?_⟩;rw[em,getElem?_append_left (Uk.mp t).1];exact t
 | .exc c,v,h=>by
  refine q2x4 h λa C e k t n=>?_;exact⟨a,C,e,k,g.keep _ _ t n (by intro _ z;cases z),g.notin t n⟩
 | .any,v,h=>h
theorem dB (g:Grow θ H θ' H'):∀(ds:List D) (vs:List V),a6 K θ H ds vs->a6 K θ' H' ds vs
 | [],vs,h=>h
 | d::ds,vs,h=>by
  refine q2x3 h λv r e h1 h2=>?_;exact⟨v,r,e,pI g d v h1,dB g ds r h2⟩
end
def cC.go (h:cC K θ H d v)(g:Go K θ H θ' H' M'):cC K θ' H' d v:=pI g.toGrow d v h
def a6.go (h:a6 K θ H ds vs)(g:Go K θ H θ' H' M'):a6 K θ' H' ds vs:=dB g.toGrow ds vs h
def mj.go (h:mj K θ H σ ρ)(g:Go K θ H θ' H' M'):mj K θ' H' σ ρ:=⟨h.len,λi d e=>let ⟨v,e1,e2⟩:=h.at_ i d e;⟨v,e1,e2.go g⟩⟩
theorem av:∀{ds:List D} {vs:List V},a6 K θ H ds vs->ds.length=vs.length
 | [],vs,h=>by cases (h);rfl
 | d::ds,vs,h=>by
  refine q2x3 h λv r e _ h2=>?_;subst e;rw[length_cons,length_cons,av h2]
theorem cH:∀{ds es:List D} {vs us:List V},a6 K θ H ds vs->a6 K θ H es us->a6 K θ H (ds++es) (vs++us)
 | [],es,vs,us,h,k=>by cases (h);exact k
 | d::ds,es,vs,us,h,k=>by
  refine q2x3 h λv r e h1 h2=>?_;subst e;exact⟨v,r++us,rfl,h1,cH h2 k⟩
theorem dW:∀{ds:List D} {vs:List V} {i:Nat} {d:D},a6 K θ H ds vs->ds[i]?=Z d->∃v,vs[i]?=Z v/\cC K θ H d v
 | [],vs,i,d,h,e=>by simp_all
 | x::ds,vs,0,d,h,e=>by
  refine q2x3 h λv r e1 h1 h2=>?_;subst e1;simp at e;subst e;exact⟨v,rfl,h1⟩
 | x::ds,vs,i+1,d,h,e=>by
  refine q2x3 h λv r e1 h1 h2=>?_;subst e1;refine q1x2 (dW  h2 (by assumption)) λu e2 h3=>?_;exact⟨u,by assumption,h3⟩
theorem qL:∀{ds:List D} {vs:List V} (n:Nat),a6 K θ H ds vs->a6 K θ H (ds.take n) (vs.take n)
 | ds,vs,0,h=>by rfl
 | [],vs,n+1,h=>by cases (h);rfl
 | d::ds,vs,n+1,h=>by
  refine q2x3 h λv r e h1 h2=>?_;subst e;exact⟨v,r.take n,rfl,h1,qL n h2⟩
theorem qS:∀{ds:List D} {vs:List V} (n:Nat),a6 K θ H ds vs->a6 K θ H (ds.drop n) (vs.drop n)
 | ds,vs,0,h=>h
 | [],vs,n+1,h=>by cases (h);rfl
 | d::ds,vs,n+1,h=>by
  refine q2x3 h λv r e h1 h2=>?_;subst e;exact qS n h2
theorem zn (hd:cC K θ H d v):∀{ds:List D} {vs:List V} (i:Nat),a6 K θ H ds vs->a6 K θ H (ds.set i d) (vs.set i v)
 | [],vs,i,h=>by cases (h);rfl
 | x::ds,vs,0,h=>by
  refine q2x3 h λu r e h1 h2=>?_;subst e;exact⟨v,r,rfl,hd,h2⟩
 | x::ds,vs,i+1,h=>by
  refine q2x3 h λu r e h1 h2=>?_;subst e;exact⟨u,r.set i v,rfl,h1,zn hd i h2⟩
def pV (w:Wr K θ H M)(hp:H p=Y):Grow θ H θ (bB H p o):=
 ⟨⟨[],by simp,λ_ z=>by cases z⟩,λb u h _ _=>by rwa [ar (bF h hp)],λb ps h=>⟨ps,by rwa [ar (bF h hp)]⟩⟩
theorem rF (g:Grow θ H θ' H'):∀{fs:List (Str×D)} {vs:List (Str×V)},qj K θ H fs vs->qj K θ' H' fs vs
 | [],vs,h=>h
 | (f,d)::fs,vs,h=>by
  refine q2x3 h λv r e h1 h2=>?_;exact⟨v,r,e,pI g d v h1,rF g h2⟩
theorem kL (g:Grow θ H θ' H'):∀{fs:List (κ×D)} {vs:List (κ×V)},ow K θ H fs vs->ow K θ' H' fs vs
 | [],vs,h=>h
 | (f,d)::fs,vs,h=>by
  refine q2x3 h λv r e h1 h2=>?_;exact⟨v,r,e,pI g d v h1,kL g h2⟩
def vH.grow (g:Grow θ H θ' H')(hs:H' a=H a)(h:vH K θ H m a):vH K θ' H' m a:=by
 cases m with
 | lst ds=>
  refine q1x2 h λvs e r=>?_;exact⟨vs,by rwa [hs],dB g ds vs r⟩
 | obj c fs=>
  refine q3x3 h λC dx vs k e r=>?_;exact⟨C,dx,vs,k,by rwa [hs],rF g r⟩
 | dK kvs=>
  refine q1x2 h λvs e r=>?_;exact⟨vs,by rwa [hs],kL g r⟩
 | dT kvs=>
  refine q1x2 h λvs e r=>?_;exact⟨vs,by rwa [hs],kL g r⟩
def cQ (w:Wr K θ H M)(hp:H p=Y):Go K θ H θ (bB H p o) M:=
 ⟨pV w hp,w.len,w.nd,λi a m h1 h2=>(w.at_ i a m h1 h2).grow (pV w hp) (ar (λe=>w.fresh hp (by rw[<-e];exact mem_of_getElem? h1))),w.tb.new hp⟩
def gH (w:Wr K θ H M)(hp:H p=Y)(r:a6 K θ H ds vs):cC K θ (bB H p (.tup vs)) (.tup ds) (.ref p):=
 ⟨p,vs,rfl,⟨aX,w.fresh hp⟩,dB (pV w hp) ds vs r⟩
def ik (w:Wr K θ H M)(hp:H p=Y)(r:a6 K θ H ds vs):cC K θ (bB H p (.lst vs)) (.lst ds) (.ref p):=
 ⟨p,vs,rfl,⟨aX,w.fresh hp⟩,dB (pV w hp) ds vs r⟩
def wy (hp:H p=Y):Grow θ H (θ++[p]) (bB H p o):=
 ⟨⟨[p],rfl,λa ha=>by rwa [mem_singleton.mp ha]⟩,λb u h _ _=>by rwa [ar (bF h hp)],λb ps h=>⟨ps,by rwa [ar (bF h hp)]⟩⟩
def wW (w:Wr K θ H M)(hp:H p=Y)(hm:vH K (θ++[p]) (bB H p o) m p):Go K θ H (θ++[p]) (bB H p o) (M++[m]):=by
 have np:=w.fresh hp;have g:Grow θ H (θ++[p]) (bB H p o):=wy hp;refine⟨g,by rw[length_append,length_append,w.len];rfl,?_,λi a m' h1 h2=>?_,w.tb.new hp⟩
 ·rw[nodup_append];exact⟨w.nd,by simp,λx hx y hy e=>np (by simp_all)⟩
 ·by_cases hi:i<θ.length
  ·rw[getElem?_append_left hi] at h1;rw[getElem?_append_left (by rw[<-w.len];exact hi)] at h2;exact(w.at_ i a m' h1 h2).grow g (ar (λe=>np (by rw[<-e];exact mem_of_getElem? h1)))
  ·have hi':i=θ.length:=by
    have:=(Uk.mp h1).1;rw[length_append,length_singleton] at this;omega
   subst hi';rw[getElem?_append_right (Uj _)] at h1;rw[getElem?_append_right (by rw[w.len];exact Uj _)] at h2;simp only[XZ,w.len,getElem?_cons_zero,Wf] at h1 h2;subst h1;subst h2;exact hm
def HA (w:Wr K θ H M)(hp:H p=Y)(r:a6 K θ H ds vs):Go K θ H (θ++[p]) (bB H p (.lst vs)) (M++[.lst ds]):=
 wW w hp ⟨vs,aX,dB (wy hp) ds vs r⟩
def qB {i:Nat}(w:Wr K θ H M)(hi:θ[i]?=Z a):Grow θ H θ (bB H a o):=by
 refine q1x2 (w.plain hi) λu hu pu=>?_;exact⟨⟨[],by simp,λ_ z=>by cases z⟩,λb u h n _=>by rwa [ar (λe=>n (by rw[e];exact(mem_of_getElem? hi)))],λb ps h=>⟨ps,by rwa [ar (yu h hu (by intro z;subst z;cases pu))]⟩⟩
def tD (w:Wr K θ H M)(hi:θ[i]?=Z a)(hm:vH K θ (bB H a o) m a):Go K θ H θ (bB H a o) (M.set i m):=by
 have g:Grow θ H θ (bB H a o):=qB w hi;refine q1x2 (w.plain hi) λu hu pu=>?_;refine⟨g,by rw[length_set];exact w.len,w.nd,λj b m' h1 h2=>?_,w.tb.at_ hu pu⟩
 by_cases hj:j=i
 ·subst hj;have hl:j<M.length:=by rw[<-w.len];exact(Uk.mp hi).1
  simp_all
 ·rw[getElem?_set_ne (Vl hj)] at h2;exact(w.at_ j b m' h1 h2).grow g (ar (λe=>by
   subst e;refine q1x1 (Uk.mp h1) λh3 e3=>?_;refine q1x1 (Uk.mp hi) λh4 e4=>?_;exact hj ((getElem_inj w.nd).mp (e3.trans e4.symm))))
def ye {ds:List D}(w:Wr K θ H M)(hi:θ[i]?=Z a)(r:a6 K θ H ds' vs'):Go K θ H θ (bB H a (.lst vs')) (M.set i (.lst ds')):=
 tD w hi ⟨vs',aX,dB (qB w hi) ds' vs' r⟩
end
abbrev GE:=fE->ay->bc D
abbrev GT:=fE->ay->bc Bool
abbrev GA:=fE->ay->bc (List D)
inductive Fl where
 | nx (ρ:fE)|rt (d:D)|bk (ρ:fE)|ct (ρ:fE)
abbrev GS:=fE->ay->bc Fl
def eT (X:Cx)(θ:List Addr)(H:Hp)(c:Str)(M:ay):Prop:=∀C θ' H' a s',iM X.K c C->Go X.K θ H θ' H' M->SI X H' a C s'->X.xe (.ref a) s'
def aK (X:Cx)(θ:List Addr)(H:Hp)(Q:VK):bc D->Prop
 | .ok d M'=>∀v θ' H',Go X.K θ H θ' H' M'->cC X.K θ' H' d v->Q v H'
 | .err c M'=>eT X θ H c M'
 | .bad=>False
def qO (X:Cx)(θ:List Addr)(H:Hp)(Q:Bool->Hp->Prop):bc Bool->Prop
 | .ok b M'=>∀θ' H',Go X.K θ H θ' H' M'->Q b H'
 | .err c M'=>eT X θ H c M'
 | .bad=>False
def D6 (X:Cx)(θ:List Addr)(H:Hp)(Q:List V->Hp->Prop):bc (List D)->Prop
 | .ok ds M'=>∀vs θ' H',Go X.K θ H θ' H' M'->a6 X.K θ' H' ds vs->Q vs H'
 | .err c M'=>eT X θ H c M'
 | .bad=>False
def bR (X:Cx)(θ:List Addr)(H:Hp)(D:DH):bc Fl->Prop
 | .ok (.nx ρ) M'=>∀σ θ' H',Go X.K θ H θ' H' M'->mj X.K θ' H' σ ρ->D.nx σ H'
 | .ok (.bk ρ) M'=>∀σ θ' H',Go X.K θ H θ' H' M'->mj X.K θ' H' σ ρ->D.bk σ H'
 | .ok (.ct ρ) M'=>∀σ θ' H',Go X.K θ H θ' H' M'->mj X.K θ' H' σ ρ->D.ct σ H'
 | .ok (.rt d) M'=>∀v θ' H',Go X.K θ H θ' H' M'->cC X.K θ' H' d v->D.rt v H'
 | .err c M'=>eT X θ H c M'
 | .bad=>False
def tE (X:Cx)(g:GE):TE:=λσ H Q=>∃ρ θ M,mj X.K θ H σ ρ/\Wr X.K θ H M/\aK X θ H Q (g ρ M)
def tT (X:Cx)(g:GT):TT:=λσ H Q=>∃ρ θ M,mj X.K θ H σ ρ/\Wr X.K θ H M/\qO X θ H Q (g ρ M)
def tA (X:Cx)(g:GA):TA:=λσ H Q=>∃ρ θ M,mj X.K θ H σ ρ/\Wr X.K θ H M/\D6 X θ H Q (g ρ M)
def tS (X:Cx)(g:GS):TS:=λD σ H=>∃ρ θ M,mj X.K θ H σ ρ/\Wr X.K θ H M/\bR X θ H D (g ρ M)
section
variable {X:Cx}{θ θ':List Addr}{H H':Hp}{M':ay}
def eT.go (g:Go X.K θ H θ' H' M')(h:eT X θ H c M):eT X θ' H' c M:=λC θ2 H2 a s' k g2 fl=>h C θ2 H2 a s' k (g.trans g2) fl
def aK.go (g:Go X.K θ H θ' H' M')(h:aK X θ H Q o):aK X θ' H' Q o:=by
 cases o with
 | ok d M=>exact λv θ2 H2 g2=>h v θ2 H2 (g.trans g2)
 | err c M=>exact eT.go   g h
 | bad=>exact h
def qO.go (g:Go X.K θ H θ' H' M')(h:qO X θ H Q o):qO X θ' H' Q o:=by
 cases o with
 | ok d M=>exact λθ2 H2 g2=>h θ2 H2 (g.trans g2)
 | err c M=>exact eT.go   g h
 | bad=>exact h
def D6.go (g:Go X.K θ H θ' H' M')(h:D6 X θ H Q o):D6 X θ' H' Q o:=by
 cases o with
 | ok d M=>exact λv θ2 H2 g2=>h v θ2 H2 (g.trans g2)
 | err c M=>exact eT.go   g h
 | bad=>exact h
def bR.go {D:DH}(g:Go X.K θ H θ' H' M')(h:bR X θ H D o):bR X θ' H' D o:=by
 cases o with
 | ok f M=>cases f <;> exact λv θ2 H2 g2=>h v θ2 H2 (g.trans g2)
 | err c M=>exact eT.go   g h
 | bad=>exact h
end
section
variable {X:Cx}{e:Expr}
def _root_.L2.PE.of {t:TE}(h:PE X e t)(w:∀σ H Q,t' σ H Q->t σ H Q):PE X e t':=λaf s σ H Q I q=>h af s σ H Q I (w σ H Q q)
def _root_.L2.PT.of {t:TT}(h:PT X e t)(w:∀σ H Q,t' σ H Q->t σ H Q):PT X e t':=λaf s σ H Q I q=>h af s σ H Q I (w σ H Q q)
def _root_.L2.PW.of {t:TT}(h:PW X e t)(w:∀σ H Q,t' σ H Q->t σ H Q):PW X e t':=λwh af s σ H Q I q=>h wh af s σ H Q I (w σ H Q q)
def _root_.L2.PA.of {t:TA}(h:PA X es t)(w:∀σ H Q,t' σ H Q->t σ H Q):PA X es t':=λpos af s σ H Q I q=>h pos af s σ H Q I (w σ H Q q)
def _root_.L2.PS.of {st:Stmt}{t:TS}(h:PS X st t)(w:∀D σ H,t' D σ H->t D σ H):PS X st t':=λaf s σ H D I q=>h af s σ H D I (w D σ H q)
def _root_.L2.PSs.of {st:List Stmt}{t:TS}(h:PSs X st t)(w:∀D σ H,t' D σ H->t D σ H):PSs X st t':=λaf s σ H D I q=>h af s σ H D I (w D σ H q)
def bi (hd:mj X.K θ H σ ρ)(hw:Wr X.K θ H M)(F:bc α->Prop)(Fe:∀c M',F (.err c M')->eT X θ H c M')(Fb:F .bad->False)
  {f:D->ay->bc α} (h:F ((g ρ M).bind f))
  (k:∀d M1 v θ1 H1,Go X.K θ H θ1 H1 M1->cC X.K θ1 H1 d v->F (f d M1)->Q v H1):tE X g σ H Q:=by
 refine⟨ρ,θ,M,hd,hw,?_⟩;cases q:g ρ M with
 | ok d M1=>
  rw[q] at h;exact λv θ1 H1 g1 r1=>k d M1 v θ1 H1 g1 r1 h
 | err c M1=>rw[q] at h;exact Fe c M1 h
 | bad=>simp_all
def ae (i:Nat):GE:=λρ M=>match ρ[i]? with
 | some (Z d)=>.ok d M
 | _=>.bad
def gC (d:D):GE:=λ_ M=>.ok d M
def OD (h:PE X e (Oc i)):PE X e (tE X (ae i)):=h.of λσ H Q hxx=>by
 refine q3x3 hxx λρ θ M hd hw f=>?_;unfold ae at f;split at f
 ·rename_i d q;refine q1x2 (hd.at_ i d q) λv e1 r=>?_;exact⟨v,e1,f v θ H (.refl hw) r⟩
 ·exact f.elim
abbrev F2:=D->D->ay->bc D
def g2 (f:F2)(ga gb:GE):GE:=λρ M=>(ga ρ M).bind λx M1=>(gb ρ M1).bind λy M2=>f x y M2
def rD (X:Cx)(f:F2):R2:=λx y H Q=>∃θ M dx dy,Wr X.K θ H M/\cC X.K θ H dx x/\cC X.K θ H dy y/\aK X θ H Q (f dx dy M)
def CG (h:tE X (g2 f ga gb) σ H Q):Pe (rD X f) (tE X ga) (tE X gb) σ H Q:=by
 refine q3x3 h λρ θ M hd hw h=>?_;refine bi hd hw (aK X θ H Q) (λc M' h=>h) (λh=>h) h λdx M1 x θ1 H1 g1 r1 h1=>?_
 refine bi (hd.go g1) g1.wr (aK X θ1 H1 Q) (λc M' h=>h) (λh=>h) (h1.go g1) λdy M2 y θ2 H2 g2 r2 h2=>?_
 exact⟨θ2,M2,dx,dy,g2.wr,r1.go g2,r2,h2.go g2⟩
def Oa {a:Expr}(ho:ph X (compareOp op) (rD X f))(ha:PE X a (tE X ga))(hb:PE X b (tE X gb))(hm:behindInMarks op b=false):PE X (.Compare a [op] [b] pos) (tE X (g2 f ga gb)):=
 (JR ho ha hb hm).of λ_ _ _ h=>CG h
def TD:D->ay->bc Bool
 | .bl b,M=>.ok b M
 | _,_=>.bad
def aH (g:GE):GT:=λρ M=>(g ρ M).bind TD
def EV (h:qO X θ H Q (o.bind TD)):aK X θ H (λx H'=>∃k,x=.bl k/\Q k H') o:=by
 cases o with
 | ok d M=>
  cases d with
  | bl b=>exact λv θ1 H1 g1 r1=>⟨b,r1,h θ1 H1 g1⟩
  | _=>exact h.elim
 | err c M=>exact h
 | bad=>exact h
def GV (h:tT X (aH g) σ H Q):tE X g σ H λx H'=>∃k,x=.bl k/\Q k H':=by
 refine q3x3 h λρ θ M hd hw h=>?_;exact⟨ρ,θ,M,hd,hw,EV h⟩
def E8 {a:Expr}(ho:ph X (compareOp op) (rD X f))(ha:PE X a (tE X ga))(hb:PE X b (tE X gb))(hm:behindInMarks op b=false):PT X (.Compare a [op] [b] pos) (tT X (aH (g2 f ga gb))):=
 (IP ho ha hb hm).of λσ H Q h=>CG (GV h)
def Aq (f f':F2)(ga gb gc:GE):GE:=λρ M=>(ga ρ M).bind λx M1=>(gb ρ M1).bind λy M2=>(f x y M2).bind λz M3=>match z with
 | .bl true=>(gc ρ M3).bind λw M4=>f' y w M4
 | .bl false=>.ok (.bl false) M3
 | _=>.bad
def KP (h:tE X (Aq f f' ga gb gc) σ H Q):AQ (rD X f) (rD X f') (tE X ga) (tE X gb) (tE X gc) σ H Q:=by
 refine q3x3 h λρ θ M hd hw h=>?_;refine bi hd hw (aK X θ H Q) (λc M' h=>h) (λh=>h) h λdx M1 x θ1 H1 g1 r1 h1=>?_
 refine bi (hd.go g1) g1.wr (aK X θ1 H1 Q) (λc M' h=>h) (λh=>h) (h1.go g1) λdy M2 y θ2 H2 g2 r2 h2=>?_
 refine⟨θ2,M2,dx,dy,g2.wr,r1.go g2,r2,?_⟩;have h3:=h2.go g2;cases q:f dx dy M2 with
 | ok z M3=>
  rw[q] at h3;intro v θ3 H3 g3 r3;cases z with
  | bl k=>
   refine⟨k,r3,?_⟩;cases k with
   | true=>
    refine bi ((hd.go g1).go (g2.trans g3)) g3.wr (aK X θ3 H3 Q) (λc M' h=>h) (λh=>h) (h3.go g3) λdw M4 w θ4 H4 g4 r4 h4=>?_
    exact⟨θ4,M4,dy,dw,g4.wr,r2.go (g3.trans g4),r4,h4.go g4⟩
   | false=>
    exact h3 _ θ3 H3 g3 rfl
  | _=>exact h3.elim
 | err c M3=>rwa [q] at h3
 | bad=>rwa [q] at h3
def fu (a b:GT):GT:=λρ M=>(a ρ M).bind λc M1=>if c then b ρ M1 else .ok false M1
def je (a b:GT):GT:=λρ M=>(a ρ M).bind λc M1=>if c then .ok true M1 else b ρ M1
def dE (a:GT):GT:=λρ M=>(a ρ M).bind λc M1=>.ok (!c) M1
def wD (hd:mj X.K θ H σ ρ)(hw:Wr X.K θ H M)(F:bc α->Prop)(Fe:∀c M',F (.err c M')->eT X θ H c M')(Fb:F .bad->False)
  {f:Bool->ay->bc α} (h:F ((g ρ M).bind f)) (k:∀d M1 θ1 H1,Go X.K θ H θ1 H1 M1->F (f d M1)->Q d H1):tT X g σ H Q:=by
 refine⟨ρ,θ,M,hd,hw,?_⟩;cases q:g ρ M with
 | ok d M1=>
  rw[q] at h;exact λθ1 H1 g1=>k d M1 θ1 H1 g1 h
 | err c M1=>rw[q] at h;exact Fe c M1 h
 | bad=>simp_all
variable {a b:Expr}{pos:Pos}{rest:List Expr}{ta tb:GT}{ga gb:GE}
def eR (a b:GE):GE:=λρ M=>(a ρ M).bind λx M1=>match x with
 | .bl true=>b ρ M1
 | .bl false=>.ok (.bl false) M1
 | _=>.bad
def RP (a b:GE):GE:=λρ M=>(a ρ M).bind λx M1=>match x with
 | .bl true=>.ok (.bl true) M1
 | .bl false=>b ρ M1
 | _=>.bad
def Gq (a:GT):GE:=λρ M=>(a ρ M).bind λc M1=>.ok (.bl (!c)) M1
def Fc (t:GT)(a b:GE):GE:=λρ M=>(t ρ M).bind λc M1=>if c then a ρ M1 else b ρ M1
def ag:GA:=λ_ M=>.ok [] M
def aa (g:GE)(r:GA):GA:=λρ M=>(g ρ M).bind λd M1=>(r ρ M1).bind λds M2=>.ok (d::ds) M2
def m5 (hd:mj X.K θ H σ ρ)(hw:Wr X.K θ H M)(F:bc α->Prop)(Fe:∀c M',F (.err c M')->eT X θ H c M')(Fb:F .bad->False)
  {f:List D->ay->bc α} (h:F ((g ρ M).bind f)) (k:∀ds M1 vs θ1 H1,Go X.K θ H θ1 H1 M1->a6 X.K θ1 H1 ds vs->F (f ds M1)->Q vs H1):tA X g σ H Q:=by
 refine⟨ρ,θ,M,hd,hw,?_⟩;cases q:g ρ M with
 | ok d M1=>
  rw[q] at h;exact λv θ1 H1 g1 r1=>k d M1 v θ1 H1 g1 r1 h
 | err c M1=>rw[q] at h;exact Fe c M1 h
 | bad=>simp_all
def Jn {gr:GA}(ha:PE X e (tE X ga))(hr:PA X es (tA X gr))(hs:starEach (e::es) X.env=(false,eval e X.env)::starEach es X.env:=by rfl):PA X (e::es) (tA X (aa ga gr)):=
 (nL ha hr hs).of λσ H Q hxx=>by
  refine q3x3 hxx λρ θ M hd hw h=>?_;refine bi hd hw (D6 X θ H Q) (λc M' h=>h) (λh=>h) h λd M1 v θ1 H1 g1 r1 h1=>?_
  refine m5 (hd.go g1) g1.wr (D6 X θ1 H1 Q) (λc M' h=>h) (λh=>h) (h1.go g1) λds M2 vs θ2 H2 g2 r2 h2=>?_
  exact h2 (v::vs) θ2 H2 g2 ⟨v,vs,rfl,r1.go g2,r2⟩
def v7 (ds:List D)(M:ay):bc D:=if ds.length<=sizeLine then .ok (.tup ds) M else .bad
def aO (ds:List D)(M:ay):bc D:=if ds.length<=sizeLine then .ok (.lst ds) M else .bad
def eU (ds:List D)(M:ay):bc D:=if ds.length<=sizeLine then .ok (.mr M.length) (M++[.lst ds]) else .bad
def aQ (g:GA):GE:=λρ M=>(g ρ M).bind v7
def jf (g:GA):GE:=λρ M=>(g ρ M).bind aO
def fZ (g:GA):GE:=λρ M=>(g ρ M).bind eU
def aK.tup (h:aK X θ H Q (v7 ds M))(hw:Wr X.K θ H M)(r:a6 X.K θ H ds vs):vs.length<=sizeLine/\∀p,H p=Y->Q (.ref p) (bB H p (.tup vs)):=by
 unfold v7 at h
 by_cases hl:ds.length<=sizeLine
 ·rw[if_pos hl] at h;exact⟨by rwa [<-av r],λp hp=>h _ θ _ (cQ hw hp) (gH hw hp r)⟩
 ·rw[if_neg hl] at h;exact h.elim
def aK.lst (h:aK X θ H Q (aO ds M))(hw:Wr X.K θ H M)(r:a6 X.K θ H ds vs):vs.length<=sizeLine/\∀p,H p=Y->Q (.ref p) (bB H p (.lst vs)):=by
 unfold aO at h
 by_cases hl:ds.length<=sizeLine
 ·rw[if_pos hl] at h;exact⟨by rwa [<-av r],λp hp=>h _ θ _ (cQ hw hp) (ik hw hp r)⟩
 ·rw[if_neg hl] at h;exact h.elim
def aK.mut (h:aK X θ H Q (eU ds M))(hw:Wr X.K θ H M)(r:a6 X.K θ H ds vs):vs.length<=sizeLine/\∀p,H p=Y->Q (.ref p) (bB H p (.lst vs)):=by
 unfold eU at h
 by_cases hl:ds.length<=sizeLine
 ·rw[if_pos hl] at h;refine⟨by rwa [<-av r],λp hp=>h _ (θ++[p]) _ (HA hw hp r) ⟨p,rfl,?_⟩⟩;rw[<-hw.len,getElem?_append_right (Uj _)];simp
 ·rw[if_neg hl] at h;exact h.elim
def Ms {x1}(h:PA X es (tA X g)):PE X (.Tuple es x1 pos) (tE X (aQ g)):=(Mj h).of λσ H Q ⟨ρ,θ,M,hd,hw,h⟩=>
 m5 hd hw (aK X θ H Q) (λc M' h=>h) (λh=>h) h λds M1 vs θ1 H1 g1 r1 h1=>aK.tup (aK.go g1 h1) g1.wr r1
def NS (h:PA X es (tA X g)):PE X (.List es pos) (tE X (jf g)):=(Hl h).of λσ H Q ⟨ρ,θ,M,hd,hw,h⟩=>
 m5 hd hw (aK X θ H Q) (λc M' h=>h) (λh=>h) h λds M1 vs θ1 H1 g1 r1 h1=>aK.lst (aK.go g1 h1) g1.wr r1
def NU (h:PA X es (tA X g)):PE X (.List es pos) (tE X (fZ g)):=(Hl h).of λσ H Q ⟨ρ,θ,M,hd,hw,h⟩=>
 m5 hd hw (aK X θ H Q) (λc M' h=>h) (λh=>h) h λds M1 vs θ1 H1 g1 r1 h1=>aK.mut (aK.go g1 h1) g1.wr r1
end
section
variable {K:W.Frag}{θ:List Addr}{H:Hp}{σ:L2.St}{ρ:fE}
def mj.set (h:mj K θ H σ ρ)(r:cC K θ H d v)(i:Nat):mj K θ H (σ.set i (Z v)) (ρ.set i (Z d)):=by
 refine⟨by rw[length_set,length_set];exact h.len,λj d' e=>?_⟩
 by_cases hj:j=i
 ·subst hj;have hl:j<ρ.length:=by
   have:=(Uk.mp e).1
   simp_all
  rw[getElem?_set_self hl] at e;have e':=by simpa using e
  subst e';exact⟨v,getElem?_set_self (by rwa [<-h.len]),r⟩
 ·rw[getElem?_set_ne (Vl hj)] at e;refine q1x2 (h.at_ j d' e) λu e1 r1=>?_;exact⟨u,by rwa [getElem?_set_ne (Vl hj)],r1⟩
end
def aG:GS:=λρ M=>.ok (.nx ρ) M
def aj (a b:GS):GS:=λρ M=>(a ρ M).bind λf M1=>match f with
 | .nx ρ1=>b ρ1 M1
 | .rt d=>.ok (.rt d) M1
 | .bk ρ1=>.ok (.bk ρ1) M1
 | .ct ρ1=>.ok (.ct ρ1) M1
def aL (i:Nat)(g:GE):GS:=λρ M=>(g ρ M).bind λd M1=>.ok (.nx (ρ.set i (Z d))) M1
def aF (g:GE):GS:=λρ M=>(g ρ M).bind λd M1=>.ok (.rt d) M1
def bI (g:GE):GS:=λρ M=>(g ρ M).bind λ_ M1=>.ok (.nx ρ) M1
def cD (t:GT)(a b:GS):GS:=λρ M=>(t ρ M).bind λc M1=>if c then a ρ M1 else b ρ M1
section
variable {X:Cx}{st:Stmt}{rest:List Stmt}{e:Expr}{g:GE}{t u:GS}{pos:Pos}
def Mi (hN:X.N.Nodup)(hi:X.N[i]?=Z x)(hx:Ep X.env.scope x)(he:PE X e (tE X g))(hs:swapsWith e (Z (.Name x pos')) pos.line X.env=pure false:=by rfl)(hf:X.fn x=true\/X.env.scope.names.lookup x=Z .local:=by first|exact .inl rfl|exact .inr rfl|assumption) :
  PS X (.Assign [.Name x pos'] e pos) (tS X (aL i g)):=(Oo hN hi hx he hs hf).of λD σ H ⟨ρ,θ,M,hd,hw,h⟩=>
 bi hd hw (bR X θ H D) (λc M' h=>h) (λh=>h) h λd M1 v θ1 H1 g1 r1 h1=>h1 _ θ1 H1 g1 ((hd.go g1).set r1 i)
abbrev GG:=D->fE->Option fE
def tG (X:Cx)(s:GG):TG:=λv σ H Q=>∃ρ θ M d,mj X.K θ H σ ρ/\Wr X.K θ H M/\cC X.K θ H d v/\∃ρ',s d ρ=Z ρ'/\∀σ',mj X.K θ H σ' ρ'->Q σ' H
def d7 (i:Nat):GG:=λd ρ=>Z (ρ.set i (Z d))
def CS:List Nat->List D->fE->Option fE
 | [],[],ρ=>Z ρ
 | i::is,d::ds,ρ=>CS is ds (ρ.set i (Z d))
 | _,_,_=>Y
def bN (is:List Nat):GG:=λd ρ=>match d with
 | .tup ds=>CS is ds ρ
 | _=>Y
def xO (hN:X.N.Nodup)(hi:X.N[i]?=Z x)(hx:Ep X.env.scope x)(hf:X.fn x=true\/X.env.scope.names.lookup x=Z .local:=by first|exact .inl rfl|exact .inr rfl|assumption):PG X (.Name x pos) (tG X (d7 i)):=by
 intro af s σ H v u Q I r h;obtain⟨ρ,θ,M,d,hd,hw,rd,ρ',e,h⟩:=h;cases e;exact KA hN hi hx hf af s σ H v u Q I r (h _ (hd.set rd i))
def TF (X:Cx)(is:List Nat):Lf:=λvs σ H Q=>∃ρ θ M ds,mj X.K θ H σ ρ/\Wr X.K θ H M/\a6 X.K θ H ds vs/\∃ρ',CS is ds ρ=Z ρ'/\∀σ',mj X.K θ H σ' ρ'->Q σ' H
def Nt {k:Nat}(hc:X.calm=true)(h:Mg X es (TF X is))(hl:is.length=n:=by rfl)
  (hn:(assignEach es X.env).length=n:=by rfl) (hst:(assignEach es X.env).findIdx? (·.1)=Y:=by rfl):PG X (.Tuple es k pos) (tG X (bN is)):=by
 intro af s σ H v u Q I r hw;obtain⟨ρ,θ,M,d,hd,hwr,rd,ρ',e1,hw⟩:=hw;cases d with
 | tup ds=>
  obtain⟨a,vs,e2,ta,rs⟩:=rd;have hlen:ds.length=is.length:=by
   have e1:=e1;clear hw hd hwr rs hn hst h hl
   induction is generalizing ds ρ with
   | nil=>
    cases ds with
    | nil=>rfl
    | cons _ _=>cases e1
   | cons i is ih=>
    cases ds with
    | nil=>cases e1
    | cons d ds=>rw[length_cons,length_cons,ih _ ds e1 e1]
  refine GX  hc h hn hst af s σ H v u Q I r ⟨a,vs,e2,ta.sq,by rw[<-av rs,hlen,hl],?_⟩;exact⟨ρ,θ,M,ds,hd,hwr,rs,ρ',e1,hw⟩
 | _=>cases e1
def vX:List GG->List D->fE->Option fE
 | [],[],ρ=>Z ρ
 | s::ss,d::ds,ρ=>match s d ρ with
  | some ρ1=>vX ss ds ρ1
  | none=>Y
 | _,_,_=>Y
def NG (ss:List GG):GG:=λd ρ=>match d with
 | .tup ds=>vX ss ds ρ
 | _=>Y
theorem wm:∀{ss:List GG} {ds:List D} {ρ ρ':fE},vX ss ds ρ=Z ρ'->ds.length=ss.length
 | [],[],_,_,_=>rfl
 | [],_::_,_,_,h=>by cases h
 | _::_,[],_,_,h=>by cases h
 | s::ss,d::ds,ρ,ρ',h=>by
  unfold vX at h;split at h
  ·rw[length_cons,length_cons,wm h]
  simp_all
def SE (X:Cx)(ss:List GG):Lf:=λvs σ H Q=>∃ρ θ M ds,mj X.K θ H σ ρ/\Wr X.K θ H M/\a6 X.K θ H ds vs/\∃ρ',vX ss ds ρ=Z ρ'/\∀σ',mj X.K θ H σ' ρ'->Q σ' H
def dM (s:GG)(g:GE):GS:=λρ M=>(g ρ M).bind λd M1=>match s d ρ with
 | some ρ1=>.ok (.nx ρ1) M1
 | none=>.bad
def yj (o i x:D)(M:ay):bc Unit:=match o,i with
 | .mr k,.int j=>match M[k]? with
  | some (.lst xs)=>match Co xs.length j with
   | some n=>.ok () (M.set k (.lst (xs.set n x)))
   | none=>.bad
  | _=>.bad
 | _,_=>.bad
def rA (go gi g:GE):GS:=λρ M=>(g ρ M).bind λx M1=>(go ρ M1).bind λo M2=>(gi ρ M2).bind λi M3=>(yj o i x M3).bind λ_ M4=>.ok (.nx ρ) M4
end
mutual
def IN:D->D->Bool
 | .non,.non=>true
 | .bl a,.bl b=>a==b
 | .int a,.int b=>a==b
 | .str a,.str b=>a==b
 | .tup a,.tup b=>nW a b
 | .lst a,.lst b=>nW a b
 | .ro a,.ro b=>nW a b
 | .mr a,.mr b=>a==b
 | .exc a,.exc b=>a==b
 | .any,.any=>true
 | _,_=>false
def nW:List D->List D->Bool
 | [],[]=>true
 | a::as,b::bs=>IN a b&&nW as bs
 | _,_=>false
end
def ff {P:Prop}(h:false=true):P:=absurd h Uy
mutual
theorem Jv:∀(a b:D),IN a b=true->a=b
 | .non,b,h=>by
  cases b with
  | non=>rfl
  | _=>exact ff h
 | .bl x,b,h=>by
  cases b with
  | bl y=>rw[eq_of_beq (show(x==y)=true from h)]
  | _=>exact ff h
 | .int x,b,h=>by
  cases b with
  | int y=>rw[eq_of_beq (show(x==y)=true from h)]
  | _=>exact ff h
 | .str x,b,h=>by
  cases b with
  | str y=>rw[eq_of_beq (show(x==y)=true from h)]
  | _=>exact ff h
 | .tup x,b,h=>by
  cases b with
  | tup y=>rw[mQ x y h]
  | _=>exact ff h
 | .lst x,b,h=>by
  cases b with
  | lst y=>rw[mQ x y h]
  | _=>exact ff h
 | .ro x,b,h=>by
  cases b with
  | ro y=>rw[mQ x y h]
  | _=>exact ff h
 | .mr x,b,h=>by
  cases b with
  | mr y=>rw[eq_of_beq (show(x==y)=true from h)]
  | _=>exact ff h
 | .exc x,b,h=>by
  cases b with
  | exc y=>rw[eq_of_beq (show(x==y)=true from h)]
  | _=>exact ff h
 | .any,b,h=>by
  cases b with
  | any=>rfl
  | _=>exact ff h
theorem mQ:∀(a b:List D),nW a b=true->a=b
 | [],b,h=>by
  cases b with
  | nil=>rfl
  | cons _ _=>exact ff h
 | x::xs,b,h=>by
  cases b with
  | nil=>exact ff h
  | cons y ys=>
   have h:=UE.mp (show(IN x y&&nW xs ys)=true from h);rw[Jv x y h.1,mQ xs ys h.2]
end
mutual
theorem Dp:∀(a:D),IN a a=true
 | .non=>rfl
 | .bl x=>beq_self_eq_true x
 | .int x=>beq_self_eq_true x
 | .str x=>beq_self_eq_true x
 | .tup x=>ja x
 | .lst x=>ja x
 | .ro x=>ja x
 | .mr x=>beq_self_eq_true x
 | .exc x=>beq_self_eq_true x
 | .any=>rfl
theorem ja:∀(a:List D),nW a a=true
 | []=>rfl
 | x::xs=>UE.mpr ⟨Dp x,ja xs⟩
end
structure rN where
 ds:List D
 m:Option (Nat×List D)
def rN.ok (t:rN)(M:ay):Bool:=match t.m with
 | none=>true
 | some i=>match M[i.1]? with
  | some (.lst xs)=>nW xs i.2
  | _=>false
abbrev GI:=fE->ay->bc rN
def HK (K:W.Frag)(J:It)(θ:List Addr)(H:Hp)(t:rN):Prop:=∀θ1 H1 M1,Go K θ H θ1 H1 M1->t.ok M1=true->∀i:Nat,
 (∀d,t.ds[i]?=Z d->J.go i H1/\∀x H2,J.yld i H1 x H2->Go K θ1 H1 θ1 H2 M1/\cC K θ1 H2 d x)/\(t.ds.length<=i->J.stop i H1)
def FP (X:Cx)(θ:List Addr)(H:Hp)(R:It->Hp->Prop):bc rN->Prop
 | .ok t M'=>∀J θ' H',Go X.K θ H θ' H' M'->HK X.K J θ' H' t->R J H'
 | .err c M'=>eT X θ H c M'
 | .bad=>False
def tI (X:Cx)(g:GI):TI:=λσ H R=>∃ρ θ M,mj X.K θ H σ ρ/\Wr X.K θ H M/\FP X θ H R (g ρ M)
def GW (d:D)(M:ay):bc rN:=match d with
 | .lst ds=>.ok ⟨ds,Y⟩ M
 | .ro ds=>.ok ⟨ds,Y⟩ M
 | .tup ds=>.ok ⟨ds,Y⟩ M
 | .mr k=>match M[k]? with
  | some (.lst ds)=>.ok ⟨ds,Z (k,ds)⟩ M
  | _=>.bad
 | _=>.bad
def bE (g:GE):GI:=λρ M=>(g ρ M).bind GW
section
variable {X:Cx}{tg:Expr}
def Pf (hl:PE X l tl):PI X tg l (λσ H R=>tl σ H λx H1=>∃a,x=.ref a/\(((∃xs,pe X.K H1 a xs)/\R (RE X.K a) H1)\/((∃xs,sX X.K H1 a xs)/\R (SW X.K a) H1))):=by
 intro af s σ H R I h;refine bS (hl af s σ H _ I h) λv s1 hxx=>?_
 obtain⟨x,H1,I1,r1,q1⟩:=hxx;obtain⟨a,e,q1⟩:=q1;subst e;cases r1;rcases q1 with⟨⟨xs,hq⟩,q⟩|⟨⟨xs,hq⟩,q⟩
 ·obtain⟨its,rv,p,hz⟩:=I1.list hq;refine wpAny_pyIter_list p.isList ?_;refine⟨s1.heap.objs.size,[s1.heap.objs.size],_,_,H1,rfl,I1.kept  λb o e=>Heap.get?_push_of_some _ e,DJ a _,⟨_,Heap.get?_push_size _ rfl,rfl,rfl⟩,λb hb=>?_,q⟩;have e:=by simpa using hb
  subst e;exact I1.fpOk (Uj _) (I1.hok.fresh (Uj _))
 ·obtain⟨its,rv,p,hz⟩:=I1.tuple hq;refine wpAny_pyIter_tuple (p) ?_;refine⟨s1.heap.objs.size,[s1.heap.objs.size],_,_,H1,rfl,I1.kept  λb o e=>Heap.get?_push_of_some _ e,Bv a _,⟨_,Heap.get?_push_size _ rfl,rfl,rfl⟩,λb hb=>?_,q⟩;have e:=by simpa using hb
  subst e;exact I1.fpOk (Uj _) (I1.hok.fresh (Uj _))
def BU {K:W.Frag}{a:Addr}(ta:sL K θ H a vs)(r:a6 K θ H ds vs):HK K (RE K a) θ H ⟨ds,Y⟩:=by
 intro θ1 H1 M1 g _ i;have t1:=(ta.grow g.toGrow).sq;have r1:=r.go g;refine⟨λd e=>?_,λhl=>⟨vs,t1,by rwa [<-av r1]⟩⟩;refine q1x2 (dW r1 e) λv e1 rv=>?_;refine⟨⟨vs,v,t1,e1⟩,λx H2 y=>?_⟩;refine q0x2 y λeH y=>?_;subst eH;have e2:=y vs t1;rw[e1] at e2;cases e2;exact⟨.refl g.wr,rv⟩
def HS {K:W.Frag}{a:Addr}(ta:pj K θ H a vs)(r:a6 K θ H ds vs):HK K (SW K a) θ H ⟨ds,Y⟩:=by
 intro θ1 H1 M1 g _ i;have t1:=(ta.grow g.toGrow).sq;have r1:=r.go g;refine⟨λd e=>?_,λhl=>⟨vs,t1,by rwa [<-av r1]⟩⟩;refine q1x2 (dW r1 e) λv e1 rv=>?_;refine⟨⟨vs,v,t1,e1⟩,λx H2 y=>?_⟩;refine q0x2 y λeH y=>?_;subst eH;have e2:=y vs t1;rw[e1] at e2;cases e2;exact⟨.refl g.wr,rv⟩
def IU {K:W.Frag}{a:Addr}{k:Nat}(ta:θ[k]?=Z a):HK K (RE K a) θ H ⟨ds,Z (k,ds)⟩:=by
 intro θ1 H1 M1 g hok i;have hok':(match M1[k]? with|some (.lst xs)=>nW xs ds|_=>false)=true:=hok;cases q:M1[k]? with
 | none=>simp_all
 | some m=>
  cases m with
  | lst xs=>
   rw[q] at hok';have e:xs=ds:=mQ xs ds hok';subst e;obtain⟨vs,hv,r1⟩:=g.wr.at_ k a _ (by
  refine q1x2 g.ext λm em _=>?_;rw[em,getElem?_append_left (Uk.mp ta).1];exact ta) q
   have s1:pe K H1 a vs:=.inl (.inl hv);refine⟨λd e=>?_,λhl=>⟨vs,s1,by rw[<-av r1];exact hl⟩⟩;refine q1x2 (dW r1 e) λv e1 rv=>?_;refine⟨⟨vs,v,s1,e1⟩,λx H2 y=>?_⟩;refine q0x2 y λeH y=>?_;subst eH;have e2:=y vs s1;rw[e1] at e2;cases e2;exact⟨.refl g.wr,rv⟩
  | _=>simp_all
def Ox (hl:PE X l (tE X g)):PI X tg l (tI X (bE g)):=by
 intro af s σ H R I h;refine Pf hl af s σ H R I ?_;refine q3x3 h λρ θ M hd hw h=>?_;refine bi hd hw (FP X θ H R) (λc M' h=>h) (λh=>h) h λd M1 v θ1 H1 g1 r1 h1=>?_
 cases d with
 | lst ds=>
  refine q2x3 r1 λa vs e ta r=>?_;exact⟨a,e,.inl ⟨⟨vs,ta.sq⟩,h1 _ θ1 H1 g1 (BU (.inl ⟨.inl ta.1,ta.2⟩) r)⟩⟩
 | ro ds=>
  refine q2x3 r1 λa vs e ta r=>?_;exact⟨a,e,.inl ⟨⟨vs,ta.sq⟩,h1 _ θ1 H1 g1 (BU ta r)⟩⟩
 | tup ds=>
  refine q2x3 r1 λa vs e ta r=>?_;exact⟨a,e,.inr ⟨⟨vs,ta.sq⟩,h1 _ θ1 H1 g1 (HS ta r)⟩⟩
 | mr k=>
  refine q1x2 r1 λa e ta=>?_;have h2:FP X θ H R (match M1[k]? with|some (.lst ds)=>.ok ⟨ds,Z (k,ds)⟩ M1|_=>.bad):=h1;cases q:M1[k]? with
  | none=>rw[q] at h2;exact h2.elim
  | some m=>
   cases m with
   | lst ds=>
    rw[q] at h2;refine q1x2 (g1.wr.at_ k a _ ta q) λvs hv r=>?_;exact⟨a,e,.inl ⟨⟨vs,.inl (.inl hv)⟩,h2 _ θ1 H1 g1 (IU ta)⟩⟩
   | _=>rw[q] at h2;exact h2.elim
 | _=>exact h1.elim
def aY (lo:Int)(n:Nat):List D:=(UH n).map λ(k:Nat)=>D.int (lo+(k:Int))
def JX {K:W.Frag}(lo:Int)(n:Nat):HK K (RM lo n) θ H ⟨aY lo n,Y⟩:=by
 intro θ1 H1 M1 g _ i;refine⟨λd e=>?_,λhl=>?_⟩
 ·have hi:=by
   simpa[aY] using ((Uk.mp e).1)
  refine⟨hi,λx H2 y=>?_⟩;obtain⟨eH,y⟩:=y;subst eH;refine⟨.refl g.wr,?_⟩;have e':=by
   have:(aY lo n)[i]?=Z (D.int (lo+(i))):=by simp[aY,hi]
   rw[this] at e;exact UT e
  subst e';exact y
 ·have h3:=by simpa[aY] using hl
  exact h3
def AU (ds:List D)(M:ay):bc rN:=match ds with
 | [.int j]=>if -(2 ^ 62)<=j/\j<2 ^ 62 then .ok ⟨aY 0 j.toNat,Y⟩ M else .bad
 | _=>.bad
def ft (g:GA):GI:=λρ M=>(g ρ M).bind AU
def Dm {a:Expr}(hg:Gl X "range")(hm:X.mg "range"=Y)(ha:PA X [a] (tA X g))(hs:starEach [a] X.env=[(false,eval a X.env)]:=by rfl):PI X tg (.Call (.Name "range" p) [a] [] pos) (tI X (ft g)):=by
 intro af s σ H R I h;refine Ek hg hm ha hs af s σ H R I ?_;refine q3x3 h λρ θ M hd hw h=>?_;refine m5 hd hw (FP X θ H R) (λc M' h=>h) (λh=>h) h λds M1 vs θ1 H1 g1 r1 h1=>?_
 unfold AU at h1;split at h1
 ·rename_i j;refine q2x3 r1 λv r e rv rr=>?_;subst rr;subst rv;split at h1
  ·rename_i hj;exact⟨j,e,hj.1,hj.2,h1 _ θ1 H1 g1 (JX 0 j.toNat)⟩
  ·exact h1.elim
 ·exact h1.elim
def cT (t:rN)(s:GG)(body:GS):List D->fE->ay->bc Fl
 | [],ρ,M=>if t.ok M then .ok (.nx ρ) M else .bad
 | d::r,ρ,M=>if t.ok M then
   match s d ρ with
   | none=>.bad
   | some ρ1=>(body ρ1 M).bind λf M1=>match f with
    | .nx ρ2=>cT t s body r ρ2 M1
    | .ct ρ2=>cT t s body r ρ2 M1
    | .bk ρ2=>.ok (.nx ρ2) M1
    | .rt d=>.ok (.rt d) M1
  else .bad
def gZ (gi:GI)(s:GG)(body:GS):GS:=λρ M=>(gi ρ M).bind λt M1=>cT t s body t.ds ρ M1
def Jl {iter:Expr}(hp:PassesOwn (model X.prog X.w) X.A X.env X.xe)(hc:X.calm=true)(hi:Sl X tg iter (tI X gi))(hg:PG X tg (tG X sg))(hb:PSs X body (tS X gb))
  (hs:∀x,foldedSetIterable iter X.env x=pure x:=by intro _;rfl):PS X (.For tg iter body [] pos) (tS X (gZ gi sg gb)):=(Nh hp hc hi hg hb hs).of λD σ H hxx=>by
 refine q3x3 hxx λρ θ M hd hw h=>?_;refine⟨ρ,θ,M,hd,hw,?_⟩;unfold gZ at h;cases q:gi ρ M with
 | err c M1=>rw[q] at h;exact h
 | bad=>rw[q] at h;exact h
 | ok t M1=>
  rw[q] at h;intro J θ1 H1 g1 hJ;have h:bR X θ H D (cT t sg gb t.ds ρ M1):=h;refine⟨λi m σ' H'=>m=t.ds.length-i/\i<=t.ds.length/\∃ρ' θ' M',Go X.K θ1 H1 θ' H' M'/\mj X.K θ' H' σ' ρ'/\bR X θ' H' D (cT t sg gb (t.ds.drop i) ρ' M'),
   ⟨t.ds.length,by simp,UW _,ρ,θ1,M1,.refl g1.wr,hd.go g1,bR.go g1 h⟩,?_⟩
  rintro i m σ' H' ⟨rfl,hil,ρ',θ',M',g',hd',h'⟩
  by_cases hok:t.ok M'=true
  ·refine q0x2 (hJ θ' H' M' g' hok i) λhy hst=>?_
   by_cases hlt:i<t.ds.length
   ·refine .inr ?_;have e1:t.ds[i]?=Z t.ds[i]:=getElem?_eq_getElem hlt;refine q0x2 (hy _ e1) λhgo hyl=>?_;rw[drop_eq_getElem_cons hlt,cT,if_pos hok] at h';refine⟨hgo,λσ2 H2=>∃ρ2 θ2 M2,Go X.K θ' H' θ2 H2 M2/\mj X.K θ2 H2 σ2 ρ2/\bR X θ2 H2 D (cT t sg gb (t.ds.drop (i+1)) ρ2 M2),λσ2 H2 ⟨ρ2,θ2,M2,g2,d2,h2⟩=>?_,λx H2 y=>?_⟩
    ·exact⟨t.ds.length-(i+1),by omega,rfl,hlt,ρ2,θ2,M2,g'.trans g2,d2,h2⟩
    ·refine q0x2 (hyl x H2 y) λgy rx=>?_;cases qs:sg t.ds[i] ρ' with
     | none=>rw[qs] at h';exact h'.elim
     | some ρ1=>
      rw[qs] at h';refine⟨ρ',θ',M',_,hd'.go gy,gy.wr,rx,ρ1,qs,λσ1 d1=>⟨ρ1,θ',M',d1,gy.wr,?_⟩⟩;have h':bR X θ' H2 D ((gb ρ1 M').bind _):=bR.go gy h';cases qb:gb ρ1 M' with
      | err c M2=>rw[qb] at h';exact h'
      | bad=>rw[qb] at h';exact h'
      | ok f M2=>
       rw[qb] at h';cases f with
       | nx ρ2=>exact λσ2 θ2 H3 g2 d2=>⟨ρ2,θ2,M2,gy.trans g2,d2,bR.go g2 h'⟩
       | ct ρ2=>exact λσ2 θ2 H3 g2 d2=>⟨ρ2,θ2,M2,gy.trans g2,d2,bR.go g2 h'⟩
       | bk ρ2=>exact h'
       | rt d=>exact h'
   ·have e:i=t.ds.length:=by omega
    subst e;rw[drop_length,cT,if_pos hok] at h';exact .inl ⟨hst (Uj _),h' σ' θ' H' (.refl g'.wr) hd'⟩
  ·have hz:bR X θ' H' D .bad:=by
    cases hdr:t.ds.drop i with
    | nil=>rw[hdr,cT,if_neg hok] at h';exact h'
    | cons d r=>rw[hdr,cT,if_neg hok] at h';exact h'
   exact hz.elim
end
def JY (K:W.Frag)(θ:List Addr)(H:Hp)(E:XK)(c:Str)(M:ay):Prop:=∀C θ' H' a,iM K c C->Go K θ H θ' H' M->E (.ref C) (Z a) H'
def A6 (K:W.Frag)(θ:List Addr)(H:Hp)(Q:VK)(E:XK):bc D->Prop
 | .ok d M'=>∀v θ' H',Go K θ H θ' H' M'->cC K θ' H' d v->Q v H'
 | .err c M'=>JY K θ H E c M'
 | .bad=>False
abbrev FD:=List D->ay->bc D
def sC (K:W.Frag)(n:Nat)(F:FD):Sp:=λvs H Q E=>∃θ M ds,ds.length=n/\a6 K θ H ds vs/\Wr K θ H M/\A6 K θ H Q E (F ds M)
def tu {K:W.Frag}{ps:List Str}(hn:ps.length=n):∀vs H Q E,sC K n F vs H Q E->vs.length=ps.length:=λvs H Q E ⟨θ,M,ds,hl,r,_⟩=>by rw[hn,<-hl,av r]
def oV (k:Nat)(ds:List D):fE:=ds.map Z++UD k Y
def bL (o:bc Fl):bc D:=o.bind λf M=>match f with
 | .rt d=>.ok d M
 | .nx _=>.ok .non M
 | _=>.bad
def aP (k:Nat)(g:GS):FD:=λds M=>bL (g (oV k ds) M)
def N0 {K:W.Frag}(r:a6 K θ H ds vs)(N:List Str):mj K θ H (L2.start N vs) (oV (N.length-vs.length) ds):=by
 have hl:=av r;refine⟨by simp[L2.start,oV,hl],λi d e=>?_⟩;unfold oV at e
 by_cases hi:i<ds.length
 ·rw[getElem?_append_left (by simpa using hi),getElem?_map] at e;cases q:ds[i]? with
  | none=>simp_all
  | some d'=>
   rw[q] at e;have e':=by simpa using e
   subst e';refine q1x2 (dW r q) λv e1 rv=>?_;refine⟨v,?_,rv⟩;unfold L2.start;rw[getElem?_append_left (by simp_all),getElem?_map,e1];rfl
 ·rw[getElem?_append_right (by simpa using hi),getElem?_replicate] at e
  simp_all
section
variable {P:Program}{w:World}{K:W.Frag}{mg:Str->Option Value}{base:Heap}
def S4 {st:Stmt}{k:Nat}(F:IK K x qual st f fd)(S:fe N ps (aM st))(hn:ps.length=n)
  (hbody:∀(cdv:Value) (A:Around) (outer:List Env) (s:Shared) (H:Hp) (E:XK),bn k (A.deeper (envOfC qual (aM st) s.heap.objs.size f cdv))->
   PSs (iS (jF P w) P w K mg base N qual (aM st) f cdv A outer s H E) (cz st) (tS (iS (jF P w) P w K mg base N qual (aM st) f cdv A outer s H E) g)) :
  eM P w K mg base (jF P w) (k+1) f fd ps (sC K n (aP (N.length-n) g)):=by
 refine q9x3 F.ex λoc od kV doc pm an cdv ct osl zz9 lk hcd=>?_;subst zz9;refine KJ lk hcd S (tu hn) λA outer s H vs Q E hr h=>⟨_,hbody cdv A outer s H E hr,?_⟩
 refine q3x4 h λθ M ds hl r hw h=>?_;have hv:vs.length=n:=by rwa [<-av r]
 refine⟨oV (N.length-n) ds,θ,M,by rw[<-hv];exact N0 r N,hw,?_⟩;have h:A6 K θ H Q E (bL (g (oV (N.length-n) ds) M)):=h;cases q:g (oV (N.length-n) ds) M with
 | bad=>rw[q] at h;exact h
 | err c M1=>
  rw[q] at h;exact λC θ' H' a s' kC g1 fl=>oT fl (h C θ' H' a kC g1)
 | ok fl M1=>
  rw[q] at h;cases fl with
  | rt d=>exact h
  | nx ρ1=>exact λσ1 θ1 H1 g1 _=>h .non θ1 H1 g1 rfl
  | bk ρ1=>exact h.elim
  | ct ρ1=>exact h.elim
end
section
variable {X:Cx}{e:Expr}{es:List Expr}{x:Str}{p pos:Pos}{k n:Nat}{f:Addr}{fd:FuncData}{ps:List Str}{F:FD}{ga:GA}
def ah (n:Nat)(F:FD)(ga:GA):GE:=λρ M=>(ga ρ M).bind λds M1=>if ds.length=n then F ds M1 else .bad
def J5 (X:Cx):XK:=λcls oa H'=>∃a C c θ M,oa=Z a/\cls=.ref C/\iM X.K c C/\Wr X.K θ H' M/\eT X θ H' c M
def jB:oQ (jF X.prog X.w) X (J5 X):=λaf σ H s e s' I h=>by
 obtain⟨a,C,H',rfl,fl,a',C',c,θ,M,e1,e2,kC,hw,ok⟩:=Dk I h;cases e2;exact ok C θ H' a s' kC (.refl hw) fl
def yg (h:eT X θ H c M):JY X.K θ H (J5 X) c M:=λC θ' H' a kC g=>⟨a,C,c,θ',M,rfl,rfl,kC,g.wr,h.go g⟩
def J3 (Fn:eM X.prog X.w X.K X.mg X.base (jF X.prog X.w) k f fd ps (sC X.K n F))(hr:bn k X.A)(hg:Gl X x)(hm:X.mg x=Z (.ref f))(hk:W.keepIn X.K (.ref f)=true)(hb:f7 X.K fd ps [])
  (ha:PA X (e::es) (tA X ga)) (hdb:(x==("__debug__":Str))=false:=by decide) (he:starEach (e::es) X.env=(false,eval e X.env)::starEach es X.env:=by rfl) (hpl:(backTo pos (starEach es X.env)).any (·.1)=false:=by rfl) :
  PE X (.Call (.Name x p) (e::es) [] pos) (tE X (ah n F ga)):=(II Fn hr hg hm hk hb .nil jB ha hdb he hpl).of λσ H Q hxx=>by
 refine q3x3 hxx λρ θ M hd hw h=>?_;refine m5 hd hw (aK X θ H Q) (λc M' h=>h) (λh=>h) h λds M1 vs θ1 H1 g1 r1 h1=>?_
 by_cases hl:ds.length=n
 ·rw[if_pos hl] at h1;refine⟨θ1,M1,ds,hl,by simp_all,g1.wr,?_⟩;have h2:=aK.go g1 h1;cases q:F ds M1 with
  | ok d M2=>rwa [q] at h2
  | err c M2=>rw[q] at h2;exact yg h2
  | bad=>rwa [q] at h2
 ·rw[if_neg hl] at h1;exact h1.elim
def rC (X:Cx)(F:FD):List V->Hp->VK->Prop:=λxs H Q=>∃θ M ds,Wr X.K θ H M/\a6 X.K θ H ds xs/\aK X θ H Q (F ds M)
def aJ (F:FD)(ga:GA):GE:=λρ M=>(ga ρ M).bind F
def FZ (h:tE X (aJ F ga) σ H Q):S6 (rC X F) (tA X ga) σ H Q:=by
 refine q3x3 h λρ θ M hd hw h=>?_;exact m5 hd hw (aK X θ H Q) (λc M' h=>h) (λh=>h) h λds M1 vs θ1 H1 g1 r1 h1=>⟨θ1,M1,ds,g1.wr,r1,aK.go g1 h1⟩
def G2 {id:String}(hc:fF X (.builtin id) (rC X F))(hg:Gl X x)(hm:X.mg x=Y)(hv:bootBuiltins x=Z (.builtin id))(ha:PA X (e::es) (tA X ga))(hn:x≠"__name__":=by decide)(hdb:(x==("__debug__":Str))=false:=by decide)
  (he:starEach (e::es) X.env=(false,eval e X.env)::starEach es X.env:=by rfl) (hpl:(backTo pos (starEach es X.env)).any (·.1)=false:=by rfl):PE X (.Call (.Name x p) (e::es) [] pos) (tE X (aJ F ga)):=
 (z8 hc hg hm hv ha hn hdb he hpl).of λσ H Q h=>FZ h
def Du (hc:fF X (.type T) (rC X F))(hg:Gl X x)(hm:X.mg x=Y)(hv:bootBuiltins x=Z (.type T))(ha:PA X (e::es) (tA X ga))(hn:x≠"__name__":=by decide)(hdb:(x==("__debug__":Str))=false:=by decide)
  (he:starEach (e::es) X.env=(false,eval e X.env)::starEach es X.env:=by rfl) (hpl:(backTo pos (starEach es X.env)).any (·.1)=false:=by rfl):PE X (.Call (.Name x p) (e::es) [] pos) (tE X (aJ F ga)):=
 (D5 hc hg hm hv ha hn hdb he hpl).of λσ H Q h=>FZ h
end
section
variable {prog:Program}{w:World}{A:Around}{E:Value->Shared->Prop}{s:Shared}
def HC {t:Addr}{ws:List Value}(ht:IsTup s.heap t #[])(hb:IsTup s.heap b ws.toArray)
  (h:Q (.ref b) s):wpAny (model prog w) A (binaryOp .Add (.ref t) (.ref b)) Q E s:=by
 obtain⟨⟨cls,dd,data,sl⟩,ho,hc,n,hd⟩:=id ht;obtain⟨⟨cls2,dd2,data2,sl2⟩,ho2,hc2,n2,hd2⟩:=id hb;subst hc hd hc2 hd2;exact concat_meets ⟨_,ho,rfl⟩ ⟨_,ho2,rfl⟩ noFill_tuple_add seq_tuple_add PySem.F.slot_tuple_add PySem.F.entry_tuple_add (PySem.F.args_tuple_add_2 _ _)
   (tuple_addW0 t b #[] ws.toArray n n2 dd dd2 sl sl2 (by rfl)) ⟨ho,ho2,h⟩
def nR {t:Addr}{lo hi:Option Int}(ht:IsTup s.heap t items)(hs:s.heap.IsSliceOf sl vl vu .none)(pl:IsPart vl lo)(pu:IsPart vu hi)
  (hw:HT.sIx items.size 0 lo=0/\HT.sIx items.size items.size hi=items.size) (h:Q (.ref t) s):wpAny (model prog w) A (getItem (.ref t) (.ref sl)) Q E s:=by
 refine q1x3 (id hs) λos hos hcs hds=>?_;have hTs:s.TypeIs (.ref sl) "slice":=⟨os,hos,hcs⟩;unfold getItem
 try with_reducible refine wpAny_holding ?_
 first|refine wpAny_bind (wpAny_pure ?_)|skip
 refine wpAny_bind (wpAny_sequenceKey ht.typeIs (by decide) ?_);refine wpAny_bind (wpAny_callSpecial?_slot (name:=Str.ofString "__getitem__") ht.typeIs UJ
  (wpAny_call_entry UJ ht.typeIs entry_tuple_getitem ?_ (args_tuple_getitem _ _)))
 show wpAny _ _ (Builtin.Tuple.tupleItemsOf (.ref t) >>= _) _ _ s;refine wpAny_bind (tupleItemsOf_ ht ?_);refine wpAny_bind (wpAny_typeOf hTs ?_);rw[if_pos (by decide)];refine wpAny_bind (HT.sliceApplied_gen hs pl pu ?_);show wpAny _ _ (if(((HT.sIx items.size 0 lo:Nat):Int)==0&&(1:Int)==1&&(HT.sIx items.size items.size hi-HT.sIx items.size 0 lo)==items.size)=true then _ else _) _ _ s;rw[if_pos (by
  rw[hw.1,hw.2];simp)]
 unfold Builtin.Tuple.tupleIsExact;refine wpAny_bind (wpAny_bind (wpAny_typeOf ht.typeIs (wpAny_pure ?_)));rw[if_pos (by decide)]
 first
  | rfl
  | exact wpAny_bind (wpAny_rule (wpAny_pure ⟨_,rfl,wpAny_pure h⟩))
  | rfl
end
def zP (d:D)(M:ay):Option (List D):=match d with
 | .lst xs=>Z xs
 | .mr k=>match M[k]? with
  | some (.lst xs)=>Z xs
  | _=>Y
 | _=>Y
def a8:F2:=λx y M=>match x,y with
 | .int i,.int j=>.ok (.int (i+j)) M
 | .str a,.str b=>if a.length+b.length<=sizeLine then .ok (.str (a++b)) M else .bad
 | .tup a,.tup b=>if a.length+b.length<=sizeLine then .ok (.tup (a++b)) M else .bad
 | .bl a,.int j=>.ok (.int ((if a=true then 1 else 0)+j)) M
 | x,y=>match zP x M,zP y M with
  | some a,Z b=>if a.length+b.length<=sizeLine then .ok (.lst (a++b)) M else .bad
  | _,_=>.bad
def zf {K:W.Frag}(hw:Wr K θ H M)(r:cC K θ H d v)(e:zP d M=Z xs):∃a vs,v=.ref a/\H a=Z (.lst vs)/\a6 K θ H xs vs:=by
 cases d with
 | lst ys=>cases e;refine q2x3 r λa vs ea ta ra=>?_;exact⟨a,vs,ea,ta.1,ra⟩
 | mr k=>
  refine q1x2 r λa ea ta=>?_;have e:(match M[k]? with|some (.lst xs)=>Z xs|_=>Y)=Z xs:=e;cases q:M[k]? with
  | none=>simp_all
  | some m=>
   cases m with
   | lst ys=>
    rw[q] at e;cases e;refine q1x2 (hw.at_ k a _ ta q) λvs hv ra=>?_;exact⟨a,vs,ea,hv,ra⟩
   | _=>simp_all
 | _=>cases e
def dN:F2:=λx y M=>match x,y with
 | .int i,.int j=>.ok (.int (i-j)) M
 | _,_=>.bad
def jX:F2:=λx y M=>match x,y with
 | .int i,.int j=>if(-(2 ^ 64)<i/\i<2 ^ 64)\/(-(2 ^ 64)<j/\j<2 ^ 64) then .ok (.int (i*j)) M else .bad
 | _,_=>.bad
def hZ:F2:=λx y M=>match x,y with
 | .int i,.int j=>if 0<j/\j.natAbs.log2<9000 then .ok (.int (i / j)) M else .bad
 | _,_=>.bad
def ky:F2:=λx y M=>match x,y with
 | .int i,.int j=>if 0<j then .ok (.int (i % j)) M else .bad
 | _,_=>.bad
def EJ:F2:=λx y M=>match x,y with
 | .int i,.int j=>if 0<=j/\j<=1000000/\i.natAbs<2 ^ 64 then .ok (.int (i ^ j.toNat)) M else .bad
 | _,_=>.bad
section
variable {X:Cx}
def pU {K:W.Frag}(hw:Wr K θ H M):cC K (θ++[p]) H' (.mr M.length) (.ref p):=by
 refine⟨p,rfl,?_⟩;rw[<-hw.len,getElem?_append_right (Uj _)];simp
def tR (g:GE):GE:=λρ M=>(g ρ M).bind λx M1=>match x with
 | .int i=>.ok (.int (-i)) M1
 | _=>.bad
def pR:F2:=λx y M=>match x,y with
 | .int i,.int j=>.ok (.bl (decide (i<j))) M
 | _,_=>.bad
def vB:F2:=λx y M=>match x,y with
 | .int i,.int j=>.ok (.bl (decide (i<=j))) M
 | _,_=>.bad
def Bg:F2:=λx y M=>match x,y with
 | .int i,.int j=>.ok (.bl (decide (j<i))) M
 | _,_=>.bad
def B9:F2:=λx y M=>match x,y with
 | .int i,.int j=>.ok (.bl (decide (j<=i))) M
 | _,_=>.bad
def To (d c:D):Option Bool:=match c,d with
 | .non,.non=>Z true
 | .non,.any=>Y
 | .non,_=>Z false
 | .bl b,.bl b'=>Z (b'==b)
 | .bl _,.non=>Z false
 | .bl _,.int _=>Z false
 | .bl _,.str _=>Z false
 | .bl _,.tup _=>Z false
 | .bl _,.lst _=>Z false
 | .bl _,.ro _=>Z false
 | .bl _,.mr _=>Z false
 | _,_=>Y
def sI (neg:Bool):F2:=λx y M=>match To x y with
 | some b=>.ok (.bl (b != neg)) M
 | none=>.bad
def VS:D->Value->Prop
 | .non,v=>v=.none
 | .bl b,v=>v=.bool b
 | .int i,v=>∃t,v=.int i t
 | .str i,v=>∃t,v=.str i t
 | .any,_=>True
 | _,v=>∃a,v=.ref a
def KH {K:W.Frag}(r:cC K θ H d x)(q:aS x v):VS d v:=by
 cases d with
 | non=>rwa [r] at q
 | bl b=>rwa [r] at q
 | int i=>rwa [r] at q
 | str i=>rwa [r] at q
 | any=>trivial
 | tup ds=>refine q2x2 r λa _ e _=>?_;rw[e] at q;exact⟨a,q⟩
 | lst ds=>refine q2x2 r λa _ e _=>?_;rw[e] at q;exact⟨a,q⟩
 | ro ds=>refine q2x2 r λa _ e _=>?_;rw[e] at q;exact⟨a,q⟩
 | mr k=>refine q1x2 r λa e _=>?_;rw[e] at q;exact⟨a,q⟩
 | exc c=>refine q2x2 r λa _ e _=>?_;rw[e] at q;exact⟨a,q⟩
def fn {P:Prop}(h:Y=Z b):P:=nomatch h
def CM (h:Z false=Z b)(k:plainIs v u=true/\(v==u)=false):plainIs v u=true/\(v==u)=b:=UT h▸k
def PZ (p:VS dx v)(q:VS dy u)(h:To dx dy=Z b):plainIs v u=true/\(v==u)=b:=by
 cases dy with
 | non=>
  rw[show u=.none from q];cases dx with
  | non=>rw[show v=.none from p];exact UT (h)▸⟨rfl,rfl⟩
  | bl b=>rw[p];exact CM h ⟨rfl,rfl⟩
  | any=>exact fn h
  | _=>refine q1x1 p λt e=>?_;rw[e];exact CM h ⟨rfl,rfl⟩
 | bl c=>
  rw[q];cases dx with
  | non=>rw[show v=.none from p];exact CM h ⟨rfl,rfl⟩
  | bl b=>
   rw[show v=.bool b from p,<-UT h];refine⟨rfl,?_⟩;cases b <;> cases c <;> rfl
  | any=>exact fn h
  | exc _=>exact fn h
  | _=>refine q1x1 p λt e=>?_;rw[e];exact CM h ⟨rfl,rfl⟩
 | _=>exact fn h
def HI {K:W.Frag}(r1:cC K θ H dx x)(r2:cC K θ H dy y)(rx:aS x v)(ry:aS y u)(h:To dx dy=Z b) :
  plainIs v u=true/\(v==u)=b:=PZ (KH r1 rx) (KH r2 ry) h
mutual
def uI:D->PyData
 | .non=>.none
 | .bl b=>.bool b
 | .int i=>.int i
 | .str x=>.str x
 | .tup ds=>.tuple (qq ds)
 | .lst ds=>.list (qq ds)
 | .ro ds=>.list (qq ds)
 | .mr _=>.dict []
 | .exc _=>.dict []
 | .any=>.dict []
def qq:List D->List PyData
 | []=>[]
 | d::ds=>uI d::qq ds
end
mutual
def bG:Nat->D->Bool
 | _,.non=>true
 | _,.bl _=>true
 | _,.int _=>true
 | _,.str x=>PyData.strOk x
 | n+1,.tup ds=>bj n ds
 | n+1,.lst ds=>bj n ds
 | n+1,.ro ds=>bj n ds
 | _,_=>false
def bj:Nat->List D->Bool
 | _,[]=>true
 | n,d::ds=>bG n d&&bj n ds
end
mutual
def tK:D->D->Bool
 | .non,.non=>true
 | .bl a,.bl b=>a==b
 | .bl a,.int j=>(if a then 1 else 0)==j
 | .int i,.bl b=>i==(if b then 1 else 0)
 | .int i,.int j=>i==j
 | .str x,.str y=>x==y
 | .lst xs,.lst ys=>gY xs ys
 | .lst xs,.ro ys=>gY xs ys
 | .ro xs,.lst ys=>gY xs ys
 | .ro xs,.ro ys=>gY xs ys
 | .tup xs,.tup ys=>gY xs ys
 | _,_=>false
def gY:List D->List D->Bool
 | [],[]=>true
 | x::xs,y::ys=>tK x y&&gY xs ys
 | _,_=>false
end
mutual
theorem tL:∀(x y:D) (n m:Nat),bG n x=true->bG m y=true->PyData.eqv (uI x) (uI y)=tK x y
 | .non,y,n,m,hx,hy=>by cases y <;> rfl
 | .bl a,y,n,m,hx,hy=>by cases y <;> rfl
 | .int a,y,n,m,hx,hy=>by cases y <;> rfl
 | .str a,y,n,m,hx,hy=>by cases y <;> rfl
 | .tup xs,y,n,m,hx,hy=>by
  cases n with
  | zero=>exact ff hx
  | succ n=>
   cases y with
   | tup ys=>
    cases m with
    | zero=>exact ff hy
    | succ m=>
     exact kK xs ys n m hx hy
   | _=>rfl
 | .lst xs,y,n,m,hx,hy=>by
  cases n with
  | zero=>exact ff hx
  | succ n=>
   cases y with
   | lst ys=>
    cases m with
    | zero=>exact ff hy
    | succ m=>
     exact kK xs ys n m hx hy
   | ro ys=>
    cases m with
    | zero=>exact ff hy
    | succ m=>
     exact kK xs ys n m hx hy
   | _=>rfl
 | .ro xs,y,n,m,hx,hy=>by
  cases n with
  | zero=>exact ff hx
  | succ n=>
   cases y with
   | lst ys=>
    cases m with
    | zero=>exact ff hy
    | succ m=>
     exact kK xs ys n m hx hy
   | ro ys=>
    cases m with
    | zero=>exact ff hy
    | succ m=>
     exact kK xs ys n m hx hy
   | _=>rfl
 | .mr a,y,n,m,hx,hy=>by cases n <;> exact ff hx
 | .exc a,y,n,m,hx,hy=>by cases n <;> exact ff hx
 | .any,y,n,m,hx,hy=>by cases n <;> exact ff hx
theorem kK:∀(x y:List D) (n m:Nat),bj n x=true->bj m y=true->PyData.eqvAll (qq x) (qq y)=gY x y
 | [],y,n,m,hx,hy=>by cases y <;> rfl
 | x::xs,y,n,m,hx,hy=>by
  cases y with
  | nil=>rfl
  | cons y ys=>
   have hx:=UE.mp (show(bG n x&&bj n xs)=true from hx);have hy:=UE.mp (show(bG m y&&bj m ys)=true from hy);show(PyData.eqv (uI x) (uI y)&&PyData.eqvAll (qq xs) (qq ys))=(tK x y&&gY xs ys);rw[tL x y n m hx.1 hy.1,kK xs ys n m hx.2 hy.2]
end
mutual
theorem lN:∀(d:D) (n:Nat),bG n d=true->(uI d).canLay0=true/\(uI d).depth<=n
 | .non,n,h=>by simp[uI,PyData.canLay0,PyData.depth]
 | .bl a,n,h=>by simp[uI,PyData.canLay0,PyData.depth]
 | .int a,n,h=>by simp[uI,PyData.canLay0,PyData.depth]
 | .str a,n,h=>by
  have:PyData.strOk a=true:=by cases n <;> exact h
  simp[uI,PyData.canLay0,PyData.depth,this]
 | .tup xs,n,h=>by
  cases n with
  | zero=>exact ff h
  | succ n=>
   have:=pG xs n h;simp only[uI,PyData.canLay0,PyData.depth];exact⟨this.1,by omega⟩
 | .lst xs,n,h=>by
  cases n with
  | zero=>exact ff h
  | succ n=>
   have:=pG xs n h;simp only[uI,PyData.canLay0,PyData.depth];exact⟨this.1,by omega⟩
 | .ro xs,n,h=>by
  cases n with
  | zero=>exact ff h
  | succ n=>
   have:=pG xs n h;simp only[uI,PyData.canLay0,PyData.depth];exact⟨this.1,by omega⟩
 | .mr a,n,h=>by cases n <;> exact ff h
 | .exc a,n,h=>by cases n <;> exact ff h
 | .any,n,h=>by cases n <;> exact ff h
theorem pG:∀(ds:List D) (n:Nat),bj n ds=true->PyData.canLayAll0 (qq ds)=true/\PyData.depthAll (qq ds)<=n
 | [],n,h=>by simp[qq,PyData.canLayAll0,PyData.depthAll]
 | d::ds,n,h=>by
  have h:=UE.mp (show(bG n d&&bj n ds)=true from h);have h1:=lN d n h.1;have h2:=pG ds n h.2;simp only[qq,PyData.canLayAll0,PyData.depthAll,Uw];exact⟨⟨h1.1,h2.1⟩,by omega⟩
end
mutual
theorem ur {af:List (Addr×Obj)}{s:Shared}{σ:L2.St}{H:Hp}{θ:List Addr}(I:Inv X af σ H s):∀(d:D) (n:Nat) (v:V) (u:Value),bG n d=true->cC X.K θ H d v->aS v u->∃as,Reads s.heap u (uI d) as
 | .non,n,v,u,h,r,q=>by have e:v=.non:=r;subst e;cases q;exact⟨_,.none⟩
 | .bl a,n,v,u,h,r,q=>by have e:v=.bl a:=r;subst e;cases q;exact⟨_,.bool a⟩
 | .int a,n,v,u,h,r,q=>by have e:v=.int a:=r;subst e;refine q1x1 q λt zz1=>?_;subst zz1;exact⟨_,.int a t⟩
 | .str a,n,v,u,h,r,q=>by have e:v=.str a:=r;subst e;refine q1x1 q λt zz1=>?_;subst zz1;exact⟨_,.str a t⟩
 | .tup xs,n,v,u,h,r,q=>by
  cases n with
  | zero=>exact ff h
  | succ n=>
   refine q2x3 r λa vs e ta ra=>?_;subst e;cases q;obtain⟨its,rv,⟨o,h1,h2,m,h3⟩,_⟩:=I.tuple ta.sq;refine q1x1 (kB I xs n vs its h ra rv) λas R=>?_;exact⟨_,.tuple h1 h2 h3 (by simpa using R)⟩
 | .lst xs,n,v,u,h,r,q=>by
  cases n with
  | zero=>exact ff h
  | succ n=>
   refine q2x3 r λa vs e ta ra=>?_;subst e;cases q;obtain⟨its,rv,⟨o,m,h1,h2,_,h3⟩,_⟩:=I.list (ta.sq (K:=X.K));refine q1x1 (kB I xs n vs its h ra rv) λas R=>?_;exact⟨_,.list h1 h2 h3 (by simpa using R)⟩
 | .ro xs,n,v,u,h,r,q=>by
  cases n with
  | zero=>exact ff h
  | succ n=>
   refine q2x3 r λa vs e ta ra=>?_;subst e;cases q;obtain⟨its,rv,⟨o,m,h1,h2,_,h3⟩,_⟩:=I.list ta.sq;refine q1x1 (kB I xs n vs its h ra rv) λas R=>?_;exact⟨_,.list h1 h2 h3 (by simpa using R)⟩
 | .mr a,n,v,u,h,r,q=>by cases n <;> exact ff h
 | .exc a,n,v,u,h,r,q=>by cases n <;> exact ff h
 | .any,n,v,u,h,r,q=>by cases n <;> exact ff h
theorem kB {af:List (Addr×Obj)}{s:Shared}{σ:L2.St}{H:Hp}{θ:List Addr}(I:Inv X af σ H s):∀(ds:List D) (n:Nat) (vs:List V) (us:List Value),bj n ds=true->a6 X.K θ H ds vs->aV vs us->∃as,ReadsAll s.heap us (qq ds) as
 | [],n,vs,us,h,r,q=>by have e:vs=[]:=r;subst e;cases q;exact⟨_,.nil⟩
 | d::ds,n,vs,us,h,r,q=>by
  have h:=UE.mp (show(bG n d&&bj n ds)=true from h);refine q2x3 r λv rr e r1 r2=>?_;subst e;cases q with
  | cons q1 q2=>
   refine q1x1 (ur I d n v _ h.1 r1 q1) λas R1=>?_;refine q1x1 (kB I ds n rr _ h.2 r2 q2) λbs R2=>?_;exact⟨_,.cons R1 R2⟩
end
def now (d:D)(M:ay):D:=match d with
 | .mr k=>match M[k]? with
  | some (.lst xs)=>.lst xs
  | _=>.mr k
 | d=>d
def aR (neg:Bool):F2:=λx y M=>if bG 40 (now x M)&&bG 40 (now y M) then .ok (.bl (tK (now x M) (now y M) != neg)) M else .bad
def ku (I:Inv X af σ H s)(hw:Wr X.K θ H M)(h:bG n (now d M)=true)(r:cC X.K θ H d v)(q:aS v u):∃as,Reads s.heap u (uI (now d M)) as:=by
 cases d with
 | mr k=>
  refine q1x2 r λa e ta=>?_;subst e;cases q;cases qm:M[k]? with
  | none=>
   have e:now (.mr k) M=.mr k:=by simp[now,qm]
   rw[e] at h;cases n <;> exact ff h
  | some m=>
   cases m with
   | lst xs=>
    have e:now (.mr k) M=.lst xs:=by simp[now,qm]
    rw[e] at h ⊢;cases n with
    | zero=>exact ff h
    | succ n=>
     refine q1x2 (hw.at_ k a _ ta qm) λvs hv ra=>?_;obtain⟨its,rv,⟨o,m,h1,h2,_,h3⟩,_⟩:=I.list   (.inl (.inl hv));refine q1x1 (kB I xs n vs its h ra rv) λas R=>?_;exact⟨_,.list h1 h2 h3 (by simpa using R)⟩
   | _=>
    have e:now (.mr k) M=.mr k:=by simp[now,qm]
    rw[e] at h;cases n <;> exact ff h
 | _=>exact ur I _ n v u h r q
def Ql (hu:X.A.units+64<cLine):ph X (compareOp .Eq) (rD X (aR false)):=by
 intro af s σ H x y v u Q I rx ry h;refine q4x4 h λθ M dx dy hw r1 r2 h=>?_;unfold aR at h;split at h
 ·rename_i hc;rw[Uw] at hc;refine q1x1 (ku I hw hc.1 r1 rx) λas R1=>?_;refine q1x1 (ku I hw hc.2 r2 ry) λbs R2=>?_;have l2:=lN _ _ hc.2;refine SeqAt.compareEq_reads R1 R2 (lN _ _ hc.1).1 l2.1 (by grind) ?_;rw[tL _ _ _ _ hc.1 hc.2];refine⟨.bl _,H,I,rfl,?_⟩;have:=h _ θ H (.refl hw) rfl
  simp_all
 ·exact h.elim
def PJ (hu:X.A.units+64<cLine):ph X (compareOp .NotEq) (rD X (aR true)):=by
 intro af s σ H x y v u Q I rx ry h;refine q4x4 h λθ M dx dy hw r1 r2 h=>?_;unfold aR at h;split at h
 ·rename_i hc;rw[Uw] at hc;refine q1x1 (ku I hw hc.1 r1 rx) λas R1=>?_;refine q1x1 (ku I hw hc.2 r2 ry) λbs R2=>?_;have l1:=lN _ _ hc.1;refine SeqAt.compareNe_reads R1 R2 l1.1 (lN _ _ hc.2).1 (by have:min (uI (now dx M)).depth (uI (now dy M)).depth<=(uI (now dx M)).depth:=aaZ _ _;omega) ?_;rw[tL _ _ _ _ hc.1 hc.2];refine⟨.bl _,H,I,rfl,?_⟩;have:=h _ θ H (.refl hw) rfl
  simp_all
 ·exact h.elim
def ba (d:D)(M:ay):Option (List D):=match d with
 | .tup xs=>Z xs
 | .lst xs=>Z xs
 | .ro xs=>Z xs
 | .mr k=>match M[k]? with
  | some (.lst xs)=>Z xs
  | _=>Y
 | _=>Y
def aB:F2:=λx y M=>match ba x M,y with
 | some xs,.int i=>match wa xs i with
  | some d=>.ok d M
  | none=>.bad
 | _,_=>.bad
def Fo {K:W.Frag}(r:a6 K θ H ds vs)(e:wa ds i=Z d):∃v,wa vs i=Z v/\cC K θ H d v:=by
 unfold wa at e ⊢;rw[<-av r];cases q:Co ds.length i with
 | none=>simp_all
 | some j=>
  rw[q] at e;exact dW r e
def rm {K:W.Frag}(hw:Wr K θ H M)(r:cC K θ H d v)(e:ba d M=Z xs):∃a vs,v=.ref a/\(pe K H a vs\/sX K H a vs)/\a6 K θ H xs vs:=by
 cases d with
 | tup ds=>refine q2x3 r λa vs e1 ta ra=>?_;cases e;exact⟨a,vs,e1,.inr ta.sq,ra⟩
 | lst ds=>refine q2x3 r λa vs e1 ta ra=>?_;cases e;exact⟨a,vs,e1,.inl ta.sq,ra⟩
 | ro ds=>refine q2x3 r λa vs e1 ta ra=>?_;cases e;exact⟨a,vs,e1,.inl ta.sq,ra⟩
 | mr k=>
  refine q1x2 r λa e1 ta=>?_;have e:(match M[k]? with|some (.lst xs)=>Z xs|_=>Y)=Z xs:=e;cases qm:M[k]? with
  | none=>simp_all
  | some m=>
   cases m with
   | lst ys=>
    rw[qm] at e;cases e;refine q1x2 (hw.at_ k a _ ta qm) λvs hv ra=>?_;exact⟨a,vs,e1,.inl (.inl (.inl hv)),ra⟩
   | _=>simp_all
 | _=>cases e
def Pp:RB X (rD X aB):=by
 intro value slice af s σ H x y v u Q I rx ry h hs;refine q4x4 h λθ M dx dy hw r1 r2 h=>?_;unfold aB at h;split at h
 ·rename_i xs i q;split at h
  ·rename_i d qd;refine q2x3 (rm hw r1 q) λa vs ea sq ra=>?_;refine q1x2 (Fo ra qd) λz ez rz=>?_;have hq:=h z θ H (.refl hw) rz;rcases sq with sq|sq
   ·exact Jb value slice af s σ H x y v u Q I rx ry ⟨a,vs,i,z,ea,r2,sq,ez,hq⟩ hs
   ·exact Nw value slice af s σ H x y v u Q I rx ry ⟨a,vs,i,z,ea,r2,sq,ez,hq⟩ hs
  ·exact h.elim
 ·exact h.elim
def g6 (xs:List D)(lo hi:Option Int):List D:=(xs.drop (HT.sIx xs.length 0 lo)).take (HT.sIx xs.length xs.length hi-HT.sIx xs.length 0 lo)
def BB (x:D)(lo hi:Option Int)(M:ay):bc D:=match x with
 | .tup xs=>.ok (.tup (g6 xs lo hi)) M
 | .lst xs=>.ok (.lst (g6 xs lo hi)) M
 | .ro xs=>.ok (.lst (g6 xs lo hi)) M
 | .mr k=>match M[k]? with
  | some (.lst xs)=>.ok (.lst (g6 xs lo hi)) M
  | _=>.bad
 | _=>.bad
abbrev GO:=fE->ay->bc (Option Int)
def bq:GO:=λ_ M=>.ok Y M
def cZ (g:GE):GO:=λρ M=>(g ρ M).bind λd M1=>match d with
 | .int i=>.ok (Z i) M1
 | _=>.bad
def Rx (X:Cx)(θ:List Addr)(H:Hp)(Q:Option Int->Hp->Prop):bc (Option Int)->Prop
 | .ok b M'=>∀θ' H',Go X.K θ H θ' H' M'->Q b H'
 | .err c M'=>eT X θ H c M'
 | .bad=>False
def tO (X:Cx)(g:GO):TO:=λσ H Q=>∃ρ θ M,mj X.K θ H σ ρ/\Wr X.K θ H M/\Rx X θ H Q (g ρ M)
def _root_.L2.PO.of {t:TO}(h:PO X e t)(w:∀σ H Q,t' σ H Q->t σ H Q):PO X e t':=λaf s σ H Q I q=>h af s σ H Q I (w σ H Q q)
def HV (h:PE X e (tE X g)):PO X (Z e) (tO X (cZ g)):=(Jx h).of λσ H Q hxx=>by
 refine q3x3 hxx λρ θ M hd hw h=>?_;refine bi hd hw (Rx X θ H Q) (λc M' h=>h) (λh=>h) h λd M1 v θ1 H1 g1 r1 h1=>?_
 split at h1
 ·rename_i i;exact⟨i,r1,h1 θ1 H1 g1⟩
 ·exact h1.elim
def K5 (hd:mj X.K θ H σ ρ)(hw:Wr X.K θ H M)(F:bc α->Prop)(Fe:∀c M',F (.err c M')->eT X θ H c M')(Fb:F .bad->False)
  {f:Option Int->ay->bc α} (h:F ((g ρ M).bind f)) (k:∀d M1 θ1 H1,Go X.K θ H θ1 H1 M1->F (f d M1)->Q d H1):tO X g σ H Q:=by
 refine⟨ρ,θ,M,hd,hw,?_⟩;cases q:g ρ M with
 | ok d M1=>
  rw[q] at h;exact λθ1 H1 g1=>k d M1 θ1 H1 g1 h
 | err c M1=>rw[q] at h;exact Fe c M1 h
 | bad=>simp_all
def rL (g:GE)(gl gh:GO):GE:=λρ M=>(g ρ M).bind λx M1=>(gl ρ M1).bind λlo M2=>(gh ρ M2).bind λhi M3=>BB x lo hi M3
def TZ (X:Cx):V->Option Int->Option Int->Hp->VK->Prop:=λx lo hi H Q=>∃θ M d,Wr X.K θ H M/\cC X.K θ H d x/\aK X θ H Q (BB d lo hi M)
def pS {K:W.Frag}(r:a6 K θ H ds vs)(lo hi:Option Int):a6 K θ H (g6 ds lo hi) (Do vs lo hi):=by
 unfold g6 Do;rw[<-av r];exact qL _ (qS _ r)
def RZ:RI X (TZ X):=by
 intro af s σ H x v vl vu lo hi sl Q I rx hs pl pu h;obtain⟨θ,M,d,hw,r,h⟩:=h;cases d with
 | tup ds=>
  obtain⟨a,vs,e,ta,ra⟩:=r
  by_cases hc:HT.sIx vs.length 0 lo=0/\HT.sIx vs.length vs.length hi=vs.length
  ·subst e;cases rx;obtain⟨its,rv,ht,hz⟩:=I.tuple ta.sq;have hlen:its.toArray.size=vs.length:=by exact rv.length.symm
   refine⟨"tuple",_,UJ.lookup,ht.typeIs,?_⟩;refine nR ht hs pl pu (by rw[hlen];exact hc) ⟨.ref a,H,I,rfl,h _ θ H (.refl hw) ⟨a,vs,rfl,ta,?_⟩⟩;have e:g6 ds lo hi=ds:=by
    unfold g6;rw[av ra,hc.1,hc.2,drop_zero,Y1,<-av ra,take_length]
   rw[e];exact ra
  ·exact MP af s σ H x v vl vu lo hi sl Q I rx hs pl pu ⟨a,vs,e,ta.sq,hc,λp hp=>h _ θ _ (cQ hw hp) (gH hw hp (pS ra lo hi))⟩
 | lst ds=>
  obtain⟨a,vs,e,ta,ra⟩:=r;exact xb af s σ H x v vl vu lo hi sl Q I rx hs pl pu ⟨a,vs,e,ta.sq,λp hp=>h _ θ _ (cQ hw hp) (ik hw hp (pS ra lo hi))⟩
 | ro ds=>
  obtain⟨a,vs,e,ta,ra⟩:=r;exact xb af s σ H x v vl vu lo hi sl Q I rx hs pl pu ⟨a,vs,e,ta.sq,λp hp=>h _ θ _ (cQ hw hp) (ik hw hp (pS ra lo hi))⟩
 | mr k=>
  obtain⟨a,e,ta⟩:=r;have h:aK X θ H Q (match M[k]? with|some (.lst xs)=>.ok (.lst (g6 xs lo hi)) M|_=>.bad):=h;cases qm:M[k]? with
  | none=>rw[qm] at h;exact h.elim
  | some m=>
   cases m with
   | lst ys=>
    rw[qm] at h;obtain⟨vs,hv,ra⟩:=hw.at_ k a _ ta qm;exact xb af s σ H x v vl vu lo hi sl Q I rx hs pl pu ⟨a,vs,e,.inl (.inl hv),λp hp=>h _ θ _ (cQ hw hp) (ik hw hp (pS ra lo hi))⟩
   | _=>rw[qm] at h;exact h.elim
 | _=>exact h.elim
def Qn (d:D)(M:ay):bc Bool:=match d with
 | .non=>.ok false M
 | .bl b=>.ok b M
 | .int i=>.ok (i != 0) M
 | .str x=>if x.length<=sizeLine then .ok ((x.length:Int) != 0) M else .bad
 | .tup xs=>.ok (!xs.isEmpty) M
 | .lst xs=>.ok (!xs.isEmpty) M
 | .ro xs=>.ok (!xs.isEmpty) M
 | .mr k=>match M[k]? with
  | some (.lst xs)=>.ok (!xs.isEmpty) M
  | _=>.bad
 | .exc _=>.bad
 | .any=>.bad
def gf (g:GE):GT:=λρ M=>(g ρ M).bind Qn
def lA {K:W.Frag}(r:a6 K θ H ds vs):(!vs.isEmpty)=!ds.isEmpty:=by
 have:=av r
 grind
def bU:FD:=λds M=>match ds with
 | [.str x]=>if x.length<=sizeLine then .ok (.int x.length) M else .bad
 | [d]=>match ba d M with
  | some xs=>.ok (.int xs.length) M
  | none=>.bad
 | _=>.bad
def AK:FD:=λds M=>match ds with
 | [.int i,.int j]=>.ok (.int (if j<i then j else i)) M
 | _=>.bad
def Ax:FD:=λds M=>match ds with
 | [.int i,.int j]=>.ok (.int (if j>i then j else i)) M
 | _=>.bad
def Dc:FD:=λds M=>match ds with
 | [.int i]=>.ok (.int i) M
 | [.bl b]=>.ok (.int (if b then 1 else 0)) M
 | _=>.bad
def nD:FD:=λds M=>match ds with
 | [d]=>match ba d M with
  | some xs=>.ok (.lst xs) M
  | none=>.bad
 | _=>.bad
def ze:FD:=λds M=>match ds with
 | [d]=>match ba d M with
  | some xs=>.ok (.mr M.length) (M++[.lst xs])
  | none=>.bad
 | _=>.bad
def dm:FD:=λds M=>match ds with
 | [d]=>match ba d M with
  | some xs=>.ok (.tup xs) M
  | none=>.bad
 | _=>.bad
def gE {K:W.Frag}(r:a6 K θ H [d] xs):∃v,xs=[v]/\cC K θ H d v:=by
 refine q2x3 r λv rr e h1 h2=>?_;subst h2;exact⟨v,e,h1⟩
def Bd {K:W.Frag}(r:a6 K θ H [d,d'] xs):∃v v',xs=[v,v']/\cC K θ H d v/\cC K θ H d' v':=by
 refine q2x3 r λv rr e h1 h2=>?_;refine q1x2 (gE h2) λv' e2 h3=>?_;subst e2;exact⟨v,v',e,h1,h3⟩
def GC (hc:X.calm=true):fF X (.builtin "max") (rC X Ax):=by
 intro af s σ H xs us Q I r h;refine q3x3 h λθ M ds hw rd h=>?_;unfold Ax at h;split at h
 ·rename_i i j;refine q2x3 (Bd rd) λv v' e rv rv'=>?_;exact DK hc af s σ H xs us Q I r ⟨i,j,by rw[e,rv,rv'],h _ θ H (.refl hw) rfl⟩
 ·exact h.elim
def Nl:fF X (.type "int") (rC X Dc):=by
 intro af s σ H xs us Q I r h;refine q3x3 h λθ M ds hw rd h=>?_;unfold Dc at h;split at h
 ·rename_i i;refine q1x2 (gE rd) λv e rv=>?_;exact wu af s σ H xs us Q I r (.inl ⟨i,by rw[e,rv],h _ θ H (.refl hw) rfl⟩)
 ·rename_i b;refine q1x2 (gE rd) λv e rv=>?_;exact wu af s σ H xs us Q I r (.inr ⟨b,by rw[e,rv],h _ θ H (.refl hw) rfl⟩)
 ·exact h.elim
def JA:fF X (.type "list") (rC X nD):=by
 intro af s σ H xs us Q I r h;refine q3x3 h λθ M ds hw rd h=>?_;unfold nD at h;split at h
 ·split at h
  ·rename_i ys q;refine q1x2 (gE rd) λv e rv=>?_;refine q2x3 (rm hw rv q) λa vs ea sq ra=>?_;exact qC af s σ H xs us Q I r ⟨a,vs,by rw[e,ea],sq,λl hl=>h _ θ _ (cQ hw hl) (ik hw hl ra)⟩
  ·exact h.elim
 ·exact h.elim
def E4:fF X (.type "list") (rC X ze):=by
 intro af s σ H xs us Q I r h;refine q3x3 h λθ M ds hw rd h=>?_;unfold ze at h;split at h
 ·split at h
  ·rename_i ys q;refine q1x2 (gE rd) λv e rv=>?_;refine q2x3 (rm hw rv q) λa vs ea sq ra=>?_;exact qC af s σ H xs us Q I r ⟨a,vs,by rw[e,ea],sq,λl hl=>h _ _ _ (HA hw hl ra) (pU hw)⟩
  ·exact h.elim
 ·exact h.elim
end
def eQ (cells:List (Str×Addr)):List (Str×NameKind)->List (Str×Addr)->List (Str×Addr)
 | [],acc=>acc
 | (n,k)::r,acc=>if k==.free then eQ cells r ((n,(cells.lookup n).getD 0)::acc) else eQ cells r acc
theorem uf:∀(l:List (Str×NameKind)) (cs:List (Str×Addr)),(∀p∈l,p.2=.free->∃c,env.cells.lookup p.1=Z c)->
  (forIn (m:=Sem) l cs λx r=>match x with
   | (name,kind)=>if(kind==NameKind.free)=true then do let __do_lift <-cellOf env name;pure (U9 ((name,__do_lift)::r)) else pure (U9 r))=pure (eQ env.cells l cs)
 | [],cs,h=>rfl
 | (n,k)::r,cs,h=>by
  have ih:=λcs=>uf  r cs λp hp=>h p (mem_cons_of_mem _ hp)
  rw[forIn_cons]
  by_cases hk:(k==NameKind.free)=true
  ·refine q1x1 (h (n,k) mem_cons_self (by simpa using hk)) λc hc=>?_;have e:cellOf env n=pure c:=by unfold cellOf;rw[hc]
   simp only[hk,if_true,eQ,e,pure_bind];rw[ih,hc];rfl
  ·simp only[hk,if_false,eQ,pure_bind,Vb];exact ih cs
def lT (h:∀p∈scope.names,p.2=.free->∃c,env.cells.lookup p.1=Z c):closureFor scope env=pure (eQ env.cells scope.names []):=by
 have:=uf  scope.names [] h;unfold closureFor
 simp_all
theorem u4 {cells:List (Str×Addr)}:∀(l:List (Str×NameKind)) (acc:List (Str×Addr)),(∀p∈acc,cells.lookup p.1=Z p.2)->(∀p∈l,p.2=.free->∃c,cells.lookup p.1=Z c)->
  ∀p∈eQ cells l acc,cells.lookup p.1=Z p.2
 | [],acc,ha,h=>ha
 | (n,k)::r,acc,ha,h=>by
  have hr:=λp hp=>h p (mem_cons_of_mem _ hp)
  unfold eQ
  by_cases hk:(k==NameKind.free)=true
  ·rw[if_pos hk];refine u4 r _ (λp hp=>?_) hr;rcases mem_cons.mp hp with e|hp
   ·refine q1x1 (h (n,k) mem_cons_self (by simpa using hk)) λc hc=>?_
    simp_all
   ·exact ha p hp
  ·rw[if_neg hk];exact u4 r acc ha hr
theorem uJ {cells:List (Str×Addr)}:∀(l:List (Str×NameKind)) (acc:List (Str×Addr)),∀p∈acc,p∈eQ cells l acc
 | [],acc,p,h=>h
 | (n,k)::r,acc,p,h=>by
  unfold eQ
  by_cases hk:(k==NameKind.free)=true
  ·rw[if_pos hk];exact uJ r _ p (mem_cons_of_mem _ h)
  ·rw[if_neg hk];exact uJ r acc p h
theorem uW {cells:List (Str×Addr)}:∀(l:List (Str×NameKind)) (acc:List (Str×Addr)) (n:Str),(n,NameKind.free)∈l->∃c,(n,c)∈eQ cells l acc
 | [],acc,n,h=>by cases h
 | (m,k)::r,acc,n,h=>by
  unfold eQ;rcases mem_cons.mp h with e|h
  ·cases e;exact⟨_,uJ r _ _ mem_cons_self⟩
  ·by_cases hk:(k==NameKind.free)=true
   ·rw[if_pos hk];exact uW r _ n h
   ·rw[if_neg hk];exact uW r acc n h
def oW {l:List (Str×Addr)}(h:(n,c)∈l):∃c',l.lookup n=Z c':=by
 induction l with
 | nil=>cases h
 | cons p r ih=>
  obtain⟨m,d⟩:=p
  by_cases e:(n==m)=true
  ·exact⟨d,by simp[XG,e]⟩
  ·have e':(n==m)=false:=by simpa using e
   rcases mem_cons.mp h with q|q
   ·grind
   ·refine q1x1 (ih q) λc' hc=>?_;exact⟨c',by simp only[XG,e'];omega⟩
theorem iU {env:Env}:∀{names:List (Str×NameKind)} {x:Str} {k:NameKind},
  (names.map λ(n,k)=>if(k==NameKind.free&&env.scope.kind==.function&&env.kindOf n==Z .cell) then(n,NameKind.cell) else(n,k)).lookup x=Z k->
   names.lookup x=Z k\/(k=.cell/\names.lookup x=Z .free)
 | [],_,_,h=>by simp_all
 | (n,k')::r,x,k,h=>by
  have ih:=@iU env r x k;have h:XG x ((if(k'==NameKind.free&&env.scope.kind==.function&&env.kindOf n==Z .cell)=true then(n,NameKind.cell) else(n,k'))::_)=Z k:=h
  by_cases hc:(k'==NameKind.free&&env.scope.kind==.function&&env.kindOf n==Z .cell)=true
  ·rw[if_pos hc] at h;cases hx:x==n with
   | true=>
    simp_all
   | false=>
    simp only[lookup_cons,hx] at h ⊢;exact ih h
  ·rw[if_neg hc] at h;cases hx:x==n with
   | true=>
    simp only[lookup_cons,hx] at h ⊢;exact .inl h
   | false=>
    simp only[lookup_cons,hx] at h ⊢;exact ih h
def cy (sc:Scope)(fk:Str->Option NameKind)(xs:List Str)(R N:List Str):Bool:=
 decide (sc.kind=.function)&&xs.all (λx=>sc.names.lookup x==Z .local) &&
 sc.names.all (λp=>match p.2 with
  | .cell=>false
  | .local=>(xs.contains p.1||p.1==(".0":Str))&&sc.names.lookup p.1==Z .local
  | .free=>fk p.1==Z .cell||fk p.1==Z .free
  | _=>true) &&
 decide ((xs++R).Nodup)&&!(R.contains (".0":Str))&&R.length==N.length &&
 (R.zip N).all (λp=>p.1==p.2||sc.names.lookup p.1 != Z .free)
structure cq (sc:Scope)(fk:Str->Option NameKind)(xs:List Str)(R N:List Str):Prop where
 kind:sc.kind=.function
 own:∀x∈xs,sc.names.lookup x=Z .local
 nocell:∀p∈sc.names,p.2≠.cell
 locs:∀p∈sc.names,p.2=.local->p.1∈xs\/p.1=(".0":Str)
 lnames:∀p∈sc.names,p.2=.local->sc.names.lookup p.1=Z .local
 free:∀p∈sc.names,p.2=.free->fk p.1=Z .cell\/fk p.1=Z .free
 nd:(xs++R).Nodup
 no0:(".0":Str)∉R
 len:R.length=N.length
 same:∀(i:Nat) y,R[i]?=Z y->sc.names.lookup y=Z .free->N[i]?=Z y
def cq.of {R:List Str}(h:cy sc fk xs R N=true):cq sc fk xs R N:=by
 unfold cy at h;simp only[Uw,decide_eq_true_eq,all_eq_true,Ys,beq_iff_eq] at h;obtain⟨⟨⟨⟨⟨⟨h1,h2⟩,h3⟩,h4⟩,h5⟩,h6⟩,h7⟩:=h;refine⟨h1,h2,λp hp e=>?_,λp hp e=>?_,λp hp e=>?_,λp hp e=>?_,h4,?_,h6,λi y hy hf=>?_⟩
 ·have:=h3 p hp;rw[e] at this;simp at this
 ·have:=h3 p hp;simp_all
 ·have:=h3 p hp;rw[e] at this;simp at this;exact this.2
 ·have:=h3 p hp;rw[e] at this;simp at this;exact this
 ·grind
 ·refine q1x1 (Uk.mp hy) λhi e=>?_;have hn:i<N.length:=by rw[<-h6];exact hi
  have hz:(R[i],N[i])∈R.zip N:=by
   rw[mem_iff_getElem];exact⟨i,by simp;omega,by simp⟩
  have:=h7 _ hz
  simp_all
def aC (X:Cx)(scope:Scope)(xs:List Str)(R:List Str)(fp:List Addr)(s:Shared)(H:Hp)(C:Addr):Cx where
 prog:=X.prog
 w:=X.w
 K:=X.K
 mg:=X.mg
 base:=X.base
 A:=X.A
 N:=xs++R
 s₀:=s
 H₀:=H
 env:=compEnvC scope (eQ X.env.cells scope.names []) C X.env
 outer:=X.stack
 stack:=X.stack
 ex:=fp
 fn:=λ_=>false
 calm:=X.calm
 pn:=[]
 xe:=λ_ _=>False
section
variable {X:Cx}{af:List (Addr×Obj)}{σ:L2.St}{H:Hp}{s:Shared}{scope:Scope}{xs:List Str}{R:List Str}{fp:List Addr}{C:Addr}
def cq.cells (S:cq scope X.env.kindOf xs R X.N)(I:L2.Inv X af σ H s):∀p∈scope.names,p.2=.free->∃c,X.env.cells.lookup p.1=Z c:=λp hp e=>I.ok.has p.1 (S.free p hp e)
def de (S:cq scope X.env.kindOf xs R X.N)(I:L2.Inv X af σ H s)(h:(eQ X.env.cells scope.names []).lookup y=Z c):X.env.cells.lookup y=Z c:=
 u4 scope.names [] (λ_ z=>by cases z) (S.cells I) (y,c) (PySem.mem_of_lookup h)
def EQ (S:cq scope X.env.kindOf xs R X.N)(I:L2.Inv X af σ H s)(hC:s.heap.objs.size<=C)(k:∀b o,s.heap.get? b=Z o->h4.get? b=Z o)(hn:h4.Ns C m)
  (hf:∀b∈fp,hV X af H b) (hfl:∀b∈fp,b<s.heap.objs.size):L2.Inv (aC X scope xs R fp s H C) [] (UD xs.length Y++σ) H {s with heap:=h4,toks:=tk}:=by
 have hkn:∀y kk,(relabel scope X.env).names.lookup y=Z kk->(kk=.cell\/kk=.free)->scope.names.lookup y=Z .free:=λy kk e hk=>by
  rcases iU e with q|q
  ·rcases hk with z|z
   ·subst z;exact absurd rfl (S.nocell _ (PySem.mem_of_lookup q))
   ·subst z;exact q
  ·exact q.2
 have hasc:∀y,scope.names.lookup y=Z .free->∃c,(eQ X.env.cells scope.names []).lookup y=Z c:=λy e=>by
  refine q1x1 (uW (cells:=X.env.cells) scope.names [] y (PySem.mem_of_lookup e)) λc hc=>?_;exact oW hc
 refine⟨⟨I.ok.mod,S.kind,I.ok.glob,I.ok.blt,hC,λy z c h1 h2=>I.ok.inj y z c (de S I h1) (de S I h2),λy hy=>?_,λy c z=>absurd (show false=true from z) Uy,I.ok.hd,I.ok.frames,.inl rfl,λb hb=>⟨?_,λy c e=>?_⟩,I.bs,UK I.ok.bsz I.sz,λb o e hb=>?_,λb hb z=>?_,I.stack,I.stkFree⟩,
  rfl,I.bare,Un.kept k,⟨m,hn,λi y v h1 h2 h3=>?_⟩,λy c e=>?_,I.hok.fresh hC,λy c e=>I.freeC y c (de S I e),λp hp=>absurd (show p∈([]:List (Addr×Obj)) from hp) (by simp),I.hok.kept k,?_⟩
 ·rcases hy with e|e
  ·exact hasc y (hkn y _ e (.inl rfl))
  ·exact hasc y (hkn y _ e (.inr rfl))
 ·exact Uz (Ux (hfl b hb) hC)
 ·exact(hf b hb).2.2.2.2.1 y c (de S I e)
 ·rcases(hf b hb).2.2.2.1 with z|z
  ·exact I.ok.noex b o e z
  ·exact absurd (Ux (Heap.lt_size e) (UK I.ok.bsz z)) (Wi _)
 ·rcases mem_cons.mp (I.stkSub b z) with e|e
  ·exact(hf b hb).2.1 e
  ·exact(hf b hb).2.2.1 e
 ·by_cases hi:i<xs.length
  ·exfalso;rw[getElem?_append_left (by rw[length_replicate];exact hi),getElem?_replicate,if_pos hi] at h2;cases h2
  ·obtain⟨i,rfl⟩:∃j,i=xs.length+j:=⟨i-xs.length,by omega⟩;have h1:R[i]?=Z y:=by
    have h1:(xs++R)[xs.length+i]?=Z y:=h1;rw[getElem?_append_right (by omega)] at h1;simpa using h1
   have h2:σ[i]?=Z (Z v):=by
    rw[getElem?_append_right (by rw[length_replicate];omega)] at h2;simpa using h2
   have hyR:y∈R:=mem_of_getElem? h1;have hf':scope.names.lookup y=Z .free/\((relabel scope X.env).names.lookup y=Z .cell\/(relabel scope X.env).names.lookup y=Z .free):=by
    have h3:(relabel scope X.env).names.lookup y=Z .local\/(relabel scope X.env).names.lookup y=Z .cell\/(relabel scope X.env).names.lookup y=Z .free:=h3;rcases h3 with e|e|e
    ·rcases iU e with q|q
     ·exfalso;rcases S.locs _ (PySem.mem_of_lookup q) rfl with z|z
      ·exact(nodup_append.mp S.nd).2.2 y z y hyR rfl
      ·have z:y=(".0":Str):=z;rw[z] at hyR;exact S.no0 hyR
     ·exact absurd q.1 (by intro z;cases z)
    ·exact⟨hkn y _ e (.inl rfl),.inl e⟩
    ·exact⟨hkn y _ e (.inr rfl),.inr e⟩
   have hN:=S.same i y h1 hf'.1;have hk:=S.free (y,.free) (PySem.mem_of_lookup hf'.1) rfl;refine q1x2 I.loc λmX hnX hl=>?_;have vis:LZ X.env.scope y:=by
    rcases hk with z|z
    ·exact .inr (.inl z)
    ·exact .inr (.inr z)
   refine q1x2 (hl i y v hN h2 vis) λu r l=>?_;refine⟨u,r,.inr ⟨hf'.2,?_⟩⟩;rcases l with⟨z,_⟩|⟨_,c,hc,o,ho,hod⟩
   ·exfalso;rcases hk with q|q
    ·have q:X.env.kindOf y=Z .cell:=q;rw[z] at q;cases q
    ·have q:X.env.kindOf y=Z .free:=q;rw[z] at q;cases q
   ·refine q1x1 (hasc y hf'.1) λc' hc'=>?_;have:c'=c:=by
     have:=de S I hc';rw[hc] at this;exact(UT this).symm
    subst this;exact⟨c',hc',o,k _ _ ho,hod⟩
 ·refine q2x2 (I.cell y c (de S I e)) λv o ho hd=>?_;exact⟨v,o,k _ _ ho,hd⟩
 ·show(UD xs.length Y++σ).length=(xs++R).length;rw[length_append,length_append,length_replicate,I.len,S.len]
end
def cr (t:rN)(gc:GT)(ge:GE):List D->fE->ay->bc (List D)
 | [],ρ,M=>if t.ok M then .ok [] M else .bad
 | d::r,ρ,M=>if t.ok M then
   match gc (Z d::ρ) M with
   | .ok true M1=>match ge (Z d::ρ) M1 with
    | .ok e M2=>(cr t gc ge r ρ M2).bind λes M3=>.ok (e::es) M3
    | _=>.bad
   | .ok false M1=>cr t gc ge r ρ M1
   | _=>.bad
  else .bad
def bp:GT:=λ_ M=>.ok true M
def aW (t:rN)(n:Nat)(sg:GG)(gc:GT)(ge:GE):List D->fE->ay->bc (List D)
 | [],ρ,M=>if t.ok M then .ok [] M else .bad
 | d::r,ρ,M=>if t.ok M then
   match sg d (UD n Y++ρ) with
   | none=>.bad
   | some ρ1=>match gc ρ1 M with
    | .ok true M1=>match ge ρ1 M1 with
     | .ok e M2=>(aW t n sg gc ge r ρ M2).bind λes M3=>.ok (e::es) M3
     | _=>.bad
    | .ok false M1=>aW t n sg gc ge r ρ M1
    | _=>.bad
  else .bad
def ce (gi:GI)(n:Nat)(sg:GG)(gc:GT)(ge:GE)(mk:List D->ay->bc D):GE:=λρ M=>(gi ρ M).bind λt M1=>(aW t n sg gc ge t.ds ρ M1).bind mk
theorem yE (t:rN)(gc:GT)(ge:GE):∀(ds:List D) (ρ:fE) (M:ay),cr t gc ge ds ρ M=aW t 1 (d7 0) gc ge ds ρ M
 | [],ρ,M=>rfl
 | d::r,ρ,M=>by
  unfold cr aW;show _=(if t.ok M=true then(match gc (Z d::ρ) M with
    | .ok true M1=>match ge (Z d::ρ) M1 with
     | .ok e M2=>(aW t 1 (d7 0) gc ge r ρ M2).bind λes M3=>.ok (e::es) M3
     | _=>.bad
    | .ok false M1=>aW t 1 (d7 0) gc ge r ρ M1
    | _=>.bad) else .bad)
  simp only[(yE t gc ge r)]
def yq (n:Nat)(sg:GG):Prop:=∀d ρ ρ',sg d ρ=Z ρ'->ρ'.length=ρ.length/\∀i:Nat,n<=i->ρ'[i]?=ρ[i]?
def Cc (h:i<n):yq n (d7 i):=λd ρ ρ' e=>by
 cases e;exact⟨by simp,λj hj=>by rw[getElem?_set_ne (by omega)]⟩
theorem zr:∀{is:List Nat} {ds:List D} {ρ ρ':fE},is.all (λi=>decide (i<n))=true->CS is ds ρ=Z ρ'->ρ'.length=ρ.length/\∀i:Nat,n<=i->ρ'[i]?=ρ[i]?
 | [],[],ρ,ρ',_,e=>by cases e;exact⟨rfl,λ_ _=>rfl⟩
 | [],_::_,_,_,_,e=>by cases e
 | _::_,[],_,_,_,e=>by cases e
 | i::is,d::ds,ρ,ρ',h,e=>by
  rw[all_cons,Uw] at h;have hi:=by simpa using h.1
  refine q0x2 (zr h.2 (e)) λa b=>?_;exact⟨by simp_all,λj hj=>by rw[b j hj,getElem?_set_ne (by omega)]⟩
def yq.back {K:W.Frag}(o:yq n sg)(e:sg d (UD n Y++ρ)=Z ρ1)(h:mj K θ H τ ρ1):mj K θ H τ (UD n Y++ρ):=by
 refine q0x2 (o _ _ _ e) λa b=>?_;refine⟨by rw[<-a];exact h.len,λi d' q=>?_⟩
 by_cases hi:i<n
 ·rw[getElem?_append_left (by simp_all),getElem?_replicate,if_pos hi] at q
  grind
 ·rw[<-b i (by omega)] at q;exact h.at_ i d' q
def a9 (gi:GI)(gc:GT)(ge:GE)(mk:List D->ay->bc D):GE:=λρ M=>(gi ρ M).bind λt M1=>(cr t gc ge t.ds ρ M1).bind mk
def zC (elt target iter:Expr)(ifs:List Expr)(scope:Scope)(pos:Pos)(it acc:Value)(env:Env)(cond:Sem Bool)
  (hc:(forIn (m:=Sem) ifs true λc r=>if r=true then do let ok <-isTrue c env (eval c env);pure (U9 ok) else pure (U9 r))=cond) :
  compTurn (.ListComp elt [⟨target,iter,ifs,0⟩] scope pos) 0 it acc env=(standAt iter.pos >>= λ_=>pyNext it >>= λr=>match r with
   | none=>pure (.done .next)
   | some v=>letOwnedTupleGo target it v >>= λ_=>assign target env v >>= λ_=>cond >>= λok=>
    if ok=true then((eval elt env >>= λx=>call (.builtin "list.append") [acc,x] >>= λ_=>pure ()) >>= λ_=>
     again (.compLoop (.ListComp elt [⟨target,iter,ifs,0⟩] scope pos) 0 it acc env)) else again (.compLoop (.ListComp elt [⟨target,iter,ifs,0⟩] scope pos) 0 it acc env)):=by
 subst hc;rfl
section
variable {prog:Program}{w:World}{A:Around}{R:Result->Shared->Prop}{s:Shared}
def m3 {iter:Expr}{cond:Sem Bool}
  (hc:(forIn (m:=Sem) ifs true λc r=>if r=true then do let ok <-isTrue c env (eval c env);pure (U9 ok) else pure (U9 r))=cond) (I:Nat->Shared->Prop)
  (turn:∀n s,I n s->wpAny (model prog w) A (pyNext it) (λr s₁=>match r with
   | none=>R (.ok .next) s₁
   | some v=>wpAny (model prog w) A (letOwnedTupleGo target it v) (λ_ s₂=>wpAny (model prog w) A (assign target env v) (λ_ s₃=>wpAny (model prog w) A cond (λok s₄=>if ok=true then
     wpAny (model prog w) A (eval elt env) (λx s₅=>wpAny (model prog w) A (call (.builtin "list.append") [acc,x]) (λ_ s₆=>∃m,m<n/\I m s₆) (λ_ _=>False) s₅) (λ_ _=>False) s₄
     else∃m,m<n/\I m s₄) (λ_ _=>False) s₃) (λ_ _=>False) s₂) (λ_ _=>False) s₁) (λ_ _=>False) s)
  (n:Nat) (h:I n s):codeAny (model prog w) A (.compLoop (.ListComp elt [⟨target,iter,ifs,0⟩] scope pos) 0 it acc env) R s:=by
 refine codeAny_loop rfl I (λn s hI=>?_) n h;refine wpAny_noted ?_;rw[zC _ _ _ _ _ _ _ _ _ _ hc];refine wpAny_bind (wpAny_standAt (wpAny_bind (wpAny_mono (turn n s hI) (λr s₁ h₁=>?_) λ_ _ z=>z.elim)));cases r with
 | none=>exact wpAny_pure h₁
 | some v=>
  refine wpAny_bind (wpAny_mono h₁ (λ_ s₂ h₂=>?_) λ_ _ z=>z.elim);refine wpAny_bind (wpAny_mono h₂ (λ_ s₃ h₃=>?_) λ_ _ z=>z.elim);refine wpAny_bind (wpAny_mono h₃ (λok s₄ h₄=>?_) λ_ _ z=>z.elim);cases ok with
  | true=>
   rw[if_pos rfl] at h₄;rw[if_pos rfl];exact wpAny_bind (wpAny_bind (wpAny_mono h₄ (λx s₅ h₅=>wpAny_bind (wpAny_mono h₅ (λ_ s₆ h₆=>wpAny_pure (wpAny_pure ⟨rfl,h₆⟩)) λ_ _ z=>z.elim)) λ_ _ z=>z.elim))
  | false=>
   rw[if_neg Uy] at h₄;rw[if_neg Uy];exact wpAny_pure ⟨rfl,h₄⟩
theorem Bc:(forIn (m:=Sem) ([]:List Expr) true λc r=>if r=true then do let ok <-isTrue c env (eval c env);pure (U9 ok) else pure (U9 r))=pure true:=rfl
def C6:(forIn (m:=Sem) [c] true λc r=>if r=true then do let ok <-isTrue c env (eval c env);pure (U9 ok) else pure (U9 r))=isTrue c env (eval c env):=by
 simp
end
def Kd {a:Nat}(h:b<a)(e:c=a+1):b≠c:=by omega
def Gv {b a c:Nat}(h:b<c)(e:c=a):a≠b:=by omega
def xw {b a c:Nat}(h:b<c)(e:c=a):b≠a:=by omega
abbrev iX (its:List Value)(n:Nat):Obj:={cls:=.type "list",data:=.seq its.toArray n}
section
variable {X:Cx}{af:List (Addr×Obj)}{σ:L2.St}{s:Shared}{scope:Scope}{xs:List Str}{tg:Expr}{sg:GG}{R:List Str}{elt iter:Expr}{ifs:List Expr}{pos:Pos}{E:Value->Shared->Prop}
def Iy {K:W.Frag}{σ:L2.St}(h:mj K θ H σ ρ):mj K θ H (UD n Y++σ) (UD n Y++ρ):=by
 refine⟨by rw[length_append,length_append,length_replicate,length_replicate,h.len],λi d e=>?_⟩
 by_cases hi:i<n
 ·rw[getElem?_append_left (by simp_all),getElem?_replicate,if_pos hi] at e
  grind
 ·rw[getElem?_append_right (by simp_all),length_replicate] at e ⊢;exact h.at_ _ d e
inductive T9 (X0:Cx) (fp:List Addr) (tn:Nat->Heap->Prop) (K:W.Frag) (acc:Addr) (t:rN) (ρ0:fE) (θ1:List Addr) (H2:Hp) (es:List D) (go:List D->ay->bc (List D)) (Mend:ay) (n:Nat) (s':Shared):Prop
 | mk (i:Nat) (τ:L2.St) (H':Hp) (θ':List Addr) (M':ay) (ds rest:List D) (vs:List V) (its:List Value) (na:Nat) (e1:n=t.ds.length-i) (e2:i<=t.ds.length)
   (e3:L2.Inv X0 [(acc,iX its na)] τ H' s') (e4:mj K θ' H' τ ρ0) (e5:tn i s'.heap) (e6:∀b∈fp,H' b=Y) (e7:Go K θ1 H2 θ' H' M') (e8:a6 K θ' H' ds vs) (e9:aV vs its) (e10:go (t.ds.drop i) M'=.ok rest Mend) (e11:ds++rest=es)
def oB {t:rN}{M1:ay}{RR:Value->Addr->Result->Shared->Prop}
  (S:cq scope X.env.kindOf xs R X.N) (hc:X.calm=true) (I2:L2.Inv X af σ H2 s2) (T:A7 X.prog X.w X.K tg J fp it tn) (st2:tn 0 s2.heap) (f2:∀b∈fp,hV X af H2 b)
  (hw1:Wr X.K θ1 H2 M1) (hd1:mj X.K θ1 H2 σ ρ) (hJ:HK X.K J θ1 H2 t) (hgo:aW t xs.length sg gc ge t.ds ρ M1=.ok es Mend) (hlen:es.length<=sizeLine)
  (hcd:∀C,∃cond,(forIn (m:=Sem) ifs true λc r=>if r=true then do let ok <-isTrue c (aC X scope xs R fp s2 H2 C).env (eval c (aC X scope xs R fp s2 H2 C).env);pure (U9 ok) else pure (U9 r))=cond/\
   ∀(af:List (Addr×Obj)) (s:Shared) (σ:L2.St) (H:Hp) (Q:Bool->Hp->Prop),L2.Inv (aC X scope xs R fp s2 H2 C) af σ H s->tT (aC X scope xs R fp s2 H2 C) gc σ H Q->wpAny (model X.prog X.w) X.A cond (TP (aC X scope xs R fp s2 H2 C) af σ Q) (λ_ _=>False) s)
  (own:yq xs.length sg) (hg:∀C,PG (aC X scope xs R fp s2 H2 C) tg (tG (aC X scope xs R fp s2 H2 C) sg))
  (he:∀C,PE (aC X scope xs R fp s2 H2 C) elt (tE (aC X scope xs R fp s2 H2 C) ge))
  (fin:∀(acc C:Addr) (s':Shared) (H':Hp) (θ':List Addr) (vs:List V) (m:Str->Option Value),L2.Inv X af σ (bB H' acc (.lst vs)) s'->s'.heap.Ns C m->hV X af (bB H' acc (.lst vs)) C->Go X.K θ1 H2 θ' H' Mend->H' acc=Y->a6 X.K θ' H' es vs->RR (.ref acc) C (.ok .next) s') :
  wpAny (model X.prog X.w) X.A (newList []) (λacc s₃=>wpAny (model X.prog X.w) X.A (newFunctionEnv scope X.env.globals (eQ X.env.cells scope.names []) [] X.env.qual Y .none (Z X.env)) (λcenv s₄=>
   codeAny (model X.prog X.w) X.A (.compStart (.ListComp elt [⟨tg,iter,ifs,0⟩] scope pos) 0 (.ref it) acc {cenv with scope:=relabel scope X.env}) (RR acc cenv.locals) s₄) E s₃) E s2:=by
 refine wpAny_newObj_type (wpAny_newFunctionEnv S.nocell (by intro y hy;simp at hy) (λh₁ hns₁ hsb₁=>?_) S.kind);dsimp only at hns₁ hsb₁ ⊢;generalize hHp:s2.heap.push {cls:=.type "list",dict:=Y,data:=.seq ([]:List Value).toArray}=Hp2 at hns₁ hsb₁ ⊢;have hCe:Hp2.objs.size=s2.heap.objs.size+1:=by rw[<-hHp,Heap.size_push]
 generalize hCd:Hp2.objs.size=C at hns₁ hsb₁ hCe ⊢;generalize hAd:s2.heap.objs.size=acc at hCe ⊢;have hDC:acc≠C:=by rw[hCe];exact Uz (Wn _)
 have old:∀b o,s2.heap.get? b=Z o->h₁.get? b=Z o:=λb o e=>by
  have hb:b<acc:=by rw[<-hAd];exact Heap.lt_size e
  refine hsb₁.extBut b o (Kd hb hCe) (Heap.get?_push_of_some _ ?_);rw[<-hHp];exact Heap.get?_push_of_some _ e
 have hacc0:h₁.get? acc=Z (iX [] 0):=by
  refine hsb₁.extBut acc _ hDC (Heap.get?_push_of_some _ ?_);rw[<-hHp,<-hAd];exact Heap.get?_push_size _ rfl
 have hfl:∀b∈fp,b<s2.heap.objs.size:=λb hb=>by
  refine q1x2 (T.obj 0 _ st2 b hb) λo e _=>?_;exact Heap.lt_size e
 have hCs:s2.heap.objs.size<=C:=by omega
 have IY0:L2.Inv (aC X scope xs R fp s2 H2 C) [] (UD xs.length Y++σ) H2 {s2 with heap:=h₁,toks:=s2.toks+([]:List (Str×Value)).length}:=EQ S I2 hCs old hns₁ f2 hfl;refine q1x2 (hcd C) λcond hcond hct=>?_;have fpY:∀{H':Hp} {p:Obj},(∀b∈fp,H' b=Y)->∀b∈fp,hV (aC X scope xs R fp s2 H2 C) [(acc,p)] H' b:=λ{H' p} hn b hb=>by
  refine⟨hn b hb,?_,λz=>?_,.inl hb,λy c e=>?_,λq hq=>?_⟩
  ·exact Uz (Ux (hfl b hb) hCs)
  ·rcases mem_cons.mp (I2.stkSub b z) with e|e
   ·exact(f2 b hb).2.1 e
   ·exact(f2 b hb).2.2.1 e
  ·exact(f2 b hb).2.2.2.2.1 y c (de S I2 e)
  ·have hq:q∈([]:List (Addr×Obj))++[(acc,p)]:=hq;have e:q=(acc,p):=by simpa using hq
   rw[e];exact Gv (hfl b hb) hAd
 have accF:∀b∈vq X.stack,acc≠b:=λb hb e=>by
  have:acc∉X.env.locals::X.fs:=by
   intro z;rcases mem_cons.mp z with z|z
   ·exact Gv I2.lt hAd z
   ·exact I2.nofs (Xk hAd) z
  exact this (e▸I2.stkSub b hb)
 have loop:∀s₃:Shared,s₃={s2 with heap:=h₁,toks:=s2.toks+([]:List (Str×Value)).length}->
   codeAny (model X.prog X.w) X.A (.compLoop (.ListComp elt [⟨tg,iter,ifs,0⟩] scope pos) 0 (.ref it) (.ref acc) (aC X scope xs R fp s2 H2 C).env) (RR (.ref acc) C) s₃:=by
  rintro s₃ rfl;have pin0:∀{σ':L2.St} {H':Hp} {s':Shared} {its:List Value} {n:Nat},L2.Inv (aC X scope xs R fp s2 H2 C) [] σ' H' s'->s'.heap.get? acc=Z (iX its n)->H' acc=Y->L2.Inv (aC X scope xs R fp s2 H2 C) [(acc,iX its n)] σ' H' s':=λ{σ' H' s' its n} I' e hn=>
   I'.pins_of λp hp=>by
    have ep:p=(acc,iX its n):=by simpa using hp
    subst ep;exact⟨e,hn,hDC,λz=>accF acc z rfl,λv z=>by cases z⟩
  refine m3 hcond (T9 (aC X scope xs R fp s2 H2 C) fp tn X.K acc t (UD xs.length Y++ρ) θ1 H2 es (λl N=>aW t xs.length sg gc ge l ρ N) Mend) ?_ t.ds.length
   ⟨0,_,H2,θ1,M1,[],es,[],[],0,rfl,UW _,pin0 IY0 hacc0 (I2.hok.fresh (Xk hAd)),Iy hd1,T.keep 0 _ _ st2 (λb hb o e=>old b o e),λb hb=>(f2 b hb).1,.refl hw1,rfl,.nil,hgo,rfl⟩
  rintro n s' ⟨i,τ,H',θ',M',ds,rest,vs,its,na,rfl,hil,I',dn',st',fr',g',rd',rv',hrest,hes⟩;have hok:t.ok M'=true:=by
   cases hq:t.ok M' with
   | true=>rfl
   | false=>
    exfalso;cases hdr:t.ds.drop i with
    | nil=>rw[hdr,aW,if_neg (by rw[hq];exact Uy)] at hrest;cases hrest
    | cons d r=>rw[hdr,aW,if_neg (by rw[hq];exact Uy)] at hrest;cases hrest
  refine q0x2 (hJ θ' H' M' g' hok i) λhy hst=>?_
  by_cases hlt:i<t.ds.length
  ·have e1:t.ds[i]?=Z t.ds[i]:=getElem?_eq_getElem hlt;refine q0x2 (hy _ e1) λhgo' hyl=>?_;rw[drop_eq_getElem_cons hlt,aW,if_pos hok] at hrest;refine bS (T.item (aC X scope xs R fp s2 H2 C) rfl rfl rfl hc i _ s' _ H' _ I' (fpY fr') st' hgo') λr s4 hxx=>?_
   refine q1x2 hxx λu hr h4=>?_;subst hr;refine bS h4 λ_ s5 hxx=>?_
   obtain⟨v,H5,I5,r5,y5,st5,fr5⟩:=hxx;refine q0x2 (hyl v H5 y5) λgy rx=>?_;have I5':=I5.pinned (fpY fr5) (T.obj _ _ st5);cases qs:sg t.ds[i] (UD xs.length Y++ρ) with
   | none=>rw[qs] at hrest;cases hrest
   | some ρ1=>
   rw[qs] at hrest;dsimp only at hrest;refine bS (hg C _ s5 _ H5 v u (λσ6 H6=>mj X.K θ' H6 σ6 ρ1/\H6=H5) I5' r5 ⟨_,θ',M',t.ds[i],dn'.go gy,gy.wr,rx,ρ1,qs,λσ6 d6=>⟨d6,rfl⟩⟩) λ_ s6 hxx=>?_
   refine q2x3 hxx λσ6 H6 I6 hdY eH6=>?_;subst eH6;cases qc:gc ρ1 M' with
   | bad=>rw[qc] at hrest;cases hrest
   | err c Mx=>rw[qc] at hrest;cases hrest
   | ok b Mb=>
    refine bS (hct _ s6 _ H6 (λb' H7=>b'=b/\∃θ7,Go X.K θ' H6 θ7 H7 Mb) I6 ⟨_,θ',M',hdY,gy.wr,?_⟩) λok s7 ⟨H7,I7,eb,θ7,g7⟩=>?_
    ·rw[qc];exact λθ7 H7 g7=>⟨rfl,θ7,g7⟩
    subst eb;have fpk:∀{s8:Shared} {σ8:L2.St} {H8:Hp},L2.Inv (aC X scope xs R fp s2 H2 C) ([(acc,iX its na)]++uU fp s5.heap) σ8 H8 s8->(∀b∈fp,H8 b=Y)/\(∀b∈fp,∀o,s5.heap.get? b=Z o->s8.heap.get? b=Z o)/\s8.heap.get? acc=Z (iX its na)/\H8 acc=Y:=λ{s8 σ8 H8} I8=>by
     have pa:=I8.pin (acc,iX its na) (mem_append_right _ (mem_append_left _ (by simp)));refine⟨λb hb=>?_,λb hb o e=>(I8.pin (b,o) (mem_append_right _ (mem_append_right _ (lO hb e)))).1,pa.1,pa.2.1⟩;refine q1x2 (T.obj _ _ st5 b hb) λo e d=>?_;exact(I8.pin (b,o) (mem_append_right _ (mem_append_right _ (lO hb e)))).2.1
    cases ok with
    | false=>
     rw[if_neg Uy];rw[qc] at hrest;refine q0x4 (fpk I7) λk1 k2 k3 k4=>?_;exact⟨t.ds.length-(i+1),by omega,i+1,σ6,H7,θ7,Mb,ds,rest,vs,its,na,rfl,hlt,I7.unpinned,own.back qs (hdY.go g7),T.keep _ _ _ st5 k2,k1,g'.trans (gy.trans g7),rd'.go (gy.trans g7),rv',hrest,hes⟩
    | true=>
     rw[if_pos rfl];rw[qc] at hrest;have hrest:(match ge ρ1 Mb with
      | .ok e M2=>(aW t xs.length sg gc ge (t.ds.drop (i+1)) ρ M2).bind λes M3=>.ok (e::es) M3
      | _=>.bad)=bc.ok rest Mend:=hrest
     cases qe:ge ρ1 Mb with
     | bad=>rw[qe] at hrest;cases hrest
     | err c Mx=>rw[qe] at hrest;cases hrest
     | ok dv Mv=>
      rw[qe] at hrest;have hrest:((aW t xs.length sg gc ge (t.ds.drop (i+1)) ρ Mv).bind λes M3=>bc.ok (dv::es) M3)=bc.ok rest Mend:=hrest;refine bS (he C _ s7 _ H7 (λw H8=>∃θ8,Go X.K θ7 H7 θ8 H8 Mv/\cC X.K θ8 H8 dv w) I7 ⟨_,θ7,Mb,hdY.go g7,g7.wr,?_⟩) λuv s8 ⟨w,H8,I8,rw8,θ8,g8,rd8⟩=>?_
      ·rw[qe];exact λw θ8 H8 g8 rd8=>⟨θ8,g8,rd8⟩
      refine q0x4 (fpk I8) λk1 k2 k3 k4=>?_;cases qr:aW t xs.length sg gc ge (t.ds.drop (i+1)) ρ Mv with
      | bad=>rw[qr] at hrest;cases hrest
      | err c Mx=>rw[qr] at hrest;cases hrest
      | ok rest' Mr=>
       rw[qr] at hrest;have hrest:bc.ok (dv::rest') Mr=bc.ok rest Mend:=hrest;cases hrest;have hsz:its.length<sizeLine:=by
        have e2:(ds++dv::rest').length<=sizeLine:=by rw[hes];exact hlen
        rw[length_append,length_cons,av rd',rv'.length] at e2;omega
       refine call_meets F.slot_list_append ⟨_,k3,rfl⟩ F.entry_list_append (F.args_list_append_2 _ _) (PySem.list_append acc its.toArray na uv (by rw[size_toArray];omega)) ⟨k3,?_⟩;have qup:=PySem.IsL.update k3 (λa=>a.push uv);have eup:(its.toArray.push uv)=(its++[uv]).toArray:=by simp
       have keepb:∀b o,b≠acc->s8.heap.get? b=Z o->(s8.heap.update acc (Obj.mapSeq λa=>a.push uv)).get? b=Z o:=λb o hb e=>(Heap.get?_update_other s8.heap _ (Vl hb)).trans e
       have I9:L2.Inv (aC X scope xs R fp s2 H2 C) [] σ6 H8 {s8 with heap:=s8.heap.update acc (Obj.mapSeq λa=>a.push uv),toks:=s8.toks}:=by
        refine Inv.turned (it:=acc) (I8.pins_of (pins':=[]) λp hp=>absurd hp (by simp)) keepb k4 hDC (.inr (Xk hAd)) (λy c e z=>?_) λp hp=>absurd (show p∈([]:List (Addr×Obj)) from hp) (by simp)
        refine q2x2 (I2.cell y c (de S I2 e)) λv' o ho hdd=>?_;exact xw (Heap.lt_size ho) hAd z
       obtain⟨n',eq'⟩:∃n',(s8.heap.update acc (Obj.mapSeq λa=>a.push uv)).get? acc=Z (iX (its++[uv]) n'):=by
        have q2:=qup;rw[eup] at q2;exact⟨_,q2⟩
       exact⟨t.ds.length-(i+1),by omega,i+1,σ6,H8,θ8,Mv,ds++[dv],rest',vs++[w],its++[uv],n',rfl,hlt,pin0 I9 eq' k4,own.back qs (hdY.go (g7.trans g8)),T.keep _ _ _ st5 (λb hb o e=>keepb b o (xw (hfl b hb) hAd) (k2 b hb o e)),k1,g'.trans (gy.trans (g7.trans g8)),cH (rd'.go (gy.trans (g7.trans g8))) ⟨w,[],rfl,rd8,rfl⟩,rv'.append (.cons rw8 .nil),qr,by rw[<-hes];simp⟩
  ·have e:i=t.ds.length:=by omega
   subst e;rw[drop_length,aW,if_pos hok] at hrest;cases hrest;have hes:ds=es:=by rw[<-hes];simp
   subst hes;refine bS (T.done (aC X scope xs R fp s2 H2 C) rfl rfl rfl hc _ _ s' _ H' _ I' (fpY fr') st' (hst (Uj _))) λr s4 hxx=>?_
   refine q0x2 hxx λhr I4=>?_;subst hr;have pa:=I4.pin (acc,iX its na) (mem_append_right _ (by simp));have e4:s4.heap.get? acc=Z (iX its na):=pa.1;have n4:H' acc=Y:=pa.2.1;have lv:vs.length<=sizeLine:=by rw[<-av rd'];exact hlen
   refine q1x2 I4.loc λmC hnC _=>?_;have hHC:H' C=Y:=I4.free;have Lj:Un (vq X.stack) fp H2 H' s2.heap s4.heap:=I4.base;have neA:∀{b:Addr} {o:Obj},s2.heap.get? b=Z o->b≠acc:=λ{b o} e=>xw (Heap.lt_size e) hAd
   have neH:∀{b:Addr} {u:HO},H' b=Z u->b≠acc:=λ{b u} e z=>by rw[z,n4] at e;cases e
   have un4:Un (vq X.stack) fp H2 (bB H' acc (.lst vs)) s2.heap s4.heap:=by
    refine⟨Lj.keep,Lj.slot,λb o e n hx=>?_,Lj.there,λb xs e=>?_,λb o u e=>?_,λb ps e=>?_⟩
    ·rw[ar (neA e)];exact Lj.free b o e n hx
    ·have z:=Lj.tups b xs e;rw[ar (neH z)];exact z
    ·have z:=Lj.frzs b o u e;rw[ar (neH z)];exact z
    ·refine q1x1 (Lj.tbls b ps e) λmore z=>?_;exact⟨more,by rw[ar (neH z)];exact z⟩
   have hok4:mY X.prog X.w (bB H' acc (.lst vs)) s4.heap:=λb u e=>by
    by_cases hb:b=acc
    ·subst hb;rw[aX] at e;cases e;exact⟨lv,its,na,rv',e4⟩
    ·rw[ar hb] at e;exact(I4.hok b u e).stay (λc v _ q=>q) (λc q=>by rw[ar (neH q)];exact q) λc xs q=>by rw[ar (neH q)];exact q
   have IX:L2.Inv X af σ (bB H' acc (.lst vs)) s4:=I2.call' (ch:=fp) I4.os un4 hok4 I4.bare λb hb=>⟨(f2 b hb).2.2.2.1,(f2 b hb).2.1,(f2 b hb).2.2.2.2.1,(f2 b hb).2.2.2.2.2⟩
   refine fin acc C s4 H' θ' vs mC IX hnC (I2.fpOk hCs ?_) g' n4 rd';rw[ar (Vl hDC)];exact hHC
 exact codeAny_compStart_list (loop _ rfl) (T.self _ 0 _ _ _ (T.keep 0 _ _ st2 λb hb o e=>old b o e) (loop _ rfl))
end
section
variable {X:Cx}{scope:Scope}{xs:List Str}{tg:Expr}{sg:GG}{x:Str}{px:Pos}{R:List Str}{elt iter:Expr}{ifs:List Expr}{pos:Pos}{gi:GI}{gc:GT}{ge:GE}
def Oq (mk:List D->ay->bc D):Prop:=∀(X:Cx) (θ:List Addr) (H:Hp) (Q:VK) (ds:List D) (M:ay) (vs:List V),aK X θ H Q (mk ds M)->Wr X.K θ H M->a6 X.K θ H ds vs->vs.length<=sizeLine/\∀p,H p=Y->Q (.ref p) (bB H p (.lst vs))
def Gc:Oq aO:=λX θ H Q ds M vs h hw r=>aK.lst h hw r
def Ha:Oq eU:=λX θ H Q ds M vs h hw r=>aK.mut h hw r
def Hv (hm:mk=aO\/mk=eU){X:Cx}(h:aK X θ H Q (mk ds M)):ds.length<=sizeLine:=by
 rcases hm with e|e <;> subst e
 ·unfold aO at h;split at h
  ·omega
  ·exact h.elim
 ·unfold eU at h;split at h
  ·omega
  ·exact h.elim
def Lh (hm:mk=aO\/mk=eU):Oq mk:=by
 rcases hm with e|e <;> subst e
 ·exact Gc
 ·exact Ha
def pF (X:Cx)(scope:Scope)(xs:List Str)(R:List Str)(ifs:List Expr)(gc:GT):Prop:=∀fp s2 H2 C,∃cond,(forIn (m:=Sem) ifs true λc r=>if r=true then do let ok <-isTrue c (aC X scope xs R fp s2 H2 C).env (eval c (aC X scope xs R fp s2 H2 C).env);pure (U9 ok) else pure (U9 r))=cond/\
   ∀(af:List (Addr×Obj)) (s:Shared) (σ:L2.St) (H:Hp) (Q:Bool->Hp->Prop),L2.Inv (aC X scope xs R fp s2 H2 C) af σ H s->tT (aC X scope xs R fp s2 H2 C) gc σ H Q->wpAny (model X.prog X.w) X.A cond (TP (aC X scope xs R fp s2 H2 C) af σ Q) (λ_ _=>False) s
def yW:pF X scope xs R [] bp:=λfp s2 H2 C=>⟨_,Bc,λaf s σ H Q I ⟨ρ,θ,M,hd,hw,h⟩=>wpAny_pure ⟨H,I,h θ H (.refl hw)⟩⟩
def HG (h:∀fp s2 H2 C,PT (aC X scope xs R fp s2 H2 C) c (tT (aC X scope xs R fp s2 H2 C) gc)):pF X scope xs R [c] gc:=λfp s2 H2 C=>⟨_,C6,λaf s σ H Q I q=>h fp s2 H2 C af s σ H Q I q⟩
theorem iJ {t:rN}{sg:GG}{gc:GT}{ge:GE}:∀(ds:List D) (M:ay),aW t n sg gc ge ds ρ M=.err c M'->False
 | [],M,h=>by
  unfold aW at h
  grind
 | d::r,M,h=>by
  unfold aW at h;split at h
  ·split at h
   ·cases h
   ·split at h
    ·split at h
     ·rename_i e M2 q2;cases q:aW t n sg gc ge r ρ M2 with
      | ok es M3=>simp_all
      | err c2 M3=>exact iJ r M2 q
      | bad=>simp_all
     grind
    ·rename_i M1 q1;exact iJ r M1 h
    grind
  grind
def yI (hS:cy scope X.env.kindOf xs R X.N=true)(hc:X.calm=true)(hm:mk=aO\/mk=eU)(hi:PI X tg iter (tI X gi))(own:yq xs.length sg)(hg:∀fp s H C,PG (aC X scope xs R fp s H C) tg (tG (aC X scope xs R fp s H C) sg))(hts:pF X scope xs R ifs gc)
  (he:∀fp s H C,PE (aC X scope xs R fp s H C) elt (tE (aC X scope xs R fp s H C) ge))
  (hs:∀x,foldedSetIterable iter X.env x=pure x:=by intro _;rfl):PE X (.ListComp elt [⟨tg,iter,ifs,0⟩] scope pos) (tE X (ce gi xs.length sg gc ge mk)):=by
 have S:=cq.of hS;intro af s σ H Q I h;refine q3x3 h λρ θ M hd hw h=>?_;rw[eval_ListComp];refine wpAny_comprehension_free (use:=Y) rfl hs (lT (S.cells I)) S.kind S.lnames ?_;refine bS (hi af s σ H (λJ H2=>∃t M1 θ1,gi ρ M=.ok t M1/\Go X.K θ H θ1 H2 M1/\HK X.K J θ1 H2 t) I ⟨ρ,θ,M,hd,hw,?_⟩) λv s1 h1=>bS h1 λitv s2 h2=>?_
 ·cases q:gi ρ M with
  | ok t M1=>exact λJ θ1 H1 g1 hJ=>⟨t,M1,θ1,rfl,g1,hJ⟩
  | err c M1=>unfold ce at h;rw[q] at h;exact h
  | bad=>unfold ce at h;rw[q] at h;exact h
 obtain⟨it,fp,tn,J,H2,rfl,I2,T,st2,f2,t,M1,θ1,eg,g1,hJ⟩:=h2;unfold ce at h;rw[eg] at h;have h:aK X θ H Q ((aW t xs.length sg gc ge t.ds ρ M1).bind mk):=h;cases q:aW t xs.length sg gc ge t.ds ρ M1 with
 | bad=>rw[q] at h;exact h.elim
 | err c Mx=>exact(iJ _ _ q).elim
 | ok es Mend=>
  rw[q] at h;have h:aK X θ H Q (mk es Mend):=h;refine oB  S hc I2 T st2 f2 g1.wr (hd.go g1) hJ q (Hv hm h) (λC=>hts fp s2 H2 C) own (λC=>hg fp s2 H2 C) (λC=>he fp s2 H2 C) ?_;intro acc C s' H' θ' vs m IX hnC fC g' na rd;refine⟨m,hnC,λh' sb=>?_⟩;have I3:L2.Inv X af σ (bB H' acc (.lst vs)) {s' with heap:=h',toks:=s'.toks}:=IX.turned (it:=C) (λb o hb e=>(sb.2 b hb).trans e) fC.1 fC.2.1 fC.2.2.2.1 fC.2.2.2.2.1 fC.2.2.2.2.2;exact⟨.ref acc,_,I3,rfl,(Lh hm X θ' H' Q es Mend vs (aK.go (g1.trans g') h) g'.wr rd).2 acc na⟩
def se (hS:cy scope X.env.kindOf xs R X.N=true)(hc:X.calm=true)(hm:mk=aO\/mk=eU)(hi:PI X tg iter (tI X gi))(own:yq xs.length sg)(hg:∀fp s H C,PG (aC X scope xs R fp s H C) tg (tG (aC X scope xs R fp s H C) sg))(hts:pF X scope xs R ifs gc)
  (he:∀fp s H C,PE (aC X scope xs R fp s H C) elt (tE (aC X scope xs R fp s H C) ge))
  (hN:X.N.Nodup) (hj:X.N[j]?=Z y) (hy:X.env.scope.names.lookup y=Z .local)
  (hsw:swapsWith (.ListComp elt [⟨tg,iter,ifs,0⟩] scope pos) (Z (.Name y py)) spos.line X.env=pure true)
  (hs:∀x,foldedSetIterable iter X.env x=pure x:=by intro _;rfl):PS X (.Assign [.Name y py] (.ListComp elt [⟨tg,iter,ifs,0⟩] scope pos) spos) (tS X (aL j (ce gi xs.length sg gc ge mk))):=by
 have S:=cq.of hS;intro af s σ H Q I h;refine q3x3 h λρ θ M hd hw h=>?_;rw[exec_Assign_Name_used _ _ _ _ hsw];refine wpAny_bind (wpAny_standAt (wpAny_bind ?_));show wpAny _ X.A (do let _ <-comprehension (.ListComp elt [⟨tg,iter,ifs,0⟩] scope pos) scope X.env _ (newList []) false (eval iter X.env) (Z (assign (.Name y py) X.env))) _ _ s;refine wpAny_bind (wpAny_mono (wpAny_comprehension_free (use:=Z (assign (.Name y py) X.env)) (Q:=λ_ s'=>SP X af Q .next s') rfl hs (lT (S.cells I)) S.kind S.lnames ?_) (λ_ s' hq=>wpAny_pure (wpAny_pure hq)) λ_ _ e=>e);refine bS (hi af s σ H (λJ H2=>∃t M1 θ1,gi ρ M=.ok t M1/\Go X.K θ H θ1 H2 M1/\HK X.K J θ1 H2 t) I ⟨ρ,θ,M,hd,hw,?_⟩) λv s1 h1=>bS h1 λitv s2 h2=>?_
 ·cases q:gi ρ M with
  | ok t M1=>exact λJ θ1 H1 g1 hJ=>⟨t,M1,θ1,rfl,g1,hJ⟩
  | err c M1=>unfold aL ce at h;rw[q] at h;exact h
  | bad=>unfold aL ce at h;rw[q] at h;exact h
 obtain⟨it,fp,tn,J,H2,rfl,I2,T,st2,f2,t,M1,θ1,eg,g1,hJ⟩:=h2;unfold aL ce at h;rw[eg] at h;have h:bR X θ H Q (((aW t xs.length sg gc ge t.ds ρ M1).bind mk).bind λd M2=>.ok (.nx (ρ.set j (Z d))) M2):=h;cases q:aW t xs.length sg gc ge t.ds ρ M1 with
 | bad=>rw[q] at h;exact h.elim
 | err c Mx=>exact(iJ _ _ q).elim
 | ok es Mend=>
  rw[q] at h;have h:bR X θ H Q ((mk es Mend).bind λd M2=>.ok (.nx (ρ.set j (Z d))) M2):=h;have hE:aK X θ H (λv H'=>∃θ' M',Go X.K θ H θ' H' M'/\∃d,mk es Mend=.ok d M'/\cC X.K θ' H' d v) (mk es Mend):=by
   cases qm:mk es Mend with
   | ok d M2=>exact λv θ' H' g' r=>⟨θ',M2,g',d,rfl,r⟩
   | err c M2=>rw[qm] at h;exact h
   | bad=>rw[qm] at h;exact h
  refine oB (RR:=λacc C=>compPost (model X.prog X.w) X.A X.xe (Z (assign (.Name y py) X.env)) (λ_ s'=>SP X af Q .next s') acc C) S hc I2 T st2 f2 g1.wr (hd.go g1) hJ q (Hv hm hE) (λC=>hts fp s2 H2 C) own (λC=>hg fp s2 H2 C) (λC=>he fp s2 H2 C) ?_;intro acc C s' H' θ' vs m IX hnC fC g' na rd;obtain⟨θe,Me,ge',d,ed,rde⟩:=(Lh hm X θ' H' _ es Mend vs (aK.go (g1.trans g') hE) g'.wr rd).2 acc na;show wpAny _ X.A (assign (.Name y py) X.env (.ref acc)) _ _ s';refine wpAny_assign_Name (wB IX hN hj (.inl hy) (v:=.ref acc) rfl (λs3 I3 hxx=>?_) (.inr hy));refine q1x2 hxx λa sa ha=>?_;have hCa:C≠a:=by
   rcases ha with e|e
   ·rw[e];exact fC.2.1
   ·exact λz=>fC.2.2.2.2.1 y a e z.symm
  refine⟨m,hnC.sameBut sa hCa,λh' sb=>?_⟩;have I4:L2.Inv X af (σ.set j (Z (.ref acc))) (bB H' acc (.lst vs)) {s3 with heap:=h',toks:=s3.toks}:=I3.turned (it:=C) (λb o hb e=>(sb.2 b hb).trans e) fC.1 fC.2.1 fC.2.2.2.1 fC.2.2.2.2.1 fC.2.2.2.2.2;rw[ed] at h;exact⟨_,_,I4,h _ θe _ ge' ((hd.go ge').set rde j)⟩
def C3 {px:Pos}(hS:cy scope X.env.kindOf [x] R X.N=true)(fp:List Addr)(s:Shared)(H:Hp)(C:Addr):PG (aC X scope [x] R fp s H C) (.Name x px) (tG (aC X scope [x] R fp s H C) (d7 0)):=
 have S:=cq.of hS
 xO  S.nd rfl (.inl (lookup_relabel_local (S.own x (by simp)))) (.inr (lookup_relabel_local (S.own x (by simp))))
def B7 (mk:List D->ay->bc D):a9 gi gc ge mk=ce gi 1 (d7 0) gc ge mk:=by
 unfold a9 ce;simp only[yE]
end
def eB:List D->Option (List Bool)
 | []=>Z []
 | .bl b::r=>(eB r).map (b::·)
 | _=>Y
def mh:FD:=λds M=>match ds with
 | [d]=>match ba d M with
  | some xs=>match eB xs with
   | some bs=>.ok (.bl (bs.all id)) M
   | none=>.bad
  | none=>.bad
 | _=>.bad
theorem ot {K:W.Frag}:∀{ds:List D} {vs:List V} {us:List Value} {bs:List Bool},a6 K θ H ds vs->aV vs us->eB ds=Z bs->us=bs.map Value.bool
 | [],vs,us,bs,r,q,e=>by
  subst r;cases q;cases e;rfl
 | d::ds,vs,us,bs,r,q,e=>by
  refine q2x3 r λv rr e1 h1 h2=>?_;subst e1;cases d with
  | bl b=>
   cases qb:eB ds with
   | none=>simp[eB,qb] at e
   | some bs'=>
    simp[eB,qb] at e;subst e;subst h1;cases q with
    | cons q1 q2=>
     cases q1;rw[map_cons,ot h2 q2 qb]
  | _=>simp[eB] at e
def Eg (bs:List Bool):(UH bs.length).all (λi=>bs.getD i false)=bs.all id:=by
 rw[Bool.eq_iff_iff];simp only[all_eq_true,mem_range,id];constructor
 ·intro h b hb;obtain⟨i,hi,e⟩:=mem_iff_getElem.mp hb
  simp_all
 ·intro h i hi;rw[getD_eq_getElem?_getD,getElem?_eq_getElem hi];exact h _ (getElem_mem hi)
section
variable {X:Cx}
def rV (bs:List Bool):TruthOf prog w A (λi v=>((bs.map Value.bool).toArray)[i]?=Z v) (λi=>bs.getD i false):=λi v s Q E hP hQ=>by
 have hP:(bs.map Value.bool)[i]?=Z v:=by simp_all
 rw[getElem?_map] at hP;cases q:bs[i]? with
 | none=>simp_all
 | some b=>
  rw[q] at hP;cases hP;have e:bs.getD i false=b:=by simp_all
  dsimp only at hQ;rw[e] at hQ;exact wpAny_truthy_bool hQ
def AA {bs:List Bool}(hc:X.calm=true)(I:L2.Inv X af σ H s)(hw:Wr X.K θ H M)(rv:cC X.K θ H d v)(ru:aS v u)(q:ba d M=Z xs)(qb:eB xs=Z bs){Q:Bool->Hp->Prop}{f:(Nat->Bool)->Nat->Bool}
  (h:∀h' tk,L2.Inv X af σ H {s with heap:=h',toks:=tk}->Q (f (λi=>bs.getD i false) bs.length) H) :
  wpAny (model X.prog X.w) X.A.in1 (pyIter u) (λit s₂=>∃I fp wr n P St tr,it=.ref I/\Walks X.prog X.w X.A.in1 I fp wr n P St/\St 0 s₂.heap/\TruthOf X.prog X.w X.A.in1 P tr/\
   ∀h' tk,(∀b o,b∉wr->s₂.heap.get? b=Z o->h'.get? b=Z o)->EP X af σ (λv H=>∃b,v=.bl b/\Q b H) (.bool (f tr n)) {s₂ with heap:=h',toks:=tk}) E s:=by
 have hh:X.A.in1.handled=Y:=I.ok.hd hc;refine q2x3 (rm hw rv q) λa vs ea sq ra=>?_;subst ea;cases ru;rcases sq with sq|sq
 ·refine q1x3 (I.list sq) λits r1 p hz=>?_;have e:=ot ra r1 qb;subst e;have hlt:a<s.heap.objs.size:=by refine q2x2 p λo n e _=>?_;exact Heap.lt_size e
  refine wpAny_pyIter_list p.isList ⟨s.heap.objs.size,_,_,_,_,_,_,rfl,Walks.list hh s.heap.objs.size a (Uz hlt) _,⟨⟨_,Heap.get?_push_size _ rfl,rfl,rfl⟩,p.isList.push _⟩,rV bs,λh' tk k=>?_⟩;have I':L2.Inv X af σ H {s with heap:=h',toks:=tk}:=I.kept λb o e=>k b o (by have:=Heap.lt_size e;simp;exact Uz this) (Heap.get?_push_of_some _ e)
  refine⟨.bl _,H,I',rfl,_,rfl,?_⟩;have:=h h' tk I';simpa using this
 ·refine q1x3 (I.tuple sq) λits r1 p hz=>?_;have e:=ot ra r1 qb;subst e;have hlt:a<s.heap.objs.size:=by refine q1x2 p λo e _=>?_;exact Heap.lt_size e
  refine wpAny_pyIter_tuple p ⟨s.heap.objs.size,_,_,_,_,_,_,rfl,Walks.tuple hh s.heap.objs.size a (Uz hlt) _,⟨⟨_,Heap.get?_push_size _ rfl,rfl,rfl⟩,?_⟩,rV bs,λh' tk k=>?_⟩
  ·refine q1x2 p λo e r=>?_;exact⟨o,Heap.get?_push_of_some _ e,r⟩
  have I':L2.Inv X af σ H {s with heap:=h',toks:=tk}:=I.kept λb o e=>k b o (by have:=Heap.lt_size e;simp;exact Uz this) (Heap.get?_push_of_some _ e)
  refine⟨.bl _,H,I',rfl,_,rfl,?_⟩;have:=h h' tk I';simpa using this
def T8:D->Option String
 | .non=>Z "NoneType"
 | .bl _=>Z "bool"
 | .int _=>Z "int"
 | .str _=>Z "str"
 | .tup _=>Z "tuple"
 | .lst _=>Z "list"
 | .ro _=>Z "list"
 | _=>Y
def NN (d:D)(M:ay):Option String:=match d with
 | .mr k=>match M[k]? with
  | some (.lst _)=>Z "list"
  | _=>Y
 | d=>T8 d
def F9 (t T:String):Bool:=t==T||(t=="bool"&&T=="int")
def mf (T:String)(g:GE):GE:=λρ M=>(g ρ M).bind λd M1=>match NN d M1 with
 | some t=>.ok (.bl (F9 t T)) M1
 | none=>.bad
def tJ (T:String):Prop:=T="int"\/T="bool"\/T="str"\/T="tuple"\/T="list"
def fB (K:W.Frag)(hT:tJ T):∀t∈["NoneType","bool","int","str","tuple","list"],W.kitOne K (.type t) (.type T)=Z (F9 t T):=by
 intro t ht;simp only[mem_cons,mem_nil_iff,or_false] at ht;rcases hT with rfl|rfl|rfl|rfl|rfl <;> rcases ht with rfl|rfl|rfl|rfl|rfl|rfl <;> rfl
def NC (hT:tJ T):fF X (.builtin "isinstance") (λxs H Q=>∃θ M d v,Wr X.K θ H M/\cC X.K θ H d v/\xs=[v,.ty T]/\aK X θ H Q (match NN d M with|some t=>.ok (.bl (F9 t T)) M|none=>.bad)):=by
 intro af s σ H xs us Q I r h;obtain⟨θ,M,d,v,hw,rv,e,h⟩:=h;subst e;obtain⟨u,c,rfl,ru,rc⟩:=B5 r;cases rc;have fin:∀t tk,NN d M=Z t->EP X af σ Q (.bool (F9 t T)) {s with toks:=tk}:=λt tk e=>by
  rw[e] at h;exact⟨.bl _,H,I.tok _,rfl,h _ θ H (.refl hw) rfl⟩
 cases d with
 | non=>have e:v=.non:=rv;subst e;cases ru;exact W.kia_one W.kitx_none I.kIn V1 (fB X.K hT "NoneType" (by simp)) (λz=>nomatch z) λtk=>fin _ tk rfl
 | bl b=>have e:v=.bl b:=rv;subst e;cases ru;exact W.kia_one W.kitx_bool I.kIn V1 (fB X.K hT "bool" (by simp)) (λz=>nomatch z) λtk=>fin _ tk rfl
 | int i=>have e:v=.int i:=rv;subst e;obtain⟨t,rfl⟩:=ru;exact W.kia_one W.kitx_int I.kIn V1 (fB X.K hT "int" (by simp)) (λz=>nomatch z) λtk=>fin _ tk rfl
 | str i=>have e:v=.str i:=rv;subst e;obtain⟨t,rfl⟩:=ru;exact W.kia_one W.kitx_str I.kIn V1 (fB X.K hT "str" (by simp)) (λz=>nomatch z) λtk=>fin _ tk rfl
 | tup ds=>
  obtain⟨a,vs,e,ta,ra⟩:=rv;subst e;cases ru;obtain⟨its,_,⟨o,h1,h2,_⟩,_⟩:=I.tuple ta.sq;exact W.kia_one W.kitx_tuple I.kIn ⟨o,h1,h2⟩ (fB X.K hT "tuple" (by simp)) (λz=>nomatch z) λtk=>fin _ tk rfl
 | lst ds=>
  obtain⟨a,vs,e,ta,ra⟩:=rv;subst e;cases ru;obtain⟨its,_,⟨o,n,h1,h2,_⟩,_⟩:=I.list (ta.sq (K:=X.K));exact W.kia_one W.kitx_list I.kIn ⟨o,h1,h2⟩ (fB X.K hT "list" (by simp)) (λz=>nomatch z) λtk=>fin _ tk rfl
 | ro ds=>
  obtain⟨a,vs,e,ta,ra⟩:=rv;subst e;cases ru;obtain⟨its,_,⟨o,n,h1,h2,_⟩,_⟩:=I.list ta.sq;exact W.kia_one W.kitx_list I.kIn ⟨o,h1,h2⟩ (fB X.K hT "list" (by simp)) (λz=>nomatch z) λtk=>fin _ tk rfl
 | mr k=>
  obtain⟨a,e,ta⟩:=rv;subst e;cases ru;cases qm:M[k]? with
  | none=>simp only[NN,qm] at h;exact h.elim
  | some m=>
   cases m with
   | lst ys=>
    obtain⟨vs,hv,_⟩:=hw.at_ k a _ ta qm;obtain⟨its,_,⟨o,n,h1,h2,_⟩,_⟩:=I.list (X:=X) (xs:=vs) (.inl (.inl hv));exact W.kia_one W.kitx_list I.kIn ⟨o,h1,h2⟩ (fB X.K hT "list" (by simp)) (λz=>nomatch z) λtk=>fin _ tk (by simp only[NN,qm])
   | _=>simp only[NN,qm] at h;exact h.elim
 | exc c=>exact h.elim
 | any=>exact h.elim
def LP (hT:tJ T)(hv:bootBuiltins x=Z (.type T))(hg:Gl X x)(hm:X.mg x=Y)(hgi:Gl X "isinstance")(hmi:X.mg "isinstance"=Y)(he:PE X e (tE X g))
  (hn:x≠"__name__":=by decide) (hd:(x==("__debug__":Str))=false:=by decide) (hbi:bootBuiltins "isinstance"=Z (.builtin "isinstance"):=by kernel_rfl) (hs:starEach [e,.Name x p2] X.env=(false,eval e X.env)::starEach [.Name x p2] X.env:=by rfl)
  (hs2:starEach [.Name x p2] X.env=(false,eval (.Name x p2) X.env)::starEach [] X.env:=by rfl) (hpl:(backTo pos (starEach [.Name x p2] X.env)).any (·.1)=false:=by rfl) :
  PE X (.Call (.Name "isinstance" p) [e,.Name x p2] [] pos) (tE X (mf T g)):=
 (z8 (NC hT) hgi hmi hbi (nL he (nL (Jf hg hm hv (v:=.ty T) rfl hn hd) uE hs2) hs) (by decide) (by rfl) hs hpl).of λσ H Q hxx=>by
  refine q3x3 hxx λρ θ M hd hw h=>?_;refine bi hd hw (aK X θ H Q) (λc M' h=>h) (λh=>h) h λd M1 v θ1 H1 g1 r1 h1=>?_
  exact⟨θ1,M1,d,v,g1.wr,r1,rfl,aK.go g1 h1⟩
end
def su:D->Bool
 | .non=>true
 | .bl _=>true
 | .int _=>true
 | .str _=>true
 | _=>false
def OH:D->V
 | .non=>.non
 | .bl b=>.bl b
 | .int i=>.int i
 | .str x=>.str x
 | _=>.non
def Ct {K:W.Frag}(r:cC K θ H d v)(f:su d=true):v=OH d/\n6 v=true:=by
 cases d with
 | non=>subst r;exact⟨rfl,rfl⟩
 | bl b=>subst r;exact⟨rfl,rfl⟩
 | int b=>subst r;exact⟨rfl,rfl⟩
 | str b=>subst r;exact⟨rfl,rfl⟩
 | _=>cases f
theorem zp {K:W.Frag}:∀{ds:List D} {vs:List V},a6 K θ H ds vs->ds.all su=true->vs=ds.map OH/\vs.all n6=true
 | [],vs,r,f=>by subst r;exact⟨rfl,rfl⟩
 | d::ds,vs,r,f=>by
  refine q2x3 r λv rr e h1 h2=>?_;subst e;rw[all_cons,Uw] at f;refine q0x2 (Ct h1 f.1) λe1 f1=>?_;refine q0x2 (zp h2 f.2) λe2 f2=>?_;exact⟨by simp_all,by rw[all_cons,f1,f2];rfl⟩
def Jp (fx:su x=true)(fy:su y=true):IC (OH x) (OH y)=tK x y:=by
 cases x <;> first|exact ff fx|(cases y <;> first|exact ff fy|rfl)
theorem CT:∀{ds:List D},su x=true->ds.all su=true->RJ (OH x) (ds.map OH)=ds.any λy=>tK y x
 | [],fx,fs=>rfl
 | d::ds,fx,fs=>by
  rw[all_cons,Uw] at fs;have ih:=CT   fx fs.2;unfold RJ at ih ⊢;rw[map_cons,any_cons,any_cons,ih,Jp fs.1 fx]
def Be (neg:Bool):F2:=λx y M=>match ba y M with
 | some xs=>if su x&&xs.all su then .ok (.bl ((xs.any λy=>tK y x) != neg)) M else .bad
 | none=>.bad
section
variable {X:Cx}
def Rv:ph X (compareOp .In) (rD X (Be false)):=by
 intro af s σ H x y v u Q I rx ry h;refine q4x4 h λθ M dx dy hw r1 r2 h=>?_;unfold Be at h;split at h
 ·rename_i xs q;split at h
  ·rename_i hc;rw[Uw] at hc;refine q2x3 (rm hw r2 q) λa vs ea sq ra=>?_;refine q0x2 (Ct r1 hc.1) λe1 f1=>?_;refine q0x2 (zp ra hc.2) λe2 f2=>?_;refine D9 af s σ H x y v u Q I rx ry ⟨a,vs,ea,sq,f1,f2,?_⟩;have:=h _ θ H (.refl hw) rfl;rw[Zo] at this;rwa [e1,e2,CT hc.1 hc.2]
  ·exact h.elim
 ·exact h.elim
end
section
variable {prog:Program}{w:World}{A:Around}{E:Value->Shared->Prop}{s:Shared}
theorem nU {f:α->Option β}{g:α->β}:∀(l:List α),(∀k∈l,f k=Z (g k))->l.filterMap f=l.map g
 | [],_=>rfl
 | k::l,h=>by rw[filterMap_cons,h k mem_cons_self,map_cons,nU l λk' hk=>h k' (mem_cons_of_mem _ hk)]
def Fx (xs:Array Value):((UH xs.size).filterMap λ(k:Nat)=>xs[(((xs.size:Int)-1)+(k:Int)*(-1)).toNat]?).toArray=xs.toList.reverse.toArray:=by
 congr 1;have e:∀k∈UH xs.size,xs[(((xs.size:Int)-1)+(k:Int)*(-1)).toNat]?=Z (xs.toList.reverse.getD k .none):=λk hk=>by
  have hk:=mem_range.mp hk;have e1:(((xs.size:Int)-1)+(k:Int)*(-1)).toNat=xs.size-1-k:=by omega
  rw[e1,getD_eq_getElem?_getD,getElem?_reverse (by simpa using hk)];simp;rw[U0 (by omega)];rfl
 rw[nU _ e];apply ext_getElem
 ·simp
 ·intro i h1 h2;simp at h1 h2 ⊢;rw[getElem?_eq_getElem (by simpa using h2)];simp
def pN {t:Addr}(ht:IsTup s.heap t items)(hs:s.heap.IsSliceOf sl .none .none (.int (-1) tk))
  (h:Q (.ref s.heap.objs.size) {s with heap:=s.heap.push {cls:=.type "tuple",data:=.seq items.toList.reverse.toArray}}) (hsz:items.size<=sizeLine):wpAny (model prog w) A (getItem (.ref t) (.ref sl)) Q E s:=by
 have hrev:sizeOk (.seq items.toList.reverse.toArray):=by
  show items.toList.reverse.toArray.size<=sizeLine;simpa using hsz
 refine q1x3 (id hs) λos hos hcs hds=>?_;have hTs:s.TypeIs (.ref sl) "slice":=⟨os,hos,hcs⟩;unfold getItem
 try with_reducible refine wpAny_holding ?_
 first|refine wpAny_bind (wpAny_pure ?_)|skip
 refine wpAny_bind (wpAny_sequenceKey ht.typeIs (by decide) ?_);refine wpAny_bind (wpAny_callSpecial?_slot (name:=Str.ofString "__getitem__") ht.typeIs UJ
  (wpAny_call_entry UJ ht.typeIs entry_tuple_getitem ?_ (args_tuple_getitem _ _)))
 show wpAny _ _ (Builtin.Tuple.tupleItemsOf (.ref t) >>= _) _ _ s;refine wpAny_bind (tupleItemsOf_ ht ?_);refine wpAny_bind (wpAny_typeOf hTs ?_);rw[if_pos (by decide)];refine wpAny_bind ?_;unfold Builtin.Slice.sliceApplied Builtin.Slice.sliceFields;refine wpAny_bind (wpAny_bind (wpAny_field hos hds (x:=.none) rfl (wpAny_bind (wpAny_field hos hds (x:=.none) rfl (wpAny_bind (wpAny_field hos hds (x:=.int (-1) tk) rfl (wpAny_pure ?_)))))));refine wpAny_bind (slicePart_int ?_);show wpAny _ _ (if((-1:Int)==0)=true then _ else _) _ _ s;rw[if_neg (by decide)];refine wpAny_bind (slicePart_none (wpAny_bind (slicePart_none (wpAny_bind (wpAny_pure ?_)))));have ea:Builtin.Slice.sliceAdjust Y Y (-1) (items.size:Int)=((items.size:Int)-1,-1):=by
  unfold Builtin.Slice.sliceAdjust;simp
 have ep:Builtin.Slice.slicePlaces ((items.size:Int)-1) (-1) (-1)=items.size:=by
  unfold Builtin.Slice.slicePlaces;simp only[show¬((-1:Int)>0) by decide,if_false]
  by_cases hz:items.size=0
  ·rw[hz];decide
  ·rw[if_pos (by omega)];simp
 show wpAny _ _ (match Builtin.Slice.sliceAdjust Y Y (-1) (items.size:Int) with|(lo,hi)=>pure (lo,(-1:Int),Builtin.Slice.slicePlaces lo hi (-1))) _ _ s;rw[ea];show wpAny _ _ (pure ((items.size:Int)-1,(-1:Int),Builtin.Slice.slicePlaces ((items.size:Int)-1) (-1) (-1))) _ _ s;rw[ep];refine wpAny_pure ?_;have hno:¬((((items.size:Int)-1)==0&&(-1:Int)==1&&items.size==items.size)=true):=by
  intro q;rw[Uw,Uw] at q;exact absurd q.1.2 (by decide)
 show wpAny _ _ (if((((items.size:Int)-1)==0&&(-1:Int)==1&&items.size==items.size))=true then _ else _) _ _ s;rw[if_neg hno,Fx]
 first
  | exact wpAny_bind (m:=Builtin.Tuple.tupleExact _) (wpAny_newObj_type (wpAny_pure ⟨_,rfl,wpAny_pure h⟩) hrev)
  | exact wpAny_bind (m:=Builtin.Tuple.tupleExact _) (wpAny_newObj_type (wpAny_bind (wpAny_pure (wpAny_pure ⟨_,rfl,wpAny_pure h⟩))) hrev)
  | exact wpAny_bind (wpAny_bind (m:=Builtin.Tuple.tupleExact _) (wpAny_newObj_type (wpAny_pure (wpAny_pure ⟨_,rfl,wpAny_pure h⟩)) hrev))
  | exact wpAny_bind (wpAny_bind (m:=Builtin.Tuple.tupleExact _) (wpAny_newObj_type (wpAny_pure ⟨_,rfl,wpAny_pure h⟩) hrev))
end
def Ky (g:GE):GE:=λρ M=>(g ρ M).bind λx M1=>match x with
 | .tup xs=>.ok (.tup xs.reverse) M1
 | _=>.bad
theorem qA {K:W.Frag}:∀{ds:List D} {vs:List V},a6 K θ H ds vs->a6 K θ H ds.reverse vs.reverse
 | [],vs,r=>by subst r;rfl
 | d::ds,vs,r=>by
  refine q2x3 r λv rr e h1 h2=>?_;subst e;rw[reverse_cons,reverse_cons];exact cH (qA h2) ⟨v,[],rfl,h1,rfl⟩
section
variable {X:Cx}
def vp (k:Nat)(x:D)(M:ay):bc D:=match M[k]? with
 | some (.lst xs)=>if xs.length<sizeLine then .ok .non (M.set k (.lst (xs++[x]))) else .bad
 | _=>.bad
def gO (go ge:GE):GE:=λρ M=>(go ρ M).bind λo M1=>match o with
 | .mr k=>match M1[k]? with
  | some (.lst _)=>(ge ρ M1).bind (vp k)
  | _=>.bad
 | _=>.bad
end
def bJ (f:D->Option D):List D->Option (List D)
 | []=>Z []
 | d::ds=>match f d,bJ f ds with
  | some x,Z xs=>Z (x::xs)
  | _,_=>Y
def frz (n:Nat)(M:ay):Nat->D->Option D
 | 0,_=>Y
 | f+1,d=>match d with
  | .mr k=>if k<n then Z (.mr k) else match M[k]? with
   | some (.lst xs)=>(bJ (frz n M f) xs).map .lst
   | _=>Y
  | .tup xs=>(bJ (frz n M f) xs).map .tup
  | .lst xs=>(bJ (frz n M f) xs).map .lst
  | .ro xs=>(bJ (frz n M f) xs).map .ro
  | d=>Z d
def zW (f:D->Option D):List (Str×D)->Option (List (Str×D))
 | []=>Z []
 | (x,d)::r=>match f d,zW f r with
  | some e,Z r'=>Z ((x,e)::r')
  | _,_=>Y
def vO {κ:Type}(f:D->Option D):List (κ×D)->Option (List (κ×D))
 | []=>Z []
 | (x,d)::r=>match f d,vO f r with
  | some e,Z r'=>Z ((x,e)::r')
  | _,_=>Y
def iC (n:Nat)(M:ay):List MO->Option (List MO)
 | []=>Z []
 | .lst xs::r=>match bJ (frz n M 30) xs,iC n M r with
  | some ys,Z r'=>Z (.lst ys::r')
  | _,_=>Y
 | .obj c fs::r=>match zW (frz n M 30) fs,iC n M r with
  | some gs,Z r'=>Z (.obj c gs::r')
  | _,_=>Y
 | .dK fs::r=>match vO (frz n M 30) fs,iC n M r with
  | some gs,Z r'=>Z (.dK gs::r')
  | _,_=>Y
 | .dT fs::r=>match vO (frz n M 30) fs,iC n M r with
  | some gs,Z r'=>Z (.dT gs::r')
  | _,_=>Y
def lB (n:Nat)(o:bc D):bc D:=match o with
 | .ok d M=>if M.length=n then .ok d M else match frz n M 30 d,iC n M (M.take n) with
  | some d',Z M'=>.ok d' M'
  | _,_=>.bad
 | .err c M=>if M.length=n then .err c M else match iC n M (M.take n) with
  | some M'=>.err c M'
  | none=>.bad
 | .bad=>.bad
section
variable {K:W.Frag}{θ more:List Addr}{H:Hp}{M:ay}{n:Nat}
theorem iF:∀{ds es:List D} {vs:List V},bJ f ds=Z es->a6 K θ' H ds vs->(∀d∈ds,∀e v,f d=Z e->cC K θ' H d v->cC K θ H e v)->a6 K θ H es vs
 | [],es,vs,h,r,k=>by cases h;exact r
 | d::ds,es,vs,h,r,k=>by
  refine q2x3 r λv rr e h1 h2=>?_;unfold bJ at h;cases q1:f d with
  | none=>simp_all
  | some x=>
   cases q2:bJ f ds with
   | none=>simp_all
   | some xs=>
    rw[q1,q2] at h;cases h;exact⟨v,rr,e,k d mem_cons_self x v q1 h1,iF q2 h2 λd' hd=>k d' (mem_cons_of_mem _ hd)⟩
theorem rQ (hw:Wr K (θ++more) H M)(hn:θ.length=n):∀(f:Nat) (d e:D) (v:V),frz n M f d=Z e->cC K (θ++more) H d v->cC K θ H e v
 | 0,d,e,v,h,r=>by cases h
 | f+1,d,e,v,h,r=>by
  have ih:=rQ hw hn f;have sub:∀{a:Addr},a∉θ++more->a∉θ:=λ{a} z y=>z (mem_append_left _ y)
  cases d with
  | mr k=>
   refine q1x2 r λa ea ta=>?_
   by_cases hk:k<n
   ·have h:(if k<n then Z (D.mr k) else _)=Z e:=h;rw[if_pos hk] at h;cases h;exact⟨a,ea,by rw[getElem?_append_left (by rw[hn];exact hk)] at ta;exact ta⟩
   ·have h:(if k<n then Z (D.mr k) else match M[k]? with|some (.lst xs)=>(bJ (frz n M f) xs).map .lst|_=>Y)=Z e:=h;rw[if_neg hk] at h;cases qm:M[k]? with
    | none=>rw[qm] at h;cases h
    | some m=>
     cases m with
     | lst xs=>
      rw[qm] at h;have h:(bJ (frz n M f) xs).map D.lst=Z e:=h;refine q1x2 (hw.at_ k a _ ta qm) λvs hv ra=>?_;cases qo:bJ (frz n M f) xs with
      | none=>rw[qo] at h;cases h
      | some ys=>
       rw[qo] at h;cases h;refine⟨a,vs,ea,⟨hv,λz=>?_⟩,iF qo ra λd _ e v=>ih d e v⟩;rw[getElem?_append_right (by omega)] at ta;have hm:=mem_of_getElem? ta;exact(nodup_append.mp hw.nd).2.2 a z a hm rfl
     | _=>rw[qm] at h;cases h
  | tup xs=>
   have h:(bJ (frz n M f) xs).map D.tup=Z e:=h;cases qo:bJ (frz n M f) xs with
   | none=>rw[qo] at h;cases h
   | some ys=>
    rw[qo] at h;cases h;refine q2x3 r λa vs ea ta ra=>?_;exact⟨a,vs,ea,⟨ta.1,sub ta.2⟩,iF qo ra λd _ e v=>ih d e v⟩
  | lst xs=>
   have h:(bJ (frz n M f) xs).map D.lst=Z e:=h;cases qo:bJ (frz n M f) xs with
   | none=>rw[qo] at h;cases h
   | some ys=>
    rw[qo] at h;cases h;refine q2x3 r λa vs ea ta ra=>?_;exact⟨a,vs,ea,⟨ta.1,sub ta.2⟩,iF qo ra λd _ e v=>ih d e v⟩
  | ro xs=>
   have h:(bJ (frz n M f) xs).map D.ro=Z e:=h;cases qo:bJ (frz n M f) xs with
   | none=>rw[qo] at h;cases h
   | some ys=>
    rw[qo] at h;cases h;refine q2x3 r λa vs ea ta ra=>?_;refine⟨a,vs,ea,?_,iF qo ra λd _ e v=>ih d e v⟩;rcases ta with⟨t1,t2⟩|t
    ·exact .inl ⟨t1,sub t2⟩
    ·exact .inr t
  | non=>cases h;exact r
  | bl b=>cases h;exact r
  | int b=>cases h;exact r
  | str b=>cases h;exact r
  | exc c=>
   cases h;refine q2x4 r λa C ea kc t1 t2=>?_;exact⟨a,C,ea,kc,t1,sub t2⟩
  | any=>cases h;exact r
theorem CQ:∀{fs gs:List (Str×D)} {vs:List (Str×V)},zW f fs=Z gs->qj K θ' H fs vs->(∀d e v,f d=Z e->cC K θ' H d v->cC K θ H e v)->qj K θ H gs vs
 | [],gs,vs,h,r,k=>by cases h;exact r
 | (x,d)::fs,gs,vs,h,r,k=>by
  refine q2x3 r λv rr e h1 h2=>?_;unfold zW at h;cases q1:f d with
  | none=>simp_all
  | some y=>
   cases q2:zW f fs with
   | none=>simp_all
   | some ys=>
    rw[q1,q2] at h;cases h;exact⟨v,rr,e,k d y v q1 h1,CQ q2 h2 k⟩
theorem wY:∀{fs gs:List (κ×D)} {vs:List (κ×V)},vO f fs=Z gs->ow K θ' H fs vs->(∀d e v,f d=Z e->cC K θ' H d v->cC K θ H e v)->ow K θ H gs vs
 | [],gs,vs,h,r,k=>by cases h;exact r
 | (x,d)::fs,gs,vs,h,r,k=>by
  refine q2x3 r λv rr e h1 h2=>?_;unfold vO at h;cases q1:f d with
  | none=>simp_all
  | some y=>
   cases q2:vO f fs with
   | none=>simp_all
   | some ys=>
    rw[q1,q2] at h;cases h;exact⟨v,rr,e,k d y v q1 h1,wY q2 h2 k⟩
theorem qt (hw:Wr K (θ++more) H M)(hn:θ.length=n):∀(l l':List MO),iC n M l=Z l'->l'.length=l.length/\∀(i:Nat) m m' a,l[i]?=Z m->l'[i]?=Z m'->vH K (θ++more) H m a->vH K θ H m' a
 | [],l',h=>by cases h;exact⟨rfl,λi m m' a e=>by simp at e⟩
 | .lst xs::r,l',h=>by
  unfold iC at h;cases q1:bJ (frz n M 30) xs with
  | none=>rw[q1] at h;cases h
  | some ys=>
   cases q2:iC n M r with
   | none=>rw[q1,q2] at h;cases h
   | some r'=>
    rw[q1,q2] at h;cases h;refine q0x2 (qt hw hn r r' q2) λhl hr=>?_;refine⟨by rw[length_cons,length_cons,hl],λi m m' a e1 e2 ok=>?_⟩;cases i with
    | zero=>
     have e1:Z (MO.lst xs)=Z m:=e1;have e2:Z (MO.lst ys)=Z m':=e2;cases e1;cases e2;refine q1x2 ok λvs hv ra=>?_;exact⟨vs,hv,iF q1 ra λd _ e v=>rQ hw hn 30 d e v⟩
    | succ i=>exact hr i m m' a e1 e2 ok
 | .obj c fs::r,l',h=>by
  unfold iC at h;cases q1:zW (frz n M 30) fs with
  | none=>rw[q1] at h;cases h
  | some gs=>
   cases q2:iC n M r with
   | none=>rw[q1,q2] at h;cases h
   | some r'=>
    rw[q1,q2] at h;cases h;refine q0x2 (qt hw hn r r' q2) λhl hr=>?_;refine⟨by rw[length_cons,length_cons,hl],λi m m' a e1 e2 ok=>?_⟩;cases i with
    | zero=>
     have e1:Z (MO.obj c fs)=Z m:=e1;have e2:Z (MO.obj c gs)=Z m':=e2;cases e1;cases e2;refine q3x3 ok λC dx vs kC hv ra=>?_;exact⟨C,dx,vs,kC,hv,CQ q1 ra λd e v=>rQ hw hn 30 d e v⟩
    | succ i=>exact hr i m m' a e1 e2 ok
 | .dK fs::r,l',h=>by
  unfold iC at h;cases q1:vO (frz n M 30) fs with
  | none=>rw[q1] at h;cases h
  | some gs=>
   cases q2:iC n M r with
   | none=>rw[q1,q2] at h;cases h
   | some r'=>
    rw[q1,q2] at h;cases h;refine q0x2 (qt hw hn r r' q2) λhl hr=>?_;refine⟨by rw[length_cons,length_cons,hl],λi m m' a e1 e2 ok=>?_⟩;cases i with
    | zero=>
     have e1:Z (MO.dK fs)=Z m:=e1;have e2:Z (MO.dK gs)=Z m':=e2;cases e1;cases e2;refine q1x2 ok λvs hv ra=>?_;exact⟨vs,hv,wY q1 ra λd e v=>rQ hw hn 30 d e v⟩
    | succ i=>exact hr i m m' a e1 e2 ok
 | .dT fs::r,l',h=>by
  unfold iC at h;cases q1:vO (frz n M 30) fs with
  | none=>rw[q1] at h;cases h
  | some gs=>
   cases q2:iC n M r with
   | none=>rw[q1,q2] at h;cases h
   | some r'=>
    rw[q1,q2] at h;cases h;refine q0x2 (qt hw hn r r' q2) λhl hr=>?_;refine⟨by rw[length_cons,length_cons,hl],λi m m' a e1 e2 ok=>?_⟩;cases i with
    | zero=>
     have e1:Z (MO.dT fs)=Z m:=e1;have e2:Z (MO.dT gs)=Z m':=e2;cases e1;cases e2;refine q1x2 ok λvs hv ra=>?_;exact⟨vs,hv,wY q1 ra λd e v=>rQ hw hn 30 d e v⟩
    | succ i=>exact hr i m m' a e1 e2 ok
def Hz {H0:Hp}{M2:ay}{n:Nat}(hn:θ0.length=n)(g:Go K θ0 H0 θ' H' M')(h:iC n M' (M'.take n)=Z M2):Go K θ0 H0 θ0 H' M2:=by
 refine q1x2 g.ext λm em hm=>?_;have hw:=g.wr;rw[em] at hw;refine q0x2 (qt hw hn _ _ h) λhl hr=>?_;have hlen:n<=M'.length:=by rw[<-g.wr.len,em,length_append];omega
 refine⟨⟨⟨[],by simp,λ_ z=>by cases z⟩,g.keep,g.tkeep⟩,by grind,(nodup_append.mp hw.nd).1,λi a mo e1 e2=>?_,g.wr.tb⟩;have hi:i<n:=by rw[<-hn];exact(Uk.mp e1).1
 have hiM:i<M'.length:=by omega
 refine hr i M'[i] mo a (by rw[getElem?_take_of_lt hi];exact getElem?_eq_getElem hiM) e2 (hw.at_ i a _ ?_ (getElem?_eq_getElem hiM));rwa [getElem?_append_left (by simp_all)]
end
def NI {K:W.Frag}{k:Nat}(h:eM P w K mg base CX k f fd ps (sC K n F)) :
  eM P w K mg base CX k f fd ps (sC K n λds M=>lB M.length (F ds M)):=h.imp λvs H Q E hxx=>by
 refine q3x4 hxx λθ M ds hl r hw q=>?_;refine⟨θ,M,ds,hl,r,hw,?_⟩;have q:A6 K θ H Q E (lB M.length (F ds M)):=q;cases e:F ds M with
 | bad=>rwa [e] at q
 | err c M1=>
  rw[e] at q;have q:A6 K θ H Q E (if M1.length=M.length then .err c M1 else match iC M.length M1 (M1.take M.length) with|some M'=>.err c M'|none=>.bad):=q;split at q
  ·exact q
  ·split at q
   ·rename_i M2 e2;exact λC θ' H' a kC g=>q C θ H' a kC (Hz hw.len g e2)
   ·exact q.elim
 | ok d M1=>
  rw[e] at q;have q:A6 K θ H Q E (if M1.length=M.length then .ok d M1 else match frz M.length M1 30 d,iC M.length M1 (M1.take M.length) with|some d',Z M'=>.ok d' M'|_,_=>.bad):=q;split at q
  ·omega
  ·split at q
   ·rename_i d' M2 e1 e2;intro v θ' H' g rd;refine q v θ H' (Hz hw.len g e2) ?_;refine q1x2 g.ext λm em _=>?_;have hw':=g.wr;rw[em] at hw' rd;exact rQ hw' hw.len 30 d d' v e1 rd
   ·exact q.elim
structure Fn (K:W.Frag)(mg:Str->Option Value)(x:Str)(st:Stmt)(f:Addr)(fd:FuncData)(ps:List Str):Prop where
 F:IK K x x st f fd
 m:mg x=Z (.ref f)
 b:f7 K fd ps []
section
variable {X:Cx}
def vv (i:Nat)(hN:X.N[i]?=Z x:=by rfl)(hv:LZ X.env.scope x:=by first|exact YB rfl|exact XC (YB rfl)|exact XC (XC rfl))(hd:(x==("__debug__":Str))=false:=by decide)
  (hcd:(x==("__classdict__":Str))=false:=by decide):PE X (.Name x pos) (tE X (ae i)):=OD (FJ hN hv hd hcd)
def ss (i:Nat)(hN:X.N.Nodup)(he:PE X e (tE X g))(hi:X.N[i]?=Z x:=by rfl)(hx:Ep X.env.scope x:=by first|exact YB rfl|exact XC rfl)
  (hs:swapsWith e (Z (.Name x pos')) pos.line X.env=pure false:=by rfl) (hf:X.fn x=true\/X.env.scope.names.lookup x=Z .local:=by first|exact .inl rfl|exact .inr rfl) :
  PS X (.Assign [.Name x pos'] e pos) (tS X (aL i g)):=Mi hN hi hx he hs hf
def gg (i:Nat)(hN:X.N.Nodup)(hi:X.N[i]?=Z x:=by rfl)(hx:Ep X.env.scope x:=by first|exact YB rfl|exact XC rfl)(hf:X.fn x=true\/X.env.scope.names.lookup x=Z .local:=by first|exact .inl rfl|exact .inr rfl):PG X (.Name x pos) (tG X (d7 i)):=xO hN hi hx hf
end
def MV {K:W.Frag}{a:Addr}{ns:List Int}(tb:nP K H)(hS:pe K H a (ns.map V.int))(h:∃M',F [.ro (ns.map D.int)] []=.ok (.bl true) M'):sC K 1 F [.ref a] H (λv _=>v=.bl true) E:=by
 refine q1x1 h λM' e=>?_;refine⟨[],[],[.ro (ns.map D.int)],rfl,⟨_,[],rfl,⟨a,ns.map V.int,rfl,?_,?_⟩,rfl⟩,⟨rfl,nodup_nil,λi a m e=>by simp_all,tb⟩,?_⟩
 ·rcases hS with h|h
  ·exact .inl ⟨h,by simp⟩
  ·exact .inr h
 ·clear e
  induction ns with
  | nil=>rfl
  | cons n ns ih=>
   refine⟨.int n,ns.map V.int,rfl,rfl,?_⟩;have gen:∀l:List Int,a6 K [] H (l.map D.int) (l.map V.int):=by
    intro l
    induction l with
    | nil=>rfl
    | cons m l ih=>exact⟨_,_,rfl,rfl,ih⟩
   exact gen ns
 ·rw[e];exact λv θ' H' g r=>r
def cJ (t:GT)(b:GS):Nat->fE->ay->bc Fl
 | 0,_,_=>.bad
 | n+1,ρ,M=>(t ρ M).bind λc M1=>if c then(b ρ M1).bind λf M2=>match f with
   | .nx ρ2=>cJ t b n ρ2 M2
   | .ct ρ2=>cJ t b n ρ2 M2
   | .bk ρ2=>.ok (.nx ρ2) M2
   | .rt d=>.ok (.rt d) M2
  else .ok (.nx ρ) M1
def nk (n:Nat)(t:GT)(b:GS):GS:=cJ t b n
def F0 (hp:PassesOwn (model X.prog X.w) X.A X.env X.xe)(hc:PT X c (tT X tc))(hb:PSs X body (tS X gb)):PS X (.While c body [] pos) (tS X (nk n tc gb)):=
 (He hp hc hb).of λD σ H hxx=>by
  refine q3x3 hxx λρ θ M hd hw h=>?_;refine⟨λm σ' H'=>∃ρ' θ' M',mj X.K θ' H' σ' ρ'/\Wr X.K θ' H' M'/\bR X θ' H' D (cJ tc gb m ρ' M'),⟨n,ρ,θ,M,hd,hw,h⟩,?_⟩;rintro m σ' H' ⟨ρ',θ',M',hd',hw',h'⟩;cases m with
  | zero=>exact h'.elim
  | succ m=>
   refine wD hd' hw' (bR X θ' H' D) (λc M' h=>h) (λh=>h) h' λc M1 θ1 H1 g1 h1=>?_
   cases c with
   | false=>
    exact h1 σ' θ1 H1 g1 (hd'.go g1)
   | true=>
    rw[if_pos rfl];refine⟨λσ2 H2=>∃ρ2 θ2 M2,mj X.K θ2 H2 σ2 ρ2/\Wr X.K θ2 H2 M2/\bR X θ2 H2 D (cJ tc gb m ρ2 M2),λσ2 H2 q=>⟨m,Wn _,q⟩,ρ',θ1,M1,hd'.go g1,g1.wr,?_⟩;have h2:=bR.go g1 h1;cases q:gb ρ' M1 with
    | bad=>rw[q] at h2;exact h2
    | err c M2=>rw[q] at h2;exact h2
    | ok f M2=>
     rw[q] at h2;cases f with
     | nx ρ2=>exact λσ2 θ2 H2 g2 d2=>⟨ρ2,θ2,M2,d2,g2.wr,bR.go g2 h2⟩
     | ct ρ2=>exact λσ2 θ2 H2 g2 d2=>⟨ρ2,θ2,M2,d2,g2.wr,bR.go g2 h2⟩
     | bk ρ2=>exact h2
     | rt d=>exact h2
def cE:Expr->Bool
 | .Starred _ _=>false
 | _=>true
def eX (es:List Expr):Bool:=es.all cE
def sE (h:cE e=true):starEach (e::es) env=(false,eval e env)::starEach es env:=by
 cases e <;> first|rfl|(simp[cE] at h)
theorem sS:∀{es:List Expr},eX es=true->(backTo pos (starEach es env)).any (·.1)=false
 | [],_=>rfl
 | e::es,h=>by
  unfold eX at h;rw[all_cons,Uw] at h;have ih:=sS (pos:=pos) (env:=env)  h.2;rw[sE h.1];assumption
end DL
namespace DL
open PySem L2
def J8 (h:-(2 ^ 62)<=j/\j<2 ^ 62)(M:ay):AU [.int j] M=.ok ⟨aY 0 j.toNat,Y⟩ M:=if_pos h
def Aa {n:Nat}(h:n<=1000000)(M:ay):AU [.int (n:Int)] M=.ok ⟨aY 0 n,Y⟩ M:=by
 rw[(J8  (by omega) M)];rfl
theorem mT:rN.ok ⟨ds,Y⟩ M=true:=rfl
theorem yz {P:ay->Prop}{Q:D->Prop}:∀(ds:List D),(∀d∈ds,∀M,P M->∃e M',P M'/\Q e/\ge (Z d::ρ) M=.ok e M')->∀M,P M->
  ∃es M',P M'/\es.length=ds.length/\(∀e∈es,Q e)/\cr ⟨ds0,Y⟩ bp ge ds ρ M=.ok es M'
 | [],h,M,hM=>⟨[],M,hM,rfl,(λe he=>by cases he),rfl⟩
 | d::ds,h,M,hM=>by
  refine q2x3 (h d UG M hM) λe M1 h1 q1 e1=>?_;refine q2x4 (yz (ds0:=ds0) ds (λd' hd=>h d' (UU _ hd)) M1 h1) λes M2 h2 l2 q2 e2=>?_;refine⟨e::es,M2,h2,by simp_all,λx hx=>?_,?_⟩
  ·rcases Va.mp hx with z|z
   ·simp_all
   simp_all
  ·simp[cr,mT,bp,e1,e2]
theorem mI:∀(ds:List D),(∀d∈ds,ge (Z d::ρ) M=.ok (f d) M)->cr ⟨ds0,Y⟩ bp ge ds ρ M=.ok (ds.map f) M
 | [],h=>rfl
 | d::ds,h=>by
  simp[cr,mT,bp,(h d UG),(mI  ds λd' hd=>h d' (UU _ hd))]
def n5 (lo:Int)(n:Nat):(aY lo n).length=n:=by simp[aY]
def b9 (h:n<=1000000):n<=Ur:=UK h (by decide)
theorem mM (n:Nat):∀ks:List Int,bj n (ks.map D.int)=true
 | []=>by rfl
 | k::ks=>UE.mpr ⟨by rfl,mM n ks⟩
end DL
namespace DL
@[simp] theorem Tr (i j:Int):tK (.int i) (.int j)=(i==j):=rfl
@[simp] theorem Sz (i j:Bool):tK (.bl i) (.bl j)=(i==j):=rfl
@[simp] theorem Tu (i j:PySem.Str):tK (.str i) (.str j)=(i==j):=rfl
@[simp] theorem Sh:tK .non .non=true:=rfl
@[simp] theorem S5 (i:Int):tK (.int i) .non=false:=rfl
@[simp] theorem R0 (i:Int):tK .non (.int i)=false:=rfl
@[simp] theorem R9 (xs ys:List D):tK (.tup xs) (.tup ys)=gY xs ys:=rfl
@[simp] theorem Tj (xs ys:List D):tK (.lst xs) (.lst ys)=gY xs ys:=rfl
@[simp] theorem P5:gY [] []=true:=rfl
@[simp] theorem RV (y:D) (ys:List D):gY [] (y::ys)=false:=rfl
@[simp] theorem RG (y:D) (ys:List D):gY (y::ys) []=false:=rfl
@[simp] theorem RF (x y:D) (xs ys:List D):gY (x::xs) (y::ys)=(tK x y&&gY xs ys):=rfl
@[simp] theorem OL (n:Nat) (i:Int):bG n (.int i)=true:=by rfl
@[simp] theorem Qj (n:Nat) (i:Bool):bG n (.bl i)=true:=by cases n <;> rfl
@[simp] theorem ON (n:Nat):bG n .non=true:=by cases n <;> rfl
@[simp] theorem OM (n:Nat) (x:PySem.Str):bG n (.str x)=PySem.PyData.strOk x:=by rfl
@[simp] theorem Ed (n:Nat) (xs:List D):bG (n+1) (.tup xs)=bj n xs:=rfl
@[simp] theorem DV (n:Nat) (xs:List D):bG (n+1) (.lst xs)=bj n xs:=rfl
@[simp] theorem K9 (xs:List D):bG 40 (.tup xs)=bj 39 xs:=Ed 39 xs
@[simp] theorem La (xs:List D):bG 40 (.lst xs)=bj 39 xs:=DV 39 xs
@[simp] theorem M9 (n:Nat):bj n []=true:=by rfl
@[simp] theorem KR (n:Nat) (x:D) (xs:List D):bj n (x::xs)=(bG n x&&bj n xs):=by rfl
@[simp] theorem RW (i:Int) (M:ay):now (.int i) M=.int i:=rfl
@[simp] theorem Sy (i:Bool) (M:ay):now (.bl i) M=.bl i:=rfl
@[simp] theorem RK (M:ay):now .non M=.non:=rfl
@[simp] theorem RC (x:PySem.Str) (M:ay):now (.str x) M=.str x:=rfl
@[simp] theorem RS (xs:List D) (M:ay):now (.tup xs) M=.tup xs:=rfl
@[simp] theorem RU (xs:List D) (M:ay):now (.lst xs) M=.lst xs:=rfl
end DL
namespace DL
open PySem PySem.Spec PyProof.Rows L2 PySem.W PySem.Builtin PySem.Builtin.ObjectAttr PySem.Builtin.Getset_descriptor List
structure SN (K:Uu)(C:Ul):Prop where
 cl:(clsIn K C).isSome=true
 ca:V0 K (.ref C) "__class__"=Z (Z (.builtin "object.__class__"))
 sp:specialIn K (.builtin "object.__class__") "__get__"=Z (Z (.builtin "getset_descriptor.__get__"))
 tk:takesIn K (.builtin "object.__class__")=Z true
 ob:YO K C (.type "object")=Z true
 ga:V0 K (.ref C) "__getattribute__"=Z (Z (.builtin "BaseException.__getattribute__"))
 gh:V0 K (.ref C) "__getattr__"=Z Y
 be:YO K C (.type "BaseException")=Z true
end DL
namespace DL
open PySem PySem.Spec PyProof.Rows L2 List
abbrev Pw:List Uh:=[.type "ValueError",.type "Exception",.type "BaseException",.type "object"]
structure Ec (K:Uu)(mg:Str->Option Uh)(c:Str)(C:Ul):Prop where
 at_:iM K c C
 m:mg c=Z (.ref C)
 k:SN K C
 ex:ab0 K C Pw "ValueError.__new__"=true
 ty:ab4 K (.ref C)=Z (.type "type")
 sf:YO K C (.ref C)=Z true
def Lu {K:Uu}(X:K.In h)(q:ab0 K C bmB newId=true) :
  ∃bm N nm qn bs hdct sn sub ab col dd k0 k1 k2 k3 k5 mN,h.get? C=Z (excClassObj nm qn C N bs bm hdct sn sub ab col dd k0 k1 k2 k3 k5 newId)/\h.Ns N mN/\mN "__init__"=Y/\OwnTail h bmB bm:=by
 unfold ab0 at q;split at q
 ·rename_i d1 cd s1 at1;split at q
  ·rename_i C2 rest j0 j1 j2 j3 nn j5 e1 e2;simp only[Uw,beq_iff_eq,Ys] at q;obtain⟨⟨⟨⟨⟨r1,r2⟩,r3⟩,r4⟩,r5⟩,r6⟩:=q;subst r1;subst r2;cases cd with
   | mk c1 c2 c3 c4 c5 c6 c7 c8 c9 c10 c11=>
    dsimp only at e1 r3 r5 r6;subst e1;subst r3;have e3:s1=#[j0,j1,j2,j3,Z (.builtin nn),j5]:=by
     cases s1 with
     | mk l=>
      have e4:l=_:=e2;rw[e4]
    subst e3;refine⟨rest,c4,c1,c5,c2,c6,c7,c8,c9,c10,d1,j0,j1,j2,j3,j5,h.nsMap c4,X _ _ at1,?_,W.nsMap_none_of_in X r5 r6,W.tail_of_in X r4⟩;exact Heap.Ns.of_isNs (W.isNs_of_in X r5)
  ·cases q
 ·cases q
def gu (c:Str)(g:GE):GS:=λρ M=>(g ρ M).bind λ_ M1=>.err c M1
def Gj (k:Ec X.K X.mg c C)(hc:X.calm=true)(hg:Gl X c)(he:PE X e (tE X g))(h1:cE e=true:=by rfl)(hd:(c==("__debug__":Str))=false:=by decide) :
  PS X (.Raise (Z (.Call (.Name c np) [e] [] cpos)) Y pos) (tS X (gu c g)):=by
 intro af s σ H D I h;refine q3x3 h λρ θ M hdn hw h=>?_;obtain⟨bm,N,nm,qn,bs,hdct,sn,sub,ab,col,dd,k0,k1,k2,k3,k5,mN,hC,hN,hni,T⟩:=Lu I.ok.mod.kin k.ex;have hs:UR [e] X.env=(false,Vo e X.env)::UR [] X.env:=sE h1;refine wpAny_Raise_call_subT (C:=C) (nm:=nm) (q:=qn) (N:=N) (bs:=bs) (bm:=bm) (hdct:=hdct) (sn:=sn) (sub:=sub) (ab:=ab) (col:=col) (dd:=dd) (k0:=k0) (k1:=k1) (k2:=k2) (k3:=k3) (k5:=k5)
  PySem.F.excBase_ValueError (mN:=mN) (T.hasType PySem.F.excBase_ValueError.hasBase) (I.ok.hd hc) (sS (by unfold eX;simp[h1])) hni (tM I hg k.m ⟨rfl,?_⟩ hd)
 have hv:=nL he uE hs cpos af s σ H (λvs H1=>vs.length=1/\∃θ1 M1,Go X.K θ H θ1 H1 M1/\eT X θ1 H1 c M1) I (by
  refine bi hdn hw (bR X θ H D) (λc M' h=>h) (λh=>h) h λd M1 v θ1 H1 g1 r1 h2=>?_
  exact⟨rfl,θ1,M1,g1,eT.go g1 h2⟩)
 rw[hs] at hv ⊢;refine XI (VF hv (λus s2 hq=>⟨rfl,?_⟩) λ_ _ y=>y);obtain⟨vs,H1,I1,rv,hl,θ1,M1,g1,ok⟩:=hq;refine⟨by show us.length<=Ur;rw[<-rv.length,hl];exact UK (by decide:1<=1000000) (by rw[U3];decide),I1.bk _ _ hC,hN.keeps I1.bk,T.keeps I1.bk,λh' e' hm=>?_⟩;exact ok C θ1 H1 e' _ k.at_ (.refl g1.wr) ⟨af,σ,.inl ⟨s2.heap,us,I1,hm⟩⟩
def Lj (i:Nat):Fl->Fl
 | .nx ρ=>.nx (ρ.set i Y)
 | .bk ρ=>.bk (ρ.set i Y)
 | .ct ρ=>.ct (ρ.set i Y)
 | .rt d=>.rt d
section
variable {X:Cx}
def Hy:FD:=λds M=>match ds with
 | [.int i,.int j]=>if 0<j/\j.natAbs.log2<9000 then .ok (.tup [.int (i / j),.int (i % j)]) M else .bad
 | _=>.bad
def HY:D->Option Str
 | .int a=>if a.natAbs.log2<1920 then Z (toString a) else Y
 | .str x=>if x.length<=Ur then Z x else Y
 | _=>Y
def JP (g:GE):GE:=λρ M=>(g ρ M).bind λd M1=>match HY d with
 | some x=>.ok (.str x) M1
 | none=>.bad
def N5 (he:PE X e (tE X g))(hi:i=-1:=by rfl):PE X (.FormattedValue e i Y pos) (tE X (JP g)):=by
 subst hi;intro af s σ H Q I h;refine q3x3 h λρ θ M hd hw h=>?_;refine FormattedValue_plain (VF (he af s σ H (λv H1=>∃d M1 θ1,Go X.K θ H θ1 H1 M1/\cC X.K θ1 H1 d v/\aK X θ1 H1 Q (match HY d with|some x=>.ok (.str x) M1|none=>.bad)) I ?_) (λu s1 hq=>?_) λ_ _ y=>y)
 ·exact bi hd hw (aK X θ H Q) (λc M' h=>h) (λh=>h) h λd M1 v θ1 H1 g1 r1 h1=>⟨d,M1,θ1,g1,r1,aK.go g1 h1⟩
 ·obtain⟨v,H1,I1,rv,d,M1,θ1,g1,r1,h1⟩:=hq;cases d with
  | int a=>
   have e:v=.int a:=r1;subst e;refine q1x1 rv λt zz1=>?_;subst zz1;unfold HY at h1
   by_cases hc:a.natAbs.log2<1920
   ·simp only[if_pos hc] at h1;exact formatField_int_small hc ⟨.str (toString a),H1,I1.tok _,⟨_,rfl⟩,h1 _ θ1 H1 (.refl g1.wr) rfl⟩
   ·simp only[if_neg hc] at h1;exact h1.elim
  | str x=>
   have e:v=.str x:=r1;subst e;refine q1x1 rv λt zz1=>?_;subst zz1;unfold HY at h1
   by_cases hc:x.length<=Ur
   ·simp only[if_pos hc] at h1;exact formatField_str (λt' tk=>⟨.str x,H1,I1.tok _,⟨_,rfl⟩,h1 _ θ1 H1 (.refl g1.wr) rfl⟩) hc
   ·simp only[if_neg hc] at h1;exact h1.elim
  | _=>exact h1.elim
inductive OW (X:Cx):List UY->List GE->Prop where
 | nil:OW X [] []
 | cons {e:UY} {es:List UY} {g:GE} {gs:List GE}:PE X e (tE X g)->OW X es gs->OW X (e::es) (g::gs)
def wQ:List GE->Str->GE
 | [],acc=>λ_ M=>.ok (.str acc) M
 | g::gs,acc=>λρ M=>(g ρ M).bind λd M1=>match d with
  | .str y=>if(acc++y).length<=Ur then wQ gs (acc++y) ρ M1 else .bad
  | _=>.bad
def JW (h:OW X es gs):∀(acc:Str) (af:List (Ul×Obj)) (s:Ui) (σ:L2.St) (H:Hp) (Q:VK),acc.length<=Ur->L2.Inv X af σ H s->tE X (wQ gs acc) σ H Q->Uq (UA X.prog X.w) X.A (joinParts acc (evalEach es X.env)) (EP X af σ Q) X.xe s:=by
 induction h with
 | nil=>
  intro acc af s σ H Q hl I h;refine q3x3 h λρ θ M hd hw h=>?_;exact joinParts_nil ⟨.str acc,H,I.tok _,⟨_,rfl⟩,h _ θ H (.refl hw) rfl⟩ hl
 | @cons e es g gs he hes ih=>
  intro acc af s σ H Q hl I h;refine q3x3 h λρ θ M hd hw h=>?_;refine joinParts_cons (VF (he af s σ H (λv H1=>∃d M1 θ1,Go X.K θ H θ1 H1 M1/\cC X.K θ1 H1 d v/\aK X θ1 H1 Q (match d with | .str y=>if(acc++y).length<=Ur then wQ gs (acc++y) ρ M1 else .bad|_=>.bad)) I ?_) (λu s1 hq=>?_) λ_ _ y=>y)
  ·exact bi hd hw (aK X θ H Q) (λc M' h=>h) (λh=>h) h λd M1 v θ1 H1 g1 r1 h1=>⟨d,M1,θ1,g1,r1,aK.go g1 h1⟩
  ·obtain⟨v,H1,I1,rv,d,M1,θ1,g1,r1,h1⟩:=hq;cases d with
   | str y=>
    subst r1;refine q1x1 rv λt zz1=>?_;subst zz1
    by_cases hc:(acc++y).length<=Ur
    ·simp only[if_pos hc] at h1;exact⟨hc,ih (acc++y) af s1 σ H1 Q hc I1 ⟨ρ,θ1,M1,hd.go g1,g1.wr,h1⟩⟩
    ·simp only[if_neg hc] at h1;exact h1.elim
   | _=>exact h1.elim
section
variable {o e:UY}{go ge:GE}{apos cpos:Pos}
def Ou (h:cE e=true):((Wm cpos (UR [e] env)).all (λx=>!x.1)&&(W4 cpos (VY [] env)).all (λx=>x.1.isSome)
   && decide ([e].length+([]:List XX).length+(if([]:List XX).isEmpty then 0 else 1)<30))=true:=by
 rw[sE h];rfl
end
end
end DL
namespace DL
open PySem L2
def Rf (z:jF P w [] H s (λ_ _ _=>False) e s'):False:=by
 obtain⟨_,_,_,_,_,_,_,_,_,_,_,_,_,_,h⟩:=z;omega
end DL
namespace DL
open PySem PySem.Spec PyProof.Rows L2 List
section
variable {K:Uu}{θ:List Ul}{H:Hp}{M:ay}
def jG (f:Str)(d:D):List (Str×D)->List (Str×D)
 | []=>[(f,d)]
 | (g,x)::r=>if g=f then(g,d)::r else(g,x)::jG f d r
theorem Bn:∀{fs:List (Str×D)} {vs:List (Str×V)},qj K θ H fs vs->fs.lookup f=Z d->∃v,vs.lookup f=Z v/\cC K θ H d v
 | [],vs,h,e=>by cases e
 | (g,x)::fs,vs,h,e=>by
  refine q2x3 h λv r zz2 h1 h2=>?_;subst zz2;rw[lookup_cons] at e ⊢;cases q:f==g with
  | true=>simp_all
  | false=>rw[q] at e;exact Bn h2 e
theorem CZ:∀{fs:List (Str×D)} {vs:List (Str×V)},qj K θ H fs vs->fs.lookup f=Y->vs.lookup f=Y
 | [],vs,h,e=>by cases (h);rfl
 | (g,x)::fs,vs,h,e=>by
  refine q2x3 h λv r zz2 h1 h2=>?_;subst zz2;rw[lookup_cons] at e ⊢;cases q:f==g with
  | true=>simp_all
  | false=>rw[q] at e;exact CZ h2 e
theorem Au:∀{fs:List (Str×D)} {vs:List (Str×V)},qj K θ H fs vs->fs.length=vs.length
 | [],vs,h=>by cases (h);rfl
 | (g,x)::fs,vs,h=>by
  refine q2x3 h λv r zz2 h1 h2=>?_;subst zz2;rw[U6,U6,Au h2]
theorem Gk (hd:cC K θ H d v):∀{fs:List (Str×D)} {vs:List (Str×V)},qj K θ H fs vs->qj K θ H (jG f d fs) (lD f v vs)
 | [],vs,h=>by cases (h);exact⟨v,[],rfl,hd,rfl⟩
 | (g,x)::fs,vs,h=>by
  refine q2x3 h λu r zz2 h1 h2=>?_;subst zz2;show qj K θ H (if g=f then(g,d)::fs else(g,x)::jG f d fs) (if g=f then(g,v)::r else(g,u)::lD f v r)
  by_cases q:g=f
  ·rw[if_pos q,if_pos q];exact⟨v,r,rfl,hd,h2⟩
  ·rw[if_neg q,if_neg q];exact⟨u,_,rfl,h1,Gk hd h2⟩
def CO {a:Ul}{fs:List (Str×D)}(w:Wr K θ H M)(hi:θ[i]?=Z a)(k:iM K c C)(r:qj K θ H fs vs)(hd:cC K θ H d v) :
  Go K θ H θ (bB H a (.ins C dx (lD f v vs))) (M.set i (.obj c (jG f d fs))):=
 tD w hi ⟨C,dx,_,k,aX,rF (qB w hi) (Gk hd r)⟩
def J0 (w:Wr K θ H M)(hx:H x=Y)(hdx:H dx=Y)(ne:dx≠x)(k:iM K c C):Go K θ H (θ++[x]) (bB (bB H dx (.own x)) x (.ins C dx [])) (M++[.obj c []]):=by
 have np:=w.fresh hx;have hx':∀b u,H b=Z u->b≠x/\b≠dx:=λb u h=>⟨bF h hx,bF h hdx⟩
 have g:Grow θ H (θ++[x]) (bB (bB H dx (.own x)) x (.ins C dx [])):=⟨⟨[x],rfl,λa ha=>by rw[VE.mp ha];exact hx⟩,λb u h _ _=>by rw[ar (hx' b u h).1,ar (hx' b u h).2];exact h,λb ps h=>⟨ps,by rw[ar (hx' b _ h).1,ar (hx' b _ h).2];exact h⟩⟩;refine⟨g,by rw[WE,WE,w.len];rfl,?_,λi a m h1 h2=>?_,(w.tb.new hdx).new (by rw[ar (Vl ne)];exact hx)⟩
 ·rw[aa7];exact⟨w.nd,by simp,λy hy z hz e=>np (by rw[VE.mp hz] at e;rw[<-e];exact hy)⟩
 ·by_cases hi:i<θ.length
  ·rw[XH hi] at h1;rw[XH (by rw[<-w.len];exact hi)] at h2;have hm:=Vw h1;have ha:a≠x:=λe=>np (by rw[<-e];exact hm)
   have ha2:a≠dx:=λe=>w.fresh hdx (by rw[<-e];exact hm)
   exact(w.at_ i a m h1 h2).grow g (by rw[ar ha,ar ha2])
  ·have hi':i=θ.length:=by
    have:=(Uk.mp h1).1;rw[WE,length_singleton] at this;omega
   subst hi';rw[Xv (Uj _)] at h1;rw[Xv (by rw[w.len];exact Uj _)] at h2;simp only[XZ,w.len,getElem?_cons_zero,Wf] at h1 h2;subst h1;subst h2;exact⟨C,dx,[],k,aX,rfl⟩
end
structure Kc (K:Uu)(mg:Str->Option Uh)(c:Str)(C:Ul):Prop where
 at_:iM K c C
 m:mg c=Z (.ref C)
 cl:Gh K C
def jE (c:Str)(o:D)(M:ay):Option (Nat×List (Str×D)):=match o with
 | .mr k=>match M[k]? with
  | some (.obj c' fs)=>if c'=c then Z (k,fs) else Y
  | _=>Y
 | _=>Y
def t9 {K:Uu}{k:Nat}{fs:List (Str×D)}(hw:Wr K θ H M)(kC:iM K c C)(r:cC K θ H o v)(e:jE c o M=Z (k,fs)) :
  ∃a dx vs,v=.ref a/\θ[k]?=Z a/\H a=Z (.ins C dx vs)/\qj K θ H fs vs/\M[k]?=Z (.obj c fs):=by
 cases o with
 | mr j=>
  refine q1x2 r λa ea ta=>?_;have e:(match M[j]? with|some (.obj c' fs)=>if c'=c then Z (j,fs) else Y|_=>Y)=Z (k,fs):=e;cases q:M[j]? with
  | none=>rw[q] at e;cases e
  | some m=>
   cases m with
   | lst ys=>rw[q] at e;cases e
   | dK _=>simp_all
   | dT _=>simp_all
   | obj c' gs=>
    rw[q] at e;have e:(if c'=c then Z (j,gs) else Y)=Z (k,fs):=e
    by_cases hc:c'=c
    ·rw[if_pos hc] at e;cases e;subst hc;refine q3x3 (hw.at_ _ a _ ta q) λC' dx vs kC' hv rf=>?_;have:=kC'.inj kC;subst this;exact⟨a,dx,vs,ea,ta,hv,rf,q⟩
    simp_all
 | _=>cases e
section
variable {X:Cx}{c f:Str}{C:Ul}{o e value:UY}{g go gv:GE}{pos pos' apos p:Pos}
def cX (c f:Str)(g:GE):GE:=λρ M=>(g ρ M).bind λo M1=>match jE c o M1 with
 | some (_,fs)=>match fs.lookup f with
  | some d=>.ok d M1
  | none=>.bad
 | none=>.bad
def Dy (c f:Str)(o y:D)(M:ay):bc Unit:=match jE c o M with
 | some (k,fs)=>if fs.length<1000 then .ok () (M.set k (.obj c (jG f y fs))) else .bad
 | none=>.bad
def gQ (c f:Str)(go gv:GE):GS:=λρ M=>(gv ρ M).bind λy M1=>(go ρ M1).bind λo M2=>(Dy c f o y M2).bind λ_ M3=>.ok (.nx ρ) M3
def N3 (k:Kc X.K X.mg c C)(n:hO X.K C f)(ho:PE X o (tE X go))(hv:PE X value (tE X gv))(hs:Xg value (Z (.Attribute o f pos')) pos.line X.env=pure false:=by rfl):PS X (.Assign [.Attribute o f pos'] value pos) (tS X (gQ c f go gv)):=
 (L3 ho hv hs).of λD σ H hxx=>by
  refine q3x3 hxx λρ θ M hd hw h=>?_;refine bi hd hw (bR X θ H D) (λc M' h=>h) (λh=>h) h λy M1 vy θ1 H1 g1 r1 h1=>?_
  refine bi (hd.go g1) g1.wr (bR X θ1 H1 D) (λc M' h=>h) (λh=>h) (h1.go g1) λd M2 v θ2 H2 g2 r2 h2=>?_
  have h3:=h2.go g2;unfold Dy at h3;cases q:jE c d M2 with
  | none=>simp only[q] at h3;exact h3.elim
  | some p=>
   obtain⟨j,fs⟩:=p;simp only[q] at h3
   by_cases hl:fs.length<1000
   ·simp only[if_pos hl] at h3;refine q3x5 (t9 g2.wr k.at_ r2 q) λa dx vs ea ta hv rf _=>?_;have gs:=CO (f:=f) (dx:=dx) g2.wr ta k.at_ rf (r1.go g2);exact⟨a,C,dx,vs,ea,hv,k.cl,n,by rwa [<-Au rf],h3 σ θ2 _ gs (((hd.go g1).go g2).go gs)⟩
   ·simp only[if_neg hl] at h3;exact h3.elim
def dQ (c m:Str)(n:Nat)(F:FD)(go:GE)(ga:GA):GE:=λρ M=>(go ρ M).bind λo M1=>match jE c o M1 with
 | some (_,fs)=>if fs.lookup m=Y then(ga ρ M1).bind λds M2=>if ds.length+1=n then F (o::ds) M2 else .bad else .bad
 | none=>.bad
def EW (k:Kc X.K X.mg c C)(h:tE X (dQ c m n F go ga) σ H Q):FC C m (sC X.K n F) [] (J5 X) (tE X go) (tA X ga) σ H Q:=by
 refine q3x3 h λρ θ M hd hw h=>?_;refine bi hd hw (aK X θ H Q) (λc M' h=>h) (λh=>h) h λd M1 v θ1 H1 g1 r1 h1=>?_
 have h2:=aK.go g1 h1;cases q:jE c d M1 with
 | none=>simp only[q] at h2;exact h2.elim
 | some p=>
  obtain⟨j,fs⟩:=p;simp only[q] at h2;refine q3x5 (t9 g1.wr k.at_ r1 q) λa dx vs ea ta hv rf _=>?_
  by_cases hl:fs.lookup m=Y
  ·simp only[if_pos hl] at h2;refine⟨a,dx,vs,ea,hv,CZ rf hl,?_⟩;refine m5 (hd.go g1) g1.wr (aK X θ1 H1 Q) (λc M' h=>h) (λh=>h) h2 λds M2 us θ2 H2 g2 r2 h3=>?_
   by_cases hn:ds.length+1=n
   ·rw[if_pos hn] at h3;have h4:=aK.go g2 h3;refine⟨θ2,M2,d::ds,hn,⟨v,us++[],rfl,r1.go g2,by simp_all⟩,g2.wr,?_⟩;cases qf:F (d::ds) M2 with
    | ok d2 M3=>rwa [qf] at h4
    | err c2 M3=>rw[qf] at h4;exact yg h4
    | bad=>rw[qf] at h4;exact h4
   ·rw[if_neg hn] at h3;exact h3.elim
  ·simp only[if_neg hl] at h2;exact h2.elim
def rY (c:Str)(n:Nat)(F:FD)(ga:GA):GE:=λρ M=>(ga ρ M).bind λds M1=>if ds.length+1=n then(F (.mr M1.length::ds) (M1++[.obj c []])).bind λd M2=>match d with
  | .non=>.ok (.mr M1.length) M2
  | _=>.bad
 else .bad
def Kk (k:iM X.K c C)(h:tE X (rY c n F ga) σ H Q):Le C (sC X.K n F) [] (J5 X) (tA X ga) σ H Q:=by
 refine q3x3 h λρ θ M hd hw h=>?_;refine m5 hd hw (aK X θ H Q) (λc M' h=>h) (λh=>h) h λds M1 us θ1 H1 g1 r1 h1=>?_
 intro x dx hx hdx ne;have h2:=aK.go g1 h1
 by_cases hn:ds.length+1=n
 ·simp only[if_pos hn] at h2;have gm:=J0 (C:=C) g1.wr hx hdx ne k;have rx:cC X.K (θ1++[x]) (bB (bB H1 dx (.own x)) x (.ins C dx [])) (.mr M1.length) (.ref x):=pU g1.wr;refine⟨θ1++[x],M1++[.obj c []],.mr M1.length::ds,hn,⟨.ref x,us++[],rfl,rx,by rw[Yb];exact r1.go gm⟩,gm.wr,?_⟩;have h3:=aK.go gm h2;cases qf:F (.mr M1.length::ds) (M1++[.obj c []]) with
  | bad=>rw[qf] at h3;exact h3
  | err c2 M3=>rw[qf] at h3;exact yg h3
  | ok d2 M3=>
   rw[qf] at h3;intro v θ2 H2 g2 r2;cases d2 with
   | non=>exact⟨r2,h3 _ θ2 H2 g2 (rx.go g2)⟩
   | _=>exact h3.elim
 ·simp only[if_neg hn] at h2;exact h2.elim
def QY (add:Bool)(x y:D)(M:ay):bc D:=match x,y with
 | .int i,.int j=>.ok (.int (if add then i+j else i-j)) M
 | _,_=>.bad
def G8 (i:Nat)(add:Bool)(g:GE):GS:=λρ M=>(ae i ρ M).bind λx M0=>(g ρ M0).bind λy M1=>(QY add x y M1).bind λz M2=>.ok (.nx (ρ.set i (Z z))) M2
end
end DL
namespace DL
open PySem PySem.Spec PyProof.Rows L2 List
section
variable {prog:UI}{w:UN}{A:Vd}{E:Uh->Ui->Prop}{s:Ui}
def Bh {I a:Ul}{k:Nat}(st:s.heap.IsTupleIter I a k)(ta:s.heap.IsTuple a its)(hx:its[k]?=Z x)
  (q:∀h',h'.IsTupleIter I a (k+1)->Vr I s.heap h'->Q x {s with heap:=h'}):Uq (UA prog w) A (V6 (.ref I)) Q E s:=by
 refine q1x3 (id st) λu hu uc ud=>?_;obtain⟨oa,hoa,_,na,da⟩:=ta;unfold V6;refine Ud (U7  st.typeIs V2 (UZ V2 st.typeIs X1 ?_ (XS _)));show Uq _ _ (field (.ref I) 0 >>= _) _ _ s;refine Ud (Vt hu ud (x:=.ref a) rfl ?_);refine Ud (Vt hu ud (x:=.int k 0) rfl ?_);refine Ud (VC hoa da ?_);simp only[UC,hx];refine Ud (Xo hu ud (by simp) (Ue ⟨x,rfl,Ue (q _ ?_ (Vs ..))⟩));exact⟨_,WK _ hu (Zb (Xd ud _)),(aak ..).trans uc,by rw[Xd ud];simp[WO]⟩
def mL {I a:Ul}{k:Nat}(hh:A.handled=Y)(st:s.heap.IsTupleIter I a k)(ta:s.heap.IsTuple a its)(hx:its[k]?=Y)
  (q:∀h' e,Yt I s.heap h'->(∃o,h'.get? e=Z o/\o.cls=.type "StopIteration")->E (.ref e) {s with heap:=h'}):Uq (UA prog w) A (V6 (.ref I)) Q E s:=by
 refine q1x3 (id st) λu hu uc ud=>?_;obtain⟨oa,hoa,_,na,da⟩:=ta;unfold V6;refine Ud (U7 (name:=Vx "__next__") st.typeIs V2 (UZ V2 st.typeIs X1 ?_ (XS _)));show Uq _ _ (field (.ref I) 0 >>= _) _ _ s;refine Ud (Vt hu ud (x:=.ref a) rfl ?_);show Uq _ _ (if(UO a==U5)=true then _ else _) _ _ s;rw[if_neg (show¬((UO a==U5)=true) from Uy)];show Uq _ _ (field (.ref I) 1 >>= _) _ _ s;refine Ud (Vt hu ud (x:=.int k 0) rfl ?_);show Uq _ _ (X4 (.ref a) >>= _) _ _ s;refine Ud (VC hoa da ?_);simp only[UC,hx];refine Ud (XA (Ud (Xo hu ud (by simp) ?_)));show Uq _ _ (abw (.type "StopIteration") [] >>= _) _ _ _;refine Ud ?_;simp only[abw,newTuple];refine Ud (UV ?_ (by size_fits));refine Ud (m:=WU _ _) (WT (a:=U5) (by first|rfl|(simp only[WU];rfl)) ?_);refine UV ?_ (by size_fits);simp only[raiseNew];refine Ud (ZR ?_)
 first|rw[show A.in1.handled=Y from hh]|rw[hh]
 exact Ud (Ue (aaQ (q _ _ (((Vs ..).extBut.push _).push _) ⟨_,Uo _ rfl,rfl⟩)))
end
def Ds {prog:UI}{w:UN}{A:Vd}(hh:A.handled=Y)(I a:Ul)(hne:a≠I)(its:Array Uh) :
  Draws prog w A I [I,a] its.size (λi v=>its[i]?=Z v) (λi h=>h.IsTupleIter I a i/\h.IsTuple a its) where
 live:=λ_ _ st=>let ⟨o,ho,_⟩:=st.1;⟨o,ho⟩
 frame:=λ_ _ _ st hk=>⟨st.1.at λo e=>hk I (by simp) o e,let ⟨o,ho,r⟩:=st.2;⟨o,hk a (by simp) o ho,r⟩⟩
 item:=λi s Q E hi st hQ=>Bh st.1 st.2 (x:=its[i]) (by simp) λh' hit' hs'=>hQ _ h' s.toks (by simp) ⟨hit',st.2.extBut hs'.extBut hne⟩ hs'
 done:=λs Q E st hE=>mL hh st.1 st.2 (by simp) hE
open AutoSeq1 (wpAny_loadPart')
def xf (a:Ul)(its:Array Uh)(n:Nat)(dct:Option Ul)(sl:Array (Option Uh)) :
  Meets (Xj.«enumerate.__new__» ⟨[.type "enumerate",.ref a],[]⟩) (λ_ R s=>s.heap.get? a=Z {cls:=.type "tuple",dict:=dct,data:=.seq its n,slots:=sl}/\
   R (.ok (.ret (.ref (s.heap.push {cls:=.type "tuple_iterator",data:=.fields #[.ref a,.int 0 0]}).objs.size)))
    {s with heap:=(s.heap.push {cls:=.type "tuple_iterator",data:=.fields #[.ref a,.int 0 0]}).push {cls:=.type "enumerate",data:=.fields #[.none,.bool false,.ref s.heap.objs.size,WO 0,.none,.none]}}):=
 .of_wp λprog w A R s hh=>by
  obtain⟨hp,g,d,tk,os⟩:=s;refine q0x2 hh λha hr=>?_;have hsub:=sub_enumerate;have hT:Heap.IsTuple (Shared.heap ⟨hp,g,d,tk,os⟩) a its:=⟨_,ha,rfl,n,rfl⟩
  wp_walk using Wb ha
  refine wpAny_stack_any λst=>Ue ?_
  split
  ·rename_i c _ _ _ _ _;cases (c==ab7 "enumerate")
   all_goals
    wp_walk using Wb ha,Z6 hT
    exact⟨_,rfl,hr⟩
  ·wp_walk using Wb ha,Z6 hT
   exact⟨_,rfl,hr⟩
def vJ {a:Ul}(hT:s.heap.IsTuple a its)
  (q:∀h',IsEnum h' (s.heap.objs.size+1) s.heap.objs.size 0 .none->h'.IsTupleIter s.heap.objs.size a 0->h'.objs.size=s.heap.objs.size+2->
   (∀b o,s.heap.get? b=Z o->h'.get? b=Z o)->Q (.ref (s.heap.objs.size+1)) {s with heap:=h'}):Uq (UA prog w) A (call (.type "enumerate") [.ref a]) Q E s:=by
 obtain⟨⟨c,dct,dt,sl⟩,ha,hc,n,hd⟩:=hT;have hc:c=.type "tuple":=hc;subst hc hd;refine callType_new F.called_enumerate (by decide) (F.typeCall_enumerate_1 _) (F.newCall_enumerate_1 _) (λobj=>F.args_object_init_2 obj _) F.entry_enumerate_new (xf a its n dct sl) ⟨ha,?_⟩;have hz:(s.heap.push {cls:=.type "tuple_iterator",data:=.fields #[.ref a,.int 0 0]}).objs.size=s.heap.objs.size+1:=Xl ..;show _/\_;rw[hz];have he:=by
  have z:=Uo (s.heap.push {cls:=.type "tuple_iterator",data:=.fields #[.ref a,.int 0 0]}) (o:={cls:=.type "enumerate",data:=.fields #[.none,.bool false,.ref s.heap.objs.size,WO 0,.none,.none]}) rfl;rw[hz] at z;exact z
 exact⟨⟨_,he,rfl⟩,q _ he ⟨_,Ug _ (Uo _ rfl),rfl,rfl⟩ (by rw[Xl,hz]) λb o z=>Ug _ (Ug _ z)⟩
section
variable {X:Cx}{af:List (Ul×Obj)}{σ:L2.St}{H:Hp}{s:Ui}
def pX {ch:List Ul}{a:Ul}(I:L2.Inv X af σ H s)(hf:∀b∈ch,hV X af H b)(k:∀b u,b∉ch->s.heap.get? b=Z u->h'.get? b=Z u)
  (hp:s.heap.objs.size<=a) (new:bK X.prog X.w (bB H a o) h' a o):L2.Inv X af σ (bB H a o) {s with heap:=h',toks:=t'}:=by
 have ne:∀{b:Ul} {u:HO},H b=Z u->b≠a:=λ{b u} e z=>by rw[z,(I.hok.fresh hp)] at e;cases e
 have nch:∀b u,H b=Z u->b∉ch:=λb u e z=>by rw[(hf b z).1] at e;cases e
 refine I.step  (d':=s.drawn) (ch:=ch) (λb hb=>⟨(hf b hb).2.2.2.1,(hf b hb).2.1,(hf b hb).2.2.2.2.1,(hf b hb).2.2.2.2.2⟩) (λb u _ _ hc e _=>k b u hc e) (λb u _ _ hc e _=>⟨u.slots,k b u hc e⟩)
  (λb u _ e n=>by rw[ar (Uz (Ux (Ut e) hp))];exact n) (λb u hc e=>⟨u,k b u hc e⟩) (λb xs e=>by rw[ar (ne e)];exact e) (λb u v e=>by rw[ar (ne e)];exact e)
  (λb ps e=>⟨#[],by rw[ar (ne e),e];simp⟩) (λm hm=>?_) (λb u e=>?_) I.bare
 ·refine q3x2 hm λu es ep ho r=>?_;exact⟨u,es,ep,k _ u (λz=>(hf _ z).2.1 rfl) ho,r⟩
 ·by_cases hb:b=a
  ·subst hb;rw[aX] at e;cases e;exact new
  ·rw[ar hb] at e;refine(I.hok b u e).stay (λc v hc q=>k c v ?_ q) (λc q=>by rw[ar (ne q)];exact q) λc xs q=>by rw[ar (ne q)];exact q
   rcases hc with z|z
   ·rw[z];exact nch b u e
   ·exact nch c _ z
def wA {ch:List Ul}(I:L2.Inv X af σ H s)(hf:∀b∈ch,hV X af H b)(k:∀b u,b∉ch->s.heap.get? b=Z u->h'.get? b=Z u):L2.Inv X af σ H {s with heap:=h',toks:=t'}:=by
 have nch:∀b u,H b=Z u->b∉ch:=λb u e z=>by rw[(hf b z).1] at e;grind
 refine I.step    (λb hb=>⟨(hf b hb).2.2.2.1,(hf b hb).2.1,(hf b hb).2.2.2.2.1,(hf b hb).2.2.2.2.2⟩) (λb u _ _ hc e _=>k b u hc e) (λb u _ _ hc e _=>⟨u.slots,k b u hc e⟩)
  (λb u _ e n=>n) (λb u hc e=>⟨u,k b u hc e⟩) (λb xs e=>e) (λb u v e=>e) (λb ps e=>⟨#[],by simp_all⟩) (λm hm=>?_) (λb u e=>?_) I.bare
 ·refine q3x2 hm λu es ep ho r=>?_;exact⟨u,es,ep,k _ u (λz=>(hf _ z).2.1 rfl) ho,r⟩
 ·refine(I.hok b u e).stay (λc v hc q=>k c v ?_ q) (λc q=>q) λc xs q=>q
  rcases hc with z|z
  ·rw[z];exact nch b u e
  ·exact nch c _ z
end
def OV (K:Uu)(b:Bool)(H:Hp)(a:Ul)(xs:List V):Prop:=match b with
 | true=>sX K H a xs
 | false=>pe K H a xs
def DX (K:Uu)(b:Bool)(a:Ul):It:=
 ⟨λi H=>∃xs x,OV K b H a xs/\xs[i]?=Z x,λi H x H'=>∃p y,H p=Y/\H'=bB H p (.tup [.int (i:Int),y])/\x=.ref p/\∀xs,OV K b H a xs->xs[i]?=Z y,λi H=>∃xs,OV K b H a xs/\xs.length<=i⟩
def im (b:Bool)(h:Vn)(it a:Ul)(i:Nat):Prop:=match b with
 | true=>h.IsTupleIter it a i
 | false=>h.IsListIter it a i
def im.at {a:Ul}(x:im b h it a i)(e:∀o,h.get? it=Z o->h'.get? it=Z o):im b h' it a i:=by
 cases b with
 | true=>exact ab5 x e
 | false=>exact ab8 x e
def im.obj {a:Ul}(x:im b h it a i):∃o,h.get? it=Z o/\(o.cls=.type "tuple_iterator"\/o.cls=.type "list_iterator")/\∃vs,o.data=.fields vs:=by
 cases b with
 | true=>refine q1x3 x λo e c d=>?_;exact⟨o,e,.inl c,_,d⟩
 | false=>refine q1x3 x λo e c d=>?_;exact⟨o,e,.inr c,_,d⟩
def DS {P:UI}{w:UN}{K:Uu}{es:List UY}{kt:Nat}{pos:Pos}(b:Bool)(a e it:Ul):A7 P w K (.Tuple es kt pos) (DX K b a) [e,it] e (λi h=>(∃old,IsEnum h e it (i:Int) old)/\im b h it a i) where
 mem:=by simp
 obj:=λi h st c hc=>by
  obtain⟨⟨old,he⟩,hs⟩:=st;obtain⟨o,ho,_,vs,hd⟩:=hs.obj;rcases Va.mp hc with q|q
  ·subst q;exact⟨_,he,λv z=>by cases z⟩
  ·rw[VE.mp q];exact⟨o,ho,λv z=>by rw[hd] at z;cases z⟩
 keep:=λi h h' st k=>⟨st.1.imp λold he=>k e (by simp) _ he,st.2.at λo q=>k it (by simp) o q⟩
 item:=by
  intro X hP hw hK hc i af s σ H E I hf st hg;subst hP hw hK;obtain⟨⟨old,he⟩,hs⟩:=st;refine q2x2 hg λxs x hq hx=>?_;have hei:e≠it:=λz=>by
   refine q1x3 hs.obj λo ho hcl _=>?_;rw[<-z,he] at ho;cases ho;rcases hcl with q|q <;> simp at q
  have main:∀(its:List Uh) (fp:List Ul) (St:Nat->Vn->Prop),aV xs its->Draws X.prog X.w X.A.in1 it fp its.length (λi v=>its[i]?=Z v) St->e∉fp->St i s.heap->(∀h,St (i+1) h->im b h it a (i+1))->
    Uq (UA X.prog X.w) X.A (WN (.ref e)) (λr s1=>∃u,r=Z u/\
     Uq (UA X.prog X.w) X.A (Y7 (.Tuple es kt pos) (.ref e) u) (λ_ s2=>∃x H',L2.Inv X af σ H' s2/\aS x u/\(DX X.K b a).yld i H x H'/\((∃old,IsEnum s2.heap e it ((i+1:Nat):Int) old)/\im b s2.heap it a (i+1))/\∀b∈[e,it],H' b=Y) E s1) E s:=by
   intro its fp St rv D hef hst hback;have hil:i<its.length:=by rw[<-rv.length];exact(Uk.mp hx).1
   refine q1x2 (rv.get hx) λu hu ru=>?_;refine wpAny_pyNext_enum_itemD D he hst hil hei hef λy h' tk hP ho hs' hT hsz hk=>?_
   have ey:y=u:=by
    have hP:its[i]?=Z y:=hP;rw[hu] at hP;exact(UT hP).symm
   subst ey;have helt:e<s.heap.objs.size:=Ut he;refine⟨_,rfl,wpAny_letOwnedTupleGo_enum ho λh2 he2 hs2=>?_⟩;have hs2:Vr e h' h2:=hs2;have hT2:h2.get? s.heap.objs.size=Z {cls:=.type "tuple",data:=.seq #[.int i tk,y]}:=(hs2.2 _ (Wt helt)).trans hT;have fr:H s.heap.objs.size=Y:=I.hok.fresh (Uj _);have new:bK X.prog X.w (bB H s.heap.objs.size (.tup [.int (i:Int),x])) h2 s.heap.objs.size (.tup [.int (i:Int),x]):=
    ⟨UK (by decide:2<=1000) (by rw[U3];decide),[.int i tk,y],.cons ⟨tk,rfl⟩ (.cons ru .nil),⟨_,hT2,rfl,_,rfl⟩⟩
   have I2:=pX (t':=tk+1) I hf (λc o hc q=>(hs2.2 c (λz=>hc (by simp[z]))).trans (hk c o (λz=>hc (by simp[z])) (λz=>hc (by simp[z])) q)) (Uj _) new;have inj:∀ys,OV X.K b H a ys->ys[i]?=Z x:=λys hy=>by
    cases b with
    | true=>rw[I.tuple_inj hy hq];exact hx
    | false=>rw[I.list_inj hy hq];exact hx
   refine⟨.ref s.heap.objs.size,_,I2,rfl,⟨_,x,fr,rfl,rfl,inj⟩,⟨⟨y,by simpa using he2⟩,(hback h' hs').at λo q=>(hs2.2 it (Vl hei)).trans q⟩,λc hc=>?_⟩;have:c≠s.heap.objs.size:=by
    refine q1x2 hs.obj λo ho2 _=>?_;rcases Va.mp hc with q|q
    ·rw[q];exact Uz helt
    ·rw[VE.mp q];exact Uz (Ut ho2)
   rw[ar this];exact(hf c hc).1
  cases b with
  | false=>
   refine q1x3 (I.list (show pe X.K H a xs from hq)) λits rv p hz=>?_;have hli:a≠it:=λz=>by
    refine q1x3 hs.obj λo ho hcl _=>?_;refine q1x3 p.isList λol hol hlc _=>?_;rw[z,ho] at hol;cases hol;rw[hlc] at hcl;rcases hcl with q|q <;> simp at q
   have hle:e≠a:=λz=>by
    refine q1x3 p.isList λol hol hlc _=>?_;rw[<-z,he] at hol;cases hol;simp at hlc
   have D:=Draws.list (prog:=X.prog) (w:=X.w) (A:=X.A.in1) (show X.A.in1.handled=Y from I.ok.hd hc) it a hli its.toArray;rw[U1] at D;exact main its [it,a] (λi h=>h.IsListIter it a i/\h.IsList a its.toArray) rv (by simpa using D) (by simp[hei,hle]) (show s.heap.IsListIter it a i/\s.heap.IsList a its.toArray from⟨hs,p.isList⟩) λh q=>q.1
  | true=>
   refine q1x3 (I.tuple (show sX X.K H a xs from hq)) λits rv p hz=>?_;have p:s.heap.IsTuple a its.toArray:=p;have hli:a≠it:=λz=>by
    refine q1x3 hs.obj λo ho hcl _=>?_;refine q1x3 (id p) λol hol hlc _=>?_;rw[z,ho] at hol;cases hol;rw[hlc] at hcl;rcases hcl with q|q <;> simp at q
   have hle:e≠a:=λz=>by
    refine q1x3 (id p) λol hol hlc _=>?_;rw[<-z,he] at hol;cases hol;simp at hlc
   have D:=Ds (prog:=X.prog) (w:=X.w) (A:=X.A.in1) (show X.A.in1.handled=Y from I.ok.hd hc) it a hli its.toArray;rw[U1] at D;exact main its [it,a] (λi h=>h.IsTupleIter it a i/\h.IsTuple a its.toArray) rv (by simpa using D) (by simp[hei,hle]) (show s.heap.IsTupleIter it a i/\s.heap.IsTuple a its.toArray from⟨hs,p⟩) λh q=>q.1
 done:=by
  intro X hP hw hK hc i af s σ H E I hf st hg;subst hP hw hK;obtain⟨⟨old,he⟩,hs⟩:=st;refine q1x2 hg λxs hq hx=>?_;have hnx:∀h',Yt it s.heap h'->(Y:Option Uh)=Y/\L2.Inv X af σ H {s with heap:=h'}:=λh' hb=>
   ⟨rfl,wA (t':=s.toks) I hf λc o hc q=>hb c o (λz=>hc (by simp[z])) q⟩
  have hT:s.TypeIs (.ref e) "enumerate":=⟨_,he,rfl⟩;unfold WN;refine Ud (W5 (U7 (name:=Vx "__next__") hT Zc (UZ Zc hT F.entry_enumerate_next ?_ (F.args_enumerate_next_1 _))));show Uq _ _ (field (.ref e) 2 >>= _) _ _ _;refine Ud (Vt he rfl (x:=.ref it) rfl (Ud ?_));have stp:∀h' x,Yt it s.heap h'->(∃o,h'.get? x=Z o/\o.cls=.type "StopIteration")->Uq (UA X.prog X.w) X.A (isInstance (.ref x) (.type "StopIteration") >>= λb=>if b=true then pure Y else throw (UO x)) (λ(r:Option Uh) s1=>r=Y/\L2.Inv X af σ H s1) E {s with heap:=h'}:=λh' x hb hx'=>by
   refine q1x2 hx' λo ho hcl=>?_;refine Ud (YL (T:="StopIteration") (b:=true) ⟨o,ho,hcl⟩ Zp ?_);exact Ue (hnx _ hb)
  cases b with
  | false=>
   refine q1x3 (I.list (show pe X.K H a xs from hq)) λits rv p hz=>?_;have hl:=rv.length;exact wpAny_nextOf_list_end (show X.A.in1.handled=Y from I.ok.hd hc) hs p.isList (by simp;omega) stp
  | true=>
   refine q1x3 (I.tuple (show sX X.K H a xs from hq)) λits rv p hz=>?_;have p:s.heap.IsTuple a its.toArray:=p;have hl:=rv.length;exact mL (show X.A.in1.handled=Y from I.ok.hd hc) hs p (by simp;omega) stp
 self:=λ_ _ _ _ _ st h=>by
  obtain⟨⟨old,he⟩,_⟩:=st;exact aal he h
def IT (hg:Gl X "enumerate")(hm:X.mg "enumerate"=Y)(hv:Vv "enumerate"=Z (.type "enumerate"))(hl:PA X [l] tl)(hs:UR [l] X.env=[(false,Vo l X.env)]:=by rfl) :
  PI X (.Tuple es kt tp) (.Call (.Name "enumerate" p) [l] [] pos) (λσ H R=>tl σ H λxs H1=>∃a,xs=[.ref a]/\(((∃xs,pe X.K H1 a xs)/\R (DX X.K false a) H1)\/((∃xs,sX X.K H1 a xs)/\R (DX X.K true a) H1))):=by
 intro af s σ H R I h;refine Call_ (rM I hg hm hv (WL (bS (hl pos af s σ H _ I h) λus s1 hxx=>?_) hs rfl));obtain⟨vs,H1,I1,r1,q1⟩:=hxx;obtain⟨a,e,q1⟩:=q1;subst e;cases r1 with
 | cons r rr=>
  cases rr;have r:_=UO a:=r;subst r;have fin:∀(b:Bool) (h':Vn),IsEnum h' (s1.heap.objs.size+1) s1.heap.objs.size 0 .none->im b h' s1.heap.objs.size a 0->h'.objs.size=s1.heap.objs.size+2->(∀c o,s1.heap.get? c=Z o->h'.get? c=Z o)->R (DX X.K b a) H1->
    Uq (UA X.prog X.w) X.A (ZZ (.ref (s1.heap.objs.size+1))) (Sa X af σ (.Tuple es kt tp) R) X.xe {s1 with heap:=h'}:=λb h' he hi hz hk q=>by
   refine aal he ⟨_,[s1.heap.objs.size+1,s1.heap.objs.size],_,_,H1,rfl,I1.kept (t':=s1.toks) hk,DS b a _ _,⟨⟨_,he⟩,hi⟩,λc hc=>?_,q⟩;have hb:s1.heap.objs.size<=c:=by
    rcases Va.mp hc with z|z
    ·rw[z];exact Ws _
    ·rw[VE.mp z];exact Uj _
   exact I1.fpOk hb (I1.hok.fresh hb)
  rcases q1 with⟨⟨xs,hq⟩,q⟩|⟨⟨xs,hq⟩,q⟩
  ·obtain⟨its,rv,p,hz⟩:=I1.list hq;exact call_enumerate_list p.isList λh' he hi hz hk=>fin false h' he hi hz hk q
  ·obtain⟨its,rv,p,hz⟩:=I1.tuple hq;exact vJ (show s1.heap.IsTuple a its.toArray from p) λh' he hi hz hk=>fin true h' he hi hz hk q
def mB (ds:List D):List D:=(UH ds.length).zipWith (λ(k:Nat) d=>D.tup [.int (k:Int),d]) ds
def rP {i:Nat}(h:(mB ds)[i]?=Z d):∃x,ds[i]?=Z x/\d=.tup [.int (i:Int),x]:=by
 unfold mB at h;rw[getElem?_zipWith] at h;cases q:ds[i]? with
 | none=>simp_all
 | some x=>
  rw[q,YQ ((Uk.mp q).1)] at h;exact⟨x,rfl,(UT h).symm⟩
def lh (ds:List D):(mB ds).length=ds.length:=by simp[mB]
def Nj (ds:List D)(M:ay):bc rN:=match ds with
 | [.lst xs]=>.ok ⟨mB xs,Y⟩ M
 | [.ro xs]=>.ok ⟨mB xs,Y⟩ M
 | [.tup xs]=>.ok ⟨mB xs,Y⟩ M
 | _=>.bad
def yo (g:GA):GI:=λρ M=>(g ρ M).bind Nj
def uQ {K:Uu}{a:Ul}(ta:∀θ1 H1,Grow θ H θ1 H1->OV K b H1 a vs)(r:a6 K θ H ds vs):HK K (DX K b a) θ H ⟨mB ds,Y⟩:=by
 intro θ1 H1 M1 g _ i;have t1:=ta θ1 H1 g.toGrow;have r1:=r.go g;refine⟨λd e=>?_,λhl=>⟨vs,t1,by rw[<-av r1];rwa [lh] at hl⟩⟩;refine q1x2 (rP e) λx ex ed=>?_;subst ed;refine q1x2 (dW r1 ex) λv e1 rv=>?_;refine⟨⟨vs,v,t1,e1⟩,λx' H2 y=>?_⟩;refine q2x4 y λp y' np eH exr hy=>?_;have e2:=hy vs t1;rw[e1] at e2;cases e2;subst eH exr;exact⟨cQ g.wr np,gH  g.wr np ⟨_,_,rfl,rfl,_,_,rfl,rv,rfl⟩⟩
end DL
namespace DL
open PySem PySem.Spec PyProof.Rows L2 List
def rj (o x:D)(lo hi:Int)(M:ay):bc Unit:=match o,x with
 | .mr k,.lst ys=>match M[k]? with
  | some (.lst xs)=>if 0<=lo/\lo<=hi/\hi<=(xs.length:Int)/\xs.length+ys.length<=Ur then .ok () (M.set k (.lst (xs.take lo.toNat++ys++xs.drop hi.toNat))) else .bad
  | _=>.bad
 | _,_=>.bad
def jh (o x l h:D)(M:ay):bc Unit:=match l,h with
 | .int l,.int h=>rj o x l h M
 | _,_=>.bad
def Ia (go gl gh g:GE):GS:=λρ M=>(g ρ M).bind λx M1=>(go ρ M1).bind λo M2=>(gl ρ M2).bind λl M3=>(gh ρ M3).bind λh M4=>(jh o x l h M4).bind λ_ M5=>.ok (.nx ρ) M5
def Qz (d2 d1 d3 d4:D)(M:ay):Prop:=∃l h k ys xs,(d3=.int l/\d4=.int h)/\(d2=.mr k/\d1=.lst ys)/\M[k]?=Z (.lst xs)/\(0<=l/\l<=h/\h<=(xs.length:Int)/\xs.length+ys.length<=Ur)/\jh d2 d1 d3 d4 M=.ok () (M.set k (.lst (xs.take l.toNat++ys++xs.drop h.toNat)))
def OC (d2 d1 d3 d4:D)(M:ay):jh d2 d1 d3 d4 M=.bad\/Qz d2 d1 d3 d4 M:=by
 cases d3 with
 | int l=>
  cases d4 with
  | int h=>
   cases d2 with
   | mr k=>
    cases d1 with
    | lst ys=>
     cases q:M[k]? with
     | none=>exact .inl (by unfold jh rj;simp_all)
     | some m=>
      cases m with
      | lst xs=>
       by_cases hc:0<=l/\l<=h/\h<=(xs.length:Int)/\xs.length+ys.length<=Ur
       ·exact .inr ⟨l,h,k,ys,xs,⟨rfl,rfl⟩,⟨rfl,rfl⟩,q,hc,by unfold jh rj;dsimp only;rw[q];exact if_pos hc⟩
       ·exact .inl (by unfold jh rj;dsimp only;rw[q];exact if_neg hc)
      | _=>exact .inl (by unfold jh rj;simp_all)
    | _=>exact .inl rfl
   | _=>exact .inl rfl
  | _=>exact .inl rfl
 | _=>exact .inl rfl
section
variable {X:Cx}{e o lo hi:UY}{g go gl gh:GE}{pos ip sp:Pos}
def Ef (i j:Nat)(ga:GA):GS:=λρ M=>(ga ρ M).bind λds M1=>match ds with
 | [d,e]=>.ok (.nx ((ρ.set i (Z d)).set j (Z e))) M1
 | _=>.bad
def Rm (tab:List (Str×Int)):List (V×V):=tab.map λp=>(.str p.1,.int p.2)
def vL (tab:List (Str×Int)):List (bM×V):=tab.map λp=>(XD p.1,V.int p.2)
def Ry (tab:List (Str×Int)):List (TE×TE):=tab.map λp=>(tC (.str p.1),tC (.int p.2))
theorem wo:∀{tab:List (Str×Int)} {Q:List (V×V)->Hp->Prop},Q (Rm tab) H->xD (Ry tab) σ H Q
 | [],Q,q=>q
 | p::r,Q,q=>wo (tab:=r)  q
def J9 (tab:List (Str×Int))(g:GE):GE:=λρ M=>(g ρ M).bind λd M1=>match d with
 | .str x=>match jU (jd [] (vL tab)) (XD x) with
  | some (.int i)=>.ok (.int i) M1
  | _=>.bad
 | _=>.bad
end
def H0 (K:Uu)(a:Ul)(so:Obj)(xs:List V)(ts:List Ul)(bm:Ul)(ob:Obj):Hp:=λb=>
 if b=a then(if K.lookup a=Y then Z (.frz so (.lst xs)) else Y) else if b∈ts then Z (.tbl #[]) else if b=bm then Z (RL ob) else Y
structure Sk (K:Uu)(h:Vn)(ts:List Ul)(bm:Ul)(ob:Obj):Prop where
 tab:∀P∈ts,h.get? P=Z (W.tabObj #[])/\isCodeTable h P/\K.lookup P=Y
 names:∀x,x∈cw->∀c P,Wg K x=Z (c,P)->P∈ts
 bmk:V5 K Uv "__builtins__"=Z (Z (.ref bm))
 bmh:h.get? bm=Z ob
 bmc:ob.cls=.type "module"/\ob.dict=Z X5/\ob.data=.plain
 bmn:bm≠X5/\bm≠Uv
 bml:K.lookup bm=Y
def FI {K:Uu}{a:Ul}(L:Sk K h ts bm ob)(ha:h.get? a=Z so)(sc:so.cls=.type "list"):nP K (H0 K a so xs ts bm ob):=by
 have neT:∀P∈ts,P≠a:=λP hP e=>by
  have:=(L.tab P hP).1
  grind
 refine⟨λx hx c P e=>?_,λx hx c P e=>⟨bm,ob,L.bmk,?_,L.bmc.1,L.bmc.2.1,L.bmc.2.2,L.bmn⟩⟩
 ·have hP:=L.names x hx c P e;refine⟨#[],?_,by simp[abR],λpos cv q=>by simp[YM] at q⟩;unfold H0
  simp_all
 ·unfold H0;rw[if_neg (λe=>by
  have:=L.bmh;have:=L.bmc.1
  grind),if_neg (λhb=>by
  have:=(L.tab bm hb).1;rw[L.bmh] at this;cases this;have:=L.bmc.1;simp at this),if_pos rfl]
def C8 {K:Uu}{k:Nat}{a:Ul}
  (KX:K.In s₁.heap) (hns:s₁.heap.Ns Uv mg) (hb:s₁.heap.Ns X5 mb) (hbb:∀x:Str,x≠"__name__"->mb x=Vv x) (hlim:s₁.heap.NoLimit) (hg:s₁.gens=#[])
  (ha:s₁.heap.get? a=Z {cls:=.type "list",data:=.seq vs.toArray}) (hi:Ve vs ns) (hl:ns.length<=Ur) (hr:bn k ZD) (L:Sk K s₁.heap ts bm ob)
  (F:∀base:Vn,K.In base->base.Ns Uv mg->eM P w K mg base CX k fa fd [x] sp) (hbind:∀(s:Ui) (u:Uh),XU s fd ⟨[u],[]⟩ [(x,u)])
  (hsp:∀H:Hp,nP K H->pe K H a (ns.map V.int)->sp [.ref a] H (λv _=>v=.bl true) λ_ _ _=>False)
  (hCX:∀H e s',CX [] H s₁ (λ_ _ _=>False) e s'->False) :
  Zz (UA P w) ZD (.call (.ref fa) ⟨[.ref a],[]⟩) (λr s'=>r=.ok (.ret (.bool true))/\OldK s₁.heap s'.heap/\s'.os=s₁.os/\Yp s'.gens) s₁:=by
 have rv:=vY hi;have lenV:=hi.length;have hH:∃H:Hp,H=H0 K a {cls:=.type "list",data:=.seq vs.toArray} (ns.map V.int) ts bm ob:=⟨_,rfl⟩;refine q1x1 hH λH eH=>?_;have tb:nP K H:=by rw[eH];exact FI L ha rfl
 have at_:∀b u,H b=Z u->(b=a/\K.lookup a=Y/\u=.frz {cls:=.type "list",data:=.seq vs.toArray} (.lst (ns.map V.int)))\/(b≠a/\b∈ts/\u=.tbl #[])\/(b=bm/\u=RL ob):=λb u e=>by
  rw[eH] at e;unfold H0 at e
  by_cases h1:b=a
  ·rw[if_pos h1] at e
   by_cases h2:K.lookup a=Y
   ·rw[if_pos h2] at e;cases e;exact .inl ⟨h1,h2,rfl⟩
   ·rw[if_neg h2] at e;cases e
  ·rw[if_neg h1] at e
   by_cases h2:b∈ts
   ·rw[if_pos h2] at e;cases e;exact .inr (.inl ⟨h1,h2,rfl⟩)
   ·rw[if_neg h2] at e
    by_cases h3:b=bm
    ·rw[if_pos h3] at e;cases e;exact .inr (.inr ⟨h3,rfl⟩)
    ·rw[if_neg h3] at e;cases e
 have hok:mY P w H s₁.heap:=λb u e=>by
  rcases at_ b u e with⟨h1,_,h3⟩|⟨_,h2,h3⟩|⟨h1,h3⟩
  ·subst h1 h3;exact⟨ha,by rw[UB];exact hl,vs,_,rv,ha⟩
  ·subst h3;exact(L.tab b h2).1
  ·subst h1 h3;exact⟨L.bmh,trivial,⟨_,L.bmh⟩,λ_ _ _ _=>trivial⟩
 have hS:pe K H a (ns.map V.int):=by
  cases hk:K.lookup a with
  | some o=>
   have e:=KX a o hk;rw[ha] at e;cases e;exact .inr ⟨_,vs.toArray,_,hk,rfl,rfl,rfl,by rw[U1,lenV];exact hl,by simpa using rv⟩
  | none=>exact .inl (.inr ⟨{cls:=.type "list",data:=.seq vs.toArray},by rw[eH];unfold H0;rw[if_pos rfl,if_pos hk]⟩)
 have base_of:∀{b:Ul} {o:Obj},s₁.heap.get? b=Z o->H b=Y->(xA s₁.heap H).get? b=Z o:=λe n=>FW e n
 have noA:∀{b:Ul} {o:Obj} {es:Array WX} {ep:Nat},s₁.heap.get? b=Z o->o.data=.dict es ep->H b=Y:=λ{b o es ep} e d=>by
  cases q:H b with
  | none=>rfl
  | some u=>
   exfalso;rcases at_ b u q with⟨h1,_,_⟩|⟨_,h2,_⟩|⟨h1,_⟩
   ·subst h1;rw[ha] at e;cases e;have d':Data.seq vs.toArray _=Data.dict es ep:=d;cases d'
   ·rw[(L.tab b h2).1] at e;cases e;cases d
   ·subst h1;rw[L.bmh] at e;cases e;rw[L.bmc.2.2] at d;cases d
 have nsK:∀{b:Ul} {m:Str->Option Uh},s₁.heap.Ns b m->(xA s₁.heap H).Ns b m:=λ{b m} ⟨o,es,ep,e,d,r⟩=>⟨o,es,ep,base_of e (noA e d),d,r⟩
 have hKb:K.In (xA s₁.heap H):=λb o e=>base_of (KX b o e) (by
  cases q:H b with
  | none=>rfl
  | some u=>
   exfalso;rcases at_ b u q with⟨h1,h2,_⟩|⟨_,h2,_⟩|⟨h1,_⟩
   ·subst h1;rw[h2] at e;cases e
   ·rw[(L.tab b h2).2.2] at e;cases e
   ·subst h1;rw[L.bml] at e;cases e)
 have hM:Mod K mg (xA s₁.heap H):=⟨hKb,nsK hns,⟨mb,nsK hb,hbb⟩,let ⟨mc,h1,h2⟩:=hlim;⟨mc,nsK h1,h2⟩⟩;have e0:vA P w K mg (xA s₁.heap H) ZD [] s₁ H:=⟨rfl,hM,λb o e=>KD e,Xk (C5 _ _),trivial,λb hb=>absurd (show b∈([]:List Ul) from hb) (by simp),hok,.of_eq hg⟩;refine Xm ((F _ hKb (nsK hns)).run ZD [] s₁ H ⟨[.ref a],[]⟩ [.ref a] [.ref a] _ _ hr e0 (hbind s₁ (.ref a)) (.cons rfl .nil) (hsp H tb hS)) λr s' h=>?_
 cases r with
 | error e=>exact(hCX H e s' h).elim
 | ok fl=>
  cases fl with
  | next=>exact VG h
  | brk=>exact VG h
  | cont=>exact VG h
  | ret u=>
   obtain⟨v,H',os,bare,un,hok',r',q⟩:=h;have q':v=.bl true:=q;subst q';obtain rfl:u=ab6 true:=r';refine⟨rfl,⟨λb o e=>?_,λb o e=>?_⟩,os,bare⟩
   ·cases q:H b with
    | none=>exact .inl (un.keep b o e q (by intro z;exact absurd (show b∈([]:List Ul) from z) (by simp)) (by simp))
    | some u=>
     rcases at_ b u q with⟨h1,_,h3⟩|⟨_,h2,h3⟩|⟨h1,h3⟩
     ·subst h3;have z2:=un.frzs b _ _ q;refine q0x2 (hok b _ q) λe1 _=>?_;refine q0x2 (hok' b _ z2) λe2 _=>?_;rw[e] at e1;cases e1;exact .inl e2
     ·subst h3;refine q1x1 (un.tbls b _ q) λmore z2=>?_;have e1:s₁.heap.get? b=Z {cls:=.none,data:=.fields #[]}:=hok b _ q;have e2:s'.heap.get? b=Z {cls:=.none,data:=.fields (#[]++more)}:=hok' b _ z2;rw[e] at e1;cases e1;exact .inr (.inl ⟨(L.tab b h2).2.1,rfl,#[],more,rfl,e2⟩)
     ·subst h3;have z2:=un.frzs b _ _ q;refine q0x2 (hok b _ q) λe1 _=>?_;refine q0x2 (hok' b _ z2) λe2 _=>?_;rw[e] at e1;cases e1;exact .inl e2
   ·exact un.there b o e (by simp)
def LA {l:Xy}{k:Nat}{K:ZV->Uu}{CX:UN->LS}{sp:UN->Sp}
  (hn:l.most=Z n) (hn2:n<=Ur) (hdf:d.params.defaults=[]) (hr:bn k ZD)
  (hY:∀(w:UN) (h:Vn),YP w h->(K w.params).In h)
  (F:∀(w:UN) (mg:Str->Option Uh) (fa:Ul) (h:Vn),(K w.params).In h->h.Ns Uv mg->mg d.name=Z (.ref fa)->
   ∃fd:VL,(∀(s:Ui) (u:Uh),XU s fd ⟨[u],[]⟩ [(x,u)])/\
    ∀base:Vn,(K w.params).In base->base.Ns Uv mg->eM l.prog w (K w.params) mg base (CX w) k fa fd [x] (sp w))
  (tabs:∀w:UN,∃(ls:List (Str×abu×Ul×Ul)) (bm:Ul),(∀p∈ls,(YS q).find? (λe=>e.name==p.1)=Z p.2.1/\Wg (K w.params) p.1=Z (p.2.2.1,p.2.2.2)/\(K w.params).lookup p.2.2.2=Y)/\
   (∀y,y∈cw->V5 (K w.params) Uv y=Z Y\/∃p∈ls,p.1=y)/\V5 (K w.params) Uv "__builtins__"=Z (Z (.ref bm))/\(K w.params).lookup bm=Y)
  (hsp:∀(w:UN) (H:Hp) (a:Ul) (ns:List Int),ns.length<=n->nP (K w.params) H->pe (K w.params) H a (ns.map V.int)->sp w [.ref a] H (λv _=>v=.bl true) λ_ _ _=>False)
  (hCX:∀(w:UN) (H:Hp) (s:Ui) (e:Uh) (s':Ui),CX w [] H s (λ_ _ _=>False) e s'->False) :
  W.WalkO q loose XP YP l.row.toRowW d [] (λf vs=>PySem.call f vs):=by
 refine Att.attach_call hn hdf λw s₀ s₁ mg mb fa o pm cd doc a vs ns G Y ho hd hcd hmg hobj hints hlen hg=>?_
 have KX:=hY w _ Y;refine q1x2 (F w mg fa _ KX G.T.g hmg) λfd hb hF=>?_;refine q2x4 (tabs w) λls bm hls hnm hbm hbl=>?_;obtain⟨bm',ob,b1,b2,b3,b4,b5,b6⟩:=G.T.bmain;have eb:bm'=bm:=by
  have:=ZE KX G.T.g hbm;rw[b1] at this;cases this;rfl
 subst eb;have L:Sk (K w.params) s₁.heap (ls.map (·.2.2.2)) bm' ob:=by
  refine⟨λP hP=>?_,λy hy c P e=>?_,hbm,?_,?_,?_,hbl⟩
  ·refine q1x2 (ZF.mp hP) λp hp zz2=>?_;subst zz2;refine q0x3 (hls p hp) λh1 h2 h3=>?_;refine q0x2 (W.tab_of G.T KX h1 h2) λc1 c2=>?_;exact⟨c2,(c1.tab c2).isCodeTable,h3⟩
  ·rcases hnm y hy with q|⟨p,hp,q⟩
   ·unfold Wg at e;rw[q] at e;cases e
   ·subst q;refine q0x3 (hls p hp) λh1 h2 h3=>?_;rw[h2] at e;cases e;exact ZF.mpr ⟨p,hp,rfl⟩
  ·exact b3
  ·exact⟨b4,b5,b6⟩
  ·refine⟨b2,λz=>?_⟩;refine q3x3 G.T.g λo' es ep e1 e2 _=>?_;rw[<-z,b3] at e1;cases e1;rw[b6] at e2;cases e2
 exact C8 KX G.T.g G.T.b G.T.builtins G.T.nolimit hg hobj hints (UK hlen hn2) hr L hF hb (λH hT hS=>hsp w H a ns hlen hT hS) λH e s'=>hCX w H s₁ e s'
def CN (q:Ul)(fd:VL):HO:=.ext λh=>h.get? q=Z {cls:=.type "function",data:=.func fd}
abbrev zO (qual:Str)(params:abQ)(body:UY)(scope:Y6)(pm cv ctv:Uh):VL:=W.kla_fn "<lambda>" qual params body scope [] pm cv ctv
def JS (ok:mY P w H h)(e:H c=Z (jC c q)):h.CodeRec (.ref c) q:=(ok c _ e).1
def QJ (ok:mY P w H h)(e:H q=Z (CN q fd)):h.get? q=Z {cls:=.type "function",data:=.func fd}:=(ok q _ e).1
def HJ (k:Nat)(g:GE):FD:=λds M=>g (oV k ds) M
def Ow {K:Uu}{k:Nat}
  (S:fe N ps scope) (hn:ps.length=n)
  (hbody:∀(A:Vd) (outer:List Env) (s:Ui) (H:Hp) (E:XK),bn k (A.deeper (WR qual scope s.heap.objs.size q (.ref c)))->
   PE (iS (jF P w) P w K mg base N qual scope q (.ref c) A outer s H E) body (tE (iS (jF P w) P w K mg base N qual scope q (.ref c) A outer s H E) g)) :
  eM P w K mg base (jF P w) (k+1) q (zO qual params body scope pm (.ref c) ctv) ps (λvs H Q E=>H q=Z (CN q (zO qual params body scope pm (.ref c) ctv))/\H c=Z (jC c qual)/\sC K n (HJ (N.length-n) g) vs H Q E):=by
 refine⟨λvs H Q E h=>tu hn vs H Q E h.2.2,λA outer s H args us vs Q E hr e0 hb r hsp=>?_⟩;refine q0x3 hsp λhq hc hsp=>?_;have hl:vs.length=ps.length:=tu hn vs H Q E hsp;have lim:s.heap.NoLimit:=e0.mod.nolimit.keeps λb o e=>(e0.bs b o e).1
 have hkind:∀y∈ps.zip us,scope.names.lookup y.1=Z .local\/(scope.names.lookup y.1=Z .cell/\((aaA (s.heap.objs.size+1) scope.names []).lookup y.1).isSome=true):=λ⟨m,v⟩ hy=>by
  rcases S.par m (Z1 hy).1 with z|z
  ·exact .inl z
  ·exact .inr ⟨z,YH _ _ _ (.inl z)⟩
 refine W.kla_callFunE hr.depth (QJ e0.hok hq) rfl S.co S.gen rfl (JS e0.hok hc) (hb _ _ _ _ ?_);refine Yd S.kind hkind λenv he s1 x=>?_
 subst he;refine⟨lim.keeps x.toInCall.keep,W.kla_codeExpr ?_⟩;have I:L2.Inv (iS (jF P w) P w K mg base N qual scope q (.ref c) A outer s H E) [] (L2.start N vs) H s1:=wn S hr.hd e0 hl r x;refine q3x4 hsp λθ M ds hld rd hw h=>?_;have hv:vs.length=n:=by rw[<-av rd];exact hld
 refine VF (hbody A outer s H E (hr.deeper _) [] s1 (L2.start N vs) H Q I ⟨oV (N.length-n) ds,θ,M,by rw[<-hv];exact N0 rd N,hw,?_⟩) (λu s' hs=>?_) λe s' hs=>hs
 ·have h:A6 K θ H Q E (g (oV (N.length-n) ds) M):=h;cases q:g (oV (N.length-n) ds) M with
  | bad=>rw[q] at h;exact h
  | err c M1=>
   rw[q] at h;have h:JY K θ H E c M1:=h;exact λC θ' H' a s' kC g1 fl=>oT fl (h C θ' H' a kC g1)
  | ok d M1=>rw[q] at h;exact h
 ·refine q2x3 hs λv H' J rv q=>?_;exact⟨v,H',J.os,J.bare,J.base,J.hok,rv,q⟩
structure Bj (K:Uu)(x:Str)(c P:Ul):Prop where
 mem:x∈cw
 tab:Wg K x=Z (c,P)
 uniq:∀y,y∈cw->y≠x->∀c2,Wg K y≠Z (c2,P)
 hd:∃o vs file tf flags tg inF text tt,K.lookup c=Z o/\o.cls=.type "code"/\o.data=.fields vs/\vs[11]?=Z (.ref P)/\vs.getD 11 .none=.ref P/\vs.getD 18 .none=.str file tf/\
  vs.getD 7 .none=.int flags tg/\vs.getD 9 .none=.bool inF/\vs.getD 10 .none=.int text tt/\c≠P
def A0 {a:Int}(l:List Uh)(h:abR l)(e:YM pos (l++[WO a,WO b,c])=Z cv):YM pos l=Z cv\/cv=c:=by
 fun_induction abR l with
 | case1=>
  simp only[nil_append,YM,WO] at e
  simp_all
 | case2 a' t b' u x rest ih=>
  simp only[cons_append,YM] at e ⊢;split at e
  ·rename_i hc;rw[if_pos hc];exact .inl e
  ·rename_i hc;rw[if_neg hc];exact ih h e
 | case3 l h1 h2=>simp_all
structure SL (X:Cx)(θ:List Ul)(H:Hp)(M:ay)(qual:Str)(params:abQ)(body:UY)(scope:Y6)(u:Uh)(H':Hp):Prop where
 ex:∃q c pm ctv,u=.ref q/\H q=Y/\H' q=Z (CN q (zO qual params body scope pm (.ref c) ctv))/\H' c=Z (jC c qual)
 go:Go X.K θ H θ H' M
def AG {a:Ul}(h1:φ h)(h2:∃o,h.get? a=Z o)(h3:∀h1 h2:Vn,φ h1->(∀o,h1.get? a=Z o->h2.get? a=Z o)->φ h2):bK P w H h a (.ext φ):=⟨h1,h2,h3⟩
def Hg
  (I:L2.Inv X af σ H s) (hw:Wr X.K θ H M) (T:Bj X.K x c P) (hcode:X.env.code=.ref c) (hglob:X.env.globals=Uv) (hq:X.env.qual++("<lambda>":Str)=dD x)
  (hcl:closureFor scope X.env=pure []) (hd:defaultsOf params X.env=([],[])) :
  Uq (UA X.prog X.w) X.A (Vo (.Lambda params body scope pos) X.env) (λu s'=>∃H',L2.Inv X af σ H' s'/\SL X θ H M (dD x) params body scope u H') X.xe s:=by
 refine q1x3 (hw.tb.tab x T.mem c P T.tab) λps hP hT hC=>?_;obtain⟨bm,ob,b1,b2,b3,b4,b5,b6,b7⟩:=hw.tb.bm x T.mem c P T.tab;have hPo:s.heap.get? P=Z (W.tabObj ps):=I.hok P _ hP;have CH:W.CodeHd s.heap c P:=by
  obtain⟨o,vs,file,tf,flags,tg,inF,text,tt,e,r⟩:=T.hd;exact⟨o,vs,file,tf,flags,tg,inF,text,tt,I.kIn _ _ e,r⟩
 have hbo:s.heap.get? bm=Z ob:=(I.hok bm _ b2).1;have hg:s.heap.Ns Uv X.mg:=I.mod.glob.keeps I.bk;have hmgb:X.mg "__builtins__"=Z (.ref bm):=ZE I.kIn hg b1;have nbP:bm≠P:=λz=>by rw[z,hP] at b2;cases b2
 have hb:s.heap.BuiltinsAt X.mg P:=⟨bm,ob,hmgb,b6,b7,nbP,hbo,b3,b4,b5⟩;have hgP:Uv≠P:=λz=>by
  refine q3x3 hg λo es ep e1 e2 _=>?_;rw[z,hPo] at e1;cases e1;cases e2
 rw[arm_eval_Lambda,hd];refine Ud (wpAny_evalAll_nil ?_);refine Ud (UL (Ue ?_));rw[hq];have neP:∀b u,H b=Z u->(∀ps,u≠.tbl ps)->b≠P:=λb u e n z=>by rw[z,hP] at e;cases e;exact n _ rfl
 cases hf:YM pos ps.toList with
 | some cv=>
  refine q1x2 (hC pos cv hf) λc' zz1 hc'=>?_;subst zz1;refine W.kla_makeFunctionHit hcl hglob hg hcode CH hPo hT hf hb λctv h' tk hk hz=>?_
  have nq:H h'.objs.size=Y:=I.hok.fresh hz;have nec:c'≠h'.objs.size:=λz=>by rw[<-z,hc'] at nq;cases nq
  refine⟨bB H h'.objs.size (CN h'.objs.size _),I.laid (t':=tk) (λb o e=>Ug _ (hk b o e)) hz (AG (Uo _ rfl) ⟨_,Uo _ rfl⟩ λh1 h2 e k=>k _ e),⟨_,c',_,ctv,rfl,nq,aX,by rw[ar nec];exact hc'⟩,cQ hw nq⟩
 | none=>
  refine W.kla_makeFunction hcl hglob hg hcode CH hPo hT hf hgP hb λc' ctv h' tk hx hge hlt hrec htab=>?_
  have szle:s.heap.objs.size<=h'.objs.size:=VT (VH hge hlt);have nq:H h'.objs.size=Y:=I.hok.fresh szle;have nc:H c'=Y:=I.hok.fresh hge;have ncq:c'≠h'.objs.size:=Uz hlt;have nPc:P≠c':=λz=>by rw[<-z,hP] at nc;cases nc
  have nPq:P≠h'.objs.size:=λz=>by rw[<-z,hP] at nq;cases nq
  let fd:VL:=zO (dD x) params body scope ((X.mg "__name__").getD .none) (.ref c') ctv
  let H':Hp:=bB (bB (bB H P (.tbl (ps++#[WO pos.line,WO pos.col,.ref c']))) c' (jC c' (dD x))) h'.objs.size (CN h'.objs.size fd)
  have atq:H' h'.objs.size=Z (CN h'.objs.size fd):=aX;have atc:H' c'=Z (jC c' (dD x)):=by show bB _ _ _ c'=_;rw[ar ncq,aX]
  have atP:H' P=Z (.tbl (ps++#[WO pos.line,WO pos.col,.ref c'])):=by show bB _ _ _ P=_;rw[ar nPq,ar nPc,aX]
  have atb:∀b u,H b=Z u->b≠P->H' b=Z u:=λb u e n=>by
   have n1:b≠h'.objs.size:=λz=>by rw[z,nq] at e;cases e
   have n2:b≠c':=λz=>by rw[z,nc] at e;cases e
   show bB _ _ _ b=_;rw[ar n1,ar n2,ar n];exact e
  have kp:∀b o,b≠P->s.heap.get? b=Z o->(h'.push (abS "<lambda>" (dD x) params body scope [] ((X.mg "__name__").getD .none) c' ctv)).get? b=Z o:=λb o n e=>Ug _ (hx b o n e)
  have un:Un X.fs [] H H' s.heap (h'.push (abS "<lambda>" (dD x) params body scope [] ((X.mg "__name__").getD .none) c' ctv)):=by
   have ne:∀b o,s.heap.get? b=Z o->H b=Y->b≠P:=λb o _ n z=>by rw[z,hP] at n;cases n
   refine⟨λb o e n _ _=>kp b o (ne b o e n) e,λb o e n _ _=>⟨o.slots,kp b o (ne b o e n) e⟩,λb o e n _=>?_,λb o e _=>?_,λb xs e=>atb b _ e (neP b _ e (by intro _ z;cases z)),λb o u e=>atb b _ e (neP b _ e (by intro _ z;cases z)),λb qs e=>?_⟩
   ·have n1:b≠h'.objs.size:=Uz (Ux (Ut e) szle);have n2:b≠c':=Uz (Ux (Ut e) hge);show bB _ _ _ b=_;rw[ar n1,ar n2,ar (ne b o e n)];exact n
   ·by_cases hb:b=P
    ·exact⟨_,by rw[hb];exact Ug _ htab⟩
    ·exact⟨o,kp b o hb e⟩
   ·by_cases hb:b=P
    ·subst hb;rw[hP] at e;cases e;exact⟨_,atP⟩
    ·exact⟨#[],by rw[atb b _ e hb];simp⟩
  have hok:mY X.prog X.w H' (h'.push (abS "<lambda>" (dD x) params body scope [] ((X.mg "__name__").getD .none) c' ctv)):=λb u e=>by
   by_cases h1:b=h'.objs.size
   ·subst h1;rw[atq] at e;cases e;exact AG (Uo _ rfl) ⟨_,Uo _ rfl⟩ λh1 h2 e k=>k _ e
   ·by_cases h2:b=c'
    ·subst h2;rw[atc] at e;cases e;refine AG (hrec.keeps λb o e=>Ug _ e) ?_ λh1 h2 e k=>e.at k
     obtain⟨c2,o,vs,t,e1,e2,_⟩:=hrec;cases e1;exact⟨o,Ug _ e2⟩
    ·by_cases h3:b=P
     ·subst h3;rw[atP] at e;cases e;exact Ug _ htab
     ·have e:bB (bB (bB H P _) c' _) h'.objs.size _ b=Z u:=e;rw[ar h1,ar h2,ar h3] at e;refine(I.hok b u e).stay (λb' v hb' z=>kp b' v ?_ z) (λb' z=>atb b' _ z (neP b' _ z (by intro _ y;cases y))) λb' xs z=>atb b' _ z (neP b' _ z (by intro _ y;cases y))
      rcases hb' with z|z
      ·rw[z];exact h3
      ·exact neP b' _ z (by intro _ y;cases y)
  refine⟨H',I.un (t':=tk) un hok,⟨h'.objs.size,c',_,ctv,rfl,nq,atq,atc⟩,?_⟩;have gr:Grow θ H θ H':=⟨⟨[],by simp,λ_ z=>by cases z⟩,λb u e _ n=>atb b u e (neP b u e n),λb qs e=>by
   by_cases hb:b=P
   ·rw[hb];exact⟨_,atP⟩
   ·exact⟨qs,atb b _ e hb⟩⟩
  refine⟨gr,hw.len,hw.nd,λi a m h1 h2=>?_,?_,?_⟩
  ·have ok:=hw.at_ i a m h1 h2;refine q1x2 ok.plain λo eo po=>?_;have e:H' a=H a:=by
    rw[eo];exact atb a o eo (neP a o eo (by intro qs z;subst z;cases po))
   exact ok.grow gr e
  ·intro y hy c2 P2 e2;refine q1x3 (hw.tb.tab y hy c2 P2 e2) λqs q1 q2 q3=>?_
   by_cases hPP:P2=P
   ·have hyx:y=x:=by
     refine Classical.byContradiction λz=>?_
     rw[hPP] at e2;exact T.uniq y hy z c2 e2
    subst hyx hPP;rw[hP] at q1;cases q1;refine⟨_,atP,?_,λpos' cv z=>?_⟩
    ·rw[ZJ];exact TriplesOk_snoc _ _ _ _ q2
    ·rw[ZJ] at z;rcases A0 _ q2 z with z|z
     ·refine q1x2 (q3 pos' cv z) λc3 e3 e4=>?_;exact⟨c3,e3,atb c3 _ e4 (neP c3 _ e4 (by intro _ y;cases y))⟩
     ·exact⟨c',z,atc⟩
   ·refine⟨qs,atb P2 _ q1 hPP,q2,λpos' cv z=>?_⟩;refine q1x2 (q3 pos' cv z) λc3 e3 e4=>?_;exact⟨c3,e3,atb c3 _ e4 (neP c3 _ e4 (by intro _ y;cases y))⟩
  ·intro y hy c2 P2 e2;refine q2x3 (hw.tb.bm y hy c2 P2 e2) λbm2 ob2 z1 z2 r=>?_;exact⟨bm2,ob2,z1,atb bm2 _ z2 (neP bm2 _ z2 (by intro _ y;cases y)),r⟩
def pE:List D->Option (List Int)
 | []=>Z []
 | .int i::r=>(pE r).map (i::·)
 | _=>Y
def dG:D->Option (List Int)
 | .tup ds=>pE ds
 | _=>Y
theorem yN {K:Uu}:∀{ds:List D} {ks:List Int} {vs:List V},pE ds=Z ks->a6 K θ H ds vs->vs=ks.map V.int
 | [],ks,vs,h,r=>by cases h;exact r
 | d::ds,ks,vs,h,r=>by
  refine q2x3 r λv rr e h1 h2=>?_;cases d with
  | int i=>
   cases q:pE ds with
   | none=>simp[pE,q] at h
   | some l=>
    simp[pE,q] at h;subst h;rw[e,h1,yN q h2];rfl
  | _=>cases h
def kI {K:Uu}(h:dG d=Z ks)(r:cC K θ H d v):∃a,v=.ref a/\pj K θ H a (ks.map V.int):=by
 cases d with
 | tup ds=>
  refine q2x3 r λa vs e t rs=>?_;have:=yN (h) rs
  simp_all
 | _=>cases h
def rZ (F:FD):List D->D->List Int->ay->bc D
 | [],b,_,M=>.ok b M
 | d::r,b,kb,M=>match F [d] M with
  | .ok k M1=>match dG k with
   | some ks=>if HT.lexLt ks kb then rZ F r d ks M1 else rZ F r b kb M1
   | none=>.bad
  | _=>.bad
def Bb (F:FD)(ds:List D)(M:ay):bc D:=match ds with
 | []=>.bad
 | d::r=>match F [d] M with
  | .ok k M1=>match dG k with
   | some ks=>rZ F r d ks M1
   | none=>.bad
  | _=>.bad
section
variable {X:Cx}{af:List (Ul×Obj)}{σ:L2.St}{q c:Ul}{fd:VL}{px qual:Str}{k:Nat}{F:FD}
def zh {M M1:ay}
  (Fn:eM X.prog X.w X.K X.mg X.base (jF X.prog X.w) k q fd [px] (λvs H Q E=>H q=Z (CN q fd)/\H c=Z (jC c qual)/\sC X.K 1 F vs H Q E)) (hr:bn k X.A.in1) (hb:∀(s:Ui) (u:Uh),XU s fd ⟨[u],[]⟩ [(px,u)])
  (I:L2.Inv X af σ H s) (hq:H q=Z (CN q fd)) (hc:H c=Z (jC c qual)) (hw:Wr X.K θ H M) (rv:aS v u) (rd:cC X.K θ H d v) (e:F [d] M=.ok kd M1)
  (hQ:∀v' θ' H',Go X.K θ H θ' H' M1->cC X.K θ' H' kd v'->Q v' H'):Uq (UA X.prog X.w) X.A.in1 (call (.ref q) [u]) (EP X af σ Q) E s:=by
 refine abn (Xm (Fn.run X.A.in1 X.stack s H ⟨[u],[]⟩ [u] [v] Q (λ_ _ _=>False) hr I.env0.in1 (hb s u) (.cons rv .nil) ⟨hq,hc,θ,M,[d],rfl,⟨v,[],rfl,rd,rfl⟩,hw,by rwa [e]⟩) λr s' hq=>?_);cases r with
 | error e=>
  obtain⟨_,_,_,_,_,_,_,_,_,_,_,_,_,_,z⟩:=hq
  simp_all
 | ok fl=>
  cases fl with
  | ret u=>exact I.after hq
  | next=>assumption
  | brk=>assumption
  | cont=>assumption
def Cz (h:hV X af H b)(n:H' b=Y):hV X af H' b:=⟨n,h.2⟩
def QR {a:Ul}(I:L2.Inv X af σ H s)(fa:hV X af H a)(fb:hV X af H b)(ea:s.heap.get? a=Z oa)(eb:s.heap.get? b=Z ob)(da:∀v,oa.data≠.cell v)(db:∀v,ob.data≠.cell v) :
  L2.Inv X (af++[(a,oa),(b,ob)]) σ H s:=I.pins_of λp hp=>by
 rcases Yq.mp hp with z|z
 ·exact I.pin p (Vh _ z)
 ·simp only[Va,mem_nil_iff,or_false] at z;rcases z with z|z <;> subst z
  ·exact⟨ea,fa.1,fa.2.1,fa.2.2.1,da⟩
  ·exact⟨eb,fb.1,fb.2.1,fb.2.2.1,db⟩
def Hx {a:Ul}(I:L2.Inv X (af++[(a,oa),(b,ob)]) σ H s):L2.Inv X af σ H s/\(s.heap.get? a=Z oa/\H a=Y)/\(s.heap.get? b=Z ob/\H b=Y):=by
 have p1:=I.pin (a,oa) (Vh _ (Vh _ (by simp)));have p2:=I.pin (b,ob) (Vh _ (Vh _ (by simp)));exact⟨I.unpinned,⟨p1.1,p1.2.1⟩,p2.1,p2.2.1⟩
def Et {S:Ul}{R:abW->Ui->Prop}
  (Fn:eM X.prog X.w X.K X.mg X.base (jF X.prog X.w) k q fd [px] (λvs H Q E=>H q=Z (CN q fd)/\H c=Z (jC c qual)/\sC X.K 1 F vs H Q E)) (hr:bn (k+1) X.A) (hb:∀(s:Ui) (u:Uh),XU s fd ⟨[u],[]⟩ [(px,u)]) (hcalm:X.calm=true)
  (hnI:S≠it) (hR:∀u s',EP X af σ Q u s'->R (.ok (.ret u)) s') :
  ∀(rest:List D) (j:Nat) (s:Ui) (H:Hp) (θ:List Ul) (M:ay) (b:D) (kb:List Int) (vb ukb:V) (ub ukv:Uh) (n:Nat) (vs:List V),ds0.drop j=rest->L2.Inv X af σ H s->hV X af H it->hV X af H S->s.heap.IsListIter it l j->s.heap.get? S=Z (US "list" #[ub,ukv] n)->
   Wr X.K θ H M->sL X.K θ H l vs->a6 X.K θ H ds0 vs->H q=Z (CN q fd)->H c=Z (jC c qual)->cC X.K θ H b vb->aS vb ub->(∃a,ukb=.ref a/\pj X.K θ H a (kb.map V.int))->aS ukb ukv->aK X θ H Q (rZ F rest b kb M)->
   Zz (UA X.prog X.w) X.A (.builtin "min.loop" ⟨[.ref it,.ref q,.ref S],[]⟩) R s:=by
 have hname:(toString "min"++toString ".loop":String)="min.loop":=by decide
 have hr1:bn k X.A.in1:=hr.in1;intro rest
 induction rest with
 | nil=>
  intro j s H θ M b kb vb ukb ub ukv n vs hd I fi fS st eS hw ta r hq hc rb rvb rk rvk h;refine VP PySem.F.entry_min_loop ?_;rw[Vq PySem.F.plain_min_loop _];show Uq _ X.A.in1 (X4 (.ref S) >>= _) _ _ _;refine Ud (VC eS rfl ?_);refine q1x3 (I.list ta.sq) λits rv p hz=>?_;have hlen:vs.length<=j:=by rw[<-av r];exact aa0.mp hd
  have hl:=rv.length;show Uq _ X.A.in1 (tryCatch (WN (.ref it)) _ >>= _) _ _ _;refine Ud (VD (Xu (show X.A.in1.handled=Y from I.ok.hd hcalm) st p.isList (by simp;omega) λh' eb=>?_));have I1:L2.Inv X af σ H {s with heap:=h'}:=I.turned (t':=s.toks) (λb o hb e=>eb b o hb e) fi.1 fi.2.1 fi.2.2.2.1 fi.2.2.2.2.1 fi.2.2.2.2.2;have eS':h'.get? S=Z (US "list" #[ub,ukv] n):=eb S _ hnI eS;show Uq _ X.A.in1 (ZC S (λ_=>#[]) >>= _) _ _ _;refine Ud (Wc eS' rfl (Ud (We (Ue ?_))));have I2:L2.Inv X af σ H {s with heap:=h'.update S (UM λ_=>#[])}:=I1.turned (t':=s.toks) (λb o hb e=>(Vf h' _ (Vl hb)).trans e) fS.1 fS.2.1 fS.2.2.2.1 fS.2.2.2.2.1 fS.2.2.2.2.2;exact hR ub _ ⟨vb,H,I2,rvb,h vb θ H (.refl hw) rb⟩
 | cons d rest ih=>
  intro j s H θ M b kb vb ukb ub ukv n vs hd I fi fS st eS hw ta r hq hc rb rvb rk rvk h;have hj:ds0[j]?=Z d:=by
   have:=congrArg (·[0]?) hd;simpa using this
  have hd':ds0.drop (j+1)=rest:=by
   rw[<-drop_drop,hd];rfl
  refine q1x2 (dW r hj) λv ev rdv=>?_;refine VP PySem.F.entry_min_loop ?_;rw[Vq PySem.F.plain_min_loop _];show Uq _ X.A.in1 (X4 (.ref S) >>= _) _ _ _;refine Ud (VC eS rfl ?_);refine q1x3 (I.list ta.sq) λits rv p hz=>?_;refine q1x2 (rv.get ev) λu eu ru=>?_;show Uq _ X.A.in1 (tryCatch (WN (.ref it)) _ >>= _) _ _ _;refine Ud (VD (VU st p.isList (x:=u) (by simpa using eu) λh' st' sb=>?_));have I1:L2.Inv X af σ H {s with heap:=h'}:=I.turned (t':=s.toks) (λb o hb e=>(sb.2 b hb).trans e) fi.1 fi.2.1 fi.2.2.2.1 fi.2.2.2.2.1 fi.2.2.2.2.2;have eS1:h'.get? S=Z (US "list" #[ub,ukv] n):=(sb.2 S hnI).trans eS;refine q1x3 (id st') λoI hoI cI dI=>?_;have I1p:=QR I1 fS fi eS1 hoI (by intro v z;cases z) (by intro v z;rw[dI] at z;cases z);unfold rZ at h;cases eF:F [d] M with
  | bad=>rw[eF] at h;exact h.elim
  | err _ _=>rw[eF] at h;exact h.elim
  | ok kd M1=>
   rw[eF] at h;dsimp only at h;cases eK:dG kd with
   | none=>rw[eK] at h;exact h.elim
   | some ks=>
    rw[eK] at h;dsimp only at h;show Uq _ X.A.in1 (tryCatch (VN [u] (call (.ref q) [u])) _ >>= _) _ _ _;refine Ud (VD (UL (bS (zh (Q:=λv' H'=>∃θ',Go X.K θ H θ' H' M1/\cC X.K θ' H' kd v') Fn hr1 hb I1p hq hc hw ru rdv eF λv' θ' H' g rd=>⟨θ',g,rd⟩) λuk s2 hxx=>?_)));obtain⟨vk,H2,I2p,rvk2,θ2,g2,rk2⟩:=hxx;obtain⟨I2,⟨eS2,nS2⟩,eI2,nI2⟩:=Hx I2p;have fS2:=Cz fS nS2;have fi2:=Cz fi nI2;have st2:s2.heap.IsListIter it l (j+1):=⟨oI,eI2,cI,dI⟩;refine q1x2 (kI eK rk2) λak eak tk2=>?_;refine q1x2 rk λab eab tb2=>?_;have tb2:=tb2.grow g2.toGrow;subst eak eab;have ek:uk=.ref ak:=rvk2;have eb':ukv=.ref ab:=rvk;subst ek eb';refine q1x3 (I2.tuple tk2.sq) λi1 r1 p1 _=>?_;refine q1x3 (I2.tuple tb2.sq) λi2 r2 p2 _=>?_;have hq2:H2 q=Z (CN q fd):=g2.keep q _ hq (λz=>by
     obtain⟨i,hi,e⟩:=Xa.mp z;refine q1x2 (hw.plain (i:=i) (by rw[U8 hi,e])) λo eo po=>?_;rw[hq] at eo;cases eo;cases po) (by intro _ z;cases z)
    have hc2:H2 c=Z (jC c qual):=g2.keep c _ hc (λz=>by
     obtain⟨i,hi,e⟩:=Xa.mp z;refine q1x2 (hw.plain (i:=i) (by rw[U8 hi,e])) λo eo po=>?_;rw[hc] at eo;cases eo;cases po) (by intro _ z;cases z)
    have h2:=aK.go g2 h;show Uq _ X.A.in1 (tryCatch (VN [u,.ref ak] (Zm .Lt (.ref ak) (.ref ab) >>= _)) _ >>= _) _ _ _;refine Ud (VD (UL (Ud (HT.lt_tupInts p1 p2 (i9 r1) (i9 r2) hr1.units0 ?_))));refine Ud (UL (Vm ?_));refine Ud (We (Ue ?_))
    by_cases hlt:HT.lexLt ks kb=true
    ·rw[if_pos hlt] at h2;simp only[hlt,if_true];refine Ud (Wc eS2 rfl (Ud (We ?_)));rw[hname];obtain⟨n3,eS3⟩:∃n3,(s2.heap.update S (UM λ_=>#[u,.ref ak])).get? S=Z (US "list" #[u,.ref ak] n3):=⟨_,VQ eS2 λ_=>#[u,.ref ak]⟩;have kp:∀b o,b≠S->s2.heap.get? b=Z o->(s2.heap.update S (UM λ_=>#[u,.ref ak])).get? b=Z o:=λb o hb e=>(Vf s2.heap _ (Vl hb)).trans e
     have I3:L2.Inv X af σ H2 {s2 with heap:=s2.heap.update S (UM λ_=>#[u,.ref ak])}:=I2.turned (t':=s2.toks) kp fS2.1 fS2.2.1 fS2.2.2.2.1 fS2.2.2.2.2.1 fS2.2.2.2.2.2;exact Ue ⟨VZ PySem.F.plain_min_loop _,ih (j+1) _ H2 θ2 M1 d ks v _ u (.ref ak) n3 vs hd' I3 fi2 fS2 ⟨oI,kp it oI (Vl hnI) eI2,cI,dI⟩ eS3 g2.wr (ta.grow g2.toGrow) (r.go g2) hq2 hc2 (rdv.go g2) ru ⟨ak,rfl,tk2⟩ rfl h2⟩
    ·have hlt':HT.lexLt ks kb=false:=by simpa using hlt
     rw[if_neg hlt] at h2;simp only[hlt',Vb,if_false];refine Ud (We ?_);rw[hname];exact Ue ⟨VZ PySem.F.plain_min_loop _,ih (j+1) s2 H2 θ2 M1 b kb vb _ ub (.ref ab) n vs hd' I2 fi2 fS2 st2 eS2 g2.wr (ta.grow g2.toGrow) (r.go g2) hq2 hc2 (rb.go g2) rvb ⟨ab,rfl,tb2⟩ rfl h2⟩
end
section
variable {X:Cx}{af:List (Ul×Obj)}{σ:L2.St}{q c:Ul}{fd:VL}{px qual:Str}{k:Nat}{F:FD}
def Fi
  (Fn:eM X.prog X.w X.K X.mg X.base (jF X.prog X.w) k q fd [px] (λvs H Q E=>H q=Z (CN q fd)/\H c=Z (jC c qual)/\sC X.K 1 F vs H Q E)) (hr:bn (k+1) X.A) (hb:∀(s:Ui) (u:Uh),XU s fd ⟨[u],[]⟩ [(px,u)]) (hcalm:X.calm=true)
  (I:L2.Inv X af σ H s) (hw:Wr X.K θ H M) (ta:sL X.K θ H l vs) (r:a6 X.K θ H ds0 vs) (hq:H q=Z (CN q fd)) (hc:H c=Z (jC c qual)) (h:aK X θ H Q (Bb F ds0 M)) :
  Uq (UA X.prog X.w) X.A (call (.builtin "min") [.ref l] [(Vx "key",.ref q)]) (EP X af σ Q) X.xe s:=by
 have hname:(toString "min"++toString ".loop":String)="min.loop":=by decide
 have hr1:bn k X.A.in1:=hr.in1;cases ds0 with
 | nil=>exact h.elim
 | cons d rest=>
  unfold Bb at h;dsimp only at h;cases eF:F [d] M with
  | bad=>rw[eF] at h;exact h.elim
  | err _ _=>rw[eF] at h;exact h.elim
  | ok kd M1=>
   rw[eF] at h;dsimp only at h;cases eK:dG kd with
   | none=>rw[eK] at h;exact h.elim
   | some ks=>
    rw[eK] at h;dsimp only at h;refine q1x2 (dW (i:=0) r rfl) λv ev rdv=>?_;refine q1x3 (I.list ta.sq) λits rv p hz=>?_;refine q1x2 (rv.get ev) λu eu ru=>?_;refine kmk_tree PySem.F.kind_min PySem.F.plain_min PySem.F.entry_min (kmk_min_key _ _) ?_;show Uq _ X.A.in1 (VW "min" ["key","default"] 0 ⟨[],[(Vx "key",.ref q)]⟩ >>= _) _ _ s;refine Ud (WT (show VW "min" ["key","default"] 0 ⟨[],[(Vx "key",.ref q)]⟩=pure [Z (.ref q),Y] from rfl) ?_);refine Ud (Ue ?_);refine Ud (aam p.isList ?_);refine Ud (WH ?_ (UW _));rw[hname];have hS:(s.heap.push {cls:=.type "list_iterator",data:=.fields #[.ref l,.int 0 0]}).objs.size=s.heap.objs.size+1:=Y2 ..;have fi:hV X af H s.heap.objs.size:=I.fpOk (Uj _) (I.hok.fresh (Uj _));have leS:s.heap.objs.size<=(s.heap.push {cls:=.type "list_iterator",data:=.fields #[.ref l,.int 0 0]}).objs.size:=by rw[hS];exact Ws _
    have fS:hV X af H (s.heap.push {cls:=.type "list_iterator",data:=.fields #[.ref l,.int 0 0]}).objs.size:=I.fpOk leS (I.hok.fresh leS);have hnI:(s.heap.push {cls:=.type "list_iterator",data:=.fields #[.ref l,.int 0 0]}).objs.size≠s.heap.objs.size:=by rw[hS];exact Wt (Wn _)
    have gI:((s.heap.push {cls:=.type "list_iterator",data:=.fields #[.ref l,.int 0 0]}).push (US "list" #[] 0)).get? s.heap.objs.size=Z {cls:=.type "list_iterator",data:=.fields #[.ref l,.int 0 0]}:=Ug _ (Uo _ rfl);have gS:((s.heap.push {cls:=.type "list_iterator",data:=.fields #[.ref l,.int 0 0]}).push (US "list" #[] 0)).get? (s.heap.push {cls:=.type "list_iterator",data:=.fields #[.ref l,.int 0 0]}).objs.size=Z (US "list" #[] 0):=Uo _ rfl;have I0:L2.Inv X af σ H {s with heap:=(s.heap.push {cls:=.type "list_iterator",data:=.fields #[.ref l,.int 0 0]}).push (US "list" #[] 0)}:=I.kept (t':=s.toks) λb o e=>Ug _ (Ug _ e)
    generalize (s.heap.push {cls:=.type "list_iterator",data:=.fields #[.ref l,.int 0 0]}).objs.size=S at *;generalize hit:s.heap.objs.size=it at *;refine Ue ⟨VZ PySem.F.plain_min_loop _,?_⟩;refine VP PySem.F.entry_min_loop ?_;rw[Vq PySem.F.plain_min_loop _];show Uq _ X.A.in1 (X4 (.ref S) >>= _) _ _ _;refine Ud (VC gS rfl ?_);refine q1x3 (I0.list ta.sq) λits' rv' p' hz'=>?_;refine q1x2 (rv'.get ev) λu' eu' ru'=>?_;show Uq _ X.A.in1 (tryCatch (WN (.ref it)) _ >>= _) _ _ _;refine Ud (VD (VU (i:=0) ⟨_,gI,rfl,rfl⟩ p'.isList (x:=u') (by simpa using eu') λh' st' sb=>?_));have I1:L2.Inv X af σ H {s with heap:=h'}:=I0.turned (t':=s.toks) (λb o hb e=>(sb.2 b hb).trans e) fi.1 fi.2.1 fi.2.2.2.1 fi.2.2.2.2.1 fi.2.2.2.2.2;have eS1:h'.get? S=Z (US "list" #[] 0):=(sb.2 S hnI).trans gS;refine q1x3 (id st') λoI hoI cI dI=>?_;have I1p:=QR I1 fS fi eS1 hoI (by intro v z;cases z) (by intro v z;rw[dI] at z;cases z);show Uq _ X.A.in1 (tryCatch (VN [u'] (call (.ref q) [u'])) _ >>= _) _ _ _;refine Ud (VD (UL (bS (zh (Q:=λv' H'=>∃θ',Go X.K θ H θ' H' M1/\cC X.K θ' H' kd v') Fn hr1 hb I1p hq hc hw ru' rdv eF λv' θ' H' g rd=>⟨θ',g,rd⟩) λuk s2 hxx=>?_)));obtain⟨vk,H2,I2p,rvk2,θ2,g2,rk2⟩:=hxx;obtain⟨I2,⟨eS2,nS2⟩,eI2,nI2⟩:=Hx I2p;have fS2:=Cz fS nS2;have fi2:=Cz fi nI2;refine q1x2 (kI eK rk2) λak eak tk2=>?_;have notin:∀(a:Ul) (φ:Vn->Prop),H a=Z (.ext φ)->a∉θ:=λa φ e z=>by
     obtain⟨i,hi,e'⟩:=Xa.mp z;refine q1x2 (hw.plain (i:=i) (by rw[U8 hi,e'])) λo eo po=>?_;rw[e] at eo;cases eo;cases po
    have hq2:H2 q=Z (CN q fd):=g2.keep q _ hq (notin q _ hq) (by intro _ z;cases z);have hc2:H2 c=Z (jC c qual):=g2.keep c _ hc (notin c _ hc) (by intro _ z;cases z);have h2:=aK.go g2 h;refine Ud ?_;show Uq _ X.A.in1 (ZC S (λ_=>#[u',uk])) _ _ _;refine Wc eS2 rfl ?_;rw[hname];obtain⟨n3,eS3⟩:∃n3,(s2.heap.update S (UM λ_=>#[u',uk])).get? S=Z (US "list" #[u',uk] n3):=⟨_,VQ eS2 λ_=>#[u',uk]⟩;have kp:∀b o,b≠S->s2.heap.get? b=Z o->(s2.heap.update S (UM λ_=>#[u',uk])).get? b=Z o:=λb o hb e=>(Vf s2.heap _ (Vl hb)).trans e
    have I3:L2.Inv X af σ H2 {s2 with heap:=s2.heap.update S (UM λ_=>#[u',uk])}:=I2.turned (t':=s2.toks) kp fS2.1 fS2.2.1 fS2.2.2.2.1 fS2.2.2.2.2.1 fS2.2.2.2.2.2;exact Ue ⟨VZ PySem.F.plain_min_loop _,Et (ds0:=d::rest) Fn hr hb hcalm hnI (λu s' e=>e) rest 1 _ H2 θ2 M1 d ks v vk u' uk n3 vs rfl I3 fi2 fS2 ⟨oI,kp it oI (Vl hnI) eI2,cI,dI⟩ eS3 g2.wr (ta.grow g2.toGrow) (r.go g2) hq2 hc2 (rdv.go g2) ru' ⟨ak,eak,tk2⟩ rvk2 h2⟩
end
def yp (F:FD)(g:GE):GE:=λρ M=>(g ρ M).bind λd M1=>match d with
 | .lst ds=>Bb F ds M1
 | .ro ds=>Bb F ds M1
 | _=>.bad
def P6 {K:Uu}{st:WA}{k:Nat}(F:IK K x x st f fd)(hns:V5 K Uv x=Z (Z (.ref f)))(T:Bj K x c Pt)(S:fe N ps (aM st))(hn:ps.length=n)
  (hbody:∀(A:Vd) (outer:List Env) (s:Ui) (H:Hp) (E:XK),bn k (A.deeper (WR x (aM st) s.heap.objs.size f (.ref c)))->PSs (iS (jF P w) P w K mg base N x (aM st) f (.ref c) A outer s H E) (cz st) (tS (iS (jF P w) P w K mg base N x (aM st) f (.ref c) A outer s H E) g)) :
  eM P w K mg base (jF P w) (k+1) f fd ps (sC K n (aP (N.length-n) g)):=by
 refine q9x3 F.ex λoc od kV doc pm an cdv ct osl zz9 lk hcd=>?_;subst zz9;have ec:cdv=.ref c:=by
  have t:=T.tab;unfold Wg at t;rw[hns] at t;dsimp only at t;rw[lk] at t;dsimp only at t;cases cdv with
  | ref c'=>
   dsimp only at t;split at t
   ·split at t
    ·cases t;rfl
    ·cases t
   ·cases t
  | _=>cases t
 subst ec;refine KJ lk hcd S (tu hn) λA outer s H vs Q E hr h=>⟨_,hbody A outer s H E hr,?_⟩
 refine q3x4 h λθ M ds hl r hw h=>?_;have hv:vs.length=n:=by rw[<-av r];exact hl
 refine⟨oV (N.length-n) ds,θ,M,by rw[<-hv];exact N0 r N,hw,?_⟩;have h:A6 K θ H Q E (bL (g (oV (N.length-n) ds) M)):=h;unfold bL at h;cases q:g (oV (N.length-n) ds) M with
 | bad=>rw[q] at h;exact h
 | err c M1=>
  rw[q] at h;have h:JY K θ H E c M1:=h;exact λC θ' H' a s' kC g1 fl=>oT fl (h C θ' H' a kC g1)
 | ok fl M1=>
  rw[q] at h;cases fl with
  | rt d=>exact h
  | nx ρ1=>exact λσ1 θ1 H1 g1 _=>h .non θ1 H1 g1 rfl
  | bk ρ1=>exact h.elim
  | ct ρ1=>exact h.elim
end DL
namespace DL
open PySem PySem.Spec PyProof.Rows L2 List
def G0 (A:Vd)(s:Ui)(a:Int)(t:Tok)(c:Int)(u:Tok)(prog:UI)(w:UN)(E:Uh->Ui->Prop)(Q:Uh->Ui->Prop)(h:Q (.bool (decide (c<a))) s) :
  Uq (UA prog w) A (Zm .Gt (.int a t) (.int c u)) Q E s:=(abM h)
section
open PySem.SeqAt
open PySem.AutoSeq1 (wpAny_loadPart')
open PySem.MeetsSeq PySem.MeetsSeq2 PySem.MeetsSeq3
def vD (l b:Ul)(items items2:Array Uh)(n n2:Nat)(dd dd2:Option Ul)(sl sl2:Array (Option Uh))(ns ms:List Int)(hi:Ve items.toList ns)(hj:Ve items2.toList ms) :
  Meets (Xj.«tuple.__gt__» ⟨[.ref l,.ref b],[]⟩)
   (λ_ R s=>s.heap.get? l=Z {cls:=.type "tuple",dict:=dd,data:=.seq items n,slots:=sl}/\s.heap.get? b=Z {cls:=.type "tuple",dict:=dd2,data:=.seq items2 n2,slots:=sl2}/\
    R (.ok (.ret (.bool (HT.lexLt ms ns)))) s):=
 .of_wp λprog w A R s h=>by
  obtain⟨hp,g,d,tk,os⟩:=s;refine q0x3 h λhl hb h=>?_;have f2:=Yz;have z1:items.size=ns.length:=by rw[<-hi.length];simp
  have z2:items2.size=ms.length:=by rw[<-hj.length];simp
  wp_walk using Wb hl,Wb hb,aaD _ (λrest b s'=>b.1=Y/\s'=⟨hp,g,d,tk,os⟩/\∃(vs ws:List Uh) (ns' ms':List Int),rest=vs.zip ws/\
   Ve vs ns'/\Ve ws ms'/\ns'.length+items2.size=ms'.length+items.size/\R (.ok (.ret (.bool (HT.lexLt ms' ns')))) ⟨hp,g,d,tk,os⟩) _
  case turn=>
   rintro ⟨y,x⟩ rest b s' ⟨hb',rfl,vs,ws,ns',ms',hz,hvi,hwi,hlen,hR⟩;cases hvi with
   | nil=>rw[Yr] at hz;cases hz
   | cons a t hvi'=>
    cases hwi with
    | nil=>rw[Za] at hz;cases hz
    | cons c u hwi'=>
     rw[W9] at hz;injection hz with hyx hrest
     injection hyx with hy hx
     subst hy hx;rw[HT.lexLt_cons] at hR;simp only[U6] at hlen;refine q1x2 (HT.eqAt_int A.in1 ⟨hp,g,d,tk,os⟩ a t c u) λe he hiff=>?_;refine Ud (he prog w _ _ ?_);cases e with
     | true=>
      rw[if_pos (hiff.mp rfl).symm] at hR
      wp_walk
      exact⟨rfl,rfl,_,_,_,_,hrest,hvi',hwi',by omega,hR⟩
     | false=>
      rw[if_neg (λq=>absurd (hiff.mpr q.symm) Uy)] at hR;have hri:=G0 A.in1 ⟨hp,g,d,tk,os⟩ a t c u prog w
      wp_walk using hri
      exact⟨_,rfl,by simpa using hR⟩
  case fin=>
   rintro ⟨b1,b2⟩ s' ⟨hb',rfl,vs,ws,ns',ms',hz,hvi,hwi,hlen,hR⟩;simp only at hb';subst hb';have hv:HT.lexLt ms' ns'=decide (items2.size<items.size):=by
    cases hvi with
    | nil=>
     cases hwi with
     | nil=>
      simp only[Wy] at hlen;rw[HT.lexLt_nil_nil];exact(decide_eq_false (by omega)).symm
     | cons c u hw=>
      simp only[Wy,U6] at hlen;rw[HT.lexLt_cons_nil];exact(decide_eq_false (by omega)).symm
    | cons a t hv=>
     cases hwi with
     | nil=>
      simp only[Wy,U6] at hlen;rw[HT.lexLt_nil_cons];exact(decide_eq_true (by omega)).symm
     | cons c u hw=>
      rw[W9] at hz;cases hz
   rw[hv] at hR
   wp_walk
   exact⟨_,rfl,by simpa[Xs] using hR⟩
  case h=>
   exact⟨rfl,rfl,items.toList,items2.toList,ns,ms,rfl,hi,hj,by omega,h⟩
end
def Bm (hl:aaL s.heap l items)(hb:aaL s.heap b items2)(hi:Ve items.toList ns)(hj:Ve items2.toList ms)
  (hu:A.units<YG) (h:Q (.bool (HT.lexLt ms ns)) s):Uq (UA prog w) A (UX .Gt (.ref l) (.ref b)) Q E s:=by
 obtain⟨⟨cls,dd,data,sl⟩,ho,hc,n,hd⟩:=id hl;obtain⟨⟨cls2,dd2,data2,sl2⟩,ho2,hc2,n2,hd2⟩:=id hb;subst hc hd hc2 hd2;exact YV (op:=.Gt) ⟨_,ho,rfl⟩ ⟨_,ho2,rfl⟩ PySem.F.slot_tuple_gt PySem.F.entry_tuple_gt (PySem.F.args_tuple_gt_2 _ _) (vD l b items items2 n n2 dd dd2 sl sl2 ns ms hi hj)
  ⟨ho,ho2,⟨(λx=>nomatch x),h⟩⟩ hu
def sw:List D->D->List Int->Option D
 | [],b,_=>Z b
 | d::r,b,kb=>match dG d with
  | some ks=>if HT.lexLt kb ks then sw r d ks else sw r b kb
  | none=>Y
def HE (ds:List D):Option D:=match ds with
 | []=>Y
 | d::r=>match dG d with
  | some ks=>sw r d ks
  | none=>Y
section
variable {X:Cx}{af:List (Ul×Obj)}{σ:L2.St}
def Hu {S:Ul}{R:abW->Ui->Prop}{k:Nat}
  (hr:bn (k+1) X.A) (hcalm:X.calm=true) (hw:Wr X.K θ H M) (ta:sL X.K θ H l vs) (r:a6 X.K θ H ds0 vs)
  (hnI:S≠it) (hR:∀u s',EP X af σ Q u s'->R (.ok (.ret u)) s') (fi:hV X af H it) (fS:hV X af H S) (hQ:∀v,cC X.K θ H db v->Q v H) :
  ∀(rest:List D) (j:Nat) (s:Ui) (b:D) (kb:List Int) (vb:V) (ub:Uh) (n:Nat),ds0.drop j=rest->L2.Inv X af σ H s->s.heap.IsListIter it l j->s.heap.get? S=Z (US "list" #[ub,ub] n)->
   cC X.K θ H b vb->aS vb ub->dG b=Z kb->sw rest b kb=Z db->
   Zz (UA X.prog X.w) X.A (.builtin "max.loop" ⟨[.ref it,.none,.ref S],[]⟩) R s:=by
 have hname:(toString "max"++toString ".loop":String)="max.loop":=by decide
 have hr1:bn k X.A.in1:=hr.in1;intro rest
 induction rest with
 | nil=>
  intro j s b kb vb ub n hd I st eS rb rvb hk h;refine VP PySem.F.entry_max_loop ?_;rw[Vq PySem.F.plain_max_loop _];show Uq _ X.A.in1 (X4 (.ref S) >>= _) _ _ _;refine Ud (VC eS rfl ?_);refine q1x3 (I.list ta.sq) λits rv p hz=>?_;have hlen:vs.length<=j:=by rw[<-av r];exact aa0.mp hd
  have hl:=rv.length;show Uq _ X.A.in1 (tryCatch (WN (.ref it)) _ >>= _) _ _ _;refine Ud (VD (Xu (show X.A.in1.handled=Y from I.ok.hd hcalm) st p.isList (by simp;omega) λh' eb=>?_));have I1:L2.Inv X af σ H {s with heap:=h'}:=I.turned (t':=s.toks) (λb o hb e=>eb b o hb e) fi.1 fi.2.1 fi.2.2.2.1 fi.2.2.2.2.1 fi.2.2.2.2.2;have eS':h'.get? S=Z (US "list" #[ub,ub] n):=eb S _ hnI eS;show Uq _ X.A.in1 (ZC S (λ_=>#[]) >>= _) _ _ _;refine Ud (Wc eS' rfl (Ud (We (Ue ?_))));have I2:L2.Inv X af σ H {s with heap:=h'.update S (UM λ_=>#[])}:=I1.turned (t':=s.toks) (λb o hb e=>(Vf h' _ (Vl hb)).trans e) fS.1 fS.2.1 fS.2.2.2.1 fS.2.2.2.2.1 fS.2.2.2.2.2;have h:Z b=Z db:=h;cases h;exact hR ub _ ⟨vb,H,I2,rvb,hQ vb rb⟩
 | cons d rest ih=>
  intro j s b kb vb ub n hd I st eS rb rvb hk h;have hj:ds0[j]?=Z d:=by
   have:=congrArg (·[0]?) hd;simpa using this
  have hd':ds0.drop (j+1)=rest:=by
   rw[<-drop_drop,hd];rfl
  refine q1x2 (dW r hj) λv ev rdv=>?_;refine VP PySem.F.entry_max_loop ?_;rw[Vq PySem.F.plain_max_loop _];show Uq _ X.A.in1 (X4 (.ref S) >>= _) _ _ _;refine Ud (VC eS rfl ?_);refine q1x3 (I.list ta.sq) λits rv p hz=>?_;refine q1x2 (rv.get ev) λu eu ru=>?_;show Uq _ X.A.in1 (tryCatch (WN (.ref it)) _ >>= _) _ _ _;refine Ud (VD (VU st p.isList (x:=u) (by simpa using eu) λh' st' sb=>?_));have I1:L2.Inv X af σ H {s with heap:=h'}:=I.turned (t':=s.toks) (λb o hb e=>(sb.2 b hb).trans e) fi.1 fi.2.1 fi.2.2.2.1 fi.2.2.2.2.1 fi.2.2.2.2.2;have eS1:h'.get? S=Z (US "list" #[ub,ub] n):=(sb.2 S hnI).trans eS;unfold sw at h;cases eK:dG d with
  | none=>rw[eK] at h;cases h
  | some ks=>
   rw[eK] at h;dsimp only at h;refine q1x2 (kI eK rdv) λak eak tk2=>?_;refine q1x2 (kI hk rb) λab eab tb2=>?_;subst eak eab;have ek:u=.ref ak:=ru;have eb':ub=.ref ab:=rvb;subst ek eb';refine q1x3 (I1.tuple tk2.sq) λi1 r1 p1 _=>?_;refine q1x3 (I1.tuple tb2.sq) λi2 r2 p2 _=>?_;refine Ud (Ue ?_);show Uq _ X.A.in1 (tryCatch (VN [.ref ak,.ref ak] (Zm .Gt (.ref ak) (.ref ab) >>= _)) _ >>= _) _ _ _;refine Ud (VD (UL (Ud (Bm p1 p2 (i9 r1) (i9 r2) hr1.units0 ?_))));refine Ud (UL (Vm ?_));refine Ud (We (Ue ?_))
   by_cases hlt:HT.lexLt kb ks=true
   ·rw[if_pos hlt] at h;simp only[hlt,if_true];refine Ud (Wc eS1 rfl (Ud (We ?_)));rw[hname];obtain⟨n3,eS3⟩:∃n3,(h'.update S (UM λ_=>#[.ref ak,.ref ak])).get? S=Z (US "list" #[.ref ak,.ref ak] n3):=⟨_,VQ eS1 λ_=>#[.ref ak,.ref ak]⟩;have kp:∀b o,b≠S->h'.get? b=Z o->(h'.update S (UM λ_=>#[.ref ak,.ref ak])).get? b=Z o:=λb o hb e=>(Vf h' _ (Vl hb)).trans e
    have I3:L2.Inv X af σ H {s with heap:=h'.update S (UM λ_=>#[.ref ak,.ref ak])}:=I1.turned (t':=s.toks) kp fS.1 fS.2.1 fS.2.2.2.1 fS.2.2.2.2.1 fS.2.2.2.2.2;refine q1x3 (id st') λoI hoI cI dI=>?_;exact Ue ⟨VZ PySem.F.plain_max_loop _,ih (j+1) _ d ks _ (.ref ak) n3 hd' I3 ⟨oI,kp it oI (Vl hnI) hoI,cI,dI⟩ eS3 rdv rfl eK h⟩
   ·have hlt':HT.lexLt kb ks=false:=by simpa using hlt
    rw[if_neg hlt] at h;simp only[hlt',Vb,if_false];refine Ud (We ?_);rw[hname];exact Ue ⟨VZ PySem.F.plain_max_loop _,ih (j+1) _ b kb _ (.ref ab) n hd' I1 st' eS1 rb rfl hk h⟩
def Dv (a:Uh):argsOk "max" ⟨[a],[]⟩:=by kernel_rfl
def zI {k:Nat}
  (hr:bn (k+1) X.A) (hcalm:X.calm=true) (I:L2.Inv X af σ H s) (hw:Wr X.K θ H M) (ta:sL X.K θ H l vs) (r:a6 X.K θ H ds0 vs) (h:HE ds0=Z db) (hQ:∀v,cC X.K θ H db v->Q v H) :
  Uq (UA X.prog X.w) X.A (call (.builtin "max") [.ref l] []) (EP X af σ Q) X.xe s:=by
 have hname:(toString "max"++toString ".loop":String)="max.loop":=by decide
 cases ds0 with
 | nil=>cases h
 | cons d rest=>
  unfold HE at h;dsimp only at h;cases eK:dG d with
  | none=>rw[eK] at h;cases h
  | some ks=>
   rw[eK] at h;dsimp only at h;refine q1x2 (dW (i:=0) r rfl) λv ev rdv=>?_;refine q1x3 (I.list ta.sq) λits rv p hz=>?_;refine kmk_tree PySem.F.kind_max PySem.F.plain_max PySem.F.entry_max (Dv _) ?_;show Uq _ X.A.in1 (VW "max" ["key","default"] 0 ⟨[],[]⟩ >>= _) _ _ s;refine Ud (WT (show VW "max" ["key","default"] 0 ⟨[],[]⟩=pure [Y,Y] from rfl) ?_);refine Ud (Ue ?_);refine Ud (aam p.isList ?_);refine Ud (WH ?_ (UW _));rw[hname];have hS:(s.heap.push {cls:=.type "list_iterator",data:=.fields #[.ref l,.int 0 0]}).objs.size=s.heap.objs.size+1:=Y2 ..;have fi:hV X af H s.heap.objs.size:=I.fpOk (Uj _) (I.hok.fresh (Uj _));have leS:s.heap.objs.size<=(s.heap.push {cls:=.type "list_iterator",data:=.fields #[.ref l,.int 0 0]}).objs.size:=by rw[hS];exact Ws _
   have fS:hV X af H (s.heap.push {cls:=.type "list_iterator",data:=.fields #[.ref l,.int 0 0]}).objs.size:=I.fpOk leS (I.hok.fresh leS);have hnI:(s.heap.push {cls:=.type "list_iterator",data:=.fields #[.ref l,.int 0 0]}).objs.size≠s.heap.objs.size:=by rw[hS];exact Wt (Wn _)
   have gI:((s.heap.push {cls:=.type "list_iterator",data:=.fields #[.ref l,.int 0 0]}).push (US "list" #[] 0)).get? s.heap.objs.size=Z {cls:=.type "list_iterator",data:=.fields #[.ref l,.int 0 0]}:=Ug _ (Uo _ rfl);have gS:((s.heap.push {cls:=.type "list_iterator",data:=.fields #[.ref l,.int 0 0]}).push (US "list" #[] 0)).get? (s.heap.push {cls:=.type "list_iterator",data:=.fields #[.ref l,.int 0 0]}).objs.size=Z (US "list" #[] 0):=Uo _ rfl;have I0:L2.Inv X af σ H {s with heap:=(s.heap.push {cls:=.type "list_iterator",data:=.fields #[.ref l,.int 0 0]}).push (US "list" #[] 0)}:=I.kept (t':=s.toks) λb o e=>Ug _ (Ug _ e)
   generalize (s.heap.push {cls:=.type "list_iterator",data:=.fields #[.ref l,.int 0 0]}).objs.size=S at *;generalize hit:s.heap.objs.size=it at *;refine Ue ⟨VZ PySem.F.plain_max_loop _,?_⟩;refine VP PySem.F.entry_max_loop ?_;rw[Vq PySem.F.plain_max_loop _];show Uq _ X.A.in1 (X4 (.ref S) >>= _) _ _ _;refine Ud (VC gS rfl ?_);refine q1x3 (I0.list ta.sq) λits' rv' p' hz'=>?_;refine q1x2 (rv'.get ev) λu' eu' ru'=>?_;show Uq _ X.A.in1 (tryCatch (WN (.ref it)) _ >>= _) _ _ _;refine Ud (VD (VU (i:=0) ⟨_,gI,rfl,rfl⟩ p'.isList (x:=u') (by simpa using eu') λh' st' sb=>?_));have I1:L2.Inv X af σ H {s with heap:=h'}:=I0.turned (t':=s.toks) (λb o hb e=>(sb.2 b hb).trans e) fi.1 fi.2.1 fi.2.2.2.1 fi.2.2.2.2.1 fi.2.2.2.2.2;have eS1:h'.get? S=Z (US "list" #[] 0):=(sb.2 S hnI).trans gS;refine q1x3 (id st') λoI hoI cI dI=>?_;refine Ud (Ue ?_);refine Ud ?_;show Uq _ X.A.in1 (ZC S (λ_=>#[u',u'])) _ _ _;refine Wc eS1 rfl ?_;rw[hname];obtain⟨n3,eS3⟩:∃n3,(h'.update S (UM λ_=>#[u',u'])).get? S=Z (US "list" #[u',u'] n3):=⟨_,VQ eS1 λ_=>#[u',u']⟩;have kp:∀b o,b≠S->h'.get? b=Z o->(h'.update S (UM λ_=>#[u',u'])).get? b=Z o:=λb o hb e=>(Vf h' _ (Vl hb)).trans e
   have I3:L2.Inv X af σ H {s with heap:=h'.update S (UM λ_=>#[u',u'])}:=I1.turned (t':=s.toks) kp fS.1 fS.2.1 fS.2.2.2.1 fS.2.2.2.2.1 fS.2.2.2.2.2;exact Ue ⟨VZ PySem.F.plain_max_loop _,Hu hr hcalm hw ta r hnI (λu s' e=>e) fi fS hQ rest 1 _ d ks v u' n3 rfl I3 ⟨oI,kp it oI (Vl hnI) hoI,cI,dI⟩ eS3 rdv ru' eK h⟩
def uC:FD:=λds M=>match ds with
 | [.lst xs]=>match HE xs with
  | some d=>.ok d M
  | none=>.bad
 | [.ro xs]=>match HE xs with
  | some d=>.ok d M
  | none=>.bad
 | ds=>Ax ds M
end
def Kv {K:Uu}
  (hm:x∈cw) (a:V5 K Uv x=Z (Z (.ref f))) (l:K.lookup f=Z ⟨oc,od,.func fd,sl⟩) (ec:fd.code=.ref c) (lc:K.lookup c=Z ⟨occ,odc,.fields vs,slc⟩) (hcc:occ=.type "code")
  (h11:vs[11]?=Z (.ref P)) (h18:vs.getD 18 .none=.str file tf) (h7:vs.getD 7 .none=.int flags tg) (h9:vs.getD 9 .none=.bool inF) (h10:vs.getD 10 .none=.int text tt) (ne:c≠P)
  (un:∀y,y∈cw->y≠x->V5 K Uv y=Z Y\/∃c' P',Wg K y=Z (c',P')/\P'≠P):Bj K x c P:=by
 refine⟨hm,?_,λy hy nx c2 e=>?_,_,vs,file,tf,flags,tg,inF,text,tt,lc,hcc,rfl,h11,(by rw[WM,h11];rfl),h18,h7,h9,h10,ne⟩
 ·unfold Wg
  simp_all
 ·rcases un y hy nx with q|⟨c',P',q,n⟩
  ·unfold Wg at e;rw[q] at e;cases e
  ·rw[q] at e;cases e;exact n rfl
end DL
namespace DL
open PySem PySem.Spec PyProof.Rows L2 List
end DL
namespace DL
open PySem PySem.Spec PyProof.Rows L2 List
section
open Builtin Builtin.Str
end
end DL
namespace DL
open PySem PySem.Spec PyProof.Rows L2 List
structure QE (X:Cx)(e:UY)(g:GE):Prop where
 h:PE X e (tE X g)
structure QT (X:Cx)(e:UY)(g:GT):Prop where
 h:PT X e (tT X g)
structure QW (X:Cx)(e:UY)(g:GT):Prop where
 h:PW X e (tT X g)
structure QA (X:Cx)(es:List UY)(g:GA):Prop where
 h:PA X es (tA X g)
structure QS (X:Cx)(st:WA)(g:GS):Prop where
 h:PS X st (tS X g)
structure QB (X:Cx)(st:List WA)(g:GS):Prop where
 h:PSs X st (tS X g)
structure QI (X:Cx)(tg e:UY)(g:GI):Prop where
 h:PI X tg e (tI X g)
structure QG (X:Cx)(tg:UY)(s:GG):Prop where
 h:PG X tg (tG X s)
structure QV (X:Cx)(tgs:List UY)(is:List Nat):Prop where
 h:Mg X tgs (TF X is)
structure QP (X:Cx)(e:Option UY)(g:GO):Prop where
 h:PO X e (tO X g)
structure Q2 (X:Cx)(f:Uh->Uh->Sem Uh)(F:F2):Prop where
 h:ph X f (rD X F)
structure QC (X:Cx)(f:Uh)(F:FD):Prop where
 h:fF X f (rC X F)
structure Er (X:Cx)(scope:Y6)(xs:List Str)(R:List Str)(ifs:List UY)(gc:GT):Prop where
 h:pF X scope xs R ifs gc
structure Rg (X:Cx)(tgs:List UY)(ss:List GG):Prop where
 h:Mg X tgs (SE X ss)
structure QO (n:Nat)(sg:GG):Prop where
 h:yq n sg
structure QF (X:Cx)(es:List UY)(gs:List GE):Prop where
 h:OW X es gs
section
variable {X:Cx}{e a b c o i:UY}{es rest:List UY}{x:Str}{p p2 pos pos':Pos}{g ga gb gc go gi ge:GE}{ta tb:GT}{gA:GA}
def QL:Q2 X (VR .Add) a8:=⟨by
 intro af s σ H x y v u Q I rx ry h;obtain⟨θ,M,dx,dy,hw,r1,r2,h⟩:=h;unfold a8 at h;split at h
 ·rename_i i j;exact Nd af s σ H x y v u Q I rx ry ⟨i,j,r1,r2,h _ θ H (.refl hw) rfl⟩
 ·rename_i a b;split at h
  ·rename_i hl;exact AX af s σ H x y v u Q I rx ry ⟨a,b,r1,r2,hl,h _ θ H (.refl hw) rfl⟩
  ·exact h.elim
 ·rename_i as bs;split at h
  ·rename_i hl;obtain⟨a,vs,ea,ta,ra⟩:=r1;obtain⟨b,us,eb,tb,rb⟩:=r2
   by_cases hv:vs=[]
   ·subst hv;have e0:as=[]:=Z7.mp (av ra);subst e0;subst ea;subst eb;cases rx;cases ry;obtain⟨its,q1,p1,_⟩:=I.tuple ta.sq;obtain⟨its2,q2,p2,_⟩:=I.tuple tb.sq;cases q1;exact HC p1 p2 ⟨.ref b,H,I,rfl,h _ θ H (.refl hw) ⟨b,us,rfl,tb,rb⟩⟩
   ·refine IM af s σ H x y v u Q I rx ry ⟨a,b,vs,us,ea,eb,ta.sq,tb.sq,hv,by rw[<-av ra,<-av rb];exact hl,λhu=>?_,λ_ p hp=>h _ θ _ (cQ hw hp) (gH hw hp (cH ra rb))⟩;subst hu;have e0:bs=[]:=Z7.mp (av rb);subst e0;exact h _ θ H (.refl hw) ⟨a,vs,rfl,ta,by rw[Yb];exact ra⟩
  ·exact h.elim
 ·rename_i a j;have e1:x=.bl a:=r1;have e2:y=.int j:=r2;subst e1;subst e2;cases rx;obtain⟨t',rfl⟩:=ry;exact IntBool.add_bool_int ⟨.int _,H,I.tok _,⟨_,rfl⟩,h _ θ H (.refl hw) rfl⟩
 ·split at h
  ·rename_i as bs q1 q2;split at h
   ·rename_i hl;obtain⟨a,vs,ea,ta,ra⟩:=zf hw r1 q1;obtain⟨b,us,eb,tb,rb⟩:=zf hw r2 q2;exact Nc af s σ H x y v u Q I rx ry ⟨a,b,vs,us,ea,eb,ta,tb,by rw[<-av ra,<-av rb];exact hl,λp hp=>h _ θ _ (cQ hw hp) (ik hw hp (cH ra rb))⟩
   ·exact h.elim
  ·exact h.elim⟩
def Pq:Q2 X (VR .Sub) dN:=⟨by
 intro af s σ H x y v u Q I rx ry h;refine q4x4 h λθ M dx dy hw r1 r2 h=>?_;unfold dN at h;split at h
 ·rename_i i j;exact LN af s σ H x y v u Q I rx ry ⟨i,j,r1,r2,h _ θ H (.refl hw) rfl⟩
 ·exact h.elim⟩
def Q7:Q2 X (VR .Mult) jX:=⟨by
 intro af s σ H x y v u Q I rx ry h;refine q4x4 h λθ M dx dy hw r1 r2 h=>?_;unfold jX at h;split at h
 ·rename_i i j;split at h
  ·rename_i hc;exact Lz af s σ H x y v u Q I rx ry ⟨i,j,r1,r2,hc,h _ θ H (.refl hw) rfl⟩
  ·exact h.elim
 ·exact h.elim⟩
def Np:Q2 X (VR .FloorDiv) hZ:=⟨by
 intro af s σ H x y v u Q I rx ry h;obtain⟨θ,M,dx,dy,hw,r1,r2,h⟩:=h;unfold hZ at h;split at h
 ·rename_i i j;split at h
  ·rename_i hc;have e1:x=.int i:=r1;have e2:y=.int j:=r2;subst e1;subst e2;obtain⟨t,rfl⟩:=rx;obtain⟨t',rfl⟩:=ry;exact floordiv_int (by omega) (by rw[Yh i (by omega)];exact⟨.int (i / j),H,I.tok _,⟨_,rfl⟩,h _ θ H (.refl hw) rfl⟩) (.inl (YC hc.2))
  ·exact h.elim
 ·exact h.elim⟩
def QX:Q2 X (VR .Mod) ky:=⟨by
 intro af s σ H x y v u Q I rx ry h;refine q4x4 h λθ M dx dy hw r1 r2 h=>?_;unfold ky at h;split at h
 ·rename_i i j;split at h
  ·rename_i hc;exact L6 af s σ H x y v u Q I rx ry ⟨i,j,r1,r2,hc,h _ θ H (.refl hw) rfl⟩
  ·exact h.elim
 ·exact h.elim⟩
def O0:Q2 X (VR .Pow) EJ:=⟨by
 intro af s σ H x y v u Q I rx ry h;refine q4x4 h λθ M dx dy hw r1 r2 h=>?_;unfold EJ at h;split at h
 ·rename_i i j;split at h
  ·rename_i hc;exact N1 af s σ H x y v u Q I rx ry ⟨i,j,r1,r2,hc,h _ θ H (.refl hw) rfl⟩
  ·exact h.elim
 ·exact h.elim⟩
def SO:Q2 X (UX .Lt) pR:=⟨by
 intro af s σ H x y v u Q I rx ry h;refine q4x4 h λθ M dx dy hw r1 r2 h=>?_;unfold pR at h;split at h
 ·rename_i i j;exact Q5 af s σ H x y v u Q I rx ry ⟨i,j,r1,r2,h _ θ H (.refl hw) rfl⟩
 ·exact h.elim⟩
def Tq:Q2 X (UX .LtE) vB:=⟨by
 intro af s σ H x y v u Q I rx ry h;refine q4x4 h λθ M dx dy hw r1 r2 h=>?_;unfold vB at h;split at h
 ·rename_i i j;exact OT af s σ H x y v u Q I rx ry ⟨i,j,r1,r2,h _ θ H (.refl hw) rfl⟩
 ·exact h.elim⟩
def SV:Q2 X (UX .Gt) Bg:=⟨by
 intro af s σ H x y v u Q I rx ry h;refine q4x4 h λθ M dx dy hw r1 r2 h=>?_;unfold Bg at h;split at h
 ·rename_i i j;exact PP af s σ H x y v u Q I rx ry ⟨i,j,r1,r2,h _ θ H (.refl hw) rfl⟩
 ·exact h.elim⟩
def Tb:Q2 X (UX .GtE) B9:=⟨by
 intro af s σ H x y v u Q I rx ry h;refine q4x4 h λθ M dx dy hw r1 r2 h=>?_;unfold B9 at h;split at h
 ·rename_i i j;exact Qa af s σ H x y v u Q I rx ry ⟨i,j,r1,r2,h _ θ H (.refl hw) rfl⟩
 ·exact h.elim⟩
def Tl {k:Nat}(hr:bn k X.A):Q2 X (UX .Eq) (aR false):=⟨Ql hr.units⟩
def Sb {k:Nat}(hr:bn k X.A):Q2 X (UX .NotEq) (aR true):=⟨PJ hr.units⟩
def Su:Q2 X (UX .Is) (sI false):=⟨by
 intro af s σ H x y v u Q I rx ry h;refine q4x4 h λθ M dx dy hw r1 r2 h=>?_;unfold sI at h;split at h
 ·rename_i b q;refine q0x2 (HI r1 r2 rx ry q) λhp e=>?_;refine wpAny_is_plain hp ?_;rw[e];refine⟨.bl b,H,I,rfl,?_⟩;have:=h (.bl (b != false)) θ H (.refl hw) rfl
  simp_all
 ·exact h.elim⟩
def Ij:Q2 X (UX .IsNot) (sI true):=⟨by
 intro af s σ H x y v u Q I rx ry h;refine q4x4 h λθ M dx dy hw r1 r2 h=>?_;unfold sI at h;split at h
 ·rename_i b q;refine q0x2 (HI r1 r2 rx ry q) λhp e=>?_;refine wpAny_isNot_plain hp ?_;rw[e];refine⟨.bl (!b),H,I,rfl,?_⟩;have:=h (.bl (b != true)) θ H (.refl hw) rfl
  simp_all
 ·exact h.elim⟩
def Sd:Q2 X (UX .In) (Be false):=⟨Rv⟩
def Pg:QC X (.builtin "len") bU:=⟨by
 intro af s σ H xs us Q I r h;refine q3x3 h λθ M ds hw rd h=>?_;unfold bU at h;split at h
 ·rename_i x;split at h
  ·rename_i hl;refine q1x2 (gE rd) λv e rv=>?_;exact xv af s σ H xs us Q I r ⟨x,by rw[e,rv],hl,h _ θ H (.refl hw) rfl⟩
  ·exact h.elim
 ·split at h
  ·rename_i ys q;refine q1x2 (gE rd) λv e rv=>?_;refine q2x3 (rm hw rv q) λa vs ea sq ra=>?_;refine xt af s σ H xs us Q I r ⟨a,vs,by rw[e,ea],sq,?_⟩;rw[<-av ra];exact h _ θ H (.refl hw) rfl
  ·exact h.elim
 ·exact h.elim⟩
def PH (hc:X.calm=true:=by rfl):QC X (.builtin "min") AK:=⟨by
 intro af s σ H xs us Q I r h;refine q3x3 h λθ M ds hw rd h=>?_;unfold AK at h;split at h
 ·rename_i i j;refine q2x3 (Bd rd) λv v' e rv rv'=>?_;exact Dg hc af s σ H xs us Q I r ⟨i,j,by rw[e,rv,rv'],h _ θ H (.refl hw) rfl⟩
 ·exact h.elim⟩
def QK (hc:X.calm=true:=by rfl):QC X (.builtin "max") Ax:=⟨GC hc⟩
def MA {k:Nat}(hr:bn (k+1) X.A)(hc:X.calm=true:=by rfl):QC X (.builtin "max") uC:=⟨by
 intro af s σ H xs us Q I r h;obtain⟨θ,M,ds,hw,rd,h⟩:=h;unfold uC at h;split at h
 ·split at h
  ·rename_i d q;obtain⟨v,rr,e,⟨a,vs,ea,ta,rs⟩,er⟩:=rd;have er:rr=[]:=er;subst er e ea;obtain⟨u,rfl,ru⟩:=ju r;have ru:u=.ref a:=ru;subst ru;exact zI hr hc I hw (.inl ⟨.inl ta.1,ta.2⟩) rs q λv rv=>h v θ H (.refl hw) rv
  ·exact h.elim
 ·rename_i ys;split at h
  ·rename_i d q;obtain⟨v,rr,e,⟨a,vs,ea,ta,rs⟩,er⟩:=rd;have er:rr=[]:=er;subst er e ea;obtain⟨u,rfl,ru⟩:=ju r;have ru:u=.ref a:=ru;subst ru;exact zI hr hc I hw ta rs q λv rv=>h v θ H (.refl hw) rv
  ·exact h.elim
 ·exact(λh=>GC hc af s σ H xs us Q I r ⟨θ,M,ds,hw,rd,h⟩) h⟩
def Rq (hc:X.calm=true:=by rfl):QC X (.builtin "all") mh:=⟨by
 intro af s σ H xs us Q I r h;obtain⟨θ,M,ds,hw,rd,h⟩:=h;unfold mh at h;split at h
 ·obtain⟨v,e,rv⟩:=gE rd;subst e;obtain⟨u,rfl,ru⟩:=ju r;split at h
  ·rename_i ys q;split at h
   ·rename_i bs qb;refine bS (call_all_walk (AA hc I hw rv ru q qb (Q:=λb H=>Q (.bl b) H)  (λh' tk I'=>?_))) λu' s' ⟨v',H',I',r',b,eb,q'⟩=>⟨v',H',I',r',by rwa [eb]⟩
    rw[Eg];exact h _ θ H (.refl hw) rfl
   ·exact h.elim
  ·exact h.elim
 ·exact h.elim⟩
def Ho:QC X (.builtin "divmod") Hy:=⟨by
 intro af s σ H xs us Q I r h;obtain⟨θ,M,ds,hw,rd,h⟩:=h;unfold Hy at h;split at h
 ·rename_i i j;obtain⟨v,v',e,r1,r2⟩:=Bd rd;subst e;subst r1;subst r2;obtain⟨u,u',rfl,⟨t,rfl⟩,⟨t',rfl⟩⟩:=B5 r;split at h
  ·rename_i hc;refine divmod_int (by omega) ?_ (.inl (YC hc.2));rw[Yh i (by omega),X8 i (by omega)];have hp:=I.hok.fresh (Uj _);refine⟨.ref s.heap.objs.size,_,I.laid  (λb o e=>Ug _ e) (Uj _) (show bK X.prog X.w _ _ _ (.tup [.int (i / j),.int (i % j)]) from⟨UK (by simp:2<=1000000) (by decide),[.int (i / j) s.toks,.int (i % j) (s.toks+1)],.cons ⟨_,rfl⟩ (.cons ⟨_,rfl⟩ .nil),YF _ _⟩),rfl,?_⟩;exact h _ θ _ (cQ hw hp) (gH hw hp (⟨_,_,rfl,rfl,_,_,rfl,rfl,rfl⟩))
  ·exact h.elim
 ·exact h.elim⟩
def OS:QC X (.type "int") Dc:=⟨Nl⟩
def Nz:QC X (.type "list") nD:=⟨JA⟩
def Kf:QC X (.type "list") ze:=⟨E4⟩
def Iq:QC X (.type "tuple") dm:=⟨by
 intro af s σ H xs us Q I r h;refine q3x3 h λθ M ds hw rd h=>?_;unfold dm at h;split at h
 ·rename_i d;refine q1x2 (gE rd) λv e rv=>?_;cases d with
  | tup ys=>
   refine q2x3 rv λa vs ea ta ra=>?_;exact gL af s σ H xs us Q I r ⟨a,vs,by rw[e,ea],.inr ⟨ta.sq,h _ θ H (.refl hw) ⟨a,vs,rfl,ta,ra⟩⟩⟩
  | lst ys=>
   refine q2x3 rv λa vs ea ta ra=>?_;exact gL af s σ H xs us Q I r ⟨a,vs,by rw[e,ea],.inl ⟨ta.sq,λl hl=>h _ θ _ (cQ hw hl) (gH hw hl ra)⟩⟩
  | ro ys=>
   refine q2x3 rv λa vs ea ta ra=>?_;exact gL af s σ H xs us Q I r ⟨a,vs,by rw[e,ea],.inl ⟨ta.sq,λl hl=>h _ θ _ (cQ hw hl) (gH hw hl ra)⟩⟩
  | mr k=>
   refine q1x2 rv λa ea ta=>?_;cases qm:M[k]? with
   | none=>simp[ba,qm] at h;exact h.elim
   | some m=>
    cases m with
    | lst ys=>
     simp only[ba,qm] at h;refine q1x2 (hw.at_ k a _ ta qm) λvs hv ra=>?_;exact gL af s σ H xs us Q I r ⟨a,vs,by rw[e,ea],.inl ⟨.inl (.inl hv),λl hl=>h _ θ _ (cQ hw hl) (gH hw hl ra)⟩⟩
    | _=>simp[ba,qm] at h;exact h.elim
  | _=>exact h.elim
 ·exact h.elim⟩
def qv (i:Nat){x:Str}{pos:Pos}(hN:X.N[i]?=Z x:=by rfl)(hv:LZ X.env.scope x:=by first|exact YB rfl|exact XC (YB rfl)|exact XC (XC rfl))(hd:(x==("__debug__":Str))=false:=by decide)
  (hcd:(x==("__classdict__":Str))=false:=by decide):QE X (.Name x pos) (ae i):=⟨vv i hN hv hd hcd⟩
def MQ {i:Int}{j pos}:QE X (.Constant (.int i) j pos) (gC (.int i)):=⟨BC.of λσ H Q ⟨ρ,θ,M,hd,hw,f⟩=>f _ θ H (.refl hw) rfl⟩
def QN {b j pos}:QE X (.Constant (.bool b) j pos) (gC (.bl b)):=⟨Qm.of λσ H Q ⟨ρ,θ,M,hd,hw,f⟩=>f _ θ H (.refl hw) rfl⟩
def OA {j pos}:QE X (.Constant .none j pos) (gC .non):=⟨NE.of λσ H Q ⟨ρ,θ,M,hd,hw,f⟩=>f _ θ H (.refl hw) rfl⟩
def Nn {x j pos}:QE X (.Constant (.str x) j pos) (gC (.str x)):=⟨F3.of λσ H Q ⟨ρ,θ,M,hd,hw,f⟩=>f _ θ H (.refl hw) rfl⟩
def Lx (h:QE X a g):QE X (.UnaryOp .USub a pos) (tR g):=⟨(Ll FA h.h).of λσ H Q hxx=>by
 refine q3x3 hxx λρ θ M hd hw h=>?_;refine bi hd hw (aK X θ H Q) (λc M' h=>h) (λh=>h) h λd M1 v θ1 H1 g1 r1 h1=>?_
 split at h1
 ·rename_i i;exact⟨i,r1,h1 _ θ1 H1 g1 rfl⟩
 ·exact h1.elim⟩
def Oi (h:QE X a g):QE X (.UnaryOp .Not a pos) (Gq (aH g)):=⟨(N8 h.h).of λσ H Q hxx=>by
 refine q3x3 hxx λρ θ M hd hw h=>?_;refine⟨ρ,θ,M,hd,hw,?_⟩;unfold Gq aH at h;cases q:g ρ M with
 | ok d M1=>
  rw[q] at h;cases d with
  | bl b=>exact λv θ1 H1 g1 r1=>⟨b,r1,h _ θ1 H1 g1 rfl⟩
  | _=>exact h.elim
 | err c M1=>rwa [q] at h
 | bad=>rwa [q] at h⟩
def Pj (ho:Q2 X (VR op) f)(ha:QE X a ga)(hb:QE X b gb):QE X (.BinOp a op b pos) (g2 f ga gb):=⟨(OQ ho.h ha.h hb.h).of λ_ _ _ h=>CG h⟩
def LI:CmpOp->Bool
 | .In=>false
 | .NotIn=>false
 | _=>true
def wN {b:UY}(h:LI op=true):W3 op b=false:=by
 cases op <;> first|exact Of _|(cases h)
def L1 (ho:Q2 X (UX op) f)(ha:QE X a ga)(hb:QE X b gb)(hm:LI op=true:=by rfl):QE X (.Compare a [op] [b] pos) (g2 f ga gb):=⟨Oa ho.h ha.h hb.h (wN hm)⟩
def Mw (ho:Q2 X (UX op) f)(ha:QE X a ga)(hb:QE X b gb)(hm:LI op=true:=by rfl):QT X (.Compare a [op] [b] pos) (aH (g2 f ga gb)):=⟨E8 ho.h ha.h hb.h (wN hm)⟩
def Kx (ho:Q2 X (UX op) f)(ha:QE X a ga)(hb:QE X b gb)(hm:W3 op b=false:=by with_unfolding_all rfl):QT X (.Compare a [op] [b] pos) (aH (g2 f ga gb)):=⟨E8 ho.h ha.h hb.h hm⟩
def HB (ho:Q2 X (UX op) f)(ho':Q2 X (UX op') f')(ha:QE X a ga)(hb:QE X b gb)(hc:QE X c gc)(hm:aay [op,op'] [b,c]=false:=by with_unfolding_all rfl):QE X (.Compare a [op,op'] [b,c] pos) (Aq f f' ga gb gc):=⟨(Gu ho.h ho'.h ha.h hb.h hc.h hm).of λ_ _ _ h=>KP h⟩
def ES (ho:Q2 X (UX op) f)(ho':Q2 X (UX op') f')(ha:QE X a ga)(hb:QE X b gb)(hc:QE X c gc)(hm:aay [op,op'] [b,c]=false:=by with_unfolding_all rfl):QT X (.Compare a [op,op'] [b,c] pos) (aH (Aq f f' ga gb gc)):=⟨(GF ho.h ho'.h ha.h hb.h hc.h hm).of λσ H Q h=>KP (GV h)⟩
def N4 {op}(h:QE X a g):QE X (.BoolOp op [a] pos) g:=⟨ML h.h⟩
def LX (ha:QE X a ga)(hb:QE X (.BoolOp .And (b::rest) pos) gb):QE X (.BoolOp .And (a::b::rest) pos) (eR ga gb):=⟨(Ly ha.h hb.h).of λσ H Q hxx=>by
 refine q3x3 hxx λρ θ M hd hw h=>?_;refine bi hd hw (aK X θ H Q) (λc M' h=>h) (λh=>h) h λd M1 v θ1 H1 g1 r1 h1=>?_
 cases d with
 | bl c=>
  refine⟨c,r1,?_⟩;cases c with
  | true=>exact⟨ρ,θ1,M1,hd.go g1,g1.wr,aK.go g1 h1⟩
  | false=>exact h1 _ θ1 H1 g1 rfl
 | _=>exact h1.elim⟩
def Qu (ha:QE X a ga)(hb:QE X (.BoolOp .Or (b::rest) pos) gb):QE X (.BoolOp .Or (a::b::rest) pos) (RP ga gb):=⟨(Qs ha.h hb.h).of λσ H Q hxx=>by
 refine q3x3 hxx λρ θ M hd hw h=>?_;refine bi hd hw (aK X θ H Q) (λc M' h=>h) (λh=>h) h λd M1 v θ1 H1 g1 r1 h1=>?_
 cases d with
 | bl c=>
  refine⟨c,r1,?_⟩;cases c with
  | true=>exact h1 _ θ1 H1 g1 rfl
  | false=>exact⟨ρ,θ1,M1,hd.go g1,g1.wr,aK.go g1 h1⟩
 | _=>exact h1.elim⟩
def PK (hc:QT X c ta)(ha:QE X a ga)(hb:QE X b gb):QE X (.IfExp c a b pos) (Fc ta ga gb):=⟨(FT hc.h ha.h hb.h).of λσ H Q hxx=>by
 refine q3x3 hxx λρ θ M hd hw h=>?_;refine wD hd hw (aK X θ H Q) (λc M' h=>h) (λh=>h) h λc M1 θ1 H1 g1 h1=>?_
 cases c with
 | true=>exact⟨ρ,θ1,M1,hd.go g1,g1.wr,aK.go g1 h1⟩
 | false=>exact⟨ρ,θ1,M1,hd.go g1,g1.wr,aK.go g1 h1⟩⟩
def Jg (ha:QT X a ta):QW X (.BoolOp .And [a] pos) ta:=⟨Jz ha.h⟩
def L8 (ha:QT X a ta):QW X (.BoolOp .Or [a] pos) ta:=⟨M8 ha.h⟩
def Oe (ha:QT X a ta)(hb:QW X (.BoolOp .And (b::rest) pos) tb):QW X (.BoolOp .And (a::b::rest) pos) (fu ta tb):=⟨(MZ ha.h hb.h).of λσ H Q hxx=>by
 refine q3x3 hxx λρ θ M hd hw h=>?_;refine wD hd hw (qO X θ H Q) (λc M' h=>h) (λh=>h) h λc M1 θ1 H1 g1 h1=>?_
 cases c with
 | true=>exact⟨ρ,θ1,M1,hd.go g1,g1.wr,qO.go g1 h1⟩
 | false=>exact h1 θ1 H1 g1⟩
def PV (ha:QT X a ta)(hb:QW X (.BoolOp .Or (b::rest) pos) tb):QW X (.BoolOp .Or (a::b::rest) pos) (je ta tb):=⟨(Qp ha.h hb.h).of λσ H Q hxx=>by
 refine q3x3 hxx λρ θ M hd hw h=>?_;refine wD hd hw (qO X θ H Q) (λc M' h=>h) (λh=>h) h λc M1 θ1 H1 g1 h1=>?_
 cases c with
 | true=>exact h1 θ1 H1 g1
 | false=>exact⟨ρ,θ1,M1,hd.go g1,g1.wr,qO.go g1 h1⟩⟩
def P0 (h:QW X a ta):QT X a ta:=⟨PW.pt h.h⟩
def Og (h:QT X a ta):QT X (.UnaryOp .Not a pos) (dE ta):=⟨(Mm h.h).of λσ H Q hxx=>by
 refine q3x3 hxx λρ θ M hd hw h=>?_;exact wD hd hw (qO X θ H Q) (λc M' h=>h) (λh=>h) h λc M1 θ1 H1 g1 h1=>h1 θ1 H1 g1⟩
def M6 (h:QE X a g)(he:∀whole,isTrue a X.env whole=(do let v <-whole;XE a.pos;VN [v] (truthy v)):=by intro _;rfl):QT X a (gf g):=⟨(FH h.h he).of λσ H Q hxx=>by
  refine q3x3 hxx λρ θ M hd hw h=>?_;refine bi hd hw (qO X θ H Q) (λc M' h=>h) (λh=>h) h λd M1 v θ1 H1 g1 r1 h1=>?_
  cases d with
  | non=>have e:v=.non:=r1;subst e;exact⟨false,rfl,h1 θ1 H1 g1⟩
  | bl b=>have e:v=.bl b:=r1;subst e;exact⟨b,rfl,h1 θ1 H1 g1⟩
  | int i=>have e:v=.int i:=r1;subst e;exact⟨i != 0,rfl,h1 θ1 H1 g1⟩
  | str x=>
   subst r1;have h1:qO X θ H Q (if x.length<=Ur then .ok ((x.length:Int) != 0) M1 else .bad):=h1;split at h1
   ·rename_i hl;exact⟨_,⟨hl,rfl⟩,h1 θ1 H1 g1⟩
   ·exact h1.elim
  | tup xs=>
   refine q2x3 r1 λa vs e ta ra=>?_;subst e;exact⟨_,.inr (.inl ⟨vs,ta.sq,(lA ra).symm⟩),h1 θ1 H1 g1⟩
  | lst xs=>
   refine q2x3 r1 λa vs e ta ra=>?_;subst e;exact⟨_,.inl ⟨vs,ta.sq,(lA ra).symm⟩,h1 θ1 H1 g1⟩
  | ro xs=>
   refine q2x3 r1 λa vs e ta ra=>?_;subst e;exact⟨_,.inl ⟨vs,ta.sq,(lA ra).symm⟩,h1 θ1 H1 g1⟩
  | mr k=>
   refine q1x2 r1 λa e ta=>?_;subst e;have h1:qO X θ H Q (match M1[k]? with|some (.lst xs)=>.ok (!xs.isEmpty) M1|_=>.bad):=h1;cases qm:M1[k]? with
   | none=>rw[qm] at h1;exact h1.elim
   | some m=>
    cases m with
    | lst ys=>
     rw[qm] at h1;refine q1x2 (g1.wr.at_ k a _ ta qm) λvs hv ra=>?_;exact⟨_,.inl ⟨vs,.inl (.inl hv),(lA ra).symm⟩,h1 θ1 H1 g1⟩
    | _=>rw[qm] at h1;exact h1.elim
  | exc c=>exact h1.elim
  | any=>exact h1.elim⟩
def OB:QA X [] ag:=⟨uE.of λσ H Q ⟨ρ,θ,M,hd,hw,f⟩=>f [] θ H (.refl hw) rfl⟩
def SZ {gr:GA}(ha:QE X e g)(hr:QA X es gr)(h:cE e=true:=by rfl):QA X (e::es) (aa g gr):=⟨Jn ha.h hr.h (sE h)⟩
def Nv {x1}(h:QA X es gA):QE X (.Tuple es x1 pos) (aQ gA):=⟨Ms h.h⟩
def M7 (h:QA X es gA):QE X (.List es pos) (jf gA):=⟨NS h.h⟩
def LL (h:QA X es gA):QE X (.List es pos) (fZ gA):=⟨NU h.h⟩
def NV:QF X [] []:=⟨.nil⟩
def SA (h:QE X e g)(t:QF X es gs):QF X (e::es) (g::gs):=⟨.cons h.h t.h⟩
def LB {i:Int}(h:QE X e g)(hi:i=-1:=by rfl):QE X (.FormattedValue e i Y pos) (JP g):=⟨N5 h.h hi⟩
def Iw (h:QF X (a::b::es) gs):QE X (.JoinedStr (a::b::es) pos) (wQ gs ZA):=⟨by
 intro af s σ H Q I q;exact JoinedStr_many (JW h.h ZA af s σ H Q (UW _) I q)⟩
def LY {i:Int}{j p1 p2 p3 pos}(hi:i=1)(he:QE X e g):QE X (.Subscript e (.Slice Y Y (Z (.UnaryOp .USub (.Constant (.int i) j p1) p2)) p3) pos) (Ky g):=⟨by
 subst hi;intro af s σ H Q I h;refine q3x3 h λρ θ M hd hw h=>?_;have h2:tE X g σ H (λx H1=>∃a vs,x=.ref a/\sX X.K H1 a vs/\∀p,H1 p=Y->Q (.ref p) (bB H1 p (.tup vs.reverse))):=by
  refine bi hd hw (aK X θ H Q) (λc M' h=>h) (λh=>h) h λd M1 v θ1 H1 g1 r1 h1=>?_
  split at h1
  ·rename_i xs;refine q2x3 r1 λa vs e1 ta ra=>?_;exact⟨a,vs,e1,ta.sq,λp hp=>h1 _ θ1 _ (g1.trans (cQ g1.wr hp)) (gH g1.wr hp (qA ra))⟩
  ·exact h1.elim
 refine Z5 (bS (he.h af s σ H _ I h2) λv s1 hxx=>?_);obtain⟨x,H1,I1,r1,a,vs,ex,sq,q1⟩:=hxx;subst ex;cases r1;refine aaN ?_;rw[evalPart_none];refine Ue (Ue ?_);rw[ZS];refine bS ((Ll FA BC) af s1 σ H1 (λy H'=>y=.int (-1)/\H'=H1) I1 ⟨1,rfl,rfl,rfl⟩) λvst s3 hxx=>?_
 refine q2x4 hxx λy H3 I3 r3 ey eH=>?_;subst ey;subst eH;refine q1x1 r3 λtk zz1=>?_;subst zz1;have I4:L2.Inv X af σ H3 {s3 with heap:=s3.heap.push {cls:=.type "slice",data:=.fields #[.none,.none,.int (-1) tk]}}:=I3.kept (t':=s3.toks) λb ob q=>Ug _ q
 refine q1x3 (I4.tuple sq) λits rv ht hz=>?_;have hlen:its.toArray.size=vs.length:=by rw[U1];exact rv.length.symm
 refine tail_any (ops:=[.ref a,.ref s3.heap.objs.size]) ht.typeIs UJ.lookup (pN ht (Ye ..) ?_ (by rw[hlen];exact hz)) (by with_unfolding_all rfl);refine⟨.ref _,_,I4.laid (t':=s3.toks) (o:=.tup vs.reverse) (λb ob q=>Ug _ q) (Uj _) ?_,rfl,q1 _ (I4.hok.fresh (Uj _))⟩;exact⟨by rw[length_reverse];exact hz,_,rv.reverse,YF _ _⟩⟩
def Kr:QP X Y bq:=⟨IV.of λσ H Q ⟨ρ,θ,M,hd,hw,f⟩=>f θ H (.refl hw)⟩
def IF (h:QE X e g):QP X (Z e) (cZ g):=⟨HV h.h⟩
def Hm {lo hi:Option UY}(he:QE X e g)(hl:QP X lo gl)(hh:QP X hi gh):QE X (.Subscript e (.Slice lo hi Y p2) pos) (rL g gl gh):=⟨(F7 RZ he.h hl.h hh.h).of λσ H Q hxx=>by
  refine q3x3 hxx λρ θ M hd hw h=>?_;refine bi hd hw (aK X θ H Q) (λc M' h=>h) (λh=>h) h λd M1 v θ1 H1 g1 r1 h1=>?_
  refine K5 (hd.go g1) g1.wr (aK X θ1 H1 Q) (λc M' h=>h) (λh=>h) (h1.go g1) λl M2 θ2 H2 g2 h2=>?_
  refine K5 ((hd.go g1).go g2) g2.wr (aK X θ2 H2 Q) (λc M' h=>h) (λh=>h) (h2.go g2) λu M3 θ3 H3 g3 h3=>?_
  exact⟨θ3,M3,d,g3.wr,r1.go (g2.trans g3),h3.go g3⟩⟩
def PU (ha:QE X a ga)(hb:QE X b gb)(hs:Cw b:=by intro _ _;rfl):QE X (.Subscript a b pos) (g2 aB ga gb):=⟨(PR Pp ha.h hb.h hs).of λ_ _ _ h=>CG h⟩
section
variable {apos cpos:Pos}{k n:Nat}{f:Ul}{fd:VL}{ps:List Str}{F:FD}{T:String}{id:String}
theorem El (ho:QE X o go)(he:QE X e ge)(h1:cE e=true:=by rfl)(hbase:Vu o "append" X.env (Vo o X.env)=Vo o X.env:=by rfl)(hline:(apos.endLine==cpos.line)=true:=by rfl):QE X (.Call (.Attribute o "append" apos) [e] [] cpos) (gO go ge):=⟨(Q9 PySem.F.plainAttrs_list PySem.F.slot_list_append PySem.F.type_list_append DO ho.h (nL he.h uE (sE h1)) hbase (Ou h1) hline (sE h1) rfl).of λσ H Q hxx=>by
  refine q3x3 hxx λρ θ M hd hw h=>?_;refine bi hd hw (aK X θ H Q) (λc M' h=>h) (λh=>h) h λd M1 v θ1 H1 g1 r1 h1=>?_
  have h2:=aK.go g1 h1;cases d with
  | mr k=>
   have h2:aK X θ1 H1 Q (match M1[k]? with|some (.lst _)=>(ge ρ M1).bind (vp k)|_=>.bad):=h2;cases qm1:M1[k]? with
   | none=>rw[qm1] at h2;exact h2.elim
   | some m1=>
    cases m1 with
    | obj _ _=>rw[qm1] at h2;exact h2.elim
    | dK _=>rw[qm1] at h2;exact h2.elim
    | dT _=>rw[qm1] at h2;exact h2.elim
    | lst ys1=>
     rw[qm1] at h2;refine q1x2 (id r1) λa1 ea1 ta1=>?_;refine q1x2 (g1.wr.at_ k a1 _ ta1 qm1) λvs1 hv1 _=>?_;refine⟨by rw[ea1];exact .inl ⟨rfl,vs1,.inl (.inl hv1)⟩,?_⟩;refine bi (hd.go g1) g1.wr (aK X θ1 H1 Q) (λc M' h=>h) (λh=>h) h2 λdx M2 vx θ2 H2 g2 r2 h3=>?_
     have h3:aK X θ1 H1 Q (match M2[k]? with|some (.lst xs)=>if xs.length<Ur then .ok .non (M2.set k (.lst (xs++[dx]))) else .bad|_=>.bad):=h3;refine q1x2 (r1.go g2) λa ea ta=>?_;cases qm:M2[k]? with
     | none=>rw[qm] at h3;exact h3.elim
     | some m=>
      cases m with
      | obj _ _=>rw[qm] at h3;exact h3.elim
      | dK _=>rw[qm] at h3;exact h3.elim
      | dT _=>rw[qm] at h3;exact h3.elim
      | lst ys=>
       rw[qm] at h3;refine q1x2 (g2.wr.at_ k a _ ta qm) λvs hv ra=>?_;have h3:aK X θ1 H1 Q (if ys.length<Ur then .ok .non (M2.set k (.lst (ys++[dx]))) else .bad):=h3;split at h3
       ·rename_i hl;have gs:=ye (ds:=ys) g2.wr ta (cH ra (show a6 X.K θ2 H2 [dx] [vx] from⟨vx,[],rfl,r2,rfl⟩));exact⟨a,vs,vx,ea,rfl,hv,by rw[<-av ra];exact hl,h3 _ θ2 _ (g2.trans gs) rfl⟩
       ·exact h3.elim
  | _=>exact h2.elim⟩
def Pl (Fn:eM X.prog X.w X.K X.mg X.base (jF X.prog X.w) k f fd ps (sC X.K n F))(hr:bn k X.A)(hg:Gl X x)(hm:X.mg x=Z (.ref f))(hk:WQ X.K (.ref f)=true)(hb:f7 X.K fd ps [])(ha:QA X (e::es) gA)
  (hdb:(x==("__debug__":Str))=false:=by decide) (h1:cE e=true:=by rfl) (h2:eX es=true:=by rfl):QE X (.Call (.Name x p) (e::es) [] pos) (ah n F gA):=⟨J3 Fn hr hg hm hk hb ha.h hdb (sE h1) (sS h2)⟩
def K8 (hc:QC X (.builtin id) F)(hg:Gl X x)(hm:X.mg x=Y)(hv:Vv x=Z (.builtin id))(ha:QA X (e::es) gA)(hn:x≠"__name__":=by decide)(hdb:(x==("__debug__":Str))=false:=by decide)
  (h1:cE e=true:=by rfl) (h2:eX es=true:=by rfl):QE X (.Call (.Name x p) (e::es) [] pos) (aJ F gA):=⟨G2 hc.h hg hm hv ha.h hn hdb (sE h1) (sS h2)⟩
def QH (hc:QC X (.type T) F)(hg:Gl X x)(hm:X.mg x=Y)(hv:Vv x=Z (.type T))(ha:QA X (e::es) gA)(hn:x≠"__name__":=by decide)(hdb:(x==("__debug__":Str))=false:=by decide)
  (h1:cE e=true:=by rfl) (h2:eX es=true:=by rfl):QE X (.Call (.Name x p) (e::es) [] pos) (aJ F gA):=⟨Du hc.h hg hm hv ha.h hn hdb (sE h1) (sS h2)⟩
def OX (hT:tJ T)(hv:Vv x=Z (.type T))(hg:Gl X x)(hm:X.mg x=Y)(hgi:Gl X "isinstance")(hmi:X.mg "isinstance"=Y)(he:QE X e g)
  (h1:cE e=true:=by rfl) (hn:x≠"__name__":=by decide) (hd:(x==("__debug__":Str))=false:=by decide):QE X (.Call (.Name "isinstance" p) [e,.Name x p2] [] pos) (mf T g):=⟨LP hT hv hg hm hgi hmi he.h hn hd boot_isinstance (sE h1) (sE rfl) (sS rfl)⟩
end
def Qq (hg:Gl X "range")(hm:X.mg "range"=Y)(ha:QA X [a] gA)(h1:cE a=true:=by rfl):QI X tg (.Call (.Name "range" p) [a] [] pos) (ft gA):=⟨Dm hg hm ha.h (sE h1)⟩
def Mz (h:QE X e g):QI X tg e (bE g):=⟨Ox h.h⟩
def JE {es:List UY}(hg:Gl X "enumerate")(hm:X.mg "enumerate"=Y)(hv:Vv "enumerate"=Z (.type "enumerate"))(ha:QA X [a] gA)(h1:cE a=true:=by rfl):QI X (.Tuple es kt tp) (.Call (.Name "enumerate" p) [a] [] pos) (yo gA):=⟨by
 intro af s σ H R I h;refine IT hg hm hv ha.h (sE h1) af s σ H R I ?_;refine q3x3 h λρ θ M hd hw h=>?_;refine m5 hd hw (FP X θ H R) (λc M' h=>h) (λh=>h) h λds M1 vs θ1 H1 g1 r1 h1=>?_
 unfold Nj at h1;split at h1
 ·obtain⟨v,r,e,⟨a,us,e2,ta,rs⟩,rr⟩:=r1;have rr:r=[]:=rr;subst rr e2;exact⟨a,e,.inl ⟨⟨us,ta.sq⟩,h1 _ θ1 H1 g1 (uQ  (λθ2 H2 g2=>(ta.grow g2).sq) rs)⟩⟩
 ·obtain⟨v,r,e,⟨a,us,e2,ta,rs⟩,rr⟩:=r1;have rr:r=[]:=rr;subst rr e2;exact⟨a,e,.inl ⟨⟨us,ta.sq⟩,h1 _ θ1 H1 g1 (uQ  (λθ2 H2 g2=>(ta.grow g2).sq) rs)⟩⟩
 ·obtain⟨v,r,e,⟨a,us,e2,ta,rs⟩,rr⟩:=r1;have rr:r=[]:=rr;subst rr e2;exact⟨a,e,.inr ⟨⟨us,ta.sq⟩,h1 _ θ1 H1 g1 (uQ (b:=true) (λθ2 H2 g2=>(ta.grow g2).sq) rs)⟩⟩
 ·exact h1.elim⟩
section
variable {scope:Y6}{R:List Str}{iter elt:UY}{ifs:List UY}{gI:GI}{gC:GT}{px:Pos}{mk:List D->ay->bc D}
def DN:Er X scope xs R [] bp:=⟨yW⟩
def Ea (h:∀fp s2 H2 C,QT (aC X scope xs R fp s2 H2 C) c ta):Er X scope xs R [c] ta:=⟨HG λfp s2 H2 C=>(h fp s2 H2 C).h⟩
def BV (hS:cy scope X.env.kindOf [x] R X.N=true)(hm:mk=aO\/mk=eU)(hi:QI X (.Name x px) iter gI)(hts:Er X scope [x] R ifs gC)(he:∀fp s H C,QE (aC X scope [x] R fp s H C) elt ge)
  (hc:X.calm=true:=by rfl) (hs:∀x,U4 iter X.env x=pure x:=by intro _;rfl):QE X (.ListComp elt [⟨.Name x px,iter,ifs,0⟩] scope pos) (a9 gI gC ge mk):=⟨by
 rw[B7];exact yI  hS hc hm hi.h (Cc (aa1)) (C3 hS) hts.h (λfp s H C=>(he fp s H C).h) hs⟩
def BL (hS:cy scope X.env.kindOf [x] R X.N=true)(hm:mk=aO\/mk=eU)(hN:X.N.Nodup)(hi:QI X (.Name x px) iter gI)(hts:Er X scope [x] R ifs gC)(he:∀fp s H C,QE (aC X scope [x] R fp s H C) elt ge)
  (hc:X.calm=true:=by rfl) (hj:X.N[j]?=Z y:=by rfl) (hy:X.env.scope.names.lookup y=Z .local:=by rfl) (hsw:Xg (.ListComp elt [⟨.Name x px,iter,ifs,0⟩] scope pos) (Z (.Name y py)) spos.line X.env=pure true:=by rfl)
  (hs:∀x,U4 iter X.env x=pure x:=by intro _;rfl):QS X (.Assign [.Name y py] (.ListComp elt [⟨.Name x px,iter,ifs,0⟩] scope pos) spos) (aL j (a9 gI gC ge mk)):=⟨by
 rw[B7];exact se  hS hc hm hi.h (Cc (aa1)) (C3 hS) hts.h (λfp s H C=>(he fp s H C).h) hN hj hy hsw hs⟩
def LC (n:Nat)(h:is.all (λi=>decide (i<n))=true:=by rfl):QO n (bN is):=⟨λd ρ ρ' e=>by
 cases d with
 | tup ds=>exact zr h e
 | _=>cases e⟩
def wl (hS:cy scope X.env.kindOf xs R X.N=true)(h:y∈xs):(aC X scope xs R fp s H C).env.scope.names.lookup y=Z .local:=lookup_relabel_local ((cq.of hS).own y h)
def TL (i:Nat)(hS:cy scope X.env.kindOf xs R X.N=true)(hi:(xs++R)[i]?=Z y:=by rfl)(hx:y∈xs:=by simp):QG (aC X scope xs R fp s H C) (.Name y pos) (d7 i):=
 ⟨xO (X:=aC X scope xs R fp s H C) (cq.of hS).nd hi (.inl (wl hS hx)) (.inr (wl hS hx))⟩
def EZ (xs:List Str)(hS:cy scope X.env.kindOf xs R X.N=true)(hm:mk=aO\/mk=eU)(own:QO xs.length sg)(hi:QI X tg iter gI)(hg:∀fp s H C,QG (aC X scope xs R fp s H C) tg sg)(hts:Er X scope xs R ifs gC)(he:∀fp s H C,QE (aC X scope xs R fp s H C) elt ge)
  (hc:X.calm=true:=by rfl) (hs:∀x,U4 iter X.env x=pure x:=by intro _;rfl):QE X (.ListComp elt [⟨tg,iter,ifs,0⟩] scope pos) (ce gI xs.length sg gC ge mk):=⟨yI hS hc hm hi.h own.h (λfp s H C=>(hg fp s H C).h) hts.h (λfp s H C=>(he fp s H C).h) hs⟩
def zy (xs:List Str)(hS:cy scope X.env.kindOf xs R X.N=true)(hm:mk=aO\/mk=eU)(own:QO xs.length sg)(hN:X.N.Nodup)(hi:QI X tg iter gI)(hg:∀fp s H C,QG (aC X scope xs R fp s H C) tg sg)(hts:Er X scope xs R ifs gC)(he:∀fp s H C,QE (aC X scope xs R fp s H C) elt ge)
  (hc:X.calm=true:=by rfl) (hj:X.N[j]?=Z y:=by rfl) (hy:X.env.scope.names.lookup y=Z .local:=by rfl) (hsw:Xg (.ListComp elt [⟨tg,iter,ifs,0⟩] scope pos) (Z (.Name y py)) spos.line X.env=pure true:=by rfl)
  (hs:∀x,U4 iter X.env x=pure x:=by intro _;rfl):QS X (.Assign [.Name y py] (.ListComp elt [⟨tg,iter,ifs,0⟩] scope pos) spos) (aL j (ce gI xs.length sg gC ge mk)):=⟨se hS hc hm hi.h own.h (λfp s H C=>(hg fp s H C).h) hts.h (λfp s H C=>(he fp s H C).h) hN hj hy hsw hs⟩
end
def jo:UY->Bool
 | .ListComp ..=>false
 | .SetComp ..=>false
 | .DictComp ..=>false
 | _=>true
def kx {t:Option UY}(h:jo e=true):Xg e t l env=pure false:=by
 cases e <;> first|rfl|exact ff h
section
variable {st:WA}{stmts:List WA}{t u:GS}
def MX:QB X [] aG:=⟨Ih.of λD σ H ⟨ρ,θ,M,hd,hw,f⟩=>f σ θ H (.refl hw) hd⟩
def Ja (h1:QS X st t)(h2:QB X stmts u):QB X (st::stmts) (aj t u):=⟨(ED h1.h h2.h).of λD σ H hxx=>by
 refine q3x3 hxx λρ θ M hd hw h=>?_;refine⟨ρ,θ,M,hd,hw,?_⟩;unfold aj at h;cases q:t ρ M with
 | ok f M1=>
  rw[q] at h;cases f with
  | nx ρ1=>exact λσ1 θ1 H1 g1 d1=>⟨ρ1,θ1,M1,d1,g1.wr,bR.go g1 h⟩
  | rt d=>exact h
  | bk ρ1=>exact h
  | ct ρ1=>exact h
 | err c M1=>rwa [q] at h
 | bad=>rwa [q] at h⟩
def Nq (h1:QS X st t):QB X [st] t:=⟨Ig h1.h⟩
def NY (i:Nat){x:Str}(hN:X.N.Nodup)(he:QE X e g)(hi:X.N[i]?=Z x:=by rfl)(hx:Ep X.env.scope x:=by first|exact YB rfl|exact XC rfl)(hs:jo e=true:=by rfl)(hf:X.fn x=true\/X.env.scope.names.lookup x=Z .local:=by first|exact .inl rfl|exact .inr rfl) :
  QS X (.Assign [.Name x pos'] e pos) (aL i g):=⟨ss i hN he.h hi hx (kx hs) hf⟩
def NO (he:QE X e g):QS X (.Return (Z e) pos) (aF g):=⟨(Mo he.h).of λD σ H ⟨ρ,θ,M,hd,hw,h⟩=>
 bi hd hw (bR X θ H D) (λc M' h=>h) (λh=>h) h λd M1 v θ1 H1 g1 r1 h1=>h1 v θ1 H1 g1 r1⟩
def Ib (he:QE X e g)(hs:jo e=true:=by rfl):QS X (.Expr e pos) (bI g):=⟨(Jw he.h (kx hs)).of λD σ H ⟨ρ,θ,M,hd,hw,h⟩=>
 bi hd hw (bR X θ H D) (λc M' h=>h) (λh=>h) h λd M1 v θ1 H1 g1 r1 h1=>h1 σ θ1 H1 g1 (hd.go g1)⟩
def Pn {a b:List WA}(hc:QT X c tc)(ha:QB X a t)(hb:QB X b u):QS X (.If c a b pos) (cD tc t u):=⟨(Rk hc.h ha.h hb.h).of λD σ H hxx=>by
 refine q3x3 hxx λρ θ M hd hw h=>?_;refine wD hd hw (bR X θ H D) (λc M' h=>h) (λh=>h) h λc M1 θ1 H1 g1 h1=>?_
 cases c with
 | true=>exact⟨ρ,θ1,M1,hd.go g1,g1.wr,bR.go g1 h1⟩
 | false=>exact⟨ρ,θ1,M1,hd.go g1,g1.wr,bR.go g1 h1⟩⟩
def qn (i:Nat){x:Str}(hN:X.N.Nodup)(hi:X.N[i]?=Z x:=by rfl)(hx:Ep X.env.scope x:=by first|exact YB rfl|exact XC rfl)(hf:X.fn x=true\/X.env.scope.names.lookup x=Z .local:=by first|exact .inl rfl|exact .inr rfl):QG X (.Name x pos) (d7 i):=⟨gg i hN hi hx hf⟩
def IQ:QV X [] []:=⟨by
 intro af s σ H vs us Q I r h;obtain⟨ρ,θ,M,ds,hd,hw,rd,ρ',e,h⟩:=h;cases ds with
 | cons d ds=>cases e
 | nil=>
  subst rd;cases e;exact CI af s σ H [] us Q I r ⟨rfl,h σ hd⟩⟩
def Qd {i:Nat}(h1:QG X e (d7 i))(h2:QV X es is)(hs:(VB (e::es) X.env).map (·.2)=ZY e X.env::(VB es X.env).map (·.2):=by rfl):QV X (e::es) (i::is):=⟨by
 intro af s σ H vs us Q I r h;obtain⟨ρ,θ,M,ds,hd,hw,rd,ρ',e1,h⟩:=h;cases ds with
 | nil=>cases e1
 | cons d ds=>
  refine q2x3 rd λv vr e2 rv rr=>?_;subst e2;refine Ae h1.h h2.h hs af s σ H _ us Q I r ⟨v,vr,rfl,ρ,θ,M,d,hd,hw,rv,_,rfl,λσ1 d1=>?_⟩;exact⟨_,θ,M,ds,d1,hw,rr,ρ',e1,h⟩⟩
def Lr {k:Nat}(h:QV X es is)(hc:X.calm=true:=by rfl)(hl:is.length=n:=by rfl)(hn:(VB es X.env).length=n:=by rfl)(hst:(VB es X.env).findIdx? (·.1)=Y:=by rfl):QG X (.Tuple es k pos) (bN is):=⟨Nt hc h.h hl hn hst⟩
def JD:Rg X [] []:=⟨by
 intro af s σ H vs us Q I r h;obtain⟨ρ,θ,M,ds,hd,hw,rd,ρ',e,h⟩:=h;cases ds with
 | cons d ds=>cases e
 | nil=>
  subst rd;cases e;exact CI af s σ H [] us Q I r ⟨rfl,h σ hd⟩⟩
def P9 {ss:List GG}(h1:QG X e sg)(h2:Rg X es ss)(hs:(VB (e::es) X.env).map (·.2)=ZY e X.env::(VB es X.env).map (·.2):=by rfl):Rg X (e::es) (sg::ss):=⟨by
 intro af s σ H vs us Q I r h;obtain⟨ρ,θ,M,ds,hd,hw,rd,ρ',e1,h⟩:=h;cases ds with
 | nil=>cases e1
 | cons d ds=>
  refine q2x3 rd λv vr e2 rv rr=>?_;subst e2;unfold vX at e1;split at e1
  ·rename_i ρ1 q1;refine Ae h1.h h2.h hs af s σ H _ us Q I r ⟨v,vr,rfl,ρ,θ,M,d,hd,hw,rv,ρ1,q1,λσ1 d1=>?_⟩;exact⟨ρ1,θ,M,ds,d1,hw,rr,ρ',e1,h⟩
  simp_all⟩
def Je {ss:List GG}{k:Nat}(h:Rg X es ss)(hc:X.calm=true:=by rfl)(hl:ss.length=n:=by rfl)(hn:(VB es X.env).length=n:=by rfl)(hst:(VB es X.env).findIdx? (·.1)=Y:=by rfl):QG X (.Tuple es k pos) (NG ss):=⟨by
 intro af s σ H v u Q I r hw;obtain⟨ρ,θ,M,d,hd,hwr,rd,ρ',e1,hw⟩:=hw;cases d with
 | tup ds=>
  refine q2x3 rd λa vs e2 ta rs=>?_;refine GX  hc h.h hn hst af s σ H v u Q I r ⟨a,vs,e2,ta.sq,by rw[<-av rs,(wm e1),hl],?_⟩;exact⟨ρ,θ,M,ds,hd,hwr,rs,ρ',e1,hw⟩
 | _=>cases e1⟩
def LU (he:QE X e g)(hg:QG X tg s)(hs:jo e=true:=by rfl)(hw:W2 [tg] e X.env=pure Y:=by rfl)(h1:(VB [tg] X.env).map (·.2)=[ZY tg X.env]:=by rfl):QS X (.Assign [tg] e pos) (dM s g):=⟨(FS he.h hg.h (kx hs) hw h1).of λD σ H hxx=>by
 refine q3x3 hxx λρ θ M hd hwr h=>?_;refine bi hd hwr (bR X θ H D) (λc M' h=>h) (λh=>h) h λd M1 v θ1 H1 g1 r1 h1=>?_
 cases q:s d ρ with
 | some ρ1=>
  rw[q] at h1;exact⟨ρ,θ1,M1,d,hd.go g1,g1.wr,r1,ρ1,q,λσ' d'=>h1 σ' θ1 H1 g1 d'⟩
 | none=>rw[q] at h1;exact h1.elim⟩
def Nm (he:QE X e g)(ho:QE X o go)(hi:QE X i gi)
  (ha:∀v,ZY (.Subscript o i ip) X.env v=(do
   let ov <-VN [v] (Vo o X.env)
   let iv <-VN [v,ov] (Vo i X.env)
   XE ip
   VN [v,ov,iv] (Zx ov iv v)
   release [v,ov,iv] []):=by intro _;rfl)
  (hs:jo e=true:=by rfl) (hw:W2 [.Subscript o i ip] e X.env=pure Y:=by rfl):QS X (.Assign [.Subscript o i ip] e pos) (rA go gi g):=⟨(FS he.h (Lq ho.h hi.h Ht ha) (by unfold Yx;exact kx hs) hw rfl).of λD σ H hxx=>by
  refine q3x3 hxx λρ θ M hd hwr h=>?_;refine bi hd hwr (bR X θ H D) (λc M' h=>h) (λh=>h) h λdx M1 vx θ1 H1 g1 r1 rfl=>?_
  refine bi (hd.go g1) g1.wr (bR X θ1 H1 D) (λc M' h=>h) (λh=>h) (rfl.go g1) λdob M2 vo θ2 H2 g2 r2 h2=>?_
  refine bi ((hd.go g1).go g2) g2.wr (bR X θ2 H2 D) (λc M' h=>h) (λh=>h) (h2.go g2) λdi M3 vi θ3 H3 g3 r3 h3=>?_
  have h4:=h3.go g3;unfold yj at h4;split at h4
  ·rename_i k j;split at h4
   ·rename_i xs q;split at h4
    ·rename_i n hn;refine q1x2 (r2.go g3) λa ea ta=>?_;refine q1x2 (g3.wr.at_ k a _ ta q) λvs ev rv=>?_;refine⟨a,vs,j,n,ea,r3,ev,by rw[<-av rv];exact hn,?_⟩;have gs:=ye (ds:=xs) g3.wr ta (zn (r1.go (g2.trans g3)) n rv);exact h4 σ θ3 _ gs ((((hd.go g1).go g2).go g3).go gs)
    ·exact h4.elim
   ·exact h4.elim
  ·exact h4.elim⟩
def MJ {iter:UY}(hp:aax (UA X.prog X.w) X.A X.env X.xe)(hi:QI X tg iter gI)(hg:QG X tg sg)(hb:QB X body gB)(hc:X.calm=true:=by rfl)(hs:∀x,U4 iter X.env x=pure x:=by intro _;rfl) :
  QS X (.For tg iter body [] pos) (gZ gI sg gB):=⟨Jl hp hc hi.h.toF hg.h hb.h hs⟩
def GB (hp:aax (UA X.prog X.w) X.A X.env X.xe)(hc:QT X c tc)(hb:QB X body gB):QS X (.While c body [] pos) (nk n tc gB):=⟨F0 hp hc.h hb.h⟩
def Fh {x:Str}(k:Ec X.K X.mg x C)(hg:Gl X x)(he:QE X e g)(hc:X.calm=true:=by rfl)(h1:cE e=true:=by rfl)(hd:(x==("__debug__":Str))=false:=by decide):QS X (.Raise (Z (.Call (.Name x np) [e] [] cpos)) Y pos) (gu x g):=⟨Gj k hc hg he.h h1 hd⟩
end
end
section
variable {X:Cx}{c f m:Str}{C:Ul}{o e value:UY}{es:List UY}{g go gv:GE}{gA:GA}{pos pos' apos p:Pos}{k n:Nat}{fa:Ul}{fd:VL}{ps:List Str}{F:FD}{pl:Sem Bool}
def NM (kc:Kc X.K X.mg c C)(na:hO X.K C f)(he:QE X e g)(hb:Vu e f X.env (Vo e X.env)=Vo e X.env:=by rfl):QE X (.Attribute e f pos) (cX c f g):=⟨(NB he.h hb).of λσ H Q hxx=>by
  refine q3x3 hxx λρ θ M hd hw h=>?_;refine bi hd hw (aK X θ H Q) (λc M' h=>h) (λh=>h) h λd M1 v θ1 H1 g1 r1 h1=>?_
  have h2:=aK.go g1 h1;cases q:jE c d M1 with
  | none=>simp only[q] at h2;exact h2.elim
  | some p=>
   obtain⟨j,fs⟩:=p;simp only[q] at h2;refine q3x5 (t9 g1.wr kc.at_ r1 q) λa dx vs ea ta hv rf _=>?_;cases ql:fs.lookup f with
   | none=>simp only[ql] at h2;exact h2.elim
   | some y=>
    simp only[ql] at h2;refine q1x2 (Bn rf ql) λu eu ru=>?_;exact⟨a,C,dx,vs,u,ea,hv,kc.cl,na,eu,h2 u θ1 H1 (.refl g1.wr) ru⟩⟩
def N9 (kc:Kc X.K X.mg c C)(na:hO X.K C f)(ho:QE X o go)(hv:QE X value gv)(hs:jo value=true:=by rfl):QS X (.Assign [.Attribute o f pos'] value pos) (gQ c f go gv):=⟨N3 kc na ho.h hv.h (kx hs)⟩
def Nu (kc:Kc X.K X.mg c C)(hm:Ay X.K C m fa)(Fn:eM X.prog X.w X.K X.mg X.base (jF X.prog X.w) k fa fd ps (sC X.K n F))(hr:bn k X.A)(hb:f7 X.K fd ps [])(ho:QE X o go)(ha:QA X (e::es) gA)
  (h1:cE e=true:=by rfl) (h2:eX es=true:=by rfl)
  (ht:Vo (.Call (.Attribute o m apos) (e::es) [] pos) X.env=(do
   let ov <-Vo o X.env
   XE apos.atName
   let (f,first) <-VN [ov] (XB ov m pl)
   Zk pos f first (Wm pos (UR (e::es) X.env)) (W4 pos (VY [] X.env))):=by rfl):QE X (.Call (.Attribute o m apos) (e::es) [] pos) (dQ c m n F go gA):=⟨(IH  ho.h kc.cl hm Fn hr hb .nil jB ha.h (sE h1) (sS h2) ht).of λσ H Q h=>EW kc h⟩
def HM (kc:Kc X.K X.mg c C)(hm:Ay X.K C m fa)(Fn:eM X.prog X.w X.K X.mg X.base (jF X.prog X.w) k fa fd ps (sC X.K n F))(hr:bn k X.A)(hb:f7 X.K fd ps [])(ho:QE X o go)
  (ht:Vo (.Call (.Attribute o m apos) [] [] pos) X.env=(do
   let ov <-Vo o X.env
   XE apos.atName
   let (f,first) <-VN [ov] (XB ov m pl)
   Zk pos f first (Wm pos (UR [] X.env)) (W4 pos (VY [] X.env))):=by rfl):QE X (.Call (.Attribute o m apos) [] [] pos) (dQ c m n F go ag):=⟨(E3  ho.h kc.cl hm Fn hr hb .nil jB ht).of λσ H Q h=>by
  refine q3x3 (EW kc h) λρ θ M hd hw h=>?_;refine⟨ρ,θ,M,hd,hw,?_⟩;cases q:go ρ M with
  | ok d M1=>
   rw[q] at h;intro v θ1 H1 g1 r1;refine q3x4 (h v θ1 H1 g1 r1) λa dx fs e1 e2 e3 h=>?_;refine⟨a,dx,fs,e1,e2,e3,?_⟩;refine q3x3 h λρ' θ' M' hd' hw' h'=>?_;exact h' [] θ' H1 (.refl hw') rfl
  | err c2 M1=>rwa [q] at h
  | bad=>rwa [q] at h⟩
def Kt (kc:Kc X.K X.mg c C)(Mc:Mk X.K C fa)(Fn:eM X.prog X.w X.K X.mg X.base (jF X.prog X.w) k fa fd ps (sC X.K n F))(hr:bn (k+1) X.A)(hg:Gl X c)(hb:f7 X.K fd ps [])(ha:QA X (e::es) gA)
  (hdb:(c==("__debug__":Str))=false:=by decide) (h1:cE e=true:=by rfl) (h2:eX es=true:=by rfl):QE X (.Call (.Name c p) (e::es) [] pos) (rY c n F gA):=⟨(Jm Mc Fn hr hg kc.m hb .nil jB ha.h hdb (sE h1) (sS h2)).of λσ H Q h=>Kk kc.at_ h⟩
def Ol {add:Bool}(i:Nat)(hN:X.N.Nodup)(hop:op=if add then .Add else .Sub)(he:QE X e g)(hi:X.N[i]?=Z x:=by rfl)(hx:Ep X.env.scope x:=by first|exact YB rfl|exact XC rfl)(hf:X.fn x=true\/X.env.scope.names.lookup x=Z .local:=by first|exact .inl rfl|exact .inr rfl) :
  QS X (.AugAssign (.Name x pos') op e pos) (G8 i add g):=⟨by
 have ip:RO X op (R5 λi j=>if add then i+j else i-j):=by
  subst hop;cases add with
  | true=>exact Oj
  | false=>exact Ma
 refine(OE hN hi hx he.h ip hf).of λD σ H hxx=>?_
 refine q3x3 hxx λρ θ M hd hw h=>?_;unfold G8 ae at h;split at h
 ·rename_i d q;refine q1x2 (hd.at_ i d q) λv e1 r=>?_;refine⟨v,e1,?_⟩;refine bi hd hw (bR X θ H D) (λc M' h=>h) (λh=>h) h λy M1 vy θ1 H1 g1 r1 h1=>?_
  cases d with
  | int a=>
   cases y with
   | int b=>exact⟨a,b,r,r1,h1 _ θ1 H1 g1 ((hd.go g1).set (d:=.int (if add then a+b else a-b)) rfl i)⟩
   | _=>exact h1.elim
  | _=>exact h1.elim
 ·exact h.elim⟩
end
structure QD (X:Cx)(pos:Pos)(keys:List (Option UY))(values:List UY)(tab:List (Str×Int)):Prop where
 h:Q1 X pos keys values (Ry tab)
section
variable {X:Cx}{e o lo hi i:UY}{g go gl gh:GE}{pos ip sp dpos p1 p2:Pos}{keys:List (Option UY)}{values:List UY}{tab:List (Str×Int)}
def NW (he:QE X e g)(ho:QE X o go)(hl:QE X lo gl)(hh:QE X hi gh)(hs:jo e=true:=by rfl)(hw:W2 [.Subscript o (.Slice (Z lo) (Z hi) Y sp) ip] e X.env=pure Y:=by rfl) :
  QS X (.Assign [.Subscript o (.Slice (Z lo) (Z hi) Y sp) ip] e pos) (Ia go gl gh g):=⟨by
 intro af s σ H D I h;refine q3x3 h λρ θ M hd hwr h=>?_;refine ZH (bS (he.h af s σ H (λx H1=>∃d1 θ1 M1,Go X.K θ H θ1 H1 M1/\cC X.K θ1 H1 d1 x/\bR X θ H D (bc.bind (go ρ M1) λo M2=>(gl ρ M2).bind λl M3=>(gh ρ M3).bind λh M4=>(jh o d1 l h M4).bind λ_ M5=>.ok (.nx ρ) M5)) I
  (bi hd hwr (bR X θ H D) (λc M' h=>h) (λh=>h) h λd1 M1 v θ1 H1 g1 r1 h1=>⟨d1,θ1,M1,g1,r1,h1⟩)) λv s1 hxx=>?_) (by unfold Yx;exact kx hs) hw
 obtain⟨x,H1,I1,r1,d1,θ1,M1,g1,rd1,h1⟩:=hxx;show Uq _ X.A (do
   let ov <-VN [v] (Vo o X.env)
   let iv <-VN [v,ov] (Vo (.Slice (Z lo) (Z hi) Y sp) X.env)
   XE ip
   VN [v,ov,iv] (Zx ov iv v)
   release [iv,v,ov] []) _ _ s1
 have h1:=bR.go g1 h1;refine Ud (UL (bS (ho.h af s1 σ H1 (λy H2=>∃d2 θ2 M2,Go X.K θ1 H1 θ2 H2 M2/\cC X.K θ2 H2 d2 y/\bR X θ1 H1 D (bc.bind (gl ρ M2) λl M3=>(gh ρ M3).bind λh M4=>(jh d2 d1 l h M4).bind λ_ M5=>.ok (.nx ρ) M5)) I1
  (bi (hd.go g1) g1.wr (bR X θ1 H1 D) (λc M' h=>h) (λh=>h) h1 λd2 M2 v θ2 H2 g2 r2 h2=>⟨d2,θ2,M2,g2,r2,h2⟩)) λov s2 hxx=>?_))
 obtain⟨y,H2,I2,r2,d2,θ2,M2,g2,rd2,h2⟩:=hxx;have h2:=bR.go g2 h2;refine Ud (UL (aaN ?_));rw[ZS];refine bS (hl.h af s2 σ H2 (λz H3=>∃d3 θ3 M3,Go X.K θ2 H2 θ3 H3 M3/\cC X.K θ3 H3 d3 z/\bR X θ2 H2 D (bc.bind (gh ρ M3) λh M4=>(jh d2 d1 d3 h M4).bind λ_ M5=>.ok (.nx ρ) M5)) I2
  (bi ((hd.go g1).go g2) g2.wr (bR X θ2 H2 D) (λc M' h=>h) (λh=>h) h2 λd3 M3 v θ3 H3 g3 r3 h3=>⟨d3,θ3,M3,g3,r3,h3⟩)) λvl s3 hxx=>?_
 obtain⟨z,H3,I3,r3,d3,θ3,M3,g3,rd3,h3⟩:=hxx;have h3:=bR.go g3 h3;rw[ZS];refine bS (hh.h af s3 σ H3 (λz H4=>∃d4 θ4 M4,Go X.K θ3 H3 θ4 H4 M4/\cC X.K θ4 H4 d4 z/\bR X θ3 H3 D ((jh d2 d1 d3 d4 M4).bind λ_ M5=>.ok (.nx ρ) M5)) I3
  (bi (((hd.go g1).go g2).go g3) g3.wr (bR X θ3 H3 D) (λc M' h=>h) (λh=>h) h3 λd4 M4 v θ4 H4 g4 r4 h4=>⟨d4,θ4,M4,g4,r4,h4⟩)) λvu s4 hxx=>?_
 obtain⟨z4,H4,I4,r4,d4,θ4,M4,g4,rd4,h4⟩:=hxx;have h4:=bR.go g4 h4;rw[evalPart_none];refine Ue ?_;have I5:L2.Inv X af σ H4 {s4 with heap:=s4.heap.push {cls:=.type "slice",data:=.fields #[vl,vu,.none]}}:=I4.kept (t':=s4.toks) λb ob q=>Ug _ q
 rcases OC d2 d1 d3 d4 M4 with e|⟨l,h,k,ys,xs,e34,e21,q,hc,e⟩
 ·rw[e] at h4;exact VG h4
 rw[e] at h4;have rd3':z=.int l:=by rw[e34.1] at rd3;exact rd3
 have rd4':z4=.int h:=by rw[e34.2] at rd4;exact rd4
 rw[rd3'] at r3;rw[rd4'] at r4;rw[e21.2] at rd1;rw[e21.1] at rd2;refine q2x3 ((rd1.go (g2.trans (g3.trans g4)))) λb us eb tb rus=>?_;refine q1x2 (rd2.go (g3.trans g4)) λa ea ta=>?_;refine q1x2 (g4.wr.at_ k a _ ta q) λvs ev rvs=>?_;rw[eb] at r1;rw[ea] at r2;have e1:v=.ref b:=r1;have e2:ov=.ref a:=r2;rw[e1,e2];have hne:a≠b:=λz=>tb.2 (by rw[<-z];exact Vw ta)
 have lx:=av rvs;have ly:=av rus;refine Ud (ZO (Ud (UL (Dw I5 ev tb.1 hne (Ye ..) r3 r4 hc.1 hc.2.1 (by rw[<-lx];exact hc.2.2.1) (by rw[<-lx,<-ly];exact hc.2.2.2) λs' I'=>?_))));have gs:=ye (ds:=xs) (ds':=xs.take l.toNat++ys++xs.drop h.toNat) g4.wr ta (cH (cH (qL _ rvs) rus) (qS _ rvs));exact wpAny_release ⟨σ,_,I',h4 σ θ4 _ gs (((((hd.go g1).go g2).go g3).go g4).go gs)⟩⟩
def LR {i:Nat}{a:UY}{pt:Pos}{kt k2 pt2}(hN:X.N.Nodup)(ha:QA X [a,b] ga)(hc:X.calm=true:=by rfl)(hi:X.N[i]?=Z x:=by rfl)(hj:X.N[j]?=Z y:=by rfl)(hij:i≠j:=by decide)
  (hx:X.env.scope.names.lookup x=Z .local:=by rfl) (hy:X.env.scope.names.lookup y=Z .local:=by rfl)
  (hw:W2 [.Tuple [.Name x px,.Name y py] kt pt] (.Tuple [a,b] k2 pt2) X.env=pure (Z [x,y]):=by rfl) :
  QS X (.Assign [.Tuple [.Name x px,.Name y py] kt pt] (.Tuple [a,b] k2 pt2) pos) (Ef i j ga):=⟨(Nb hc hN hi hj hij hx hy ha.h hw rfl).of λD σ H hxx=>by
 refine q3x3 hxx λρ θ M hd hwr h=>?_;refine m5 hd hwr (bR X θ H D) (λc M' h=>h) (λh=>h) h λds M1 vs θ1 H1 g1 r1 h1=>?_
 match ds,r1,h1 with
 | [d,e],⟨v,r,e1,rv,v2,r2,e2,rv2,e3⟩,h1=>
  subst e3 e2;exact⟨v,v2,e1,h1 _ θ1 H1 g1 (((hd.go g1).set rv i).set rv2 j)⟩
 | [],_,h1=>exact VG h1
 | [_],_,h1=>exact VG h1
 | _::_::_::_,_,h1=>exact VG h1⟩
def Lw:QD X pos [] [] []:=⟨Kb⟩
def SQ {k:Str}{k1 k2}(h:QD X pos keys values tab):QD X pos (Z (.Constant (.str k) k1 p1)::keys) (.Constant (.int v) k2 p2::values) ((k,v)::tab):=⟨Gb F3 BC h.h⟩
def Mn {k:Nat}(hr:bn k X.A)(hD:QD X dpos keys values tab)(hi:QE X i g)(hall:keys.all (·.isSome)=true:=by rfl)(hl:keys.length=values.length:=by rfl)(h0:keys≠[]:=by simp)(h15:keys.length<=15:=by decide)(ht:tab.length<=15:=by decide)(hs:DI i:=by intro _ _;rfl) :
  QE X (.Subscript (.Dict keys values dpos) i pos) (J9 tab g):=⟨(wU (F4 hr) (H9 hD.h hall hl h0 h15) hi.h hs).of λσ H Q hxx=>by
 refine q3x3 hxx λρ θ M hd hw h=>?_;intro p hp;refine wo ⟨aX,vL tab,by simp[Rm,vL,kV],by simp[vL,ht],?_⟩;rw[Iz];have g0:Go X.K θ H θ (bB H p (.dK (jd [] (vL tab)))) M:=cQ hw hp;refine bi (hd.go g0) g0.wr (aK X θ (bB H p (.dK (jd [] (vL tab)))) Q) (λc M' h=>h) (λh=>h) (aK.go g0 h) λd M1 v θ1 H1 g1 r1 h1=>?_
 cases d with
 | str x=>
  have h1:aK X θ (bB H p (.dK (jd [] (vL tab)))) Q (match jU (jd [] (vL tab)) (XD x) with|some (.int i)=>.ok (.int i) M1|_=>.bad):=h1;subst r1;cases q:jU (jd [] (vL tab)) (XD x) with
  | none=>rw[q] at h1;exact VG h1
  | some y=>
   rw[q] at h1;cases y with
   | int n=>exact⟨p,.int n,rfl,by have:=uj.k (k:=XD x) (g1.keep p _ aX (hw.fresh hp) (by simp));rwa [q] at this,h1 _ θ1 H1 g1 rfl⟩
   | _=>exact VG h1
 | _=>exact VG h1⟩
end
structure Mf (K:Uu)(C:Ul)(x qual:Str)(st:WA)(f:Ul)(fd:VL)(ps:List Str):Prop where
 F:IK K x qual st f fd
 me:Ay K C x f
 b:f7 K fd ps []
def MK {K:Uu}{st:WA}{k:Nat}(F:IK K x qual st f fd)(S:fe N ps (aM st))(hn:ps.length=n)
  (hbody:∀(cdv:Uh) (A:Vd) (outer:List Env) (s:Ui) (H:Hp) (E:XK),bn k (A.deeper (WR qual (aM st) s.heap.objs.size f cdv))->QB (iS (jF P w) P w K mg base N qual (aM st) f cdv A outer s H E) (cz st) g) :
  eM P w K mg base (jF P w) (k+1) f fd ps (sC K n (aP (N.length-n) g)):=S4 F S hn λcdv A outer s H E hr=>(hbody cdv A outer s H E hr).h
def Lv {K:Uu}{st:WA}{k:Nat}(F:IK K x x st f fd)(hns:V5 K Uv x=Z (Z (.ref f)))(T:Bj K x c Pt)(S:fe N ps (aM st))(hn:ps.length=n)
  (hbody:∀(A:Vd) (outer:List Env) (s:Ui) (H:Hp) (E:XK),bn k (A.deeper (WR x (aM st) s.heap.objs.size f (.ref c)))->QB (iS (jF P w) P w K mg base N x (aM st) f (.ref c) A outer s H E) (cz st) g) :
  eM P w K mg base (jF P w) (k+1) f fd ps (sC K n (aP (N.length-n) g)):=P6 F hns T S hn λA outer s H E hr=>(hbody A outer s H E hr).h
def Kl {k:Nat}
  (T:Bj X.K x c P) (hr:bn (k+2) X.A) (hg:Gl X "min") (hm:X.mg "min"=Y) (hv:Vv "min"=Z (.builtin "min")) (S:fe N [px] scope) (he:QE X e g)
  (hbody:∀(q c':Ul) (A:Vd) (outer:List Env) (s:Ui) (H:Hp) (E:XK),bn k (A.deeper (WR (dD x) scope s.heap.objs.size q (.ref c')))->
   QE (iS (jF X.prog X.w) X.prog X.w X.K X.mg X.base N (dD x) scope q (.ref c') A outer s H E) body gb)
  (hb:∀(pm cv ctv:Uh) (s:Ui) (u:Uh),XU s (zO (dD x) params body scope pm cv ctv) ⟨[u],[]⟩ [(px,u)]:=by intros;exact .of_eq rfl)
  (hcode:X.env.code=.ref c:=by rfl) (hglob:X.env.globals=Uv:=by rfl) (hq:X.env.qual++("<lambda>":Str)=dD x:=by rfl)
  (hcl:closureFor scope X.env=pure []:=by rfl) (hd:defaultsOf params X.env=([],[]):=by rfl) (hcalm:X.calm=true:=by rfl) (h1:cE e=true:=by rfl) :
  QE X (.Call (.Name "min" p) [e] [⟨Z "key",.Lambda params body scope lpos,kpos⟩] pos) (yp (HJ (N.length-1) gb) g):=⟨by
 intro af s σ H Q I h;refine q3x3 h λρ θ M hden hw h=>?_;have hs:UR [e] X.env=[(false,Vo e X.env)]:=by rw[sE h1];rfl
 refine Wu (rM I hg hm hv ?_);refine callWith_kw (e:=e) (rest:=[]) (bS ((nL he.h uE hs) pos af s σ H _ I (show KY (tE X g) MM σ H (λxs H1=>∃v d θ1 M1,xs=[v]/\Go X.K θ H θ1 H1 M1/\cC X.K θ1 H1 d v/\aK X θ H Q (match d with | .lst ds=>Bb (HJ (N.length-1) gb) ds M1 | .ro ds=>Bb (HJ (N.length-1) gb) ds M1|_=>.bad)) from
  bi hden hw (aK X θ H Q) (λc M' h=>h) (λh=>h) h λd M1 v θ1 H1 g1 r1 h1=>⟨v,d,θ1,M1,rfl,g1,r1,h1⟩)) λus s1 hxx=>?_) (by rw[hs];rfl) (by rw[hs];rfl)
 obtain⟨xs,H1,I1,rx,v,d,θ1,M1,ex,g1,r1,h1⟩:=hxx;subst ex;refine q1x2 (ju rx) λu zz1 ru=>?_;subst zz1;refine kws_cons (bS (Hg I1 g1.wr T hcode hglob hq hcl hd) λuq s2 ⟨H2,I2,Md⟩=>kws_nil ?_);obtain⟨⟨q,c',pm,ctv,rfl,nq,hfq,hfc⟩,g2⟩:=Md;have h2:=aK.go (g1.trans g2) h1;have Fn:=Ow (P:=X.prog) (w:=X.w) (K:=X.K) (mg:=X.mg) (base:=X.base) (qual:=dD x) (params:=params) (body:=body) (scope:=scope) (pm:=pm) (ctv:=ctv) (q:=q) (c:=c') (n:=1) S rfl (λA outer s H E hr=>(λq c' A outer s H E hr=>(hbody q c' A outer s H E hr).h) q c' A outer s H E hr);have run:∀(l:Ul) (ds:List D) (vs:List V),u=.ref l->sL X.K θ1 H2 l vs->a6 X.K θ1 H2 ds vs->aK X θ1 H2 Q (Bb (HJ (N.length-1) gb) ds M1)->Uq (UA X.prog X.w) X.A (call (.builtin "min") [u] [(Vx "key",.ref q)]) (EP X af σ Q) X.xe s2:=λl ds vs eu ta r hh=>by
  rw[eu];exact Fi Fn hr (hb pm _ ctv) hcalm I2 g2.wr ta r hfq hfc hh
 show Uq _ X.A (call (.builtin "min") [u] [(Vx "key",.ref q)]) _ _ s2;cases d with
 | lst ds=>
  refine q2x3 (r1.go g2) λa vs ea ta rs=>?_;subst ea;exact run a ds vs ru (.inl ⟨.inl ta.1,ta.2⟩) rs h2
 | ro ds=>
  refine q2x3 (r1.go g2) λa vs ea ta rs=>?_;subst ea;exact run a ds vs ru ta rs h2
 | _=>exact h2.elim⟩
def Iu {l:Xy}{k:Nat}{K:ZV->Uu}
  (hn:l.most=Z n) (hn2:n<=Ur) (hdf:d.params.defaults=[]) (hr:bn k ZD) (hY:∀(w:UN) (h:Vn),YP w h->(K w.params).In h)
  (hF:∀(w:UN) (mg:Str->Option Uh) (fa:Ul) (h:Vn),(K w.params).In h->h.Ns Uv mg->mg d.name=Z (.ref fa)->
   ∃fd:VL,(∀(s:Ui) (u:Uh),XU s fd ⟨[u],[]⟩ [(x,u)])/\∀base:Vn,(K w.params).In base->base.Ns Uv mg->eM l.prog w (K w.params) mg base (jF l.prog w) k fa fd [x] (sC (K w.params) 1 F))
  (tabs:∀w:UN,∃(ls:List (Str×abu×Ul×Ul)) (bm:Ul),(∀p∈ls,(YS q).find? (λe=>e.name==p.1)=Z p.2.1/\Wg (K w.params) p.1=Z (p.2.2.1,p.2.2.2)/\(K w.params).lookup p.2.2.2=Y)/\
   (∀y,y∈cw->V5 (K w.params) Uv y=Z Y\/∃p∈ls,p.1=y)/\V5 (K w.params) Uv "__builtins__"=Z (Z (.ref bm))/\(K w.params).lookup bm=Y)
  (ht:∀ns:List Int,ns.length<=n->∃M',F [.ro (ns.map D.int)] []=.ok (.bl true) M') :
  W.WalkO q loose XP YP l.row.toRowW d [] (λf vs=>PySem.call f vs):=
 LA (CX:=λw=>jF l.prog w) (sp:=λw=>sC (K w.params) 1 F) hn hn2 hdf hr hY hF tabs (λw H a ns hl tb hS=>MV tb hS (ht ns hl)) λw H s e s' z=>Rf z
def Gz {K:Uu}:∀p∈([]:List (Str×abu×Ul×Ul)),(YS q).find? (λe=>e.name==p.1)=Z p.2.1/\Wg K p.1=Z (p.2.2.1,p.2.2.2)/\K.lookup p.2.2.2=Y:=λ_ h=>by cases h
def DU {K:Uu}(h1:(YS q).find? (λe=>e.name==x)=Z d)(h2:Wg K x=Z (c,P))(h3:K.lookup P=Y)
  (h:∀p∈ls,(YS q).find? (λe=>e.name==p.1)=Z p.2.1/\Wg K p.1=Z (p.2.2.1,p.2.2.2)/\K.lookup p.2.2.2=Y) :
  ∀p∈(x,d,c,P)::ls,(YS q).find? (λe=>e.name==p.1)=Z p.2.1/\Wg K p.1=Z (p.2.2.1,p.2.2.2)/\K.lookup p.2.2.2=Y:=λp hp=>by
 rcases Va.mp hp with rfl|hp
 ·exact⟨h1,h2,h3⟩
 ·exact h p hp
def yG {φ:Str->Prop}(h1:φ "ink_shown")(h2:φ "table_within")(h3:φ "slots_given")(h4:φ "cast_on_slots"):∀y,y∈cw->φ y:=λy hy=>by
 simp only[cw,Va,Xh,or_false] at hy;rcases hy with rfl|rfl|rfl|rfl <;> assumption
def Jh {K:Uu}{ls:List (Str×abu×Ul×Ul)}(h:∀p∈ls,(YS q).find? (λe=>e.name==p.1)=Z p.2.1/\Wg K p.1=Z (p.2.2.1,p.2.2.2)/\K.lookup p.2.2.2=Y)
  (h2:∀y,y∈cw->V5 K Uv y=Z Y\/∃p∈ls,p.1=y) (h3:V5 K Uv "__builtins__"=Z (Z (.ref bm))) (h4:K.lookup bm=Y) :
  ∃(ls:List (Str×abu×Ul×Ul)) (bm:Ul),(∀p∈ls,(YS q).find? (λe=>e.name==p.1)=Z p.2.1/\Wg K p.1=Z (p.2.2.1,p.2.2.2)/\K.lookup p.2.2.2=Y)/\
   (∀y,y∈cw->V5 K Uv y=Z Y\/∃p∈ls,p.1=y)/\V5 K Uv "__builtins__"=Z (Z (.ref bm))/\K.lookup bm=Y:=⟨ls,bm,h,h2,h3,h4⟩
def LK {K:Uu}
  (a:V5 K Uv x=Z (Z (.ref f))) (l:K.lookup f=Z ⟨oc,od,.func fd,sl⟩) (ec:fd.code=.ref c) (lc:K.lookup c=Z ⟨occ,odc,.fields vs,slc⟩) (h11:vs[11]?=Z (.ref P)):Wg K x=Z (c,P):=by
 unfold Wg;rw[a];dsimp only;rw[l];dsimp only;rw[ec];dsimp only;rw[lc];dsimp only;rw[h11]
section
variable {X:Cx}{x:Str}{z:Int}{pos:Pos}
def JV (hg:Gl X x)(hm:X.mg x=Z (.int z tk))(hd:(x==("__debug__":Str))=false:=by decide):PE X (.Name x pos) (tE X (gC (.int z))):=
 (JC hg hm (v:=.int z) ⟨tk,rfl⟩ hd).of λσ H Q h=>by
  refine q3x3 h λρ θ M _ hw h=>?_;exact h _ θ H (.refl hw) rfl
def ID (hm:∃tk,X.mg x=Z (.int z tk))(hg:Gl X x:=by rfl)(hd:(x==("__debug__":Str))=false:=by decide):QE X (.Name x pos) (gC (.int z)):=by
 refine q1x1 hm λtk hm=>?_;exact⟨JV hg hm hd⟩
end
end DL
namespace PySem
section
variable {prog:UI}{w:UN}{K:Type}[DecidableEq K]{knd:HeapKind prog w K}{A:Vd}{E:Uh->Ui->Prop}{s:Ui}
def hk_setDefault {a:Ul}{k:K}(hu:knd.room A)(hkey:knd.is s.heap k a)(hm:s.heap.DictOfH knd d xs)
  (h1:∀p,YK xs k=Z p->Q p.2 {s with toks:=s.toks+knd.draws k})
  (h2:YK xs k=Y->∀h',h'.DictOfH knd d (abZ xs k a v)->Vr d s.heap h'->Q v {s with heap:=h',toks:=s.toks+knd.draws k})
  (hsz:xs.length<=Ur):Uq (UA prog w) A (Zq d (.ref a) v) Q E s:=by
 refine q3x6 hm λo es ep ho hc hd he his hn=>?_;unfold Zq
 try with_reducible refine UL ?_
 refine Ud (knd.pyHash hu hkey ?_);refine Ud (wpAny_dictFind_heap (s:={s with toks:=s.toks+knd.draws k}) hu hkey ho hd he his hn ?_ ?_)
 ·intro hno;have hnot:k∉xs.map (·.1):=not_mem_keys_of_get hno;have none_:=atKey_none_of_get hno;refine Ud (XA ?_);refine Ud (wpAny_updateDictKeys (hz:=by have e:=size_of_entries he;omega) (s:={s with toks:=s.toks+knd.draws k}) ho hd (Ue (h2 none_ _ ⟨_,_,ep+1,WK _ ho (Obj.isFreed_of_dict (Zr hd _)),
   hc.mapDictKeys _,Zr hd _,?_,?_,?_⟩ (Vs ..))))
  ·rw[aaR none_];simp[he,abi]
  ·rw[aaR none_];intro x hx;rcases Yq.mp hx with hx|hx
   ·exact knd.keeps (his x hx) ho hd (Vs ..)
   ·simp only[VE] at hx;subst hx;exact knd.keeps hkey ho hd (Vs ..)
  ·rw[aaR none_];rw[abT,aa7];refine⟨hn,by simp,?_⟩
   grind
 ·intro j p hj;have at_:=atKey_of_get hn hj;refine Ud (VO (s:={s with toks:=s.toks+knd.draws k}) ho hd ?_);rw[entry_at he j,hj];exact Ud (XA (Ue (h1 _ at_)))
def hk_meets_setdefault (knd:HeapKind prog w K)(d a:Ul)(hd:(d==Vp)=false)(dflt:Uh) :
  MeetsIn prog w (Xj.«dict.setdefault» ⟨[.ref d,.ref a,dflt],[]⟩) (λA R s=>knd.room A.in1/\∃k xs,knd.is s.heap k a/\s.heap.DictOfH knd d xs/\xs.length<=Ur/\
   (∀p,YK xs k=Z p->R (.ok (.ret p.2)) {s with toks:=s.toks+knd.draws k})/\
   (YK xs k=Y->∀h',h'.DictOfH knd d (abZ xs k a dflt)->Vr d s.heap h'->R (.ok (.ret dflt)) {s with heap:=h',toks:=s.toks+knd.draws k})):=
 .of_wp λA R s hxx=>by
  obtain⟨hu,k,xs,hkey,hm,hz,h1,h2⟩:=hxx;refine Ud ?_;refine Ud (Xw hm.typeIs ?_);refine Ue ?_;show Uq _ _ (if(d==Vp)=true then _ else(Zq d (.ref a) dflt >>= _)) _ _ s;rw[if_neg (by rw[hd];exact Uy)];exact Ud (hk_setDefault (hsz:=hz) hu hkey hm (λp hp=>Ue ⟨p.2,rfl,h1 p hp⟩) λhn h' hm' hs'=>Ue ⟨dflt,rfl,h2 hn h' hm' hs'⟩)
end
end PySem
namespace L2
open PySem PySem.Spec PyProof.Rows List
def Tz (H:Hp)(a:Ul)(y z r:V)(H':Hp):Prop:=
 (uj H a y (Z r)/\H'=H)\/(∃kvs k,H a=Z (.dK kvs)/\y=kV k/\jU kvs k=Y/\kvs.length<Ur/\r=z/\H'=bB H a (.dK (oY kvs k z)))\/
 ∃kvs k b,H a=Z (.dT kvs)/\y=.ref b/\H b=Z (.tup (k.map kV))/\jU kvs k=Y/\kvs.length<Ur/\r=z/\H'=bB H a (.dT (oY kvs k z))
section
variable {X:Cx}{af:List (Ul×Obj)}{σ:St}{H H':Hp}{s:Ui}{a:Ul}{y z r:V}{u d:Uh}{A:Vd}{E:Uh->Ui->Prop}
def EM (hu:A.units+1<YG)(I:Inv X af σ H s)(g:Tz H a y z r H')(ry:aS y u)(rz:aS z d)(h:∀w' s',Inv X af σ H' s'->aS r w'->Q w' s') :
  Uq (UA X.prog X.w) A (call (.builtin "dict.setdefault") [.ref a,u,d]) Q E s:=by
 rcases g with⟨g,rfl⟩|⟨kvs,k,e,ey,l,hl,er,rfl⟩|⟨kvs,k,b,e,ey,eb,l,hl,er,rfl⟩
 ·rcases g with⟨kvs,k,e,ey,l⟩|⟨kvs,k,b,e,ey,eb,l⟩
  ·subst ey;obtain⟨z',hd,vs,rel,dd⟩:=Aj I.hok e;refine q1x2 (lY.some_of (v:=r) (o:=Y0 vs k) (by rw[l];exact rel.val k)) λw' hw rw'=>?_;refine X2 PySem.F.slot_dict_setdefault dd.typeIs PySem.F.entry_dict_setdefault (PySem.F.args_dict_setdefault_3 _ _ _) (ZK (bA X.prog X.w) a (Ai ry) hd d) ⟨vs,dd,by rw[<-rel.length];exact z',λv hv=>?_,λhn=>?_⟩
   ·rw[hw] at hv;cases hv;exact h _ _ (I.tok _) rw'
   ·rw[hw] at hn;cases hn
  ·subst ey;cases (show u=UO b from ry);obtain⟨z',hd,xs,rel,dd⟩:=z5 I.hok e;refine q1x2 (lY.some_of (v:=r) (o:=(YK xs k).map (·.2)) (by rw[l];exact rel.val k)) λw' hw rw'=>?_;refine q1x2 (UP.mp hw) λp hp hp2=>?_;refine X2 PySem.F.slot_dict_setdefault dd.typeIs PySem.F.entry_dict_setdefault (PySem.F.args_dict_setdefault_3 _ _ _) (hk_meets_setdefault (Xz (bA X.prog X.w)) a b hd d) ⟨Yg hu,k,xs,xU I.hok eb,dd,by rw[<-Paired.length rel];exact z',λq hq=>?_,λhn=>?_⟩
   ·rw[hp] at hq;cases hq;rw[hp2];exact h _ _ (I.tok _) rw'
   ·rw[hp] at hn;cases hn
 ·subst ey er;obtain⟨z',hd,vs,rel,dd⟩:=Ld I.hok e;have hn:Y0 vs k=Y:=lY.none_of (by rw[<-l];exact rel.val k);have hl':(oY kvs k r).length<=Ur:=by have:=nu kvs k r;omega
  refine X2 PySem.F.slot_dict_setdefault dd.typeIs PySem.F.entry_dict_setdefault (PySem.F.args_dict_setdefault_3 _ _ _) (ZK (bA X.prog X.w) a (Ai ry) hd d) ⟨vs,dd,by rw[<-rel.length];exact z',λv hv=>?_,λ_ h' dd' hs=>h _ _ ?_ rz⟩
  ·rw[hn] at hv;cases hv
  ·have he:∃q,h'.get? a=Z q:=let ⟨q,_,_,hq,_⟩:=dd';⟨q,hq⟩
   exact wZ I (by rw[e];exact V1) hs he (EO hl' hd (rel.put k rz) dd')
 ·subst ey er;cases (show u=UO b from ry);obtain⟨z',hd,xs,rel,dd⟩:=O3 I.hok e;have hn:(YK xs k).map (·.2)=Y:=lY.none_of (by rw[<-l];exact rel.val k);have hl':(oY kvs k r).length<=Ur:=by have:=nu kvs k r;omega
  refine X2 PySem.F.slot_dict_setdefault dd.typeIs PySem.F.entry_dict_setdefault (PySem.F.args_dict_setdefault_3 _ _ _) (hk_meets_setdefault (Xz (bA X.prog X.w)) a b hd d) ⟨Yg hu,k,xs,xU I.hok eb,dd,by rw[<-Paired.length rel];exact z',λq hq=>?_,λ_ h' dd' hs=>h _ _ ?_ rz⟩
  ·rw[hq] at hn;cases hn
  ·refine q3x6 dd' λq es ep hq h2 h3 h4 _ h5=>?_;refine wZ I (by rw[e];exact V1) hs ⟨q,hq⟩ ⟨hl',hd,_,(rel.put k eb rz).keeps λc ys ec=>?_,q,es,ep,hq,h2,h3,h4,h5⟩;rw[ar (yu ec e (λz=>nomatch z))];exact ec
end
section
variable {X:Cx}{o e f:UY}{td ty tx:TE}{apos cpos:Pos}
def PC (td ty tx:TE):TE:=λσ H Q=>td σ H λx H1=>∃a,x=.ref a/\Sg H1 a/\ty σ H1 λy H2=>tx σ H2 λz H3=>∃r H4,Tz H3 a y z r H4/\Q r H4
def Br (hu:X.A.units+1<YG)(ho:PE X o td)(he:PE X e ty)(hf:PE X f tx)(m:M2 X o "setdefault" apos e f cpos):PE X (.Call (.Attribute o "setdefault" apos) [e,f] [] cpos) (PC td ty tx):=by
 intro af s σ H Q I h;refine wpAny_Call_method m.base m.few m.line PySem.F.plainAttrs_dict PySem.F.slot_dict_setdefault PySem.F.type_dict_setdefault (bS (ho af s σ H _ I h) λu s1 hxx=>?_);obtain⟨x,H1,I1,rx,a,ex,d,q1⟩:=hxx;subst ex;obtain rfl:u=UO a:=rx;refine q0x3 (Nx I1 d) λt1 t2 _=>?_;refine⟨t1,t2,?_⟩;rw[m.trees];refine Xn rfl (XI (X9 (bS (he af s1 σ H1 _ I1 q1) λiv s2 ⟨y,H2,I2,ry,q2⟩=>
  X9 (bS (hf af s2 σ H2 _ I2 q2) λfv s3 ⟨z,H3,I3,rz,r,H4,g,q3⟩=>aac ?_))))
 exact EM hu I3 g ry rz λw' s4 I4 rw'=>⟨_,H4,I4,rw',q3⟩
end
def sortI (ns:List Int):List Int:=ns.mergeSort λa b=>decide (a<=b)
def sortI_perm (ns:List Int):(sortI ns).Perm ns:=mergeSort_perm ns _
def sortI_le (ns:List Int):(sortI ns).Pairwise (·<=·):=by
 have h:=Z8 (le:=λa b=>decide (a<=b)) (λa b c h1 h2=>by grind) (λa b=>by grind) ns;exact h.imp λh=>by simp_all
theorem sort_uniq:∀{a b:List Int},a.Perm b->a.Pairwise (·<=·)->b.Pairwise (·<=·)->a=b
 | [],b,p,_,_=>(aaG p)
 | x::a,[],p,_,_=>absurd p.symm.nil_eq (by simp)
 | x::a,y::b,p,ha,hb=>by
  have h1:x<=y:=by
   rcases Va.mp (p.symm.subset (UG ..)) with e|e
   ·omega
   simp_all
  have h2:y<=x:=by
   rcases Va.mp (p.subset (UG ..)) with e|e
   ·omega
   simp_all
  have e:x=y:=by omega
  subst e;rw[sort_uniq (perm_cons x |>.mp p) (WI.mp ha).2 (WI.mp hb).2]
theorem wC:∀{ns:List Int} {us:List Uh},aV (ns.map V.int) us->Ve us ns
 | [],us,r=>by cases r;exact .nil
 | n::ns,us,r=>by
  cases r with
  | cons h t=>
   refine q1x1 ((h)) λtk e=>?_;subst e;exact .cons n tk (wC t)
theorem A2:∀{us:List Uh} {ns:List Int},Ve us ns->aV (ns.map V.int) us
 | _,_,.nil=>.nil
 | _,_,.cons n t r=>.cons ⟨t,rfl⟩ (A2 r)
section
variable {X:Cx}
def zc:fF X (.builtin "sorted") (λxs H Q=>∃p ns,xs=[.ref p]/\pe X.K H p (ns.map V.int)/\ns.length<64/\∀l,H l=Y->Q (.ref l) (bB H l (.lst ((sortI ns).map V.int)))):=by
 intro af s σ H xs us Q I r h;refine q2x4 h λp ns zz2 hq h64 q=>?_;subst zz2;refine q1x2 (ju r) λu zz1 rx=>?_;subst zz1;cases rx;refine q1x3 (I.list hq) λits r' pl hz=>?_;have hlen:=r'.length;rw[UB] at hlen;refine sorted_ints pl.isList (wC r') (by omega) λout ns' a1 a2 a3=>?_
 have e:=sort_uniq (a2.trans (sortI_perm ns).symm) a3 (sortI_le ns);subst e;refine q1x1 (sortedAll_at s.heap its out) λc he=>?_;exact⟨.ref (s.heap.objs.size+1),_,I.laid  (λ_ _=>sortedAll_old) (Ws _) (show bK X.prog X.w _ _ _ (.lst ((sortI ns).map V.int)) from⟨by rw[UB];exact(by rw[(sortI_perm ns).length_eq,U3];omega),out.toList,c,A2 a1,by omega⟩),rfl,q _ (I.hok.fresh (Ws _))⟩
end
end L2
namespace DL
open PySem PySem.Spec PyProof.Rows L2 List
def ma:D->Option bM
 | .int i=>Z (.inl i)
 | .str x=>Z (.inr x)
 | _=>Y
def yS:List D->Option (List bM)
 | []=>Z []
 | d::ds=>match ma d,yS ds with
  | some k,Z ks=>Z (k::ks)
  | _,_=>Y
def ki:D->Option (List bM)
 | .tup ds=>yS ds
 | _=>Y
def fY {κ:Type}[DecidableEq κ](kvs:List (κ×D))(k:κ):Option D:=(kvs.find? λkv=>decide (kv.1=k)).map (·.2)
section
variable {K:Uu}{θ:List Ul}{H:Hp}
def Fk {k:bM}(e:ma d=Z k)(r:cC K θ H d v):v=kV k:=by
 cases d <;> simp only[ma,Wf,reduceCtorEq] at e
 ·subst e;exact r
 ·subst e;exact r
theorem Hc:∀{ds:List D} {ks:List bM} {vs:List V},yS ds=Z ks->a6 K θ H ds vs->vs=ks.map kV
 | [],ks,vs,e,r=>by
  simp only[yS,Wf] at e;subst e;exact r
 | d::ds,ks,vs,e,r=>by
  refine q2x3 r λv us e1 r1 r2=>?_;simp only[yS] at e;cases q1:ma d with
  | none=>simp_all
  | some k=>
   cases q2:yS ds with
   | none=>simp_all
   | some ks'=>
    rw[q1,q2] at e;cases e;rw[e1,Fk q1 r1,Hc q2 r2];rfl
def FN (e:ki d=Z ks)(r:cC K θ H d v):∃b,v=.ref b/\H b=Z (.tup (ks.map kV))/\b∉θ:=by
 cases d with
 | tup ds=>
  refine q2x3 r λa vs e1 t r1=>?_;rw[Hc e r1] at t;exact⟨a,e1,t.1,t.2⟩
 | _=>cases e
section
variable {κ:Type}[DecidableEq κ]
def Es {p:κ×D}{r:List (κ×D)}{k:κ}(e:p.1=k):fY (p::r) k=Z p.2:=by simp[fY,Xc,e]
def EA {p:κ×D}{r:List (κ×D)}{k:κ}(e:¬p.1=k):fY (p::r) k=fY r k:=by simp[fY,Xc,e]
theorem nz:∀{fs:List (κ×D)} {vs:List (κ×V)} (k:κ),ow K θ H fs vs->(∀d,fY fs k=Z d->∃v,jU vs k=Z v/\cC K θ H d v)/\(fY fs k=Y->jU vs k=Y)
 | [],vs,k,r=>by
  subst r;exact⟨λd h=>(by cases h),λ_=>rfl⟩
 | p::fs,vs,k,r=>by
  obtain⟨k0,d0⟩:=p;refine q2x3 r λv us e h1 h2=>?_;subst e
  by_cases q:k0=k
  ·rw[Es  q,qh  q]
   simp_all
  ·rw[EA  q,pW  q];exact nz k h2
theorem qJ {k:κ}(h:cC K θ H d v):∀{fs:List (κ×D)} {vs:List (κ×V)},ow K θ H fs vs->ow K θ H (fs++[(k,d)]) (vs++[(k,v)])
 | [],vs,r=>by
  subst r;exact⟨v,[],rfl,h,rfl⟩
 | (k0,d0)::fs,vs,r=>by
  refine q2x3 r λu us e h1 h2=>?_;subst e;exact⟨u,us++[(k,v)],rfl,h1,qJ h h2⟩
theorem gP:∀{fs:List (κ×D)} {vs:List (κ×V)},ow K θ H fs vs->fs.length=vs.length
 | [],vs,r=>by
  subst r;rfl
 | (k0,d0)::fs,vs,r=>by
  refine q2x3 r λu us e h1 h2=>?_;subst e;rw[U6,U6,gP h2]
end
end
section
variable {X:Cx}{pos apos cpos:Pos}{o e f:UY}
def wv:GE:=λ_ M=>.ok (.mr M.length) (M++[.dK []])
def wF:GE:=λ_ M=>.ok (.mr M.length) (M++[.dT []])
def xG:Option MO->Bool
 | some (.dK _)=>true
 | some (.dT _)=>true
 | _=>false
def fM (i:Nat)(y z:D)(M:ay):bc D:=match M[i]? with
 | some (.dK kvs)=>match ma y with
  | some k=>match fY kvs k with
   | some r=>.ok r M
   | none=>if kvs.length<Ur then .ok z (M.set i (.dK (kvs++[(k,z)]))) else .bad
  | none=>.bad
 | some (.dT kvs)=>match ki y with
  | some k=>match fY kvs k with
   | some r=>.ok r M
   | none=>if kvs.length<Ur then .ok z (M.set i (.dT (kvs++[(k,z)]))) else .bad
  | none=>.bad
 | _=>.bad
def ib (go gy gz:GE):GE:=λρ M=>(go ρ M).bind λo M1=>match o with
 | .mr i=>if xG M1[i]?=true then(gy ρ M1).bind λy M2=>(gz ρ M2).bind λz M3=>fM i y z M3 else .bad
 | _=>.bad
def Df {K:Uu}{i:Nat}{a:Ul}(hw:Wr K θ H M)(ta:θ[i]?=Z a)(h:xG M[i]?=true):Sg H a:=by
 cases q:M[i]? with
 | none=>rw[q] at h;cases h
 | some m=>
  cases m with
  | lst _=>rw[q] at h;cases h
  | obj _ _=>rw[q] at h;cases h
  | dK kvs=>refine q1x2 (hw.at_ i a _ ta q) λvs e _=>?_;exact .inl ⟨vs,.inl e⟩
  | dT kvs=>refine q1x2 (hw.at_ i a _ ta q) λvs e _=>?_;exact .inr ⟨vs,.inl e⟩
def C9 {go:GE}(hu:X.A.units+1<YG)(ho:PE X o (tE X go))(he:PE X e (tE X gy))(hf:PE X f (tE X gz))(m:M2 X o "setdefault" apos e f cpos) :
  PE X (.Call (.Attribute o "setdefault" apos) [e,f] [] cpos) (tE X (ib go gy gz)):=(Br hu ho he hf m).of λσ H Q hxx=>by
 refine q3x3 hxx λρ θ M hd hw h=>?_;refine bi hd hw (aK X θ H Q) (λc M' h=>h) (λh=>h) h λd M1 v θ1 H1 g1 r1 h1=>?_
 have h2:=aK.go g1 h1;cases d with
 | mr i=>
  have h2:aK X θ1 H1 Q (if xG M1[i]?=true then(gy ρ M1).bind λy M2=>(gz ρ M2).bind λz M3=>fM i y z M3 else .bad):=h2;refine q1x2 (id r1) λa ea ta=>?_;split at h2
  ·rename_i hD;refine⟨a,ea,Df g1.wr ta hD,?_⟩;refine bi (hd.go g1) g1.wr (aK X θ1 H1 Q) (λc M' h=>h) (λh=>h) h2 λdy M2 vy θ2 H2 g2 r2 h3=>?_
   refine bi ((hd.go g1).go g2) g2.wr (aK X θ2 H2 Q) (λc M' h=>h) (λh=>h) (aK.go g2 h3) λdz M3 vz θ3 H3 g3 r3 h4=>?_
   have h4:=aK.go g3 h4;have ry:cC X.K θ3 H3 dy vy:=r2.go g3;obtain⟨a',ea',ta3⟩:cC X.K θ3 H3 (.mr i) v:=r1.go (g2.trans g3);obtain rfl:a=a':=by rw[ea] at ea';injection ea'
   unfold fM at h4;cases q:M3[i]? with
   | none=>rw[q] at h4;exact h4.elim
   | some mo=>
    cases mo with
    | lst _=>rw[q] at h4;exact h4.elim
    | obj _ _=>rw[q] at h4;exact h4.elim
    | dK kvs=>
     rw[q] at h4;dsimp only at h4;refine q1x2 (g3.wr.at_ i a _ ta3 q) λvs hv ra=>?_;cases qk:ma dy with
     | none=>rw[qk] at h4;exact h4.elim
     | some k=>
      rw[qk] at h4;dsimp only at h4;have ek:=Fk qk ry;refine q0x2 (nz k ra) λi1 i2=>?_;cases qg:fY kvs k with
      | some r=>
       rw[qg] at h4;refine q1x2 (i1 r qg) λvr hvr rr=>?_;exact⟨vr,H3,.inl ⟨.inl ⟨vs,k,.inl hv,ek,hvr.symm⟩,rfl⟩,h4 _ _ _ (.refl g3.wr) rr⟩
      | none=>
       rw[qg] at h4;dsimp only at h4;split at h4
       ·rename_i hl;have nv:=i2 qg;refine⟨vz,_,.inr (.inl ⟨vs,k,hv,ek,nv,by rw[<-gP ra];exact hl,rfl,rfl⟩),?_⟩;rw[yQ vz nv];have gs:=tD (m:=.dK (kvs++[(k,dz)])) (o:=.dK (vs++[(k,vz)])) g3.wr ta3 ⟨_,aX,kL (qB g3.wr ta3) (qJ r3 ra)⟩;exact h4 _ _ _ gs (r3.go gs)
       ·exact h4.elim
    | dT kvs=>
     rw[q] at h4;dsimp only at h4;refine q1x2 (g3.wr.at_ i a _ ta3 q) λvs hv ra=>?_;cases qk:ki dy with
     | none=>rw[qk] at h4;exact h4.elim
     | some k=>
      rw[qk] at h4;dsimp only at h4;refine q1x3 (FN qk ry) λb eb hb _=>?_;refine q0x2 (nz k ra) λi1 i2=>?_;cases qg:fY kvs k with
      | some r=>
       rw[qg] at h4;refine q1x2 (i1 r qg) λvr hvr rr=>?_;exact⟨vr,H3,.inl ⟨.inr ⟨vs,k,b,.inl hv,eb,hb,hvr.symm⟩,rfl⟩,h4 _ _ _ (.refl g3.wr) rr⟩
      | none=>
       rw[qg] at h4;dsimp only at h4;split at h4
       ·rename_i hl;have nv:=i2 qg;refine⟨vz,_,.inr (.inr ⟨vs,k,b,hv,eb,hb,nv,by rw[<-gP ra];exact hl,rfl,rfl⟩),?_⟩;rw[yQ vz nv];have gs:=tD (m:=.dT (kvs++[(k,dz)])) (o:=.dT (vs++[(k,vz)])) g3.wr ta3 ⟨_,aX,kL (qB g3.wr ta3) (qJ r3 ra)⟩;exact h4 _ _ _ gs (r3.go gs)
       ·exact h4.elim
  ·exact h2.elim
 | _=>exact h2.elim
def uT:List D->Option (List Int)
 | []=>Z []
 | .int i::ds=>(uT ds).map (i::·)
 | _::_=>Y
theorem AT {K:Uu}:∀{ds:List D} {ns:List Int} {vs:List V},uT ds=Z ns->a6 K θ H ds vs->vs=ns.map V.int
 | [],ns,vs,e,r=>by
  simp only[uT,Wf] at e;subst e;exact r
 | d::ds,ns,vs,e,r=>by
  refine q2x3 r λv us e1 r1 r2=>?_;cases d with
  | int i=>
   refine q1x2 (UP.mp e) λms e2 e3=>?_;subst e3;rw[e1,AT e2 r2,r1];rfl
  | _=>cases e
theorem kD {K:Uu}:∀ns:List Int,a6 K θ H (ns.map D.int) (ns.map V.int)
 | []=>rfl
 | n::ns=>⟨_,_,rfl,rfl,kD ns⟩
def GR:FD:=λds M=>match ds with
 | [d]=>match zP d M with
  | some xs=>match uT xs with
   | some ns=>if ns.length<64 then .ok (.lst ((sortI ns).map D.int)) M else .bad
   | none=>.bad
  | none=>.bad
 | _=>.bad
def C7:fF X (.builtin "sorted") (rC X GR):=by
 intro af s σ H xs us Q I r h;refine q3x3 h λθ M ds hw rd h=>?_;unfold GR at h;split at h
 ·split at h
  ·rename_i ys q;split at h
   ·rename_i ns qn;split at h
    ·rename_i hl;refine q1x2 (gE rd) λv e rv=>?_;refine q2x3 (zf hw rv q) λa vs ea ta ra=>?_;have ev:=AT qn ra;subst ev;exact zc af s σ H xs us Q I r ⟨a,ns,by rw[e,ea],.inl (.inl ta),hl,λl hp=>h _ θ _ (cQ hw hp) (ik hw hp (kD _))⟩
    ·exact h.elim
   ·exact h.elim
  ·exact h.elim
 ·exact h.elim
end
section
variable {X:Cx}{pos apos cpos:Pos}{o e f:UY}{go gy gz:GE}
def HN:QE X (.Dict [] [] pos) wv:=⟨Ft.of λσ H Q ⟨ρ,θ,M,hd,hw,h⟩ p hp=>h _ _ _ (wW hw hp ⟨[],aX,rfl⟩) (pU hw)⟩
def Iv:QE X (.Dict [] [] pos) wF:=⟨Hk.of λσ H Q ⟨ρ,θ,M,hd,hw,h⟩ p hp=>h _ _ _ (wW hw hp ⟨[],aX,rfl⟩) (pU hw)⟩
def DA {k:Nat}(hr:bn k X.A)(ho:QE X o go)(he:QE X e gy)(hf:QE X f gz)
  (base:Vu o "setdefault" X.env (Vo o X.env)=Vo o X.env:=by rfl)
  (few:((Wm cpos (UR [e,f] X.env)).all (λx=>!x.1)&&(W4 cpos (VY [] X.env)).all (λx=>x.1.isSome)
   && decide (([e,f]:List UY).length+([]:List XX).length+(if([]:List XX).isEmpty then 0 else 1)<30))=true:=by rfl)
  (line:(apos.endLine==cpos.line)=true:=by rfl) (trees:Wm cpos (UR [e,f] X.env)=[(false,Vo e X.env),(false,Vo f X.env)]:=by rfl) :
  QE X (.Call (.Attribute o "setdefault" apos) [e,f] [] cpos) (ib go gy gz):=⟨C9 (F4 hr) ho.h he.h hf.h ⟨base,few,line,trees⟩⟩
end
end DL
namespace L2
open PySem PySem.Spec PyProof.Rows List
def vm:seqSlot? (.type "list") (dunderI "add")=pure (Z (.builtin "list.__iadd__")):=PySem.seqSlot_of PySem.F.slot_list_iadd.lookup (by rfl)
def rg:fillsInplaceSlot (.type "list") "add" (Operator.Add==.Add)=pure false:=by
 show(abt (.type "list") (dunderI "add") >>= λfi=>pure (fi.isSome&&!isSeqSlot fi))=pure false;rw[PySem.F.slot_list_iadd.lookup];rfl
section
variable {X:Cx}
def xK {a:Uh}(ha:s.TypeIs a "list")(hb:s.TypeIs b "list")
  (hc:Uq M A (call (.builtin "list.__iadd__") [a,b]) Q E s):Uq M A (Zy .Add a b) Q E s:=by
 unfold Zy;refine UL ?_;refine Ud (YY ha (Ud (WT rg ?_)));refine Ud (wpAny_binaryOp1_none  ha hb PySem.noFill_list_add ?_);refine Ud (WT vm ?_);exact Ud (XA hc)
def Qt:V->V->Hp->VK->Prop:=λx y H Q=>(∃i j,x=.int i/\y=.int j/\Q (.int (i+j)) H)\/
 ∃l b xs zs,x=.ref l/\y=.ref b/\H l=Z (.lst xs)/\H b=Z (.lst zs)/\xs.length+zs.length<=Ur/\Q (.ref l) (bB H l (.lst (xs++zs)))
def BO:IJ X .Add Qt:=by
 intro af s σ H x y u v Q I rx ry h;rcases h with⟨i,j,e1,e2,q⟩|⟨l,b,xs,zs,rfl,rfl,hH,hB,hz,q⟩
 ·exact L7 af s σ H x y u v Q I rx ry ⟨i,j,e1,e2,q⟩
 ·cases rx;cases ry;obtain⟨z,its,n,r,hl,e⟩:=I.lstM hH;obtain⟨z2,its2,n2,r2,hl2,e2⟩:=I.lstM hB;have hsz:its.toArray.size+its2.toArray.size<=Ur:=by grind
  refine xK ⟨_,e,rfl⟩ ⟨_,e2,rfl⟩ (call_meets PySem.F.slot_list_iadd ⟨_,e,rfl⟩ PySem.F.entry_list_iadd (PySem.F.args_list_iadd_2 _ _)
   (AutoSeq1.list___iadd___list_list_0 l its.toArray n b its2.toArray n2 (by
   rw[uR hsz,Bool.and_false];simp) (by grind) (by omega)) ⟨e,e2,?_⟩)
  refine⟨.ref l,_,I.lset  hH e (by simp) (r.append r2) ?_,rfl,q⟩;rw[WE];omega
end
end L2
namespace DL
open PySem PySem.Spec PyProof.Rows L2 List
section
variable {X:Cx}{c f:Str}{C:Ul}{o value:UY}{go gv:GE}{pos pos' tpos:Pos}
def By (x y:D)(M:ay):bc D:=match x with
 | .int i=>match y with
  | .int j=>.ok (.int (i+j)) M
  | _=>.bad
 | .mr k=>match M[k]? with
  | some (.lst xs)=>match zP y M with
   | some ys=>if xs.length+ys.length<=Ur then .ok (.mr k) (M.set k (.lst (xs++ys))) else .bad
   | none=>.bad
  | _=>.bad
 | _=>.bad
def Tc (X:Cx):V->V->Hp->VK->Prop:=λx y H Q=>∃θ M dx dy,Wr X.K θ H M/\cC X.K θ H dx x/\cC X.K θ H dy y/\aK X θ H Q (By dx dy M)
def Mp:IJ X .Add (Tc X):=by
 intro af s σ H x y u v Q I rx ry ⟨θ,M,dx,dy,hw,r1,r2,h⟩;unfold By at h;cases dx with
 | int i=>
  cases dy with
  | int j=>exact BO af s σ H x y u v Q I rx ry (.inl ⟨i,j,r1,r2,h _ θ H (.refl hw) rfl⟩)
  | _=>exact h.elim
 | mr k=>
  dsimp only at h;cases q:M[k]? with
  | none=>rw[q] at h;exact h.elim
  | some m=>
   cases m with
   | obj _ _=>rw[q] at h;exact h.elim
   | dK _=>rw[q] at h;exact h.elim
   | dT _=>rw[q] at h;exact h.elim
   | lst xs=>
    rw[q] at h;cases q2:zP dy M with
    | none=>rw[q2] at h;exact h.elim
    | some ys=>
     rw[q2] at h;dsimp only at h;split at h
     ·rename_i hl;refine q1x2 r1 λa ea ta=>?_;refine q1x2 (hw.at_ k a _ ta q) λvs hv ra=>?_;refine q2x3 (zf hw r2 q2) λb ws eb tb rb=>?_;have gs:=ye (ds:=xs) hw ta (cH ra rb);exact BO af s σ H x y u v Q I rx ry (.inr ⟨a,b,vs,ws,ea,eb,hv,tb,by rw[<-av ra,<-av rb];exact hl,h _ _ _ gs ⟨a,rfl,ta⟩⟩)
     ·exact h.elim
 | _=>exact h.elim
def K6 (c f:Str)(go gv:GE):GS:=λρ M=>(go ρ M).bind λo M1=>match jE c o M1 with
 | some (_,fs)=>match fs.lookup f with
  | some v=>(gv ρ M1).bind λy M2=>(By v y M2).bind λz M3=>(Dy c f o z M3).bind λ_ M4=>.ok (.nx ρ) M4
  | none=>.bad
 | none=>.bad
def PX (kc:Kc X.K X.mg c C)(na:hO X.K C f)(ho:QE X o go)(hv:QE X value gv):QS X (.AugAssign (.Attribute o f tpos) .Add value pos) (K6 c f go gv):=⟨(D8 ho.h hv.h Mp).of λD σ H hxx=>by
  refine q3x3 hxx λρ θ M hd hw h=>?_;refine bi hd hw (bR X θ H D) (λc M' h=>h) (λh=>h) h λd M1 v θ1 H1 g1 r1 h1=>?_
  have h2:=bR.go g1 h1;cases q:jE c d M1 with
  | none=>simp only[q] at h2;exact h2.elim
  | some p=>
   obtain⟨j,fs⟩:=p;simp only[q] at h2;obtain⟨a,dx,vs,ea,ta,hv.h,rf,_⟩:=t9 g1.wr kc.at_ r1 q;cases ql:fs.lookup f with
   | none=>simp only[ql] at h2;exact h2.elim
   | some y=>
    simp only[ql] at h2;refine q1x2 (Bn rf ql) λu eu ru=>?_;refine⟨a,C,dx,vs,u,ea,hv.h,kc.cl,na,eu,?_⟩;refine bi (hd.go g1) g1.wr (bR X θ1 H1 D) (λc M' h=>h) (λh=>h) h2 λw M2 vw θ2 H2 g2 r2 h3=>?_
    have h3:=bR.go g2 h3;refine⟨θ2,M2,y,w,g2.wr,ru.go g2,r2,?_⟩;cases qa:By y w M2 with
    | bad=>rw[qa] at h3;exact h3.elim
    | err c2 M3=>rw[qa] at h3;exact h3
    | ok z M3=>
     rw[qa] at h3;rw[az] at h3;intro vz θ3 H3 g3 rz;have h4:=bR.go g3 h3;have r3:=r1.go (g2.trans g3);unfold Dy at h4;cases q4:jE c d M3 with
     | none=>simp only[q4] at h4;exact h4.elim
     | some p4=>
      obtain⟨j4,fs4⟩:=p4;simp only[q4] at h4
      by_cases hl:fs4.length<1000
      ·simp only[if_pos hl] at h4;refine q3x5 (t9 g3.wr kc.at_ r3 q4) λa4 dx4 vs4 ea4 ta4 hv4 rf4 _=>?_;obtain rfl:a=a4:=by rw[ea] at ea4;injection ea4
       have gs:=CO (f:=f) (dx:=dx4) g3.wr ta4 kc.at_ rf4 rz;exact⟨dx4,vs4,hv4,by rw[<-Au rf4];exact hl,h4 σ θ3 _ gs ((((hd.go g1).go g2).go g3).go gs)⟩
      ·simp only[if_neg hl] at h4;exact h4.elim⟩
end
end DL
namespace L2
open PySem PySem.Spec PyProof.Rows List
end L2
namespace DL
open PySem PySem.Spec PyProof.Rows L2 List
def aD (h1:sc.kind=.function:=by rfl)(h2:sc.isCoroutine=false:=by rfl)(h3:sc.isGenerator=false:=by rfl)(h4:N.Nodup:=by decide +kernel)(h5:N.take ps.length=ps:=by rfl)
  (h6:∀x∈ps,sc.names.lookup x=Z .local\/sc.names.lookup x=Z .cell:=by decide +kernel) (h7:∀y∈sc.names,y.2≠.free:=by decide +kernel):fe N ps sc:=⟨h1,h2,h3,h4,h5,h6,h7⟩
section
variable {X:Cx}{e:UY}{es:List UY}{x:Str}{p pos:Pos}{gA:GA}{k k' n:Nat}{f:Ul}{fd:VL}{ps:List Str}{F:FD}{st:WA}{id:String}{T:String}
def EY (hc:QC X (.builtin id) F)(hm:X.mg x=Y)(hv:Vv x=Z (.builtin id))(ha:QA X (e::es) gA)(hg:Gl X x:=by rfl)(hn:x≠"__name__":=by decide)(hdb:(x==("__debug__":Str))=false:=by decide)
  (h1:cE e=true:=by rfl) (h2:eX es=true:=by rfl):QE X (.Call (.Name x p) (e::es) [] pos) (aJ F gA):=K8 hc hg hm hv ha hn hdb h1 h2
end
def FF (K:Uu)(mg:Str->Option Uh)(x:Str)(st:WA)(ps:List Str):Prop:=∃f fd,Fn K mg x st f fd ps
def KC (K:Uu)(mg:Str->Option Uh)(c:Str)(C:Ul):Prop:=Kc K mg c C/\aaz K C=true/\WQ K (.ref C)=true
def MF (K:Uu)(mg:Str->Option Uh)(c m q:Str)(st:WA)(ps:List Str):Prop:=∃C f fd,KC K mg c C/\Mf K C m q st f fd ps
def LF (K:Uu)(mg:Str->Option Uh)(x:Str)(st:WA)(ps:List Str):Prop:=∃f fd c P,Fn K mg x st f fd ps/\V5 K Uv x=Z (Z (.ref f))/\Bj K x c P
def NA (K:Uu)(mg:Str->Option Uh)(c f:Str):Prop:=∃C,KC K mg c C/\hO K C f
def EX (K:Uu)(mg:Str->Option Uh)(x:Str):Prop:=∃C,Ec K mg x C
def IX (K:Uu)(mg:Str->Option Uh)(x:Str)(tab:List (Str×Bool)):Prop:=∃G,Ec K mg x G/\∀p∈tab,∃C,Ec K mg p.1 C/\YO K C (.ref G)=Z p.2
def IB (K:Uu)(mg:Str->Option Uh)(x:String)(tab:List (Str×Bool)):Prop:=∀p∈tab,∃C,Ec K mg p.1 C/\YO K C (.type x)=Z p.2
def Ls {α:Type}(P:α->Prop)(l:List α):Prop:=∀t∈l,P t
section
variable {α β γ:Type}{P:α->Prop}{l:List α}{a:α}
def Ls.nil:Ls P []:=λ_ h=>by grind
def Ls.cons (h:P a)(t:Ls P l):Ls P (a::l):=λx hx=>by
 rcases Va.mp hx with e|e
 ·rwa [e]
 ·exact t x e
end
structure RN (l c:Nat)(xs R:List Str):Prop
def rn (l c:Nat)(xs R:List Str):RN l c xs R:=⟨⟩
def Ok (P:UI)(w:UN)(K:Uu)(mg:Str->Option Uh)(base:Vn)(x:Str)(k n:Nat)(F:FD):Prop:=
 ∃f fd ps,eM P w K mg base (jF P w) k f fd ps (sC K n F)/\mg x=Z (.ref f)/\WQ K (.ref f)=true/\f7 K fd ps []
def Om (P:UI)(w:UN)(K:Uu)(mg:Str->Option Uh)(base:Vn)(c m:Str)(k n:Nat)(F:FD):Prop:=
 ∃C f fd ps,eM P w K mg base (jF P w) k f fd ps (sC K n F)/\KC K mg c C/\Ay K C m f/\f7 K fd ps []
section
variable {P:UI}{w:UN}{K:Uu}{mg:Str->Option Uh}{base:Vn}{x c m q:Str}{st:WA}{N ps:List Str}{k n:Nat}{g:GS}{F:FD}
def kR (h:Ok P w K mg base x k n F):Ok P w K mg base x k n λds M=>lB M.length (F ds M):=by
 refine q3x4 h λf fd ps h1 h2 h3 h4=>?_;exact⟨f,fd,ps,NI h1,h2,h3,h4⟩
def bx (T:FF K mg x st ps)(N:List Str)(S:fe N ps (aM st))(hn:ps.length=n)
  (hb:∀(f:Ul) (cdv:Uh) (A:Vd) (outer:List Env) (s:Ui) (H:Hp) (E:XK),N.Nodup->bn k (A.deeper (WR x (aM st) s.heap.objs.size f cdv))->QB (iS (jF P w) P w K mg base N x (aM st) f cdv A outer s H E) (cz st) g) :
  Ok P w K mg base x (k+1) n (aP (N.length-n) g):=by
 refine q2x1 T λf fd T=>?_;exact⟨f,fd,ps,MK T.F S hn λcdv A outer s H E hr=>hb f cdv A outer s H E S.nd hr,T.m,T.F.kp,T.b⟩
def oU (T:MF K mg c m q st ps)(N:List Str)(S:fe N ps (aM st))(hn:ps.length=n)
  (hb:∀(f:Ul) (cdv:Uh) (A:Vd) (outer:List Env) (s:Ui) (H:Hp) (E:XK),N.Nodup->bn k (A.deeper (WR q (aM st) s.heap.objs.size f cdv))->QB (iS (jF P w) P w K mg base N q (aM st) f cdv A outer s H E) (cz st) g) :
  Om P w K mg base c m (k+1) n (aP (N.length-n) g):=by
 refine q3x2 T λC f fd kC T=>?_;exact⟨C,f,fd,ps,MK T.F S hn λcdv A outer s H E hr=>hb f cdv A outer s H E S.nd hr,kC,T.me,T.b⟩
def SK (T:LF K mg x st ps)(N:List Str)(S:fe N ps (aM st))(hn:ps.length=n)
  (hb:∀(f c Pt:Ul) (A:Vd) (outer:List Env) (s:Ui) (H:Hp) (E:XK),N.Nodup->Bj K x c Pt->bn k (A.deeper (WR x (aM st) s.heap.objs.size f (.ref c)))->QB (iS (jF P w) P w K mg base N x (aM st) f (.ref c) A outer s H E) (cz st) g) :
  Ok P w K mg base x (k+1) n (aP (N.length-n) g):=by
 obtain⟨f,fd,c,Pt,T,hns,tb⟩:=T;exact⟨f,fd,ps,Lv T.F hns tb S hn λA outer s H E hr=>hb f c Pt A outer s H E S.nd tb hr,T.m,T.F.kp,T.b⟩
end
section
variable {X:Cx}{e a o value:UY}{es:List UY}{x c m f:Str}{p p2 pos apos pos':Pos}{gA:GA}{g go gv:GE}{k k' n:Nat}{F:FD}{tab:List (Str×Bool)}{bs:List Str}
def OZ (h:Ok X.prog X.w X.K X.mg X.base x k n F)(hr:bn k' X.A)(ha:QA X (e::es) gA)(hk:k<=k':=by first|decide|omega)(hg:Gl X x:=by rfl)
  (hdb:(x==("__debug__":Str))=false:=by decide) (h1:cE e=true:=by rfl) (h2:eX es=true:=by rfl):QE X (.Call (.Name x p) (e::es) [] pos) (ah n F gA):=by
 refine q3x4 h λf fd ps h1' h2' h3 h4=>?_;exact Pl h1' (hr.mono hk) hg h2' h3 h4 ha hdb h1 h2
def JJ (h:Om X.prog X.w X.K X.mg X.base c m k n F)(hr:bn k' X.A)(ho:QE X o go)(ha:QA X (e::es) gA)(hk:k<=k':=by first|decide|omega)(h1:cE e=true:=by rfl)(h2:eX es=true:=by rfl)
  (ht:Vo (.Call (.Attribute o m apos) (e::es) [] pos) X.env=(do
   let ov <-Vo o X.env
   XE apos.atName
   let (f,first) <-VN [ov] (XB ov m pl)
   Zk pos f first (Wm pos (UR (e::es) X.env)) (W4 pos (VY [] X.env))):=by rfl):QE X (.Call (.Attribute o m apos) (e::es) [] pos) (dQ c m n F go gA):=by
 refine q4x4 h λC f fd ps a1 a2 a3 a4=>?_;exact Nu  a2.1 a3 a1 (hr.mono hk) a4 ho ha h1 h2 ht
def Ex (h:Om X.prog X.w X.K X.mg X.base c m k n F)(hr:bn k' X.A)(ho:QE X o go)(hk:k<=k':=by first|decide|omega)
  (ht:Vo (.Call (.Attribute o m apos) [] [] pos) X.env=(do
   let ov <-Vo o X.env
   XE apos.atName
   let (f,first) <-VN [ov] (XB ov m pl)
   Zk pos f first (Wm pos (UR [] X.env)) (W4 pos (VY [] X.env))):=by rfl):QE X (.Call (.Attribute o m apos) [] [] pos) (dQ c m n F go ag):=by
 refine q4x4 h λC f fd ps a1 a2 a3 a4=>?_;exact HM  a2.1 a3 a1 (hr.mono hk) a4 ho ht
def GU (h:Om X.prog X.w X.K X.mg X.base c "__init__" k n F)(hr:bn k' X.A)(ha:QA X (e::es) gA)(hk:k+1<=k':=by first|decide|omega)(hg:Gl X c:=by rfl)
  (hdb:(c==("__debug__":Str))=false:=by decide) (h1:cE e=true:=by rfl) (h2:eX es=true:=by rfl):QE X (.Call (.Name c p) (e::es) [] pos) (rY c n F gA):=by
 refine q4x4 h λC f fd ps a1 a2 a3 a4=>?_;exact Kt a2.1 ⟨a2.2.1,a3.at_,a3.fn,a2.2.2⟩ a1 (hr.mono hk) hg a4 ha hdb h1 h2
def J2 (h:NA X.K X.mg c f)(he:QE X e g)(hb:Vu e f X.env (Vo e X.env)=Vo e X.env:=by rfl):QE X (.Attribute e f pos) (cX c f g):=by
 refine q1x2 h λC h1 h2=>?_;exact NM h1.1 h2 he hb
def Kp (h:NA X.K X.mg c f)(ho:QE X o go)(hv:QE X value gv)(hs:jo value=true:=by rfl):QS X (.Assign [.Attribute o f pos'] value pos) (gQ c f go gv):=by
 refine q1x2 h λC h1 h2=>?_;exact N9 h1.1 h2 ho hv hs
def Ng (h:NA X.K X.mg c f)(ho:QE X o go)(hv:QE X value gv):QS X (.AugAssign (.Attribute o f tpos) .Add value pos) (K6 c f go gv):=by
 refine q1x2 h λC h1 h2=>?_;exact PX h1.1 h2 ho hv
def Dz (h:EX X.K X.mg x)(he:QE X e g)(hg:Gl X x:=by rfl)(hc:X.calm=true:=by rfl)(h1:cE e=true:=by rfl)(hd:(x==("__debug__":Str))=false:=by decide):QS X (.Raise (Z (.Call (.Name x np) [e] [] cpos)) Y pos) (gu x g):=by
 refine q1x1 h λC h=>?_;exact Fh h hg he hc h1 hd
end
section
variable {X:Cx}{x:Str}{pos px:Pos}{ge:GE}{scope:Y6}{xs R:List Str}{iter elt tg:UY}{ifs:List UY}{gI:GI}{gC:GT}{sg:GG}{mk:List D->ay->bc D}{j:Nat}{y:Str}{py spos:Pos}{n:Nat}
def Hn (hS:cy scope X.env.kindOf [x] X.N X.N=true)(hm:mk=aO\/mk=eU)(hi:QI X (.Name x px) iter gI)(hts:Er X scope [x] X.N ifs gC)(he:∀fp s H C,QE (aC X scope [x] X.N fp s H C) elt ge)
  (hc:X.calm=true:=by rfl) (hs:∀x,U4 iter X.env x=pure x:=by intro _;rfl):QE X (.ListComp elt [⟨.Name x px,iter,ifs,0⟩] scope pos) (a9 gI gC ge mk):=BV hS hm hi hts he hc hs
def GK (_:RN pos.line pos.col [x] R)(hS:cy scope X.env.kindOf [x] R X.N=true)(hm:mk=aO\/mk=eU)(hi:QI X (.Name x px) iter gI)(hts:Er X scope [x] R ifs gC)(he:∀fp s H C,QE (aC X scope [x] R fp s H C) elt ge)
  (hc:X.calm=true:=by rfl) (hs:∀x,U4 iter X.env x=pure x:=by intro _;rfl):QE X (.ListComp elt [⟨.Name x px,iter,ifs,0⟩] scope pos) (a9 gI gC ge mk):=BV hS hm hi hts he hc hs
def Ad (hS:cy scope X.env.kindOf [x] X.N X.N=true)(hm:mk=aO\/mk=eU)(hN:X.N.Nodup)(hi:QI X (.Name x px) iter gI)(hts:Er X scope [x] X.N ifs gC)(he:∀fp s H C,QE (aC X scope [x] X.N fp s H C) elt ge)
  (hc:X.calm=true:=by rfl) (hj:X.N[j]?=Z y:=by rfl) (hy:X.env.scope.names.lookup y=Z .local:=by rfl) (hsw:Xg (.ListComp elt [⟨.Name x px,iter,ifs,0⟩] scope pos) (Z (.Name y py)) spos.line X.env=pure true:=by rfl)
  (hs:∀x,U4 iter X.env x=pure x:=by intro _;rfl):QS X (.Assign [.Name y py] (.ListComp elt [⟨.Name x px,iter,ifs,0⟩] scope pos) spos) (aL j (a9 gI gC ge mk)):=BL hS hm hN hi hts he hc hj hy hsw hs
def D3 (_:RN pos.line pos.col xs R)(hS:cy scope X.env.kindOf xs R X.N=true)(hm:mk=aO\/mk=eU)(own:QO xs.length sg)(hi:QI X tg iter gI)(hg:∀fp s H C,QG (aC X scope xs R fp s H C) tg sg)(hts:Er X scope xs R ifs gC)(he:∀fp s H C,QE (aC X scope xs R fp s H C) elt ge)
  (hn:xs.length=n:=by rfl) (hc:X.calm=true:=by rfl) (hs:∀x,U4 iter X.env x=pure x:=by intro _;rfl):QE X (.ListComp elt [⟨tg,iter,ifs,0⟩] scope pos) (ce gI n sg gC ge mk):=hn▸EZ xs hS hm own hi hg hts he hc hs
def xZ (_:RN pos.line pos.col xs R)(hS:cy scope X.env.kindOf xs R X.N=true)(hm:mk=aO\/mk=eU)(own:QO xs.length sg)(hN:X.N.Nodup)(hi:QI X tg iter gI)(hg:∀fp s H C,QG (aC X scope xs R fp s H C) tg sg)(hts:Er X scope xs R ifs gC)(he:∀fp s H C,QE (aC X scope xs R fp s H C) elt ge)
  (hn:xs.length=n:=by rfl) (hc:X.calm=true:=by rfl) (hj:X.N[j]?=Z y:=by rfl) (hy:X.env.scope.names.lookup y=Z .local:=by rfl) (hsw:Xg (.ListComp elt [⟨tg,iter,ifs,0⟩] scope pos) (Z (.Name y py)) spos.line X.env=pure true:=by rfl)
  (hs:∀x,U4 iter X.env x=pure x:=by intro _;rfl):QS X (.Assign [.Name y py] (.ListComp elt [⟨tg,iter,ifs,0⟩] scope pos) spos) (aL j (ce gI n sg gC ge mk)):=hn▸zy xs hS hm own hN hi hg hts he hc hj hy hsw hs
end
structure Tx (tab:List (Str×WA×List Str))(mtab:List (Str×Str×Str×WA×List Str))(ls:List (Str×WA×List Str))(zs es:List Str)(rs:List (Str×List (Str×Bool)))(vt:List (Str×Bool))(nas:List (Str×Str))(cs:List (Str×Str))(ci:List (Str×Int))
  (P:UI) (w:UN) (K:Uu) (mg:Str->Option Uh) (base:Vn):Prop where
 f:Ls (λt=>FF K mg t.1 t.2.1 t.2.2) tab
 m:Ls (λt=>MF K mg t.1 t.2.1 t.2.2.1 t.2.2.2.1 t.2.2.2.2) mtab
 l:Ls (λt=>LF K mg t.1 t.2.1 t.2.2) ls
 z:∀x∈zs,mg x=Y
 e:∀x∈es,EX K mg x
 r:Ls (λt=>IX K mg t.1 t.2) rs
 b:IB K mg "ValueError" vt
 a:∀t∈nas,NA K mg t.1 t.2
 s:Ls (λt=>∃tk,mg t.1=Z (.str t.2 tk)) cs
 i:Ls (λt=>∃tk,mg t.1=Z (.int t.2 tk)) ci
def Ci {K:Uu}{l:List (Str×Str)}(h:∀t∈l,NA K mg t.1 t.2)(c f:Str)(e:(c,f)∈l:=by decide +kernel):NA K mg c f:=h (c,f) e
section
variable {K:Uu}{mg:Str->Option Uh}{x c m q:Str}{st:WA}{ps:List Str}{l:List (Str×WA×List Str)}{l':List (Str×Str×Str×WA×List Str)}
def bv (h:Ls (λt=>FF K mg t.1 t.2.1 t.2.2) l)(i:Nat)(e:l[i]?=Z (x,st,ps):=by rfl):FF K mg x st ps:=h _ (Vw e)
def Ss (h:Ls (λt=>LF K mg t.1 t.2.1 t.2.2) l)(i:Nat)(e:l[i]?=Z (x,st,ps):=by rfl):LF K mg x st ps:=h _ (Vw e)
def oN (h:Ls (λt=>MF K mg t.1 t.2.1 t.2.2.1 t.2.2.2.1 t.2.2.2.2) l')(i:Nat)(e:l'[i]?=Z (c,m,q,st,ps):=by rfl):MF K mg c m q st ps:=h _ (Vw e)
def T3 {l:List (Str×Int)}(h:Ls (λt=>∃tk,mg t.1=Z (.int t.2 tk)) l)(i:Nat)(e:l[i]?=Z (x,z):=by rfl):∃tk,mg x=Z (.int z tk):=h _ (Vw e)
end
section
variable {K:Uu}{h:Vn}{mg:Str->Option Uh}{x c m q f':Str}{st:WA}{ps:List Str}{f C G:Ul}{oc kV dc pm cd ct:Uh}{od an:Option Ul}{sl:Array (Option Uh)}
def PD (X:K.In h)(Gm:h.Ns Uv mg)(a:V5 K Uv x=Z (Z (.ref f)))(l:K.lookup f=Z ⟨oc,od,.func (XR x x (fQ st) (cz st) (aM st) .none kV dc pm an cd ct),sl⟩)(c:Zl K cd x=true)(k:WQ K (.ref f)=true)
  (b:∀(kV doc pm:Uh) (an:Option Ul) (cdv ct:Uh) (us:List Uh),us.length=ps.length->Zj (XR x x (fQ st) (cz st) (aM st) .none kV doc pm an cdv ct) ⟨us,[]⟩=pure (ps.zip us)):FF K mg x st ps:=
 ⟨f,_,rK  l c k,ZE X Gm a,(rK  l c k).binds b⟩
def Qx (X:K.In h)(Gm:h.Ns Uv mg)(q:V5 K Uv c=Z (Z (.ref C)))(pg:YU K C ZA=true)(hd:Zi K C=true)(po:aaM K C=true)(sa:V0 K (.ref C) "__setattr__"=Z (Z (.builtin "object.__setattr__")))
  (mi:aaz K C=true) (kp:WQ K (.ref C)=true):KC K mg c C:=⟨⟨q,ZE X Gm q,pg,hd,po,sa⟩,mi,kp⟩
def Rc (kC:KC K mg c C)(a:V0 K (.ref C) m=Z (Z (.ref f)))(l:K.lookup f=Z ⟨oc,od,.func (XR m q (fQ st) (cz st) (aM st) .none kV dc pm an cd ct),sl⟩)(cc:Zl K cd q=true)(k:WQ K (.ref f)=true)(n:W.isFn K (.ref f)=true)
  (b:∀(kV doc pm:Uh) (an:Option Ul) (cdv ct:Uh) (us:List Uh),us.length=ps.length->Zj (XR m q (fQ st) (cz st) (aM st) .none kV doc pm an cdv ct) ⟨us,[]⟩=pure (ps.zip us)):MF K mg c m q st ps:=
 ⟨C,f,_,kC,rK  l cc k,⟨a,n,k⟩,(rK  l cc k).binds b⟩
def Qv (kC:KC K mg c C)(a:V0 K (.ref C) f'=Z Y):NA K mg c f':=⟨C,kC,a⟩
def O9 (X:K.In h)(Gm:h.Ns Uv mg)(q:V5 K Uv x=Z (Z (.ref C)))(cl:W.isClsIn K C=true)(ca:V0 K (.ref C) "__class__"=Z (Z (.builtin "object.__class__")))(sp:W.specialIn K (.builtin "object.__class__") "__get__"=Z (Z (.builtin "getset_descriptor.__get__")))(tk:W.takesIn K (.builtin "object.__class__")=Z true)
  (ob:YO K C (.type "object")=Z true) (ga:V0 K (.ref C) "__getattribute__"=Z (Z (.builtin "BaseException.__getattribute__"))) (gh:V0 K (.ref C) "__getattr__"=Z Y) (be:YO K C (.type "BaseException")=Z true)
  (ex:ab0 K C Pw "ValueError.__new__"=true) (ty:ab4 K (.ref C)=Z (.type "type")) (sf:YO K C (.ref C)=Z true):Ec K mg x C:=⟨q,ZE X Gm q,⟨cl,ca,sp,tk,ob,ga,gh,be⟩,ex,ty,sf⟩
def Qk (h:Ec K mg x C):EX K mg x:=⟨C,h⟩
def OY (h:Ec K mg x G)(t:Ls (λp=>∃C,Ec K mg p.1 C/\YO K C (.ref G)=Z p.2) tab):IX K mg x tab:=⟨G,h,t⟩
def Te (X:K.In h)(Gm:h.Ns Uv mg)(e:V5 K Uv x=Z Y):mg x=Y:=W.mg_none_of X Gm e
def PY {u:Tok->Uh}(X:K.In h)(Gm:h.Ns Uv mg)(e:V5 K Uv x=Z (Z (u tk))):∃tk,mg x=Z (u tk):=⟨tk,ZE X Gm e⟩
end
def PB {K:Uu}{st:WA}{oc occ kV dc pm ct:Uh}
  (X:K.In h) (Gm:h.Ns Uv mg) (a:V5 K Uv x=Z (Z (.ref f))) (l:K.lookup f=Z ⟨oc,od,.func (XR x x (fQ st) (cz st) (aM st) .none kV dc pm an (.ref c) ct),sl⟩) (cc:Zl K (.ref c) x=true) (k:WQ K (.ref f)=true)
  (lc:K.lookup c=Z ⟨occ,odc,.fields vs,slc⟩) (hcc:occ=.type "code") (h11:vs[11]?=Z (.ref P)) (h18:vs.getD 18 .none=.str file tf) (h7:vs.getD 7 .none=.int flags tg) (h9:vs.getD 9 .none=.bool inF) (h10:vs.getD 10 .none=.int text tt) (ne:c≠P)
  (hm:x∈cw) (un:∀y,y∈cw->y≠x->V5 K Uv y=Z Y)
  (b:∀(kV doc pm:Uh) (an:Option Ul) (cdv ct:Uh) (us:List Uh),us.length=ps.length->Zj (XR x x (fQ st) (cz st) (aM st) .none kV doc pm an cdv ct) ⟨us,[]⟩=pure (ps.zip us)):LF K mg x st ps:=
 ⟨f,_,c,P,⟨rK  l cc k,ZE X Gm a,(rK  l cc k).binds b⟩,a,Kv hm a l rfl lc hcc h11 h18 h7 h9 h10 ne λy hy n=>.inl (un y hy n)⟩
def ND {l:Xy}{K:Uu}{st:WA}{k:Nat}(hfa:mg "law"=Z (.ref fa))(L:FF K mg "law" st ["script"])
  (h:∀(base:Vn) (f:Ul) (fd:VL),Fn K mg "law" st f fd ["script"]->eM l.prog w K mg base (jF l.prog w) k f fd ["script"] (sC K 1 F))
  (hb:∀(kV doc pm:Uh) (an:Option Ul) (cdv ct:Uh) (v:Uh),Zj (XR "law" "law" (fQ st) (cz st) (aM st) .none kV doc pm an cdv ct) ⟨[v],[]⟩=pure [(("script":Str),v)]) :
  ∃fd:VL,(∀(s:Ui) (v:Uh),XU s fd ⟨[v],[]⟩ [("script",v)])/\∀base:Vn,K.In base->base.Ns Uv mg->eM l.prog w K mg base (jF l.prog w) k fa fd ["script"] (sC K 1 F):=by
 refine q2x1 L λf fd L=>?_;have e:=hfa.symm.trans L.m;cases e;refine⟨fd,λs v=>?_,λbase _ _=>h base _ fd L⟩;refine q9x3 L.F.ex λoc od kV doc pm an cdv ct osl zz9 lk hcd=>?_;subst zz9;exact .of_eq (hb kV doc pm an cdv ct v)
end DL
namespace DL
open PySem PySem.Spec PyProof.Rows PySem.W L2 List
section
variable {key:Nat->Int}{N:Nat}{s:Ui}{cmp:Nat->Nat->(Bool->Ui->Prop)->Ui->Prop}
def kp (key:Nat->Int)(p:Array Nat)(k:Nat):Int:=key (p.getD k 0)
def As (N:Nat)(p:Array Nat):Prop:=∀k,p.getD k 0<N
def up (key:Nat->Int)(p:Array Nat)(n:Nat):Prop:=∀k,k+1<n->kp key p k<=kp key p (k+1)
def GL (key:Nat->Int)(p:Array Nat)(n:Nat):Prop:=∀k,k+1<n->kp key p (k+1)<=kp key p k
def pT (key:Nat->Int)(N:Nat)(s:Ui)(cmp:Nat->Nat->(Bool->Ui->Prop)->Ui->Prop):Prop:=∀i j C,i<N->j<N->C (decide (key i<key j)) s->cmp i j C s
def wd (h:p[i]?=q[j]?):kp key p i=kp key q j:=by
 unfold kp;simp_all
def Hh (h:∀k:Nat,∃j:Nat,p[k]?=q[j]?)(i:As N q):As N p:=λk=>by
 refine q1x1 (h k) λj e=>?_;have:=i j
 simp_all
theorem KW (h:up key p n):∀(d i:Nat),i+d<n->kp key p i<=kp key p (i+d)
 | 0,i,_=>Zs _
 | d+1,i,q=>aai (KW h d i (by omega)) (h (i+d) (by omega))
def ua (h:up key p n)(hij:i<=j)(hj:j<n):kp key p i<=kp key p j:=by
 have:=KW h (j-i) i (by omega)
 grind
def rev_at (hj:j<=p.size)(k:Nat):(aa8 p i j)[k]?=if i<=k/\k<j then p[i+j-1-k]? else p[k]?:=getElem?_mirror_all hj k
def um (hj:j<=p.size)(h:As N p):As N (aa8 p i j):=Hh (λk=>by
 rw[rev_at hj k];split
 ·exact⟨_,rfl⟩
 ·exact⟨_,rfl⟩) h
def uN (hj:j<=p.size)(e:∀k,i<=k->k<j->kp key p k=kp key p (j-1))(k:Nat):kp key (aa8 p i j) k=kp key p k:=by
 have h:=rev_at (i:=i) hj k
 by_cases q:i<=k/\k<j
 ·rw[if_pos q] at h;rw[wd h,e _ (by omega) (by omega),e k q.1 q.2]
 ·rw[if_neg q] at h;exact wd h
theorem AC (hc:pT key N s cmp)(hp:As N p):∀(f n:Nat),1<=n->up key p n->(∀m,n<=m->m<=n+f->up key p m->(m<n+f->kp key p m<kp key p (m-1))->Q m s)->(kas_asc p f n).kasWp cmp Q s
 | 0,n,h1,u,h=>h n (Uj _) (Uj _) u (λz=>absurd z (by omega))
 | f+1,n,h1,u,h=>by
  refine hc _ _ _ (hp _) (hp _) ?_
  by_cases q:kp key p n<kp key p (n-1)
  ·rw[decide_eq_true (show key (p.getD n 0)<key (p.getD (n-1) 0) from q)];exact h n (Uj _) (by omega) u λ_=>q
  ·rw[decide_eq_false (show¬key (p.getD n 0)<key (p.getD (n-1) 0) from q)];refine AC hc hp f (n+1) (by simp) (λk hk=>?_) λm a b c d=>h m (by omega) (by omega) c λz=>d (by omega)
   by_cases e:k+1<n
   ·exact u k e
   grind
theorem tB (hc:pT key N s cmp):∀(f:Nat) (p:Array Nat) (n q:Nat),As N p->n+f<=p.size->q+1<=n->GL key p n->(∀k,n-(q+1)<=k->k<n->kp key p k=kp key p (n-1))->
  (∀p' n' q',p'.size=p.size->p'.Perm p->As N p'->n<=n'->n'<=n+f->q'+1<=n'->GL key p' n'->(∀k,n'-(q'+1)<=k->k<n'->kp key p' k=kp key p' (n'-1))->Q (p',n',q') s)->(kas_desc f p n q).kasWp cmp Q s
 | 0,p,n,q,hp,hz,hq,hd,he,h=>h p n q rfl (WB _) hp (Uj _) (Uj _) hq hd he
 | f+1,p,n,q,hp,hz,hq,hd,he,h=>by
  refine hc _ _ _ (hp _) (hp _) ?_
  by_cases c:kp key p n<kp key p (n-1)
  ·rw[decide_eq_true (show key (p.getD n 0)<key (p.getD (n-1) 0) from c)];dsimp only;rw[if_pos rfl];have hd':GL key p (n+1):=λk hk=>by
    by_cases e:k+1<n
    ·exact hd k e
    ·have:k=n-1:=by omega
     subst this;rw[show n-1+1=n by omega];omega
   by_cases z:q>0
   ·rw[if_pos z];have sm:=uN (key:=key) (p:=p) (i:=n-(q+1)) (j:=n) (by omega) he;refine tB hc f (aa8 p (n-(q+1)) n) (n+1) 0 (um (by omega) hp) (by rw[WY];omega) (by omega) (λk hk=>by rw[sm,sm];exact hd' k hk) (λk a b=>by rw[show k=n by omega];rfl) λp' n' q' a b c1 d e g i j=>h p' n' q' (a.trans (WY ..)) (b.trans (Zt ..)) c1 (by omega) (by omega) g i j
   ·rw[if_neg z];exact tB hc f p (n+1) 0 hp (by omega) (by omega) hd' (λk a b=>by rw[show k=n by omega];rfl) λp' n' q' a b c1 d e g i j=>h p' n' q' a b c1 (by omega) (by omega) g i j
  ·rw[decide_eq_false (show¬key (p.getD n 0)<key (p.getD (n-1) 0) from c)];dsimp only;rw[if_neg (by simp)];refine hc _ _ _ (hp _) (hp _) ?_
   by_cases c2:kp key p (n-1)<kp key p n
   ·rw[decide_eq_true (show key (p.getD (n-1) 0)<key (p.getD n 0) from c2)];dsimp only;rw[if_pos rfl];exact h p n q rfl (WB _) hp (Uj _) (by omega) hq hd he
   ·rw[decide_eq_false (show¬key (p.getD (n-1) 0)<key (p.getD n 0) from c2)];dsimp only;rw[if_neg (by simp)];have eq:kp key p n=kp key p (n-1):=by omega
    refine tB hc f p (n+1) (q+1) hp (by omega) (by omega) (λk hk=>?_) (λk a b=>?_) λp' n' q' a b c1 d e g i j=>h p' n' q' a b c1 (by omega) (by omega) g i j
    ·by_cases e:k+1<n
     ·exact hd k e
     ·have:k=n-1:=by omega
      subst this;rw[show n-1+1=n by omega];omega
    ·show _=kp key p n
     by_cases e:k<n
     ·rw[he k (by omega) e];omega
     ·rw[show k=n by omega]
def yv (hc:pT key N s cmp)(hp:As N p)(h1:1<=n)(hn:n<=m)(hz:m<=p.size)(hd:GL key p n)
  (h:∀k p',p'.size=p.size->p'.Perm p->As N p'->1<=k->k<=m->up key p' k->Q (k,p') s):(kas_tail3 n m p).kasWp cmp Q s:=by
 unfold kas_tail3;rw[Xb];have at':∀k,k<n->kp key (aa8 p 0 n) k=kp key p (n-1-k):=λk hk=>by
  have e:=rev_at (i:=0) (j:=n) (p:=p) (by omega) k;rw[if_pos ⟨by simp,hk⟩] at e;rw[wd e,show 0+n-1-k=n-1-k by simp]
 refine AC hc (um (by omega) hp) _ n h1 (λk hk=>?_) λk a b c _=>h k _ (WY ..) (Zt ..) (um (by omega) hp) (by omega) (by omega) c
 have:=hd (n-1-(k+1)) (by omega)
 grind
def sj (hc:pT key N s cmp)(hp:As N p)(hn:n+1<=m)(hz:m<=p.size)(hd:GL key p (n+1))
  (h:∀k p',p'.size=p.size->p'.Perm p->As N p'->1<=k->k<=m->up key p' k->Q (k,p') s):(kas_descPart n m p).kasWp cmp Q s:=by
 unfold kas_descPart;rw[Xb];refine tB hc _ p (n+1) 0 hp (by omega) (by omega) hd (λk a b=>by grind) λp' n' q' a b c d e g i j=>?_
 dsimp only;split
 ·have sm:=uN    (j:=n') (by omega) j;exact yv hc (um (by omega) c) (by omega) (by omega) (by rw[WY];omega) (λk hk=>by rw[sm,sm];exact i k hk) λk p2 a2 b2 c2 d2 e2 g2=>h k p2 (a2.trans ((WY ..).trans a)) (b2.trans ((Zt ..).trans b)) c2 d2 e2 g2
 ·exact yv hc c (by omega) (by omega) (by omega) i λk p2 a2 b2 c2 d2 e2 g2=>h k p2 (a2.trans a) (b2.trans b) c2 d2 e2 g2
def Hi (hc:pT key N s cmp)(hp:As N p)(h1:1<=m)(hz:m<=p.size)
  (h:∀k p',p'.size=p.size->p'.Perm p->As N p'->1<=k->k<=m->up key p' k->Q (k,p') s):(kas_count m p).kasWp cmp Q s:=by
 unfold kas_count;rw[Xb];refine AC hc hp _ 1 (Uj _) (λk hk=>absurd hk (by omega)) λn a b c d=>?_
 by_cases e:n=m
 ·rw[if_pos (by simp[e])];exact h n p rfl (WB _) hp a (by omega) c
 ·rw[if_neg (by simp[e])];have lt:=d (by omega)
  by_cases z:n>1
  ·rw[if_pos z];refine hc _ _ _ (hp _) (hp _) ?_
   by_cases t:kp key p 0<kp key p (n-1)
   ·rw[decide_eq_true (show key (p.getD 0 0)<key (p.getD (n-1) 0) from t)];dsimp only;rw[if_pos rfl];exact h n p rfl (WB _) hp a (by omega) c
   ·rw[decide_eq_false (show¬key (p.getD 0 0)<key (p.getD (n-1) 0) from t)];dsimp only;rw[if_neg (by simp)];have al:∀k,0<=k->k<n->kp key p k=kp key p (n-1):=λk _ hk=>by
     have x:=ua c (show 0<=k by omega) hk;have y:=ua c (show k<=n-1 by omega) (by omega);omega
    have sm:=uN (key:=key) (p:=p) (i:=0) (j:=n) (by omega) al;refine sj hc (um (by omega) hp) (by omega) (by rw[WY];omega) (λk hk=>?_) λk p2 a2 b2 c2 d2 e2 g2=>h k p2 (a2.trans (WY ..)) (b2.trans (Zt ..)) c2 d2 e2 g2
    grind
  ·rw[if_neg z];have e1:n=1:=by omega
   subst e1;refine sj hc hp (by omega) hz (λk hk=>?_) h;have:k=0:=by omega
   subst this;exact Int.le_of_lt lt
theorem uG (hc:pT key N s cmp){k:Nat}(hp:As N p)(hu:up key p k):∀(f l r:Nat),l<=r->r<=k->r-l<=f->(∀i,i<l->kp key p i<=kp key p k)->(∀i,r<=i->i<k->kp key p k<=kp key p i)->
  (∀m,m<=k->(∀i,i<m->kp key p i<=kp key p k)->(∀i,m<=i->i<k->kp key p k<=kp key p i)->Q m s)->(kas_place p k f l r).kasWp cmp Q s
 | 0,l,r,h1,h2,h3,a,b,h=>h l (by omega) a λi x y=>b i (by omega) y
 | f+1,l,r,h1,h2,h3,a,b,h=>by
  unfold kas_place
  by_cases e:l≥r
  ·rw[if_pos e];exact h l (by omega) a λi x y=>b i (by omega) y
  ·rw[if_neg e];refine hc _ _ _ (hp _) (hp _) ?_
   by_cases t:kp key p k<kp key p ((l+r) / 2)
   ·rw[decide_eq_true (show key (p.getD k 0)<key (p.getD ((l+r) / 2) 0) from t)];dsimp only;rw[if_pos rfl];exact uG hc hp hu f l _ (by omega) (by omega) (by omega) a (λi x y=>by
     have:=ua hu x y;omega) h
   ·rw[decide_eq_false (show¬key (p.getD k 0)<key (p.getD ((l+r) / 2) 0) from t)];dsimp only;rw[if_neg (by simp)];exact uG hc hp hu f _ r (by omega) h2 (by omega) (λi x=>by
     have:=ua hu (show i<=(l+r) / 2 by omega) (by omega);omega) b h
theorem Fa (hc:pT key N s cmp):∀(f:Nat) (p:Array Nat) (k:Nat),As N p->k+f=p.size->up key p k->(∀p',p'.Perm p->up key p' p.size->Q p' s)->(kas_bin f p k).kasWp cmp Q s
 | 0,p,k,hp,hz,hu,h=>h p (WB _) (by rw[<-hz];exact hu)
 | f+1,p,k,hp,hz,hu,h=>by
  unfold kas_bin;rw[Xb];refine uG hc hp hu k 0 k (UW _) (Uj _) (by omega) (λi x=>absurd x (by omega)) (λi x y=>absurd x (by omega)) λm hm a b=>?_
  have at':=getElem?_bubble (xs:=p) (src:=k) (by omega) (k-m) (by omega);have sz:(bubble p k (k-m)).size=p.size:=bubble_size ..;have e1:k-(k-m)=m:=by omega
  rw[e1] at at';refine Fa hc f _ (k+1) (Hh (λi=>by
   rw[at' i];split
   ·exact⟨_,rfl⟩
   ·split
    ·exact⟨_,rfl⟩
    ·exact⟨_,rfl⟩) hp) (by rw[sz];omega) (λi hi=>?_) λp' x y=>h p' (x.trans (bubble_perm ..)) (by rw[sz] at y;exact y)
  have g:∀i,i<=k->kp key (bubble p k (k-m)) i=if i=m then kp key p k else if m<i then kp key p (i-1) else kp key p i:=λi hi=>by
   have:=at' i
   by_cases q1:i=m
   ·rw[if_pos q1] at this ⊢;exact wd this
   ·rw[if_neg q1] at this ⊢
    by_cases q2:m<i
    ·rw[if_pos ⟨q2,hi⟩] at this;rw[if_pos q2];exact wd this
    ·rw[if_neg (by omega)] at this;rw[if_neg q2];exact wd this
  rw[g i (by omega),g (i+1) (by omega)]
  by_cases q1:i=m
  ·rw[if_pos q1,if_neg (by omega),if_pos (by omega),show i+1-1=i by omega];exact b i (by omega) (by omega)
  ·rw[if_neg q1]
   by_cases q2:m<i
   ·rw[if_pos q2,if_neg (by omega),if_pos (by omega),show i+1-1=i by omega];have:=hu (i-1) (by omega);rwa [show i-1+1=i by omega] at this
   ·rw[if_neg q2]
    by_cases q3:i+1=m
    ·rw[if_pos q3];exact a i (by omega)
    ·rw[if_neg q3,if_neg (by omega)];exact hu i (by omega)
def JB (hc:pT key n s cmp)(h2:1<=n)(h:∀p:Array Nat,p.Perm (Vg (UH n))->up key p n->Q p s):(kas_sort n).kasWp cmp Q s:=by
 unfold kas_sort;rw[Xb];have h0:As n (Vg (UH n)):=λk=>by
  rw[WM,getElem?_toArray]
  by_cases q:k<n
  ·rw[YQ q];exact q
  ·rw[aaH (by rw[Wv];omega)];exact h2
 have hz:(Vg (UH n)).size=n:=by simp
 refine Hi hc h0 h2 (by omega) λk p' a b c d e g=>?_
 by_cases z:k<n
 ·rw[if_pos z];have em:max k 1=k:=by omega
  rw[em];exact Fa hc _ p' k c (by omega) g λp2 x y=>h p2 (x.trans b) (by simp_all)
 ·rw[if_neg z];have:k=n:=by omega
  subst this;exact h p' b g
end
section
theorem pK:∀a:List Int,HT.lexLt a a=false
 | []=>rfl
 | x::a=>by rw[HT.lexLt_cons,if_pos rfl];exact pK a
theorem tq:∀a b:List Int,HT.lexLt a b=false->HT.lexLt b a=false->a=b
 | [],[],_,_=>rfl
 | [],_::_,h,_=>by cases h
 | _::_,[],_,h=>by cases h
 | x::a,y::b,h1,h2=>by
  rw[HT.lexLt_cons] at h1 h2
  by_cases e:x=y
  ·subst e;rw[if_pos rfl] at h1 h2;rw[tq a b h1 h2]
  grind
theorem kM:∀a b c:List Int,HT.lexLt a b=true->HT.lexLt b c=true->HT.lexLt a c=true
 | [],[],_,h,_=>by omega
 | [],_::_,[],_,h=>by cases h
 | [],_::_,_::_,_,_=>rfl
 | _::_,[],_,h,_=>by cases h
 | _::_,_::_,[],_,h=>by cases h
 | x::a,y::b,z::c,h1,h2=>by
  rw[HT.lexLt_cons] at h1 h2 ⊢
  by_cases e:x=y
  ·subst e;rw[if_pos rfl] at h1
   by_cases e2:x=z
   ·subst e2;rw[if_pos rfl] at h2 ⊢;exact kM a b c h1 h2
   ·rwa [if_neg e2] at h2 ⊢
  grind
def rank (zs:List (List Int))(z:List Int):Int:=(zs.countP λy=>HT.lexLt y z:Nat)
theorem C1 {p q:α->Bool}:∀{l:List α} {x:α},(∀y,p y=true->q y=true)->x∈l->p x=false->q x=true->l.countP p<l.countP q
 | a::l,x,hs,hx,h1,h2=>by
  rw[countP_cons,countP_cons];rcases Va.mp hx with e|e
  ·subst e;have:=aaI (l:=l) (λy _=>hs y)
   grind
  ·have:=C1 hs e h1 h2
   grind
def GY {a:List Int}(ha:a∈zs):HT.lexLt a b=decide (rank zs a<rank zs b):=by
 cases h:HT.lexLt a b with
 | true=>
  have:=C1     (λy q=>kM y a b q h) ha (pK a) h;exact(decide_eq_true (by unfold rank;omega)).symm
 | false=>
  have:=aaI (l:=zs)   λy _ q=>by
   cases h2:HT.lexLt b a with
   | true=>exact kM y b a q h2
   | false=>rwa [tq a b h h2]
  exact(decide_eq_false (by unfold rank;omega)).symm
def cB (zs:List (List Int)):List (List Int):=zs.mergeSort λa b=>!HT.lexLt b a
def fq (zs:List (List Int)):(cB zs).Perm zs:=mergeSort_perm zs _
def pP (zs:List (List Int)):(cB zs).Pairwise λa b=>HT.lexLt b a=false:=by
 have h:=Z8 (le:=λa b=>!HT.lexLt b a) (λa b c h1 h2=>by
  simp only[Ys] at h1 h2 ⊢;cases q:HT.lexLt c a with
  | false=>rfl
  | true=>
   cases q2:HT.lexLt a b with
   | true=>rw[kM c a b q q2] at h2;omega
   | false=>have:=tq a b q2 h1;grind) (λa b=>by
  cases q:HT.lexLt b a with
  | false=>rfl
  | true=>
   cases q2:HT.lexLt a b with
   | false=>rfl
   | true=>have:=kM a b a q2 q;rw[pK] at this;cases this) zs
 exact h.imp λh=>by simpa using h
theorem lP:∀{a b:List (List Int)},a.Perm b->a.Pairwise (λx y=>HT.lexLt y x=false)->b.Pairwise (λx y=>HT.lexLt y x=false)->a=b
 | [],b,p,_,_=>(aaG p)
 | x::a,[],p,_,_=>absurd p.symm.nil_eq (by simp)
 | x::a,y::b,p,ha,hb=>by
  have e:=tq x y (by
   rcases Va.mp (p.subset (UG ..)) with e|e
   ·rw[e];exact pK y
   simp_all) (by
   rcases Va.mp (p.symm.subset (UG ..)) with e|e
   ·rw[e];exact pK x
   simp_all)
  subst e;rw[lP (perm_cons x |>.mp p) (WI.mp ha).2 (WI.mp hb).2]
end
section
variable {prog:UI}{w:UN}{A:Vd}{E:Uh->Ui->Prop}{s:Ui}
theorem zD {fin:Bool}:∀{vs ws:List Uh} {ns ms:List Int} (i:Nat),Ve vs ns->Ve ws ms->fin=decide (ns.length<ms.length)->Q (HT.lexLt ns ms) s->KatLex prog w A b fin Q (vs.zip ws) i s
 | _,_,_,_,i,.nil,.nil,e,h=>by
  rw[Yr];refine kat_nil ?_;rw[e];exact h
 | _,_,_,_,i,.nil,.cons _ _ _,e,h=>by
  rw[Yr];refine kat_nil ?_;rw[e,decide_eq_true (by simp)];exact h
 | _,_,_,_,i,.cons _ _ _,.nil,e,h=>by
  rw[Za];refine kat_nil ?_;rw[e,decide_eq_false (by simp)];exact h
 | _,_,_,_,i,.cons (ns:=ns) x t r1,.cons (ns:=ms) y u r2,e,h=>by
  rw[W9];refine kat_cons (aau ?_);rw[HT.lexLt_cons] at h
  by_cases q:x=y
  ·rw[if_pos q] at h;rw[show(x==y)=true by simp[q]];exact kat_yes (zD (i+1) r1 r2 (by rw[e];simp) h)
  ·rw[if_neg q] at h;rw[show(x==y)=false by simp[q]];refine kat_no ?_;cases (b&&i==0) with
   | true=>exact oneLt_int h
   | false=>exact kat_one _ _ (Y9 (show W.BoolBack _ (.bool _) _ from h))
def mK (h:Vn):List Uh->List (List Int)->Prop
 | [],[]=>True
 | v::vs,z::zs=>(∃b o xs k,v=.ref b/\h.get? b=Z o/\o.cls=.type "tuple"/\o.data=.seq xs k/\Ve xs.toList z/\z≠[])/\mK h vs zs
 | _,_=>False
theorem mK.length:∀{vs:List Uh} {zs:List (List Int)},mK h vs zs->vs.length=zs.length
 | [],[],_=>rfl
 | [],_::_,t=>t.elim
 | _::_,[],t=>t.elim
 | _::_,_::_,t=>by rw[U6,U6,t.2.length]
theorem mK.keep (k:∀b o,h.get? b=Z o->h'.get? b=Z o):∀{vs:List Uh} {zs:List (List Int)},mK h vs zs->mK h' vs zs
 | [],[],_=>trivial
 | [],_::_,t=>t.elim
 | _::_,[],t=>t.elim
 | _::_,_::_,⟨⟨b,o,xs,n,e,g,r⟩,t⟩=>⟨⟨b,o,xs,n,e,k _ _ g,r⟩,t.keep k⟩
theorem mK.at':∀{vs:List Uh} {zs:List (List Int)} (i:Nat),mK h vs zs->i<vs.length->∃b o xs k,vs.getD i U5=.ref b/\h.get? b=Z o/\o.data=.seq xs k/\Ve xs.toList (zs.getD i [])
 | [],_,i,_,q=>absurd q (by simp)
 | _::_,[],_,t,_=>t.elim
 | _::_,_::_,0,⟨⟨b,o,xs,n,e,g,_,d,r,_⟩,_⟩,_=>⟨b,o,xs,n,e,g,d,r⟩
 | _::_,_::_,i+1,⟨_,t⟩,q=>t.at' i (by simp_all)
theorem mK.firsts:∀{vs:List Uh} {zs:List (List Int)},mK h vs zs->∃fs,KatTups h vs fs/\fs.length=vs.length/\∀v∈fs,∃n t,v=YD n t
 | [],[],_=>⟨[],.nil,rfl,λv hv=>by cases hv⟩
 | [],_::_,t=>t.elim
 | _::_,[],t=>t.elim
 | _::_,z::_,⟨⟨b,o,xs,n,e,g,c,d,r,z0⟩,t⟩=>by
  refine q1x3 t.firsts λfs k l f=>?_;subst e;cases r':xs.toList with
  | nil=>rw[r'] at r;cases r;simp_all
  | cons x ys=>
   rw[r'] at r;cases r with
   | cons m tk r2=>
    refine⟨YD m tk::fs,.cons g c d (by rw[<-Vj,r'];rfl) k,by simp_all,λv hv=>?_⟩;rcases Va.mp hv with e|e
    ·exact⟨m,tk,e⟩
    simp_all
def HH (t:mK s.heap vs zs):pT (λi=>rank zs (zs.getD i [])) vs.length s (kas_ask prog w A (tuples' true) vs):=λi j C hi hj h=>by
 refine q4x4 (t.at' i hi) λb o xs k e1 g1 d1 r1=>?_;refine q4x4 (t.at' j hj) λc o2 ys k2 e2 g2 d2 r2=>?_;show Uq (UA prog w) A (keyLt' (tuples' true) (vs.getD i U5) (vs.getD j U5)) C (λ_ _=>False) s;rw[e1,e2];refine kat_lt g1 d1 g2 d2 (zD 0 r1 r2 (by rw[<-r1.length,<-r2.length];rfl) ?_);rwa [GY (by
  rw[t.length] at hi;rw[Zd,U8 hi];exact Xe hi)]
def mJ {a:Ul}(ho:s.heap.get? a=Z (US "list" vs.toArray n))(t:mK s.heap vs zs)(h64:vs.length<64)
  (h:∀p:Array Nat,p.Perm (Vg (UH vs.length))->up (λi=>rank zs (zs.getD i [])) p vs.length->P (.done (.ret .none)) {s with heap:=sortedHeap s.heap a vs (Vg (p.toList.map λi=>vs.getD i U5))}) :
  Uq (UA prog w) A (Xj.«list.sort» ⟨[.ref a],[]⟩) P E s:=by
 rw[aa2];have ha:a<s.heap.objs.size:=Ut ho;have hsz:vs.toArray.size=vs.length:=by simp
 refine Ud (listItems_at ho rfl ?_);refine Ud (W6 ho rfl ?_ (by rw[U1,U3];omega) (UW _));obtain⟨e1,ho1⟩:∃e1,(s.heap.update a (UM λ_=>#[])).get? a=Z (US "list" #[] e1):=⟨_,VQ ho (λ_=>#[])⟩;refine Ud (XJ ho1 rfl ?_);refine Ud (Zu ?_ (by show vs.length<=_;rw[U3];omega));refine Ud (WH ?_ (UW _));refine UL ?_;have ho6:(((s.heap.update a (UM λ_=>#[])).push (US "tuple" vs.toArray 0)).push (US "list" #[] 0)).get? a=Z (US "list" #[] e1):=by
  rw[Wh _ _ _ (by rw[Y2,WZ];exact Uz (Xp ha)),Wh _ _ _ (by rw[WZ];exact Uz ha)];exact ho1
 have t6:mK (((s.heap.update a (UM λ_=>(#[]:Array Uh))).push (US "tuple" vs.toArray 0)).push (US "list" #[] 0)) vs zs:=by
  have go:∀{vs':List Uh} {zs':List (List Int)},mK s.heap vs' zs'->mK (((s.heap.update a (UM λ_=>(#[]:Array Uh))).push (US "tuple" vs.toArray 0)).push (US "list" #[] 0)) vs' zs':=λ{vs'}=>by
   induction vs' with
   | nil=>intro zs' x;cases zs' <;> first|exact trivial|exact x.elim
   | cons v vs' ih=>
    intro zs' x;cases zs' with
    | nil=>exact x.elim
    | cons z zs'=>
     obtain⟨⟨b,o,xs,k,e,g,c,d,r⟩,x⟩:=x;have hb:b≠a:=λz=>by
      subst z;rw[g] at ho;cases ho;simp at c
     exact⟨⟨b,o,xs,k,e,Ug _ (Ug _ (by rw[Wl _ _ _ _ hb];exact g)),c,d,r⟩,ih x⟩
  exact go t
 show Uq (UA prog w) A _ P E {s with heap:=((s.heap.update a (UM λ_=>#[])).push (US "tuple" vs.toArray 0)).push (US "list" #[] 0)};dsimp only
 by_cases h2:vs.toArray.size<2
 ·rw[if_pos h2,if_pos h2];refine Ud (Ue ?_);rw[aa3];refine Ud (Ue ?_);dsimp only;have e:((vs.toArray.zip vs.toArray).map λp=>p.2)=Vg ((Vg (UH vs.length)).toList.map λi=>vs.getD i U5):=by
   match vs,hsz,h2 with
   | [],_,_=>simp
   | [x],_,_=>simp[range_succ]
   | _::_::_,_,h2=>exact absurd h2 (by simp)
  refine Ud (XJ ho6 rfl ?_);refine Ud (W6 ho6 rfl ?_ (UW _) (by rw[abx];show(pairsOf vs).size<=_;rw[pairsOf_size,U3];omega));simp only[bne_self_eq_false,Vb,if_false];refine Ue ?_;have:=h (Vg (UH vs.length)) (WB _) (λk hk=>absurd hk (by omega));rw[<-e] at this;exact this
 ·rw[if_neg h2,if_neg h2];refine q1x3 t6.firsts λfs kt kl kf=>?_;refine Ud (VF (kat_kind (T:=.type "int") (Q:=λκ s'=>κ=tuples' true/\s'={s with heap:=((s.heap.update a (UM λ_=>#[])).push (US "tuple" vs.toArray 0)).push (US "list" #[] 0)}) kt (by omega) (λv hv=>?_) rfl ⟨rfl,rfl⟩) (λκ s' hk=>?_) λ_ _ x=>x)
  ·refine q2x1 (kf v hv) λm tk zz2=>?_;subst zz2;exact .now
  ·refine q0x2 hk λzz0 zz1=>?_;subst zz0;subst zz1;refine Ud (VF (kat_run (ks:=vs) (vs:=vs) (G:=λp s'=>p.Perm (Vg (UH vs.length))/\up (λi=>rank zs (zs.getD i [])) p vs.length/\s'={s with heap:=((s.heap.update a (UM λ_=>#[])).push (US "tuple" vs.toArray 0)).push (US "list" #[] 0)})
    (Q:=λst' s'=>∃p:Array Nat,XM st'=p.map (kas_item (vs.toArray.zip vs.toArray))/\p.size=vs.length/\Yi st'=Y/\p.Perm (Vg (UH vs.length))/\up (λi=>rank zs (zs.getD i [])) p vs.length/\s'={s with heap:=((s.heap.update a (UM λ_=>#[])).push (US "tuple" vs.toArray 0)).push (US "list" #[] 0)}) rfl (by omega) h64
    (λp st' s' a1 a2 a3 a4=>⟨p,a2,a1,a3,a4⟩) (JB (HH (s:={s with heap:=((s.heap.update a (UM λ_=>#[])).push (US "tuple" vs.toArray 0)).push (US "list" #[] 0)}) t6) (by omega) λp hp hu=>⟨hp,hu,rfl⟩)) ?_ λ_ _ e=>e)
   rintro ⟨⟨⟩,st'⟩ s' ⟨p,har,hp,hf,a4,a5,rfl⟩;dsimp only;rw[kat_snds rfl har];refine Ud (XJ ho6 rfl ?_);refine Ud (W6 ho6 rfl ?_ (UW _) (by rw[U1,UB,Vi,hp,U3];omega));rw[hf];simp only[bne_self_eq_false,Vb,if_false];exact Ue (h p a4 a5)
def zj (hl:s.heap.IsList l vs.toArray)(t:mK s.heap vs zs)(h64:vs.length<64)
  (h:∀p:Array Nat,p.Perm (Vg (UH vs.length))->up (λi=>rank zs (zs.getD i [])) p vs.length->Q (.ref (s.heap.objs.size+1)) {s with heap:=sortedAll s.heap vs (Vg (p.toList.map λi=>vs.getD i U5))}) :
  Uq (UA prog w) A (call (.builtin "sorted") [.ref l]) Q E s:=by
 refine W0 aaS aan aao (aap _) ?_;unfold Xj.«sorted»;refine Ud  (Ue ?_);refine Ud (collect_list hl ?_ (by rw[U3];omega));refine Ud (WH ?_ (by rw[U3];omega));have hsz:((s.heap.push (US "list" #[] 0)).update s.heap.objs.size (UM (·++vs.toArray))).objs.size=s.heap.objs.size+1:=by
  rw[WZ,Y2]
 have hoL:(((s.heap.push (US "list" #[] 0)).update s.heap.objs.size (UM (·++vs.toArray))).push (US "list" vs.toArray 0)).get? (s.heap.objs.size+1)=Z (US "list" vs.toArray 0):=by
  rw[<-hsz];exact Uo _ rfl
 rw[hsz];refine Ud (UL (UZ Zv ⟨_,hoL,rfl⟩ Y8 (mJ hoL (t.keep (λb o q=>by
  have hlt:=Ut q;rw[Wh _ _ _ (by rw[hsz];exact Uz (Xp hlt)),Wl _ _ _ _ (Uz hlt),Wh _ _ _ (Uz hlt)];exact q)) h64 λp a1 a2=>⟨_,rfl,?_⟩) (Zw _)))
 exact Ue ⟨_,rfl,h p a1 a2⟩
end
def bH (z:List Int):D:=.tup (z.map D.int)
def p9:List D->Option (List (List Int))
 | []=>Z []
 | d::ds=>match dG d,p9 ds with
  | some (i::z),Z zs=>Z ((i::z)::zs)
  | _,_=>Y
def zF:FD:=λds M=>match ds with
 | [d]=>match zP d M with
  | some xs=>match uT xs with
   | some ns=>if ns.length<64 then .ok (.lst ((L2.sortI ns).map D.int)) M else .bad
   | none=>match p9 xs with
    | some zs=>if zs.length<64 then .ok (.lst ((cB zs).map bH)) M else .bad
    | none=>.bad
  | none=>.bad
 | _=>.bad
theorem qI {K:Uu}:∀l:List Nat,(∀i∈l,cC K θ H (f i) (g i))->a6 K θ H (l.map f) (l.map g)
 | [],_=>rfl
 | i::l,h=>⟨_,_,rfl,h i (.head _),qI l λj hj=>h j (.tail _ hj)⟩
theorem qQ:∀l:List Nat,(∀i∈l,aS (g i) (u i))->aV (l.map g) (l.map u)
 | [],_=>.nil
 | i::l,h=>.cons (h i (.head _)) (qQ l λj hj=>h j (.tail _ hj))
def vZ (hp:p.Perm (Vg (UH zs.length)))(hu:up (λi=>rank zs (zs.getD i [])) p zs.length):p.toList.map (λi=>zs.getD i [])=cB zs:=by
 have hl:=by simpa using WV.mp hp
 have hlen:p.toList.length=zs.length:=by rw[hl.length_eq,Wv]
 refine lP ?_ ?_ (pP zs)
 ·refine(hl.map _).trans (.trans (.of_eq ?_) (fq zs).symm);apply ext_getElem
  ·simp
  ·intro i h1 h2;simp[h2]
 ·rw[YR];intro i j hi hj hij;rw[UB] at hi hj;rw[getElem_map,getElem_map];have le:=ua hu (VT hij) (by omega);have at':∀k (hk:k<p.toList.length),p.getD k 0=p.toList[k]:=λk hk=>by
   rw[WM,<-Vj,U8 hk];rfl
  unfold kp at le;rw[at' i hi,at' j hj] at le;dsimp only at le;rw[GY (by
   have:=YT.mp (hl.subset (Xe hj));rw[Zd,U8 this];exact Xe this)]
  exact decide_eq_false (by omega)
section
variable {X:Cx}{af:List (Ul×Obj)}{σ:L2.St}{H:Hp}{s:Ui}{θ:List Ul}
theorem uh (I:L2.Inv X af σ H s):∀{xs:List D} {zs:List (List Int)} {vs:List V} {us:List Uh},p9 xs=Z zs->a6 X.K θ H xs vs->aV vs us->
  mK s.heap us zs/\us.length=zs.length/\∀i,i<zs.length->cC X.K θ H (bH (zs.getD i [])) (vs.getD i .non)/\aS (vs.getD i .non) (us.getD i U5)
 | [],zs,vs,us,e,r,v=>by
  simp only[p9,Wf] at e;subst e;subst r;cases v;exact⟨trivial,rfl,λi h=>absurd h (by simp)⟩
 | d::xs,zs,vs,us,e,r,v=>by
  simp only[p9] at e;split at e
  ·rename_i i z zs' q1 q2;cases e;refine q2x3 r λv1 vr e1 r1 r2=>?_;subst e1;cases v with
   | cons h1 h2=>
    refine q0x3 (uh I q2 r2 h2) λt l f=>?_;refine q1x2 (kI q1 r1) λb eb tb=>?_;subst eb;subst h1;obtain⟨its,rr,⟨o,ho,hc,n,hd⟩,_⟩:=I.tuple tb.sq;refine⟨⟨⟨b,o,its.toArray,n,rfl,ho,hc,hd,i9 rr,by simp⟩,t⟩,by rw[U6,U6,l],λk hk=>?_⟩;cases k with
    | zero=>exact⟨⟨b,_,rfl,tb,kD _⟩,rfl⟩
    | succ k=>exact f k (by simpa using hk)
  ·cases e
end
section
variable {X:Cx}
def Dl:QC X (.builtin "sorted") zF:=⟨by
 intro af s σ H xs us Q I r h;obtain⟨θ,M,ds,hw,rd,h⟩:=h;unfold zF at h;split at h
 ·rename_i d;split at h
  ·rename_i ys q;split at h
   ·rename_i ns qn;refine C7 af s σ H xs us Q I r ⟨θ,M,_,hw,rd,?_⟩;unfold GR;simp only[q,qn];exact h
   ·rename_i qn;split at h
    ·rename_i zs qz;split at h
     ·rename_i hl;obtain⟨v,e,rv⟩:=gE rd;obtain⟨a,vs,ea,ta,ra⟩:=zf hw rv q;subst e ea;obtain⟨u,rfl,rx⟩:=ju r;cases rx;obtain⟨its,r',pl,hz⟩:=I.list (show pe X.K H a vs from .inl (.inl ta));obtain⟨T,lz,f⟩:=uh I qz ra r';refine zj pl.isList T (by omega) λp hp hu=>?_
      rw[lz] at hp hu;have hpl:p.toList.Perm (UH zs.length):=by simpa using WV.mp hp
      have es:=vZ hp hu;have inR:∀i∈p.toList,i<zs.length:=λi hi=>YT.mp (hpl.subset hi)
      obtain⟨c,he⟩:=sortedAll_at s.heap its (Vg (p.toList.map λi=>its.getD i U5));have hl2:(p.toList.map λi=>vs.getD i V.non).length<=Ur:=by rw[UB,hpl.length_eq,Wv,U3];omega
      have fr:=I.hok.fresh (Ws s.heap.objs.size);refine⟨.ref (s.heap.objs.size+1),_,I.laid (t':=s.toks) (λ_ _=>sortedAll_old) (Ws _) (show bK X.prog X.w _ _ _ (.lst (p.toList.map λi=>vs.getD i V.non)) from⟨hl2,_,c,(qQ _ λi hi=>(f i (inR i hi)).2),by simpa using he⟩),rfl,?_⟩;refine h _ θ _ (cQ hw fr) (ik hw fr ?_);rw[<-es,aaq];exact qI _ λi hi=>(f i (inR i hi)).1
     ·exact h.elim
    ·exact h.elim
  ·exact h.elim
 ·exact h.elim⟩
end
end DL
namespace TS
open PySem PyProof.Rows PySem.W
section
variable {prog:UI}{w:UN}{A:Vd}{E:Uh->Ui->Prop}{s:Ui}{κ:aar}{G:WC->Prop}{key:WC->Int}
def LtOk (prog:UI)(w:UN)(A:Vd)(s:Ui)(κ:aar)(G:WC->Prop)(key:WC->Int):Prop:=∀x y,G x->G y->∀C:Bool->Ui->Prop,C (decide (key x<key y)) s->Uq (UA prog w) A (keyLt' κ x.1 y.1) C (λ_ _=>False) s
def wpS_lt (hL:LtOk prog w A s κ G key)(hx:G x)(hy:G y){st:Vk}(hk:kindOf st=κ)(h:Q (Z (decide (key x<key y))) st):wpS (UA prog w) A E s (lt' x y) Q st:=by
 rw[lt'_eq];refine Wo (aa9 ?_);rw[hk];refine Wo (wpS_lift (W5 (VF (hL x y hx hy (λb s'=>b=decide (key x<key y)/\s'=s) ⟨rfl,rfl⟩) (λb s' hb=>?_) λ_ _ hF=>hF.elim)));refine q0x2 hb λzz0 zz1=>?_;subst zz0;subst zz1;exact⟨rfl,XN h⟩
def wpS_elem (hi:arr[i]?=Z x){st:Vk}(h:Q x st):wpS (UA prog w) A E s (elem' arr i) Q st:=by
 rw[elem'_eq,hi];exact XN h
def wpS_ite [Decidable c]{x y:StateT Vk Sem α}{Q:α->Vk->Prop}{st:Vk}(h1:c->wpS (UA prog w) A E s x Q st)(h2:¬c->wpS (UA prog w) A E s y Q st):wpS (UA prog w) A E s (if c then x else y) Q st:=by
 by_cases h:c
 ·rw[if_pos h];exact h1 h
 ·rw[if_neg h];exact h2 h
def LQ (I:Nat->ρ->Vk->Prop)(D:R'->Vk->Prop)(N:ρ->Vk->Prop)(x:Nat):ForInStep (Option R'×ρ)->Vk->Prop
 | .yield c,st'=>c.1=Y/\I (x+1) c.2 st'
 | .done (Z r,_),st'=>D r st'
 | .done (Y,c),st'=>N c st'
def LQ.y {I:Nat->ρ->Vk->Prop}{D:R'->Vk->Prop}{N:ρ->Vk->Prop}{x:Nat}{c:ρ}{st':Vk}(h:I (x+1) c st'):LQ I D N x (.yield (Y,c)) st':=⟨rfl,h⟩
def LQ.n {I:Nat->ρ->Vk->Prop}{D:R'->Vk->Prop}{N:ρ->Vk->Prop}{x:Nat}{c:ρ}{st':Vk}(h:N c st'):LQ I D N x (.done (Y,c)) st':=h
def wpS_loop {ρ R' α:Type}{a n:Nat}{f:Nat->Option R'×ρ->StateT Vk Sem (ForInStep (Option R'×ρ))}{g:Option R'×ρ->StateT Vk Sem α}{Q:α->Vk->Prop}{c0:ρ}{st:Vk}
  (I:Nat->ρ->Vk->Prop) (D:R'->Vk->Prop) (N:ρ->Vk->Prop) (init:I a c0 st) (step:∀x c st',x<n->I x c st'->wpS (UA prog w) A E s (f x (Y,c)) (LQ I D N x) st') (fin:∀c st',I (max a n) c st'->N c st')
  (hs:∀r c st',D r st'->wpS (UA prog w) A E s (g (Z r,c)) Q st') (hn:∀c st',N c st'->wpS (UA prog w) A E s (g (Y,c)) Q st'):wpS (UA prog w) A E s (forIn [a:n] (Y,c0) f >>= g) Q st:=by
 refine Wo (wpS_mono (wpS_forRange (I:=λx c st'=>c.1=Y/\I x c.2 st') (Q:=λc st'=>match c.1 with|some r=>D r st'|none=>N c.2 st') (λx c st' _ hx h=>?_) (λc st' h=>?_) ⟨rfl,init⟩) (λc st' h=>?_))
 ·obtain⟨o,c⟩:=c;cases h.1;refine wpS_mono (step x c st' hx h.2) λr st2 q=>?_
  match r,q with
  | .yield c2,q=>exact q
  | .done (Z r,c2),q=>exact q
  | .done (Y,c2),q=>exact q
 ·simp_all
 ·obtain⟨o,c⟩:=c;cases o with
  | some r=>exact hs r c st' h
  | none=>exact hn c st' h
def wpS_cut1 {st:Vk}{m:StateT Vk Sem α}{Q:α->Vk->Prop}{j:Unit->β->StateT Vk Sem α}(P:β->Vk->Prop)(h1:∀b st',P b st'->wpS (UA prog w) A E s (j () b) Q st')(h2:(∀b st',P b st'->wpS (UA prog w) A E s (j () b) Q st')->wpS (UA prog w) A E s m Q st):wpS (UA prog w) A E s m Q st:=h2 h1
def grow {x o:Nat}(h:x+1<=o):o<2*o+1/\x+1+1<=2*o+1:=by omega
end
end TS
namespace TS
open PySem PyProof.Rows PySem.W
def at_of {a:Array WC}(h:i<a.size):∃x,a[i]?=Z x/\x∈a.toList:=⟨a[i],getElem?_pos _ i h,by simp⟩
def pred_lt {n m:Nat}(h:1<=n)(h2:n<=m):n-1<m:=Ux (Nat.sub_lt h Nat.one_pos) h2
def leK (key:WC->Int)(x y:WC):Prop:=key x<=key y
section
variable {key:WC->Int}{G:WC->Prop}
def up_at {a:Array WC}(h:a.toList.Pairwise (leK key)){i j:Nat}(hij:i<=j)(hx:a[i]?=Z x)(hy:a[j]?=Z y):key x<=key y:=by
 rw[<-Vj] at hx hy;refine q1x1 (Uk.mp hx) λhi ex=>?_;refine q1x1 (Uk.mp hy) λhj ey=>?_
 by_cases e:i=j
 ·simp_all
 ·rw[<-ex,<-ey];exact(YR.mp h) i j hi hj (by omega)
end
structure Sm (st st':Vk):Prop where
 kind:kindOf st'=kindOf st
 arr:XM st'=XM st
 pend:YN st'=YN st
 fail:Yi st'=Yi st
def Good (key:WC->Int)(a b:Array WC)(r:Array WC):Prop:=r.toList.Perm (a.toList++b.toList)/\r.toList.Pairwise (leK key)
end TS
namespace TS
open PySem PyProof.Rows PySem.W
section
variable {prog:UI}{w:UN}{A:Vd}{E:Uh->Ui->Prop}{s:Ui}{κ:aar}{G:WC->Prop}{key:WC->Int}
abbrev GS (key:WC->Int)(a b:Array WC)(st:Vk)(r:Array WC)(st':Vk):Prop:=Good key a b r/\Sm st st'
end
end TS
namespace TS
open PySem PyProof.Rows PySem.W
end TS
namespace TS
open PySem PyProof.Rows PySem.W
end TS
namespace TS
open PySem PyProof.Rows PySem.W
section
variable {prog:UI}{w:UN}{A:Vd}{E:Uh->Ui->Prop}{s:Ui}{κ:aar}{G:WC->Prop}{key:WC->Int}
def wpS_at (hL:LtOk prog w A s κ G key){st:Vk}(hst:kindOf st=κ)(hi:(XM st)[i]?=Z x)(hj:(XM st)[j]?=Z y)(hx:G x)(hy:G y)(h:Q (Z (decide (key x<key y))) st):wpS (UA prog w) A E s (ltAt' i j) Q st:=by
 refine Wo (aa9 ?_);exact Wo (wpS_elem hi (Wo (wpS_elem hj (wpS_lt hL hx hy hst h))))
inductive C2 (key:WC->Int) (L:List WC) (n:Nat) (st st2:Vk):Prop
 | mk (D R':List WC) (e:st2=st) (l:D.length=n) (ne:D≠[]) (eq:D++R'=L) (up:D.Pairwise (leK key)) (br:n<L.length->∃D2 z y R2,D=D2++[z]/\R'=y::R2/\key y<key z):C2 key L n st st2
def rev_at {lo n neq:Nat}{L0 P S:List WC}(hlo:lo=L0.length)(len:P.length+S.length=n)(ls:S.length=neq+1):lo+n-(neq+1)=L0.length+P.length:=by rw[hlo,<-len,ls,<-WJ,Nat.add_sub_cancel]
end
end TS
namespace TS
open PySem PyProof.Rows PySem.W
end TS
namespace TS
open PySem PyProof.Rows PySem.W
end TS
namespace DL
open PySem PySem.Spec PyProof.Rows L2 List
def Q4 (x y:D)(M:ay)(i:Nat)(kvs:List (List bM×D))(k:List bM):Prop:=x=.mr i/\M[i]?=Z (.dT kvs)/\ki y=Z k
def sB {α:Type}(f:Nat->List (List bM×D)->List bM->ay->bc α)(x y:D)(M:ay):bc α:=match x with
 | .mr i=>match M[i]? with
  | some (.dT kvs)=>match ki y with
   | some k=>f i kvs k M
   | none=>.bad
  | _=>.bad
 | _=>.bad
def G1 (f:Nat->List (List bM×D)->List bM->ay->bc α)(x y:D)(M:ay):sB f x y M=.bad\/∃i kvs k,Q4 x y M i kvs k/\sB f x y M=f i kvs k M:=by
 cases x with
 | mr i=>
  cases q:M[i]? with
  | none=>exact .inl (by unfold sB;dsimp only;rw[q])
  | some m=>
   cases m with
   | dT kvs=>
    cases qk:ki y with
    | none=>exact .inl (by unfold sB;simp_all)
    | some k=>exact .inr ⟨i,kvs,k,⟨rfl,q,qk⟩,by unfold sB;simp_all⟩
   | _=>exact .inl (by unfold sB;simp_all)
 | _=>exact .inl rfl
def AF:F2:=sB λ_ kvs k M=>match fY kvs k with
 | some r=>.ok r M
 | none=>.bad
section
variable {K:Uu}{θ:List Ul}{H:Hp}{M:ay}
def Ro {k:List bM}(hw:Wr K θ H M)(h:Q4 x y M i kvs k)(r1:cC K θ H x vx)(r2:cC K θ H y vy) :
  ∃a b vs,vx=.ref a/\vy=.ref b/\θ[i]?=Z a/\H a=Z (.dT vs)/\H b=Z (.tup (k.map kV))/\ow K θ H kvs vs:=by
 rw[h.1] at r1;refine q1x2 r1 λa ea ta=>?_;refine q1x2 (hw.at_ i a _ ta h.2.1) λvs hv ra=>?_;refine q1x3 (FN h.2.2 r2) λb eb hb _=>?_;exact⟨a,b,vs,ea,eb,ta,hv,hb,ra⟩
end
section
variable {X:Cx}{pos:Pos}{o i e:UY}{go gi ge:GE}
def IY (hu:X.A.units+1<YG)(ho:PE X o (tE X go))(hi:PE X i (tE X gi))(hs:DI i):PE X (.Subscript o i pos) (tE X (g2 AF go gi)):=(wU hu ho hi hs).of λσ H Q hxx=>by
 refine q3x3 hxx λρ θ M hd hw h=>?_;refine bi hd hw (aK X θ H Q) (λc M' h=>h) (λh=>h) h λd1 M1 v1 θ1 H1 g1 r1 h1=>?_
 refine bi (hd.go g1) g1.wr (aK X θ1 H1 Q) (λc M' h=>h) (λh=>h) (aK.go g1 h1) λd2 M2 v2 θ2 H2 g2 r2 h2=>?_
 have h2:=aK.go g2 h2;unfold AF at h2;rcases G1 (λ_ kvs k M=>match fY kvs k with|some r=>bc.ok r M|none=>.bad) d1 d2 M2 with e|⟨j,kvs,k,t,e⟩
 ·rw[e] at h2;exact h2.elim
 rw[e] at h2;refine q3x6 (Ro g2.wr t (r1.go g2) r2) λa b vs ea eb ta hv hb ra=>?_;cases q:fY kvs k with
 | none=>rw[q] at h2;exact h2.elim
 | some r=>
  rw[q] at h2;refine q1x2 ((nz k ra).1 r q) λv ev rv=>?_;refine⟨a,v,ea,?_,h2 v θ2 H2 (.refl g2.wr) rv⟩;rw[eb,<-ev];exact uj.t hv hb
end
end DL
namespace DL
open PySem PySem.Spec PyProof.Rows PySem.W L2 List
def oh (h:Vn)(d:Ul)(es:Array WX)(ep:Nat):Prop:=∃o,h.get? d=Z o/\o.ExactDict/\o.data=.dict es ep
section
variable {prog:UI}{w:UN}{A:Vd}{E:Uh->Ui->Prop}{s:Ui}{d it:Ul}{es:Array WX}{ep i:Nat}
def oh.typeIs (x:oh s.heap d es ep):s.TypeIs (.ref d) "dict":=by
 refine q1x3 x λo ho hc _=>?_;exact⟨o,ho,hc.1⟩
def FK (hd:(d==Vp)=false)(x:oh s.heap d es ep)
  (hQ:Q (.ref s.heap.objs.size) {s with heap:=s.heap.push {cls:=.type "dict_keyiterator",data:=.fields #[.ref d,.int 0 0,.int es.size 0,.int ep 0]}}):Uq (UA prog w) A (ZZ (.ref d)) Q E s:=by
 have T:=x.typeIs;refine q1x3 x λo ho hc hx=>?_;refine Yu T PySem.F.slot_dict_iter (UZ PySem.F.slot_dict_iter T PySem.F.entry_dict_iter ?_ (PySem.F.args_dict_iter_1 _));refine Ud ?_;refine Ud (Xw T ?_);refine Ue ?_;show Uq _ _ (Xx d >>= _) _ _ s;unfold Xx;rw[if_neg (by rw[hd];exact Uy)];refine Ud (Ue (Ud (VO ho hx (Ud (WD ho hx (Ud (UV (Ue ⟨_,rfl,"dict_keyiterator",_,⟨_,Uo _ rfl,rfl⟩,PySem.F.slot_dict_keyiterator_next.lookup,?_⟩))))))));exact hQ
def oh.stay (x:oh h d es ep)(k:∀o,h.get? d=Z o->h'.get? d=Z o):oh h' d es ep:=by
 refine q1x2 x λo ho r=>?_;exact⟨o,k o ho,r⟩
def Ez (hit:s.heap.IsKeyIter it d i es.size ep)(x:oh s.heap d es ep)(hi:i<es.size)
  (hQ:∀h',h'.IsKeyIter it d (i+1) es.size ep->Vr it s.heap h'->Q (Z es[i].key) {s with heap:=h'}):Uq (UA prog w) A (WN (.ref it)) Q E s:=by
 have T:=hit.typeIs;refine q1x3 hit λo ho hc hd=>?_;refine q1x3 x λod hod hcd hx=>?_;unfold WN;refine Ud (W5 (U7 (name:=Vx "__next__") T PySem.F.slot_dict_keyiterator_next (UZ PySem.F.slot_dict_keyiterator_next T PySem.F.entry_dict_keyiterator_next ?_ (PySem.F.args_dict_keyiterator_next_1 _))));refine Ud (Ue (Ud (Ud ?_)))
 first|refine Ud (VM T (Ue ?_))|refine Ud (Wk T (Ue ?_))
 refine Ud (Yj ho hd ?_);simp only[show Vy "dict_keyiterator"=false by decide,Vb,if_false];show Uq _ _ (if(UO d==U5)=true then _ else _) _ _ s;rw[if_neg (show¬((UO d==U5)=true) from Uy)];refine Ud (Ue (Ud (VO hod hx ?_)));rw[if_neg (by simp)];refine Ud (Ue (Ud (WD hod hx ?_)));rw[if_neg (by simp)];refine Ue ?_;simp only[show¬((i:Int)<0) from by omega,if_false,UC,U0 hi];refine Ud ?_
 first|refine Ud (VM T (Ue ?_))|refine Ud (Wk T (Ue ?_))
 refine Ud (Ze T ?_);show Uq _ _ (aby (.ref it) 1 (WO ((i:Int)+1)) >>= _) _ _ s;refine Ud (Xo ho hd (by simp) ?_);have hit2:(s.heap.update it (abF (·.setIfInBounds 1 (WO ((i:Int)+1))))).IsKeyIter it d (i+1) es.size ep:=
  ⟨_,WK _ ho (Zb (Xd hd _)),(aak ..).trans hc,by rw[Xd hd];simp[WO]⟩
 refine Ud (UL (Ud (Ze (s:={s with heap:=s.heap.update it (abF (·.setIfInBounds 1 (WO ((i:Int)+1))))}) hit2.typeIs ?_)));show Uq _ _ (pure es[i].key) _ _ _;exact Ue (Ue ⟨_,rfl,Ue (hQ _ hit2 (Vs ..))⟩)
def Kj (hh:A.handled=Y)(hit:s.heap.IsKeyIter it d es.size es.size ep)(x:oh s.heap d es ep)
  (hQ:∀h',Yt it s.heap h'->Q Y {s with heap:=h'}):Uq (UA prog w) A (WN (.ref it)) Q E s:=by
 have T:=hit.typeIs;refine q1x3 hit λo ho hc hd=>?_;refine q1x3 x λod hod hcd hx=>?_;unfold WN;refine Ud (W5 (U7 (name:=Vx "__next__") T PySem.F.slot_dict_keyiterator_next (UZ PySem.F.slot_dict_keyiterator_next T PySem.F.entry_dict_keyiterator_next ?_ (PySem.F.args_dict_keyiterator_next_1 _))));refine Ud (Ue (Ud (Ud ?_)))
 first|refine Ud (VM T (Ue ?_))|refine Ud (Wk T (Ue ?_))
 refine Ud (Yj ho hd ?_);simp only[show Vy "dict_keyiterator"=false by decide,Vb,if_false];show Uq _ _ (if(UO d==U5)=true then _ else _) _ _ s;rw[if_neg (show¬((UO d==U5)=true) from Uy)];refine Ud (Ue (Ud (VO hod hx ?_)));rw[if_neg (by simp)];refine Ud (Ue (Ud (WD hod hx ?_)));rw[if_neg (by simp)];refine Ue ?_;simp only[show¬((es.size:Int)<0) from by omega,if_false,UC,VX (Uj es.size)];refine Ud ?_
 first|refine Ud (VM T (Ue ?_))|refine Ud (Wk T (Ue ?_))
 show Uq _ _ (aby (.ref it) 0 .none >>= _) _ _ s;refine Ud (Xo ho hd (by simp) ?_);show Uq _ _ (abw (.type "StopIteration") [] >>= _) _ _ _;refine Ud ?_;simp only[abw,newTuple];refine Ud (UV ?_ (by size_fits));refine Ud (m:=WU _ _) (WT (a:=U5) (by first|rfl|(simp only[WU];rfl)) (UV ?_ (by size_fits)));simp only[raiseNew];refine Ud (ZR ?_);rw[show A.in1.handled=Y from hh];refine Ud (Ue (aaQ ?_));refine Ud (YL (T:="StopIteration") (b:=true) ⟨_,Uo _ rfl,rfl⟩ Zp (Ue (hQ _ (((Vs ..).extBut.push _).push _))))
def DB (hh:A.handled=Y)(hne:d≠it):Walks prog w A it [it,d] [it] es.size (λi v=>∃e,es[i]?=Z e/\v=e.key) (λi h=>h.IsKeyIter it d i es.size ep/\oh h d es ep) where
 sub:=λb hb=>by rw[VE.mp hb];exact UG
 frame:=λ_ _ _ st hk=>⟨st.1.at λo e=>hk it UG o e,st.2.stay λo e=>hk d (UU _ UG) o e⟩
 item:=λi s Q E hi st hQ=>Ez st.1 st.2 hi λh' k1 k2=>hQ _ h' s.toks ⟨_,U0 hi,rfl⟩ ⟨k1,st.2.stay λo e=>k2.extBut d o hne e⟩ λb o hb e=>k2.extBut b o (λz=>hb (by rw[z];exact UG)) e
 done:=λs Q E st hQ=>Kj hh st.1 st.2 λh' k=>hQ h' s.toks λb o hb e=>k b o (λz=>hb (by rw[z];exact UG)) e
 self:=λ_ _ _ _ st hQ=>wpAny_pyIter_keyiter st.1 hQ
def CC (lo:(d==Vp)=false):KdlSrc prog w "dict" d d es.size (λi v=>∃e,es[i]?=Z e/\v=e.key) (λh=>oh h d es ep) where
 type:=λ_ x=>x.typeIs
 there:=λ_ x=>by refine q1x2 x λo ho _=>?_;exact⟨Ut ho,Ut ho⟩
 keep:=λ_ _ x hk=>x.stay λo e=>hk d (.inl rfl) o e
 notList:=by rfl
 notTuple:=by rfl
 hint:=λ_ _ _ _ x hq=>kdl_hint_dict x.typeIs hq
 iter:=λ_ s hh x=>⟨_,_,(λ_ _ hq=>FK lo x hq),DB hh (by refine q1x2 x λo ho _=>?_;exact Uz (Ut ho)),⟨⟨_,Uo _ rfl,rfl,rfl⟩,x.stay λo e=>Ug _ e⟩⟩
end
def vS:bM->D
 | .inl i=>.int i
 | .inr x=>.str x
section
variable {K:Uu}{θ:List Ul}{H:Hp}{M:ay}
def Cy (ks:List bM):a6 K θ H (ks.map vS) (ks.map kV):=by
 induction ks with
 | nil=>rfl
 | cons k ks ih=>exact⟨_,_,rfl,by cases k <;> exact rfl,ih⟩
def yB {a:Ul}(hw:Wr K θ H M)(h:H a=Z (.tup ys)):a∉θ:=λz=>by
 obtain⟨i,hi,e⟩:=Xa.mp z;have h2:i<M.length:=by rwa [<-hw.len]
 have k:=hw.at_ i a M[i] (by simp_all) (U8 h2);cases q:M[i] with
 | lst _=>rw[q] at k;refine q1x2 k λ_ z _=>?_;grind
 | obj _ _=>rw[q] at k;refine q3x3 k λ_ _ _ _ z _=>?_;grind
 | dK _=>rw[q] at k;refine q1x2 k λ_ z _=>?_;grind
 | dT _=>rw[q] at k;refine q1x2 k λ_ z _=>?_;simp_all
end
section
variable {X:Cx}
theorem zA {K:Uu}(hw:Wr K θ H M):∀{kvs:List (List bM×D)} {vs:List (List bM×V)} {ys:List (List bM×Ul×Uh)},ow K θ H kvs vs->Paired (λ(p:List bM×V) (q:List bM×Ul×Uh)=>p.1=q.1/\H q.2.1=Z (.tup (p.1.map kV))/\aS p.2 q.2.2) vs ys->a6 K θ H (kvs.map λp=>.tup (p.1.map vS)) (ys.map λq=>V.ref q.2.1)
 | [],vs,ys,ra,rel=>by
  subst ra;cases rel;rfl
 | (k,d)::fs,vs,ys,ra,rel=>by
  refine q2x3 ra λv r e _ h2=>?_;subst e;cases rel with
  | cons hq t=>exact⟨_,_,rfl,⟨_,_,rfl,⟨hq.2.1,yB hw hq.2.1⟩,Cy k⟩,zA hw h2 t⟩
theorem Am:∀ys:List (List bM×Ul×Uh),aV (ys.map λq=>V.ref q.2.1) (ys.map λq=>UO q.2.1)
 | []=>.nil
 | _::ys=>.cons rfl (Am ys)
end
end DL
namespace DL
open PySem PySem.Spec PyProof.Rows PySem.W L2 List
abbrev Kn (h:Vn)(a:Ul)(vs:List Uh):Vn:=((h.update a (UM λ_=>#[])).push (US "tuple" vs.toArray 0)).push (US "list" #[] 0)
section
variable {prog:UI}{w:UN}{A:Vd}{E:Uh->Ui->Prop}{s:Ui}
def rX {R:List Uh->Ui->Prop}(K:KdlSrc prog w T r d n Pv OK)(hh:A.handled=Y)(hok:OK s.heap)(hn:n<=Ur)
  (h:∀(h':Vn) (tk:Nat) (acc:Array Uh),(∀b o,s.heap.get? b=Z o->h'.get? b=Z o)->s.heap.objs.size<=h'.objs.size->ItemsOf Pv acc n->R acc.toList {s with heap:=h',toks:=tk}) :
  Uq (UA prog w) A (ab1 (.ref r)) R E s:=by
 have hlt:=K.there _ hok;unfold ab1;refine Ud (wpAny_runValue (VP entry_proto_collect' ?_));rw[Vq PySem.F.plain_proto_collect _];refine Ud (UV ?_);refine Ue ⟨VZ PySem.F.plain_list_iadd _,VP entry_list_iadd' ?_⟩;rw[Vq PySem.F.plain_list_iadd _];have hS₁:(s.heap.push {cls:=.type "list",data:=.seq ([]:List Uh).toArray}).get? s.heap.objs.size=Z {cls:=.type "list",data:=.seq #[]}:=Uo _ rfl;show Uq _ A.in1 (aba (.ref s.heap.objs.size) (.ref r) (.ref s.heap.objs.size)) _ _ _;have key:=kdl_extend (A:=A) (s:={s with heap:=s.heap.push {cls:=.type "list",data:=.seq ([]:List Uh).toArray}})
  (R:=λ(q:abW) (s':Ui)=>∃(h':Vn) (tk:Nat) (acc':Array Uh) (c':Nat),q=.ok (.ret (.ref s.heap.objs.size))/\s'={s with heap:=h',toks:=tk}/\
   (∀b o,s.heap.get? b=Z o->h'.get? b=Z o)/\h'.get? s.heap.objs.size=Z {cls:=.type "list",dict:=Y,data:=.seq acc' c',slots:=#[]}/\ItemsOf Pv acc' n)
  K hh (K.keep _ _ hok λb _ o e=>Ug _ e) s.heap.objs.size (Wt hlt.1) (Wt hlt.2) (.ref s.heap.objs.size) 0 hS₁
  (λh' tk acc' c' hk hS' hacc=>⟨h',tk,acc',c',rfl,rfl,λb o e=>hk b o (Uz (Ut e)) (Ug _ e),hS',hacc⟩) hn
 refine VF key (λfin s' x=>?_) λe s' x=>?_
 ·cases fin with
  | done f=>
   refine q4x5 x λh' tk acc' c' e zz5 hk hS' hacc=>?_;subst zz5;cases e;show Uq _ A (load s.heap.objs.size >>= _) _ _ _;exact Ud (abk hS' (Ue (h h' tk acc' hk (VT (Ut hS')) hacc)))
  | again c₁=>
   refine⟨x.1,Xm x.2 λq s₂ y=>?_⟩;refine q4x5 y λh' tk acc' c' zz4 zz5 hk hS' hacc=>?_;subst zz4;subst zz5;show Uq _ A (load s.heap.objs.size >>= _) _ _ _;exact Ud (abk hS' (Ue (h h' tk acc' hk (VT (Ut hS')) hacc)))
 ·refine q4x2 x λ_ _ _ _ e' _=>?_;cases e'
def Hr (h:Ve vs ns):vs.map numOf=ns:=by
 induction h with
 | nil=>rfl
 | cons n t h ih=>rw[WG,ih];rfl
end
section
variable {prog:UI}{w:UN}{A:Vd}{E:Uh->Ui->Prop}{s:Ui}
def yx (h:Ve us ns):us.length=ns.length:=by
 induction h with
 | nil=>rfl
 | cons n t h ih=>simp_all
end
def yy {α:Type}:List (bM×α)->Option (List Int)
 | []=>Z []
 | (.inl n,_)::r=>(yy r).map (n::·)
 | _=>Y
section
variable {X:Cx}{af:List (Ul×Obj)}{σ:L2.St}{H:Hp}{s:Ui}{θ:List Ul}
theorem uA:∀{ns:List Int} {us:List Uh},aV (ns.map V.int) us->Ve us ns
 | [],_,r=>by cases r;exact .nil
 | n::ns,_,r=>by
  cases r with
  | cons h t=>
   refine q1x1 ((h)) λtk zz1=>?_;subst zz1;exact .cons n tk (uA t)
def oP (I:L2.Inv X af σ H s)(hw:Wr X.K θ H M)(hk:∀b o,s.heap.get? b=Z o->h'.get? b=Z o)(hl:s.heap.objs.size<=l)(hg:h'.get? l=Z (US "list" (Vg out) n'))(hv:aV vs out)(hz:vs.length<=Ur)(hd:a6 X.K θ H ds vs)
  (h:aK X θ H Q (.ok (.lst ds) M)):∃x H',L2.Inv X af σ H' {s with heap:=h',toks:=tk}/\aS x (.ref l)/\Q x H':=by
 have fr:=I.hok.fresh hl;exact⟨.ref l,_,I.laid  hk hl (show bK X.prog X.w _ _ _ (.lst vs) from⟨hz,out,n',hv,hg⟩),rfl,h _ θ _ (cQ hw fr) (ik hw fr hd)⟩
theorem wk {K:Uu}:∀{kvs:List (κ×D)} {vs:List (κ×V)},ow K θ H kvs vs->kvs.map (·.1)=vs.map (·.1)
 | [],vs,r=>by
  subst r;rfl
 | (k,d)::kvs,vs,r=>by
  refine q2x3 r λv r' e _ h2=>?_;subst e;rw[WG,WG,wk h2]
def G9 {kvs:List (bM×D)}:∀{ns:List Int},yy kvs=Z ns->kvs.map (·.1)=ns.map UQ:=by
 induction kvs with
 | nil=>intro ns e;cases e;rfl
 | cons p r ih=>
  intro ns e;obtain⟨k,d⟩:=p;cases k with
  | inl n=>
   refine q1x2 (UP.mp (e)) λms e1 zz2=>?_;subst zz2;rw[WG,ih e1];rfl
  | inr x=>cases e
end
end DL
namespace TS
open PySem PyProof.Rows PySem.W
section
variable {prog:UI}{w:UN}{A:Vd}{E:Uh->Ui->Prop}{s:Ui}{κ:aar}{G:WC->Prop}{key:WC->Int}
def countUp_ok (hL:LtOk prog w A s κ G key){st:Vk}(hst:kindOf st=κ){lo nrem:Nat}(hlo:lo=0)(hn:nrem=(XM st).size)(hR:1<=nrem)(gR:∀x∈(XM st).toList,G x)(hu:(XM st).toList.Pairwise (leK key))
  (h:Q (Z nrem) st):wpS (UA prog w) A E s (countRun' lo nrem) Q st:=by
 subst hlo;refine wpS_loop (I:=λx c st2=>c=x/\1<=x/\st2=st) (D:=λ_ _=>False) (N:=λc st2=>c=nrem/\st2=st) ⟨rfl,Uj _,rfl⟩ (λx c st2 hx l=>?_) (λc st2 l=>⟨l.1.trans (Nat.max_eq_right hR),l.2.2⟩) (λ_ _ _ z=>z.elim) (λc st2 l=>?_)
 ·refine q0x3 l λzz0 l1 zz2=>?_;subst zz0;subst zz2;refine q1x2 (at_of  (hn▸hx)) λy ey my=>?_;refine q1x2 (at_of   (pred_lt l1 (VT (hn▸hx)))) λz ez mz=>?_;refine Wo (wpS_at hL hst (x:=y) (y:=z) (by rw[U2];exact ey) (by rwa [U2]) (gR y my) (gR z mz) ?_);exact wpS_ite (λhc=>absurd (of_decide_eq_true hc) (Int.not_lt.mpr (up_at hu (Nat.sub_le _ 1) ez ey))) (λ_=>XN (LQ.y ⟨rfl,Yv l1,rfl⟩))
 ·refine q0x2 l λzz0 zz1=>?_;subst zz0;subst zz1;exact wpS_ite (λ_=>XN h) (λq=>absurd (beq_iff_eq.mpr rfl) q)
def binNone_ok {st:Vk}{lo n k:Nat}(e:n=k)(h:Q true st):wpS (UA prog w) A E s (binarySort' lo n k) Q st:=by
 subst e;refine wpS_loop (I:=λx _ st2=>n<=x/\st2=st) (D:=λ_ _=>False) (N:=λ_ st2=>st2=st) ⟨Nat.le_max_left ..,rfl⟩ (λx c st2 hx l=>absurd hx (Nat.not_lt_of_le l.1)) (λc st2 l=>l.2) (λ_ _ _ z=>z.elim) (λc st2 l=>?_);cases l;exact XN h
structure Up (st st':Vk):Prop where
 arr:XM st'=XM st
 fail:Yi st'=Yi st
 pend:(YN st').size=1
def sortUp_ok (hL:LtOk prog w A s κ G key){st:Vk}(hk:kindOf st=κ)(hp:YN st=#[])(hR:1<=(XM st).size)(gR:∀x∈(XM st).toList,G x)(hu:(XM st).toList.Pairwise (leK key))
  (h:∀st',Yi st'=Yi st->XM st'=XM st->Q () st'):wpS (UA prog w) A E s sortRuns' Q st:=by
 refine Wo (aa9 ?_);refine wpS_loop (I:=λx c st2=>(x=0/\c=0/\st2=st)\/(c=(XM st).size/\Up st st2)) (D:=λ_ _=>False) (N:=λc st2=>Up st st2) (.inl ⟨rfl,rfl,rfl⟩) (λx c st2 hx l=>?_) (λc st2 l=>?_) (λ_ _ _ z=>z.elim) (λc st2 l=>?_)
 ·rcases l with⟨rfl,rfl,rfl⟩|⟨rfl,l⟩
  ·refine wpS_ite (λq=>absurd q (aaJ hR)) (λ_=>?_);refine Wo (countUp_ok hL hk rfl (Y1 _) hR gR hu ?_);dsimp (config:={zeta:=false,zetaHave:=false}) only
   extract_lets -underBinder +onlyGivenNames n_ jp
   refine wpS_cut1 (j:=jp) (λn st'=>n=(XM st2).size/\st'=st2) (λn st' hn=>?_) λhj=>wpS_ite (λhm=>?_) (λ_=>hj _ _ ⟨Y1 _,rfl⟩)
   ·refine q0x2 hn λhn zz1=>?_;subst zz1;refine Wo (aa9 ?_);cases hb:(YN st').back? with
    | none=>
     refine Wo (wpS_modify (XN (LQ.y (.inr ⟨by rw[hn];exact U2 _,rfl,rfl,?_⟩))));show((YN st').push (0,n,0)).size=1;rw[hp];rfl
    | some r=>rw[hp] at hb;cases hb
   ·refine Wo (wpS_lift (XA ⟨rfl,?_⟩));refine Wo (binNone_ok (XT (VT hm)) ?_);exact wpS_ite (λz=>by cases z) (λ_=>hj _ _ ⟨(XT (VT hm)).trans (Y1 _),rfl⟩)
  ·exact wpS_ite (λ_=>XN (LQ.n l)) (λq=>absurd (Uj _) q)
 ·rcases l with⟨q,_⟩|⟨_,l⟩
  ·exact absurd (q▸Nat.le_max_right ..) (aaJ hR)
  ·exact l
 ·refine wpS_loop (I:=λ_ _ st2=>Up st st2) (D:=λ_ _=>False) (N:=λ_ st2=>Up st st2) l (λx c st2 hx l=>?_) (λc st2 l=>l) (λ_ _ _ z=>z.elim) (λc st2 l=>?_)
  ·refine Wo (aa9 ?_);exact wpS_ite (λ_=>XN (LQ.n l)) (λq=>absurd (Xk l.pend) q)
  ·exact XN (h _ l.fail l.arr)
end
end TS
namespace DL
open PySem PySem.Spec PyProof.Rows PySem.W L2 List
section
variable {prog:UI}{w:UN}{A:Vd}{E:Uh->Ui->Prop}{s:Ui}
def zw (t:Ve vs ns):∀v∈vs,∃n t,v=YD n t:=by
 induction t with
 | nil=>simp
 | cons n u t ih=>
  simp_all
def pO (vs:List Uh):(vs.toArray.zip vs.toArray).toList=vs.map λv=>(v,v):=by
 rw[Array.toList_zip]
 induction vs with
 | nil=>rfl
 | cons v vs ih=>simp_all
def xg {a:Ul}(ho:s.heap.get? a=Z (US "list" vs.toArray n))(t:Ve vs ns)(up:ns.Pairwise (·<=·))(hl:vs.length<=100000)
  (h:∀(h':Vn) (n':Nat),(∀b o,b≠a->s.heap.get? b=Z o->h'.get? b=Z o)->h'.get? a=Z (US "list" vs.toArray n')->P (.done (.ret .none)) {s with heap:=h'}) :
  Uq (UA prog w) A (Xj.«list.sort» ⟨[.ref a],[]⟩) P E s:=by
 rw[aa2];have ha:a<s.heap.objs.size:=Ut ho;have le:vs.length<=Ur:=by rw[U3];omega
 refine Ud (listItems_at ho rfl ?_);refine Ud (W6 ho rfl ?_ (by rw[U1];exact le) (UW _));obtain⟨e1,ho1⟩:∃e1,(s.heap.update a (UM λ_=>#[])).get? a=Z (US "list" #[] e1):=⟨_,VQ ho (λ_=>#[])⟩;refine Ud (XJ ho1 rfl ?_);refine Ud (Zu ?_ (by show vs.length<=_;exact le));refine Ud (WH ?_ (UW _));refine UL ?_;have ho6:(Kn s.heap a vs).get? a=Z (US "list" #[] e1):=by
  rw[Wh _ _ _ (by rw[Y2,WZ];exact Uz (Xp ha)),Wh _ _ _ (by rw[WZ];exact Uz ha)];exact ho1
 have keep:∀(out:Array Uh) (b:Ul) (o:Obj),b≠a->s.heap.get? b=Z o->((Kn s.heap a vs).update a (UM λ_=>out)).get? b=Z o:=λout b o hb e=>by
  rw[Wl _ _ _ _ hb];exact Ug _ (Ug _ (by rw[Wl _ _ _ _ hb];exact e))
 have e:((vs.toArray.zip vs.toArray).map λp=>p.2)=vs.toArray:=by
  apply Array.toList_inj.mp;rw[Array.toList_map,pO,aaq];exact map_id _
 show Uq (UA prog w) A _ P E {s with heap:=Kn s.heap a vs};dsimp only
 by_cases h2:vs.toArray.size<2
 ·rw[if_pos h2,if_pos h2];refine Ud (Ue ?_);rw[aa3];refine Ud (Ue ?_);dsimp only;refine Ud (XJ ho6 rfl ?_);refine Ud (W6 ho6 rfl ?_ (UW _) (by rw[abx];show(pairsOf vs).size<=_;rw[pairsOf_size];exact Yv le));simp only[bne_self_eq_false,Vb,if_false];exact Ue (h _ _ (keep _) (by rw[e];exact VQ ho6 _))
 ·rw[if_neg h2,if_neg h2];refine Ud (kas_kind (T:=.type "int") (by simpa using h2) (λv hv=>by refine q2x1 (zw t v hv) λm tk zz2=>?_;subst zz2;exact .now) rfl rfl ?_);have hL:TS.LtOk prog w A {s with heap:=Kn s.heap a vs} oneType' (λx=>∃m tk,x.1=YD m tk) (λx=>numOf x.1):=λx y hx hy C q=>by
   refine q2x1 hx λm tk e1=>?_;refine q2x1 hy λm2 tk2 e2=>?_;have q:C (decide (numOf x.1<numOf y.1)) _:=q;rw[e1,e2] at q ⊢;rw[keyLt'_oneType];exact oneLt_int q
  refine Ud (VF (TS.sortUp_ok (E:=E) hL (st:=SortSt.mk' oneType' (vs.toArray.zip vs.toArray) #[] 7 Y) rfl rfl (by
   show 1<=(vs.toArray.zip vs.toArray).size;rw[<-Vi,pO,UB];rw[U1] at h2;omega) (λx hx=>by
   have hx:x∈(vs.toArray.zip vs.toArray).toList:=hx;rw[pO] at hx;refine q1x2 (ZF.mp hx) λv hv zz2=>?_;subst zz2;exact zw t v hv) (by
   show((vs.toArray.zip vs.toArray).toList).Pairwise _;rw[pO,pairwise_map];have e:=Hr t;rw[<-e,pairwise_map] at up;exact up)
   (Q:=λ_ st'=>Yi st'=Y/\XM st'=vs.toArray.zip vs.toArray) λst' f1 f2=>⟨f1,f2⟩) (λr s' hr=>?_) λ_ _ x=>x)
  obtain⟨⟨⟩,st'⟩:=r;refine q0x3 hr λzz0 p3 p4=>?_;subst zz0;dsimp only at p3 p4 ⊢;rw[p4,e];refine Ud (XJ ho6 rfl ?_);refine Ud (W6 ho6 rfl ?_ (UW _) (by rw[U1];exact Yv le));rw[p3];simp only[bne_self_eq_false,Vb,if_false];exact Ue (h _ _ (keep _) (VQ ho6 _))
def Eb (t:Ve vs ns)(up:ns.Pairwise (·<=·))(hl:vs.length<=100000)
  (hcol:∀R:List Uh->Ui->Prop,(∀(h':Vn) (tk:Nat),(∀b o,s.heap.get? b=Z o->h'.get? b=Z o)->s.heap.objs.size<=h'.objs.size->R vs {s with heap:=h',toks:=tk})->Uq (UA prog w) A.in1 (ab1 x) R E s)
  (h:∀(h':Vn) (tk l n':Nat),(∀b o,s.heap.get? b=Z o->h'.get? b=Z o)->s.heap.objs.size<=l->h'.get? l=Z (US "list" vs.toArray n')->Q (.ref l) {s with heap:=h',toks:=tk}) :
  Uq (UA prog w) A (call (.builtin "sorted") [x]) Q E s:=by
 refine W0 aaS aan aao (aap _) ?_;refine Ud  (Ue ?_);refine Ud (hcol _ λh1 tk keep1 hs1=>?_);refine Ud (WH ?_ (by rw[U3];omega));have hoL:(h1.push (US "list" vs.toArray 0)).get? h1.objs.size=Z (US "list" vs.toArray 0):=Uo _ rfl;refine Ud (UL (UZ Zv ⟨_,hoL,rfl⟩ Y8 (xg hoL t up hl λh3 n3 k3 g3=>⟨_,rfl,?_⟩) (Zw _)));exact Ue ⟨_,rfl,h h3 tk h1.objs.size n3 (λb o e=>k3 b o ((λb o e=>Uz (Ut (keep1 b o e))) b o e) ((λb o e=>Ug _ (keep1 b o e)) b o e)) hs1 g3⟩
end
def Lc:List Int->Bool
 | a::b::l=>decide (a<=b)&&Lc (b::l)
 | _=>true
theorem G6:∀{l:List Int},Lc l=true->l.Pairwise (·<=·)
 | [],_=>.nil
 | [a],_=>pairwise_singleton _ _
 | a::b::l,h=>by
  rw[Lc,Uw,decide_eq_true_eq] at h;have p:=G6 h.2;refine WI.mpr ⟨λx hx=>?_,p⟩;rcases Va.mp hx with rfl|q
  ·simp_all
  ·exact aai h.1 ((WI.mp p).1 x q)
theorem Gs:∀{l:List Int},l.Pairwise (·<=·)->Lc l=true
 | [],_=>rfl
 | [a],_=>rfl
 | a::b::l,h=>by
  refine q0x2 (WI.mp h) λh1 h2=>?_;rw[Lc,Uw,decide_eq_true_eq];exact⟨h1 b UG,Gs h2⟩
def zQ:FD:=λds M=>match ds with
 | [.lst xs]=>match uT xs with
  | some ns=>if Lc ns=true/\ns.length<=100000 then .ok (.lst xs) M else .bad
  | none=>.bad
 | _=>.bad
section
variable {X:Cx}
def HW:QC X (.builtin "sorted") zQ:=⟨by
 intro af s σ H xs us Q I r h;obtain⟨θ,M,ds,hw,rd,h⟩:=h;unfold zQ at h;split at h
 ·rename_i ys;obtain⟨v,e,a,vs,ea,ta,ra⟩:=gE rd;subst e ea;obtain⟨u,rfl,rx⟩:=ju r;subst rx;split at h
  ·rename_i ns qn;split at h
   ·rename_i hc;obtain⟨hu,hl⟩:=hc;have ev:=AT qn ra;subst ev;obtain⟨its,r',pl,hz⟩:=I.list (.inl (.inl ta.1));have ia:=uA r';have li:=yx ia;refine Eb ia (G6 hu) (by rw[li];exact hl) (λR q=>?_) λh' tk l n' k hll g=>?_
    ·refine collect_list pl.isList (q _ s.toks (λb o e=>?_) (by simp)) (by rw[<-r'.length];exact hz);rw[Wl _ _ _ _ (Uz (Ut e))];exact Ug _ e
    ·exact oP I hw k hll g r' (by grind) ra h
   ·exact h.elim
  ·exact h.elim
 ·exact h.elim⟩
end
end DL
namespace DL
open PySem L2
def aI:Nat->D->Bool
 | 0,_=>false
 | f+1,d=>match d with
  | .mr _=>false
  | .tup xs=>xs.all (aI f)
  | .lst xs=>xs.all (aI f)
  | .ro xs=>xs.all (aI f)
  | _=>true
theorem cP:∀{xs:List D},(∀x∈xs,f x=Z x)->bJ f xs=Z xs
 | [],_=>rfl
 | x::xs,h=>by
  unfold bJ;rw[h x UG,cP λy hy=>h y (UU _ hy)]
theorem mE:∀(f:Nat) (d:D),aI f d=true->frz n M f d=Z d
 | 0,d,h=>by cases h
 | f+1,d,h=>by
  cases d with
  | mr k=>cases h
  | tup xs=>
   show(bJ (frz n M f) xs).map D.tup=_;rw[cP λx hx=>mE f x (Um.mp h x hx)];rfl
  | lst xs=>
   show(bJ (frz n M f) xs).map D.lst=_;rw[cP λx hx=>mE f x (Um.mp h x hx)];rfl
  | ro xs=>
   show(bJ (frz n M f) xs).map D.ro=_;rw[cP λx hx=>mE f x (Um.mp h x hx)];rfl
  | _=>rfl
def Cq:MO->Bool
 | .lst xs=>xs.all (aI 30)
 | .obj _ fs=>fs.all λp=>aI 30 p.2
 | .dK fs=>fs.all λp=>aI 30 p.2
 | .dT fs=>fs.all λp=>aI 30 p.2
theorem rO:∀{fs:List (κ×D)},(∀p∈fs,f p.2=Z p.2)->vO f fs=Z fs
 | [],_=>rfl
 | (x,d)::fs,h=>by
  unfold vO;rw[h (x,d) UG,rO λy hy=>h y (UU _ hy)]
theorem wL:∀{fs:List (Str×D)},(∀p∈fs,f p.2=Z p.2)->zW f fs=Z fs
 | [],_=>rfl
 | (x,d)::fs,h=>by
  unfold zW;rw[h (x,d) UG,wL λy hy=>h y (UU _ hy)]
@[simp] theorem OO (f:Nat) (i:Int):aI (f+1) (.int i)=true:=rfl
@[simp] theorem Qi (f:Nat) (i:Bool):aI (f+1) (.bl i)=true:=rfl
@[simp] theorem OJ (f:Nat):aI (f+1) .non=true:=rfl
@[simp] theorem OI (f:Nat) (x:Str):aI (f+1) (.str x)=true:=rfl
theorem gF (f:Nat)(xs:List D):aI (f+1) (.tup xs)=xs.all (aI f):=rfl
theorem Dx (f:Nat)(xs:List D):aI (f+1) (.lst xs)=xs.all (aI f):=rfl
def dA (f:Nat)(l:List Int):(l.map D.int).all (aI (f+1))=true:=by
 simp
def CW (xs:List α)(x:α):wa (xs++[x]) (-1)=Z x:=by
 unfold wa Co;rw[if_neg (by decide),if_pos (by simp;omega)];have e:(-1+((xs++[x]).length:Int)).toNat=xs.length:=by simp;omega
 rw[e];simp
def zM {t:GT}{M M1 M2:ay}(h1:t ρ M=.ok true M1)(h2:b ρ M1=.ok (.nx ρ2) M2):cJ t b (n+1) ρ M=cJ t b n ρ2 M2:=by
 rw[cJ,h1,az,if_pos rfl,h2,az]
def oK {t:GT}{M M1:ay}(h1:t ρ M=.ok false M1):cJ t b (n+1) ρ M=.ok (.nx ρ) M1:=by
 rw[cJ,h1,az,if_neg Uy]
end DL
namespace DL
open PySem L2
def aU {a:GS}{M M1:ay}(h:a ρ M=.ok (.nx ρ1) M1):aj a b ρ M=b ρ1 M1:=by
 unfold aj;rw[h];rfl
def PQ {a:GS}{M M1:ay}(h:a ρ M=.ok (.rt d) M1):aj a b ρ M=.ok (.rt d) M1:=by
 unfold aj;rw[h];rfl
def vM {t:GT}{a:GS}{M M1:ay}(h:t ρ M=.ok true M1):cD t a b ρ M=a ρ M1:=by
 unfold cD;simp_all
def nQ {t:GT}{a:GS}{M M1:ay}(h:t ρ M=.ok false M1):cD t a b ρ M=b ρ M1:=by
 unfold cD;simp_all
def dY {M M1:ay}(h:g ρ M=.ok d M1):aL i g ρ M=.ok (.nx (ρ.set i (Z d))) M1:=by
 unfold aL;simp_all
def b8 {M M1:ay}(h:g ρ M=.ok d M1):bI g ρ M=.ok (.nx ρ) M1:=by
 unfold bI;simp_all
def fX {M M1:ay}(h:g ρ M=.ok d M1):aF g ρ M=.ok (.rt d) M1:=by
 unfold aF;rw[h,az]
def Bu {a:GE}(ha:a ρ M=.ok (.bl x) M)(hb:x=true->b ρ M=.ok (.bl y) M):eR a b ρ M=.ok (.bl (x&&y)) M:=by
 unfold eR;rw[ha];cases x with
 | true=>exact hb rfl
 | false=>rfl
def xN {a:GT}(ha:a ρ M=.ok x M)(hb:x=true->b ρ M=.ok y M):fu a b ρ M=.ok (x&&y) M:=by
 unfold fu;rw[ha];cases x with
 | true=>exact hb rfl
 | false=>rfl
def AJ {a:GT}(ha:a ρ M=.ok x M)(hb:x=false->b ρ M=.ok y M):je a b ρ M=.ok (x||y) M:=by
 unfold je;rw[ha];cases x with
 | true=>rfl
 | false=>exact hb rfl
def Cr {a:GT}(ha:a ρ M=.ok x M):dE a ρ M=.ok (!x) M:=by
 unfold dE;simp_all
def AI {a:GE}{M M1:ay}(ha:a ρ M=.ok (.bl x) M1):gf a ρ M=.ok x M1:=by
 unfold gf;rw[ha];rfl
def dC {a:GE}{M M1:ay}(ha:a ρ M=.ok (.bl x) M1):aH a ρ M=.ok x M1:=by
 unfold aH;rw[ha];rfl
def aT {a:GE}{M M1 M2:ay}(ha:a ρ M=.ok x M1)(hb:b ρ M1=.ok y M2)(h:f x y M2=o):g2 f a b ρ M=o:=by
 unfold g2;simp_all
def sP {a:GE}{M M1:ay}(ha:a ρ M=.ok x M1)(h:F [x] M1=o):aJ F (aa a ag) ρ M=o:=by
 unfold aJ aa ag;simp_all
def wb {a:GE}{M M1:ay}(ha:a ρ M=.ok x M1)(h:F [x] M1=o):ah 1 F (aa a ag) ρ M=o:=by
 unfold ah aa ag;simp_all
def l0 {a:GE}{M M1 M2:ay}(ha:a ρ M=.ok x M1)(hb:b ρ M1=.ok y M2)(h:F [x,y] M2=o):ah 2 F (aa a (aa b ag)) ρ M=o:=by
 unfold ah aa ag;simp_all
def CA {a:GE}{M M1 M2 M3:ay}(ha:a ρ M=.ok x M1)(hb:b ρ M1=.ok y M2)(hc:c ρ M2=.ok z M3)(h:F [x,y,z] M3=o):ah 3 F (aa a (aa b (aa c ag))) ρ M=o:=by
 unfold ah aa ag;simp_all
theorem yl:∀xs:List D,eB (xs.map λd=>D.bl (p d))=Z (xs.map p)
 | []=>rfl
 | x::xs=>by
  show(eB (xs.map λd=>D.bl (p d))).map (p x::·)=_;rw[yl xs];rfl
def LM (hi:gi ρ M=.ok ⟨xs,Y⟩ M)(hl:xs.length<=100000)(h:∀x∈xs,ge (Z x::ρ) M=.ok (.bl (p x)) M) :
  aJ mh (aa (a9 gi bp ge aO) ag) ρ M=.ok (.bl (xs.all p)) M:=by
 refine sP (x:=.lst (xs.map λd=>D.bl (p d))) (M1:=M) ?_ ?_
 ·unfold a9;rw[hi,az,(mI      xs h),az];unfold aO;rw[if_pos (by rw[UB];exact b9 (by omega))]
 ·show(match eB (xs.map λd=>D.bl (p d)) with|some bs=>bc.ok (D.bl (bs.all id)) M|none=>.bad)=_;rw[yl];simp
def IG (h:ρ[i]?=Z (Z (.tup xs))):bE (ae i) ρ M=.ok ⟨xs,Y⟩ M:=by
 unfold bE ae;rw[h];rfl
def nI (h:ρ[i]?=Z (Z (.lst xs))):bE (ae i) ρ M=.ok ⟨xs,Y⟩ M:=by
 unfold bE ae;rw[h];rfl
def ug (a b:Int)(M:ay):aR false (.int a) (.int b) M=.ok (.bl (decide (a=b))) M:=by
 show bc.ok (D.bl ((a==b) != false)) M=_
 grind
def z9 (a b:Int)(M:ay):aR true (.int a) (.int b) M=.ok (.bl (!decide (a=b))) M:=by
 show bc.ok (D.bl ((a==b) != true)) M=_
 by_cases q:a=b <;> simp[q]
def Pk {a:Str}(ha:Ww a=true)(hb:Ww b=true)(M:ay):aR false (.str a) (.str b) M=.ok (.bl (a==b)) M:=by
 show(if(Ww a&&Ww b)=true then bc.ok (D.bl ((a==b) != false)) M else .bad)=_
 simp_all
def sD (M:ay)(E:List D):(M++[MO.lst E])[M.length]?=Z (.lst E):=by simp
def AW (M:ay)(E E':List D):(M++[MO.lst E]).set M.length (.lst E')=M++[MO.lst E']:=by simp
def GJ (h:E.length<1000000):vp M.length d (M++[MO.lst E])=.ok .non (M++[MO.lst (E++[d])]):=by
 unfold vp;rw[sD];dsimp only;rw[if_pos (Ux h (by decide)),AW]
def N2 {go:GE}(h1:go ρ (M++[MO.lst E])=.ok (.mr M.length) (M++[MO.lst E]))(h2:ge ρ (M++[MO.lst E])=.ok d (M++[MO.lst E]))(h:E.length<1000000) :
  gO go ge ρ (M++[MO.lst E])=.ok .non (M++[MO.lst (E++[d])]):=by
 unfold gO;rw[h1,az];dsimp only;rw[sD,h2,az,GJ h]
def AZ {k:Nat}(h:xs[k]?=Z d):aB (.lst xs) (.int k) M=.ok d M:=by
 unfold aB ba;dsimp only;rw[(gK   h)]
def dj {k:Nat}(h:xs[k]?=Z d):aB (.tup xs) (.int k) M=.ok d M:=by
 unfold aB ba;dsimp only;rw[(gK   h)]
def sZ:fZ ag ρ M=.ok (.mr M.length) (M++[.lst []]):=by
 rfl
def kj {M M1:ay}(h:ga ρ M=.ok ds M1)(hl:ds.length<=100000:=by exact V3 rfl):aQ ga ρ M=.ok (.tup ds) M1:=by
 unfold aQ;rw[h,az];unfold v7;rw[if_pos (b9 (by omega))]
def Ny {M M1:ay}(h:ga ρ M=.ok ds M1)(hl:ds.length<=100000:=by exact V3 rfl):jf ga ρ M=.ok (.lst ds) M1:=by
 unfold jf;rw[h,az];unfold aO;rw[if_pos (b9 (by omega))]
def cx {M M1 M2:ay}(h:g ρ M=.ok d M1)(hr:r ρ M1=.ok ds M2):aa g r ρ M=.ok (d::ds) M2:=by
 unfold aa
 simp_all
def yh {go:GE}{M M1:ay}{k:Nat}(h1:go ρ M=.ok (.mr k) M)(h2:M[k]?=Z (.lst E))(h3:ge ρ M=.ok d M1)(h4:M1[k]?=Z (.lst E1))(h:E1.length<1000000) :
  gO go ge ρ M=.ok .non (M1.set k (.lst (E1++[d]))):=by
 unfold gO;rw[h1,az];dsimp only;rw[h2];dsimp only;rw[h3,az];unfold vp;rw[h4];dsimp only;rw[if_pos (Ux h (by decide))]
def Ce {M M1:ay}{n:Nat}(h:ga ρ M=.ok [.int (n:Int)] M1)(hn:n<=1000000):ft ga ρ M=.ok ⟨aY 0 n,Y⟩ M1:=by
 unfold ft;rw[h,az,Aa hn]
def mP {M M1:ay}{t:rN}(h:gi ρ M=.ok t M1)(e:cT t sg b t.ds ρ M1=o):gZ gi sg b ρ M=o:=by
 unfold gZ
 simp_all
def Mq (h0:-1000000<=i)(h1:i<=1000000)(M:ay):jX (.int i) (.int j) M=.ok (.int (i*j)) M:=by
 unfold jX;dsimp only;rw[if_pos (.inl ⟨(Int.lt_of_lt_of_le (by simp) h0),(Int.lt_of_le_of_lt h1 (by simp))⟩)]
def Ka (h0:0<j)(h1:j<=1000000)(M:ay):hZ (.int i) (.int j) M=.ok (.int (i / j)) M:=by
 have h2:j.natAbs<2 ^ 20:=by omega
 have h4:=(aaT (by omega)).mpr h2;unfold hZ;dsimp only;rw[if_pos ⟨h0,by omega⟩]
def Il (h:bG 40 d=true)(hs:tK d d=true)(hm:∀M,now d M=d)(M:ay):aR true d d M=.ok (.bl false) M:=by
 unfold aR;rw[hm,h,hs];rfl
end DL
namespace DL
open PySem L2
def oJ (n:Nat):Nat->D->Bool
 | 0,_=>false
 | f+1,d=>match d with
  | .mr k=>decide (k<n)
  | .tup xs=>xs.all (oJ n f)
  | .lst xs=>xs.all (oJ n f)
  | .ro xs=>xs.all (oJ n f)
  | _=>true
theorem lQ:∀(f:Nat) (d:D),oJ n f d=true->frz n M f d=Z d
 | 0,d,h=>by cases h
 | f+1,d,h=>by
  cases d with
  | mr k=>
   show(if k<n then Z (D.mr k) else _)=_;rw[if_pos (of_decide_eq_true h)]
  | tup xs=>
   show(bJ (frz n M f) xs).map D.tup=_;rw[cP λx hx=>lQ f x (Um.mp h x hx)];rfl
  | lst xs=>
   show(bJ (frz n M f) xs).map D.lst=_;rw[cP λx hx=>lQ f x (Um.mp h x hx)];rfl
  | ro xs=>
   show(bJ (frz n M f) xs).map D.ro=_;rw[cP λx hx=>lQ f x (Um.mp h x hx)];rfl
  | _=>rfl
theorem bV:∀(f:Nat) (d:D),aI f d=true->oJ n f d=true
 | 0,d,h=>by cases h
 | f+1,d,h=>by
  cases d with
  | mr k=>cases h
  | tup xs=>exact Um.mpr λx hx=>bV f x (Um.mp (h) x hx)
  | lst xs=>exact Um.mpr λx hx=>bV f x (Um.mp (h) x hx)
  | ro xs=>exact Um.mpr λx hx=>bV f x (Um.mp (h) x hx)
  | _=>rfl
theorem iO (hn:n<=m):∀(f:Nat) (d:D),oJ n f d=true->oJ m f d=true
 | 0,d,h=>by cases h
 | f+1,d,h=>by
  cases d with
  | mr k=>exact decide_eq_true (Ux (of_decide_eq_true (h)) hn)
  | tup xs=>exact Um.mpr λx hx=>iO hn f x (Um.mp (h) x hx)
  | lst xs=>exact Um.mpr λx hx=>iO hn f x (Um.mp (h) x hx)
  | ro xs=>exact Um.mpr λx hx=>iO hn f x (Um.mp (h) x hx)
  | _=>rfl
def zN (n:Nat):MO->Bool
 | .lst xs=>xs.all (oJ n 30)
 | .obj _ fs=>fs.all λp=>oJ n 30 p.2
 | .dK fs=>fs.all λp=>oJ n 30 p.2
 | .dT fs=>fs.all λp=>oJ n 30 p.2
def qU (hn:n<=m)(h:zN n o=true):zN m o=true:=by
 cases o with
 | lst xs=>exact Um.mpr λx hx=>iO hn 30 x (Um.mp (h) x hx)
 | obj c fs=>exact Um.mpr λx hx=>iO hn 30 x.2 (Um.mp (h) x hx)
 | dK fs=>exact Um.mpr λx hx=>iO hn 30 x.2 (Um.mp (h) x hx)
 | dT fs=>exact Um.mpr λx hx=>iO hn 30 x.2 (Um.mp (h) x hx)
def nF (h:Cq o=true):zN n o=true:=by
 cases o with
 | lst xs=>exact Um.mpr λx hx=>bV 30 x (Um.mp (h) x hx)
 | obj c fs=>exact Um.mpr λx hx=>bV 30 x.2 (Um.mp (h) x hx)
 | dK fs=>exact Um.mpr λx hx=>bV 30 x.2 (Um.mp (h) x hx)
 | dT fs=>exact Um.mpr λx hx=>bV 30 x.2 (Um.mp (h) x hx)
theorem kz:∀{l:List MO},l.all (zN n)=true->iC n M l=Z l
 | [],_=>rfl
 | .lst xs::r,h=>by
  rw[W1,Uw] at h;unfold iC;rw[kz h.2,cP λx hx=>lQ 30 x (Um.mp h.1 x hx)]
 | .obj c fs::r,h=>by
  rw[W1,Uw] at h;unfold iC;rw[kz h.2];rw[wL λp hp=>lQ 30 p.2 (Um.mp h.1 p hp)]
 | .dK fs::r,h=>by
  rw[W1,Uw] at h;unfold iC;rw[kz h.2];rw[rO λp hp=>lQ 30 p.2 (Um.mp h.1 p hp)]
 | .dT fs::r,h=>by
  rw[W1,Uw] at h;unfold iC;rw[kz h.2,rO λp hp=>lQ 30 p.2 (Um.mp h.1 p hp)]
def cA (M:ay):Prop:=M.all (zN M.length)=true
def BZ (hd:aI 30 d=true)(hM:cA M):lB M.length (.ok d (M++E))=.ok d M:=by
 unfold lB
 by_cases h:(M++E).length=M.length
 ·simp_all
 ·simp only[if_neg h];rw[abz,mE 30 d hd,kz hM]
def jb (hx:xs.all (aI 29)=true)(hM:cA M):lB M.length (.ok (.mr M.length) (M++[.lst xs]))=.ok (.lst xs) M:=by
 have f1:=kz (n:=M.length) (M:=M++[.lst xs]) hM;have f2:frz M.length (M++[.lst xs]) 30 (.mr M.length)=Z (.lst xs):=by
  show(if M.length<M.length then Z (D.mr M.length) else match (M++[MO.lst xs])[M.length]? with|some (MO.lst ys)=>(bJ (frz M.length (M++[MO.lst xs]) 29) ys).map D.lst|_=>Y)=_;rw[if_neg (Wi _)];simp;rw[(cP λx h=>mE 29 x (Um.mp hx x h))]
 show(if(M++[MO.lst xs]).length=M.length then bc.ok (D.mr M.length) (M++[MO.lst xs]) else match frz M.length (M++[MO.lst xs]) 30 (.mr M.length),iC M.length (M++[MO.lst xs]) ((M++[MO.lst xs]).take M.length) with|some d',Z M'=>.ok d' M'|_,_=>.bad)=_;rw[if_neg (by simp),abz,f1,f2]
def xk {k:Nat}{fs:List (Str×D)}(h:M[k]?=Z (.obj c fs)):jE c (.mr k) M=Z (k,fs):=by
 unfold jE
 simp_all
def bO {k:Nat}{fs:List (Str×D)}(h:g ρ M=.ok (.mr k) M)(hM:M[k]?=Z (.obj c fs))(hf:fs.lookup f=Z d):cX c f g ρ M=.ok d M:=by
 unfold cX;rw[h,az,xk hM]
 simp_all
def g9 {go:GE}{M M1:ay}{k:Nat}{fs:List (Str×D)}(h:go ρ M=.ok (.mr k) M)(hM:M[k]?=Z (.obj c fs))(hn:fs.lookup m=Y)
  (ha:ga ρ M=.ok ds M1) (hl:ds.length+1=n) (hF:F (.mr k::ds) M1=r):dQ c m n F go ga ρ M=r:=by
 unfold dQ;rw[h,az,xk hM];dsimp only;rw[if_pos hn,ha,az,if_pos hl,hF]
def BM {k:Nat}{fs:List (Str×D)}(hM:M[k]?=Z (.obj c fs))(hl:fs.length<1000):Dy c f (.mr k) y M=.ok () (M.set k (.obj c (jG f y fs))):=by
 unfold Dy;rw[xk hM]
 simp_all
def xC {go:GE}{M M1:ay}{k:Nat}{fs:List (Str×D)}(hv:gv ρ M=.ok y M1)(ho:go ρ M1=.ok (.mr k) M1)(hM:M1[k]?=Z (.obj c fs))(hl:fs.length<1000) :
  gQ c f go gv ρ M=.ok (.nx ρ) (M1.set k (.obj c (jG f y fs))):=by
 unfold gQ;rw[hv,az,ho,az,BM hM hl,az]
def K3 {go:GE}{M M1 M2:ay}{k:Nat}{fs:List (Str×D)}(ho:go ρ M=.ok (.mr k) M)(hM:M[k]?=Z (.obj c fs))(hf:fs.lookup f=Z v)(hv:gv ρ M=.ok y M1)
  (ha:By v y M1=.ok z M2) (hM2:M2[k]?=Z (.obj c fs2)) (hl:fs2.length<1000):K6 c f go gv ρ M=.ok (.nx ρ) (M2.set k (.obj c (jG f z fs2))):=by
 unfold K6;rw[ho,az,xk hM];dsimp only;rw[hf];dsimp only;rw[hv,az,ha,az,BM hM2 hl,az]
def Jq {k:Nat}(h:M[k]?=Z (.lst xs))(hl:xs.length+ys.length<=100000):By (.mr k) (.lst ys) M=.ok (.mr k) (M.set k (.lst (xs++ys))):=by
 unfold By;dsimp only;rw[h,show zP (.lst ys) M=Z ys from rfl];dsimp only;rw[if_pos (b9 (by omega))]
def An {k:bM}(h:M[i]?=Z (.dK kvs))(hk:ma y=Z k)(hg:fY kvs k=Y)(hl:kvs.length<1000000):fM i y z M=.ok z (M.set i (.dK (kvs++[(k,z)]))):=by
 unfold fM;rw[h,hk];dsimp only;rw[hg,if_pos (Ux hl (b9 (by simp)))]
def yP {k:bM}(h:M[i]?=Z (.dK kvs))(hk:ma y=Z k)(hg:fY kvs k=Z r):fM i y z M=.ok r M:=by
 unfold fM;rw[h,hk];dsimp only;rw[hg]
def yt {k:List bM}(h:M[i]?=Z (.dT kvs))(hk:ki y=Z k)(hg:fY kvs k=Y)(hl:kvs.length<1000000):fM i y z M=.ok z (M.set i (.dT (kvs++[(k,z)]))):=by
 unfold fM;rw[h,hk];dsimp only;rw[hg,if_pos (Ux hl (b9 (by simp)))]
def yY {k:List bM}(h:M[i]?=Z (.dT kvs))(hk:ki y=Z k)(hg:fY kvs k=Z r):fM i y z M=.ok r M:=by
 unfold fM;rw[h,hk];dsimp only;rw[hg]
def tZ {κ:Type}[DecidableEq κ](kvs:List (κ×D))(k:κ)(z:D):List (κ×D):=match fY kvs k with
 | some _=>kvs
 | none=>kvs++[(k,z)]
def Cs [DecidableEq κ](kvs:List (κ×D))(k:κ)(z:D):(tZ kvs k z).length<=kvs.length+1:=by
 unfold tZ;split
 ·simp
 simp
def uM {M:ay}(h:M[i]?=Z o):M.set i o=M:=by
 refine q1x1 (Uk.mp h) λhi e=>?_;rw[<-e];exact List.set_getElem_self hi
def u7 {k:bM}(h:M[i]?=Z (.dK kvs))(hk:ma y=Z k)(hl:kvs.length<1000000):∃r,fM i y z M=.ok r (M.set i (.dK (tZ kvs k z))):=by
 unfold tZ;cases hg:fY kvs k with
 | some r=>exact⟨r,by rw[yP h hk hg,uM h]⟩
 | none=>exact⟨z,An h hk hg hl⟩
def uo {k:List bM}(h:M[i]?=Z (.dT kvs))(hk:ki y=Z k)(hl:kvs.length<1000000):∃r,fM i y z M=.ok r (M.set i (.dT (tZ kvs k z))):=by
 unfold tZ;cases hg:fY kvs k with
 | some r=>exact⟨r,by rw[yY h hk hg,uM h]⟩
 | none=>exact⟨z,yt h hk hg hl⟩
def nG {go:GE}(h1:go ρ M=.ok (.mr i) M)(h2:xG M[i]?=true)(h3:gy ρ M=.ok y M)(h4:gz ρ M=.ok z M)(h:fM i y z M=o):ib go gy gz ρ M=o:=by
 unfold ib;rw[h1,az]
 simp_all
end DL
namespace DL
open PySem PySem.Spec PyProof.Rows PySem.W L2 List
section
variable {prog:UI}{w:UN}{A:Vd}{E:Uh->Ui->Prop}{s:Ui}{d it v:Ul}{es:Array WX}{ep i:Nat}{ok ov:Uh}
def Gr (hd:(d==Vp)=false):MeetsIn prog w (Xj.«dict.items» ⟨[.ref d],[]⟩) (λ_ R s=>(∃es ep,oh s.heap d es ep)/\R (.ok (.ret (.ref s.heap.objs.size))) {s with heap:=s.heap.push {cls:=.type "dict_items",data:=.fields #[.ref d]}}):=
 .of_wp λA R s hxx=>by
  obtain⟨⟨es,ep,x⟩,h⟩:=hxx;refine Ud (Ud (Xw x.typeIs ?_));refine Ue ?_;unfold Xx;rw[if_neg (by rw[hd];exact Uy)];exact Ud (Ue (Ud (UV (Ue ⟨_,rfl,h⟩))))
def JZ (hv:s.heap.IsItemsView v d)(x:oh s.heap d es ep)
  (hQ:Q (.ref s.heap.objs.size) {s with heap:=s.heap.push {cls:=.type "dict_itemiterator",data:=.fields #[.none,.bool false,.ref d,.int 0 0,.int es.size 0,.int ep 0,.none,.none]}}):Uq (UA prog w) A (ZZ (.ref v)) Q E s:=by
 have T:=hv.typeIs;refine q1x3 hv λov hov hcv hdv=>?_;refine q1x3 x λo ho hc hdat=>?_;refine Yu T PySem.F.slot_dict_items_iter (UZ PySem.F.slot_dict_items_iter T PySem.F.entry_dict_items_iter ?_ (PySem.F.args_dict_items_iter_1 _));refine Ud (Ue (Ud ?_));refine Ud (Vt hov hdv  rfl (Ue (Ud ?_)));refine Ud (VO ho hdat (Ud (WD ho hdat ?_)));simp only[show Vy "dict_itemiterator"=true by rfl,if_true];refine UV (Ue ⟨_,rfl,"dict_itemiterator",_,⟨_,Uo _ rfl,rfl⟩,PySem.F.slot_dict_itemiterator_next.lookup,?_⟩)
  (by simp only[sizeOk,ZT,U1,WE,U6,Wy,U3];omega)
 assumption
def Ie (hit:WW s.heap it d i es.size ep ok ov)(x:oh s.heap d es ep)(hi:i<es.size)
  (hQ:∀h',ZU h' it d (i+1) es.size ep es[i].key es[i].val s.heap.objs.size->h'.get? s.heap.objs.size=Z {cls:=.type "tuple",data:=.seq #[es[i].key,es[i].val]}->(∀b o,b≠it->s.heap.get? b=Z o->h'.get? b=Z o)->Q (Z (.ref s.heap.objs.size)) {s with heap:=h'}) :
  Uq (UA prog w) A (WN (.ref it)) Q E s:=by
 obtain⟨hp,g,dr,tk,os⟩:=s;refine q1x3 x λod hod hcd hdd=>?_;have hT:abG ⟨hp,g,dr,tk,os⟩ (.ref it) "dict_itemiterator":=⟨_,hit,rfl⟩;unfold WN;refine Ud (W5 (U7 (name:=Vx "__next__") hT PySem.F.slot_dict_itemiterator_next (UZ PySem.F.slot_dict_itemiterator_next hT PySem.F.entry_dict_itemiterator_next ?_ (PySem.F.args_dict_itemiterator_next_1 _))));refine Ud (Ue (Ud (Ud ?_)))
 first|refine Ud (VI hT (Ue ?_))|refine Ud (V7 hT (Ue ?_))
 refine Ud (Yj hit rfl ?_);simp only[show Vy "dict_itemiterator"=true by decide,if_true];show Uq _ _ (if(UO d==U5)=true then _ else _) _ _ _;rw[if_neg (show¬((UO d==U5)=true) from Uy)];refine Ud (Ue (Ud (VO hod hdd ?_)));rw[if_neg (by simp)];refine Ud (Ue (Ud (WD hod hdd ?_)));rw[if_neg (by simp)];refine Ue ?_;simp only[show¬((i:Int)<0) from by omega,if_false,UC,U0 hi];refine Ud ?_
 first|refine Ud (VI hT (Ue ?_))|refine Ud (V7 hT (Ue ?_))
 refine Ud (Xq hT ?_);show Uq _ _ (aby (.ref it) 3 (WO ((i:Int)+1)) >>= _) _ _ ⟨hp,g,dr,tk,os⟩;refine Ud (Wx hit (by simp) λh1 he1 hs1=>?_)
 replace hs1:Vr it hp h1:=hs1
 replace he1:WW h1 it d (i+1) es.size ep ok ov:=by
  have e:((i+1:Nat):Int)=(i:Int)+1:=by omega
  unfold WW;rw[e];simpa[WO] using he1
 have hT1:abG ⟨h1,g,dr,tk,os⟩ (.ref it) "dict_itemiterator":=⟨_,he1,rfl⟩;refine Ud (UL (Ud (Xq hT1 (Ud (Xq hT1 ?_)))));show Uq _ _ (Xr (.ref it) 6 es[i].key es[i].val) _ _ ⟨h1,g,dr,tk,os⟩;unfold Xr;refine Ud (Zu ?_);have he2:WW (h1.push {cls:=.type "tuple",data:=.seq #[es[i].key,es[i].val]}) it d (i+1) es.size ep ok ov:=Ug _ he1;generalize hh2:h1.push {cls:=.type "tuple",data:=.seq #[es[i].key,es[i].val]}=h2 at he2;have hz1:h1.objs.size=hp.objs.size:=hs1.1;have hil:it<hp.objs.size:=Ut hit;have ht2:h2.get? hp.objs.size=Z {cls:=.type "tuple",data:=.seq #[es[i].key,es[i].val]}:=by rw[<-hh2,<-hz1];exact Uo _ rfl
 have hk2:∀b o,b≠it->hp.get? b=Z o->h2.get? b=Z o:=λb o hb e=>by rw[<-hh2];exact Ug _ (hs1.extBut b o hb e)
 show Uq _ _ (W7 (.ref it) >>= _) _ _ ⟨h2,g,dr,tk,os⟩;rw[hz1];clear hh2 he1 hs1 hT1 hz1 h1;refine Ud ?_;unfold W7;refine Ud (Vt he2 rfl (x:=.none) rfl (Ue ?_));simp only[if_true];refine Ud (Vt he2 rfl (x:=ok) rfl (Ud (Vt he2 rfl (x:=ov) rfl ?_)));refine Ud (Wx he2 (by simp) λh3 he3 hs3=>?_)
 replace hs3:Vr it h2 h3:=hs3
 replace he3:WW h3 it d (i+1) es.size ep es[i].key ov:=he3
 refine Ud (Wx he3 (by simp) λh4 he4 hs4=>?_)
 replace hs4:Vr it h3 h4:=hs4
 replace he4:WW h4 it d (i+1) es.size ep es[i].key es[i].val:=he4
 refine Ud (Wx he4 (by simp) λh5 he5 hs5=>?_)
 replace hs5:Vr it h4 h5:=hs5
 replace he5:ZU h5 it d (i+1) es.size ep es[i].key es[i].val hp.objs.size:=he5
 refine Ud (Wx he5 (by simp) λh6 he6 hs6=>?_)
 replace hs6:Vr it h5 h6:=hs6
 replace he6:ZU h6 it d (i+1) es.size ep es[i].key es[i].val hp.objs.size:=he6
 have up:∀b o,b≠it->h2.get? b=Z o->h6.get? b=Z o:=λb o hb e=>hs6.extBut b o hb (hs5.extBut b o hb (hs4.extBut b o hb (hs3.extBut b o hb e)))
 exact Ud (We (Ue (Ue ⟨_,rfl,Ue (hQ h6 he6 (up _ _ (Wt hil) ht2) λb o hb e=>up b o hb (hk2 b o hb e))⟩)))
def NR (hh:A.handled=Y)(hit:WW s.heap it d i es.size ep ok ov)(x:oh s.heap d es ep)(hi:es.size<=i)(hQ:∀h',Yt it s.heap h'->Q Y {s with heap:=h'}):Uq (UA prog w) A (WN (.ref it)) Q E s:=by
 refine q1x3 x λod hod hcd hdd=>?_;have hT:s.TypeIs (.ref it) "dict_itemiterator":=⟨_,hit,rfl⟩;unfold WN;refine Ud (W5 (U7 (name:=Vx "__next__") hT PySem.F.slot_dict_itemiterator_next (UZ PySem.F.slot_dict_itemiterator_next hT PySem.F.entry_dict_itemiterator_next ?_ (PySem.F.args_dict_itemiterator_next_1 _))));refine Ud (Ue (Ud (Ud ?_)))
 first|refine Ud (VI hT (Ue ?_))|refine Ud (V7 hT (Ue ?_))
 refine Ud (Yj hit rfl ?_);simp only[show Vy "dict_itemiterator"=true by decide,if_true];show Uq _ _ (if(UO d==U5)=true then _ else _) _ _ s;rw[if_neg (show¬((UO d==U5)=true) from Uy)];refine Ud (Ue (Ud (VO hod hdd ?_)));rw[if_neg (by simp)];refine Ud (Ue (Ud (WD hod hdd ?_)));rw[if_neg (by simp)];refine Ue ?_;simp only[show¬((i:Int)<0) from by omega,if_false,UC,VX hi];refine Ud ?_
 first|refine Ud (VI hT (Ue ?_))|refine Ud (V7 hT (Ue ?_))
 show Uq _ _ (aby (.ref it) 2 .none >>= _) _ _ s;refine Ud (Xo hit rfl (by simp) ?_);show Uq _ _ (abw (.type "StopIteration") [] >>= _) _ _ _;refine Ud ?_;simp only[abw,newTuple];refine Ud (UV ?_ (by size_fits));refine Ud (m:=WU _ _) (WT (a:=U5) (by first|rfl|(simp only[WU];rfl)) (UV ?_ (by size_fits)));simp only[raiseNew];refine Ud (ZR ?_);rw[show A.in1.handled=Y from hh];refine Ud (Ue (aaQ ?_));refine Ud (YL (T:="StopIteration") (b:=true) ⟨_,Uo _ rfl,rfl⟩ Zp (Ue (hQ _ (((Vs ..).extBut.push _).push _))))
def u9:entryFor table "dict_itemiterator.__iter__"=Z Xj.«dict_keyiterator.__iter__»:=entryFor_alias (id':="dict_keyiterator.__iter__") (by kernel_rfl) rfl (by decide +kernel) (by kernel_rfl)
def Ko (hit:WW s.heap it d i n ep ok ov)(h:Q (.ref it) s):Uq (UA prog w) A (ZZ (.ref it)) Q E s:=by
 have hT:s.TypeIs (.ref it) "dict_itemiterator":=⟨_,hit,rfl⟩;refine Yu hT PySem.F.slot_dict_itemiterator_iter (UZ PySem.F.slot_dict_itemiterator_iter hT u9 ?_ (PySem.F.args_dict_itemiterator_iter_1 _));exact Ue ⟨_,rfl,"dict_itemiterator",_,hT,PySem.F.slot_dict_itemiterator_next.lookup,h⟩
end
end DL
namespace DL
open PySem PySem.Spec PyProof.Rows L2 List
def JK {k:bM}(h:(bA prog w).is k u=true):aS (kV k) u:=by
 rcases bX (h) with⟨i,t,rfl,rfl⟩|⟨x,t,rfl,rfl⟩
 ·exact⟨t,rfl⟩
 ·exact⟨t,rfl⟩
def SD:D->D
 | .mr j=>.mr (j-1)
 | d=>d
def TU (i:Nat):D->Bool
 | .mr j=>decide (i<j)
 | d=>aI 30 d
def TN (kvs:List (bM×D)):List D:=kvs.map λp=>.tup [vS p.1,SD p.2]
def TR (n:Nat)(x:D)(M:ay):bc rN:=match x with
 | .mr i=>match M[i]? with
  | some (.dK kvs)=>if n<=i/\(M.take i).all (zN i)=true/\(M.drop (i+1)).all Cq=true/\kvs.all (λp=>TU i p.2)=true then .ok ⟨TN kvs,Y⟩ (M.eraseIdx i) else .bad
  | _=>.bad
 | _=>.bad
section
variable {K:Uu}{θ:List Ul}{H:Hp}{M:ay}{i:Nat}{a:Ul}{o:Obj}{ws:List (bM×V)}
theorem ut:∀{kvs:List (κ×D)} {vs:List (κ×V)},ow K θ H kvs vs->∀{j:Nat} {k:κ} {d:D},kvs[j]?=Z (k,d)->∃v,vs[j]?=Z (k,v)/\cC K θ H d v
 | [],vs,_,j,k,d,e=>by cases e
 | (k0,d0)::kvs,vs,h,j,k,d,e=>by
  refine q2x3 h λv r e1 h1 h2=>?_;subst e1;cases j with
  | zero=>simp_all
  | succ j=>exact ut h2 e
end
def wz:F2:=λx y M=>match x with
 | .mr i=>match M[i]? with
  | some (.dK kvs)=>match ma y with
   | some k=>match fY kvs k with
    | some r=>.ok r M
    | none=>.bad
   | none=>.bad
  | _=>.bad
 | _=>.bad
def Ew {go:GE}{k:Nat}(hr:bn k X.A)(ho:QE X o go)(hi:QE X i gi)(hs:DI i:=by intro _ _;rfl):QE X (.Subscript o i pos) (g2 wz go gi):=⟨(wU (F4 hr) ho.h hi.h hs).of λσ H Q hxx=>by
 refine q3x3 hxx λρ θ M hd hw h=>?_;refine bi hd hw (aK X θ H Q) (λc M' h=>h) (λh=>h) h λd1 M1 v1 θ1 H1 g1 r1 h1=>?_
 refine bi (hd.go g1) g1.wr (aK X θ1 H1 Q) (λc M' h=>h) (λh=>h) (aK.go g1 h1) λd2 M2 v2 θ2 H2 g2 r2 h2=>?_
 have h2:=aK.go g2 h2;have r1:=r1.go g2;unfold wz at h2;cases d1 with
 | mr i=>
  refine q1x2 r1 λa ea ta=>?_;dsimp only at h2;cases q:M2[i]? with
  | none=>rw[q] at h2;exact h2.elim
  | some mo=>
   rw[q] at h2;cases mo with
   | dK kvs=>
    refine q1x2 (g2.wr.at_ i a _ ta q) λvs hv ra=>?_;cases qk:ma d2 with
    | none=>rw[qk] at h2;exact h2.elim
    | some k=>
     rw[qk] at h2;dsimp only at h2;have ek:=Fk qk r2;cases qg:fY kvs k with
     | none=>rw[qg] at h2;exact h2.elim
     | some r=>
      rw[qg] at h2;refine q1x2 ((nz k ra).1 r qg) λv ev rv=>?_;refine⟨a,v,ea,?_,h2 v θ2 H2 (.refl g2.wr) rv⟩;rw[ek,<-ev];exact uj.k hv
   | _=>exact h2.elim
 | _=>exact h2.elim⟩
def KU (u:HO):Prop:=(∃vs,u=.dK vs)\/∃ts,u=.dT ts
def KU.no {u:HO}(h:KU u):(∀xs,u≠.tup xs)/\(∀x,u≠.own x)/\(∀o v,u≠.frz o v)/\(∀ps,u≠.tbl ps)/\xi u=true:=by
 rcases h with⟨vs,rfl⟩|⟨ts,rfl⟩ <;> exact⟨λ_ z=>(by cases z),λ_ z=>(by cases z),λ_ _ z=>(by cases z),λ_ z=>(by cases z),rfl⟩
section
variable {X:Cx}{af:List (Ul×Obj)}{σ:L2.St}{H:Hp}{s:Ui}{d:Ul}{o:Obj}{u:HO}
def NK (I:L2.Inv X af σ H s)(h:H d=Z u)(hu:KU u)(ho:s.heap.get? d=Z o):L2.Inv X af σ (bB H d (.frz o u)) s:=by
 refine q0x5 hu.no λn1 n2 n3 n4 _=>?_;have nd:∀{b:Ul} {v:HO},H b=Z v->v≠u->b≠d:=λ{b v} e n z=>by
  simp_all
 refine I.un  (t':=s.toks) ⟨λb o q _ _ _=>q,λb o q _ _ _=>⟨o.slots,q⟩,λb o q n _=>?_,λb o q _=>⟨o,q⟩,λb xs e=>?_,λb o v e=>?_,λb ps e=>⟨#[],?_⟩⟩ λa v e=>?_
 ·rw[ar (λz=>by grind)];exact n
 ·rw[ar (nd e λz=>n1 _ z.symm)];exact e
 ·rw[ar (nd e λz=>n3 _ _ z.symm)];exact e
 ·rw[ar (nd e λz=>n4 _ z.symm),e];simp
 ·have st:∀{w:HO},bK X.prog X.w H s.heap a w->bK X.prog X.w (bB H d (.frz o u)) s.heap a w:=λq=>q.stay (λc v _ q=>q) (λc q=>by rw[ar (nd q λz=>n2 _ z.symm)];exact q) λc xs q=>by rw[ar (nd q λz=>n1 _ z.symm)];exact q
  by_cases z:a=d
  ·subst z;rw[aX] at e;cases e;exact⟨ho,st (I.hok a _ h)⟩
  ·rw[ar z] at e;exact st (I.hok a v e)
def NT (I:L2.Inv X af σ H s)(h:H d=Z (.frz o u))(hu:KU u)(h0:∀o v,X.H₀ d≠Z (.frz o v)):L2.Inv X af σ (bB H d u) s:=by
 have nd:∀{b:Ul} {v:HO},H b=Z v->v≠.frz o u->b≠d:=λ{b v} e n z=>by
  simp_all
 have nn:∀{b:Ul},H b=Y->bB H d u b=Y:=λ{b} e=>by
  rw[ar (λz=>by grind)];exact e
 have kt:∀b xs,H b=Z (.tup xs)->bB H d u b=Z (.tup xs):=λb xs e=>by
  rw[ar (nd e λz=>nomatch z)];exact e
 refine⟨I.ok,I.os,I.bare,⟨I.base.keep,I.base.slot,λb o e n hx=>nn (I.base.free b o e n hx),I.base.there,λb xs e=>kt b xs (I.base.tups b xs e),λb o' v e=>?_,λb ps e=>?_⟩,I.loc,I.cell,nn I.free,λx c e=>nn (I.freeC x c e),λp hp=>?_,λa v e=>?_,I.len⟩
 ·rw[ar (λz=>h0 o' v (by rw[<-z];exact e))];exact I.base.frzs b o' v e
 ·refine q1x1 (I.base.tbls b ps e) λmore q=>?_;exact⟨more,by rw[ar (nd q λz=>nomatch z)];exact q⟩
 ·refine q0x3 (I.pin p hp) λa1 a2 a3=>?_;exact⟨a1,nn a2,a3⟩
 ·have st:∀{w:HO},bK X.prog X.w H s.heap a w->bK X.prog X.w (bB H d u) s.heap a w:=λq=>q.stay (λc v _ q=>q) (λc q=>by rw[ar (nd q λz=>nomatch z)];exact q) λc xs q=>kt c xs q
  by_cases z:a=d
  ·subst z;rw[aX] at e;cases e;exact st (I.hok a _ h).2
  ·rw[ar z] at e;exact st (I.hok a v e)
end
def RH (d:Ul)(o:Obj)(u:HO)(ps:List (V×V)):It:=
 ⟨λi H=>H d=Z (.frz o u)/\i<ps.length,λi H x H'=>∃p k v,H p=Y/\ps[i]?=Z (k,v)/\H'=bB H p (.tup [k,v])/\x=.ref p,λi H=>H d=Z (.frz o u)/\ps.length<=i⟩
def F6 (p:V×V)(e:WX):Prop:=aS p.1 e.key/\aS p.2 e.val
theorem tX:∀{ps:List (V×V)} {es:List WX},Paired F6 ps es->ps.length=es.length/\∀{i:Nat} {e:WX},es[i]?=Z e->∃k v,ps[i]?=Z (k,v)/\aS k e.key/\aS v e.val
 | _,_,.nil=>⟨rfl,λe=>by cases e⟩
 | (k,v)::ps,e::es,.cons r t=>by
  refine q0x2 (tX t) λl g=>?_;refine⟨by simp_all,λ{i e'} q=>?_⟩;cases i with
  | zero=>cases q;exact⟨k,v,rfl,r.1,r.2⟩
  | succ i=>exact g q
def Bl {P:UI}{w:UN}{K:Uu}{xs:List UY}{kt:Nat}{pos:Pos}{u:HO}{ps:List (V×V)}(d it:Ul)(o:Obj)(es:Array WX)(ep:Nat)(hne:d≠it)(hx:o.ExactDict)(ho:o.data=.dict es ep)(hr:Paired F6 ps es.toList) :
  A7 P w K (.Tuple xs kt pos) (RH d o u ps) [it] it (λi h=>∃ok ov,WW h it d i es.size ep ok ov) where
 mem:=by simp
 obj:=λi h st c hc=>by
  refine q2x1 st λok ov he=>?_;rw[VE.mp hc];exact⟨_,he,λv z=>by cases z⟩
 keep:=λi h h' st k=>st.imp λok x=>x.imp λov he=>k it (by simp) _ he
 item:=by
  intro X hP hw hK hc i af s σ H E I hf st hg;subst hP hw hK;refine q2x1 st λok ov he=>?_;refine q0x2 hg λhd hi=>?_;refine q0x2 (tX hr) λl gp=>?_;have l:ps.length=es.size:=l.trans Vi;have g:=(show bK X.prog X.w H s.heap d (.frz o u) from I.hok d _ hd).1;have hi':i<es.size:=l▸hi;refine q2x3 (gp (i:=i) (e:=es[i]) (by rw[Vj];exact U0 hi')) λk v ex rk rv=>?_;have hel:it<s.heap.objs.size:=Ut he;refine Ie he ⟨o,g,hx,ho⟩ hi' λh' hout hT hk=>⟨_,rfl,?_⟩
  refine wpAny_letOwnedTupleGo_items hout λh2 he2 hs2=>?_
  have hT2:h2.get? s.heap.objs.size=Z {cls:=.type "tuple",data:=.seq #[es[i].key,es[i].val]}:=(hs2.2 _ (Wt hel)).trans hT;have fr:H s.heap.objs.size=Y:=I.hok.fresh (Uj _);have new:bK X.prog X.w (bB H s.heap.objs.size (.tup [k,v])) h2 s.heap.objs.size (.tup [k,v]):=
   ⟨UK (by decide:2<=1000) (by rw[U3];decide),[es[i].key,es[i].val],.cons rk (.cons rv .nil),⟨_,hT2,rfl,_,rfl⟩⟩
  have I2:=pX (t':=s.toks) I hf (λc o hc q=>(hs2.2 c (λz=>hc (by simp[z]))).trans (hk c o (λz=>hc (by simp[z])) q)) (Uj _) new;refine⟨.ref s.heap.objs.size,_,I2,rfl,⟨_,k,v,fr,ex,rfl,rfl⟩,⟨_,_,he2⟩,λc hc=>?_⟩;rw[VE.mp hc,ar (Uz hel)];exact(hf it (by simp)).1
 done:=by
  intro X hP hw hK hc i af s σ H E I hf st hg;subst hP hw hK;refine q2x1 st λok ov he=>?_;refine q0x2 hg λhd hi=>?_;refine q0x2 (tX hr) λl _=>?_;have l:ps.length=es.size:=l.trans Vi;have g:=(show bK X.prog X.w H s.heap d (.frz o u) from I.hok d _ hd).1;exact NR (show X.A.handled=Y from I.ok.hd hc) he ⟨o,g,hx,ho⟩ (by omega) λh' hb=>⟨rfl,wA (t':=s.toks) I hf λc o hc q=>hb c o (λz=>hc (by simp[z])) q⟩
 self:=λA i s Q E st h=>by
  refine q2x1 st λok ov he=>?_;exact Ko he h
def xc (H:Hp)(u:HO)(ps:List (V×V)):Prop:=
 (∃vs,u=.dK vs/\ps=vs.map λp=>(kV p.1,p.2))\/∃ts,u=.dT ts/\Paired (λ(p:V×V) (q:List bM×V)=>(∃b,p.1=.ref b/\H b=Z (.tup (q.1.map kV)))/\p.2=q.2) ps ts
section
variable {prog:UI}{w:UN}{H:Hp}{h:Vn}{d:Ul}
theorem uH:∀{es:List WX} {ws:List (bM×Uh)} {vs:List (bM×V)},Pairs (bA prog w) es ws->KV vs ws->Paired F6 (vs.map λp=>(kV p.1,p.2)) es
 | _,_,vs,.nil,r=>by cases r;exact .nil
 | _,_,vs,.cons hk hv t,r=>by
  cases r with
  | @cons p q _ _ h1 h2=>
   refine q0x2 h1 λe rv=>?_;exact .cons ⟨JK (by rwa [e]),by rwa [hv]⟩ (uH t h2)
theorem uZ:∀{ts:List (List bM×V)} {xs:List (List bM×Ul×Uh)},Paired (λ(p:List bM×V) (q:List bM×Ul×Uh)=>p.1=q.1/\H q.2.1=Z (.tup (p.1.map kV))/\aS p.2 q.2.2) ts xs->
  ∃ps,Paired (λ(p:V×V) (q:List bM×V)=>(∃b,p.1=.ref b/\H b=Z (.tup (q.1.map kV)))/\p.2=q.2) ps ts/\Paired F6 ps (xs.map (abi (Xz (bA prog w))))
 | _,_,.nil=>⟨[],.nil,.nil⟩
 | _,_,.cons (a:=p) (b:=q) r t=>by
  refine q1x2 (uZ t) λps h1 h2=>?_;exact⟨(.ref q.2.1,p.2)::ps,.cons ⟨⟨q.2.1,rfl,r.2.1⟩,rfl⟩ h1,.cons ⟨rfl,r.2.2⟩ h2⟩
def Ii {u:HO}(hu:KU u)(hok:bK prog w H h d u):(d==Vp)=false/\∃o es ep ps,h.get? d=Z o/\o.ExactDict/\o.data=.dict es ep/\Paired F6 ps es.toList/\xc H u ps:=by
 rcases hu with⟨vs,rfl⟩|⟨ts,rfl⟩
 ·obtain⟨z,lo,ws,rel,hof⟩:=hok;refine q3x6 hof λo es ep g h3 h4 h5 h6 h7=>?_;exact⟨lo,o,es,ep,_,g,h3,h4,uH h6 rel,.inl ⟨vs,rfl,rfl⟩⟩
 ·obtain⟨z,lo,xs,rel,o,es,ep,g,h2,h3,h4,_⟩:=hok;obtain⟨ps,h5,h6⟩:=uZ   rel;exact⟨lo,o,es,ep,ps,g,h2,h3,by rwa [h4],.inr ⟨ts,rfl,h5⟩⟩
end
def FV {X:Cx}{e:UY}{te:TE}{es:List UY}(he:PE X e te)(hbase:Vu e "items" X.env (Vo e X.env)=Vo e X.env:=by rfl)(hline:(apos.endLine==cpos.line)=true:=by rfl) :
  PI X (.Tuple es kt tp) (.Call (.Attribute e "items" apos) [] [] cpos) (λσ H R=>te σ H λx H1=>∃d u,x=.ref d/\H1 d=Z u/\KU u/\∀o ps,xc H1 u ps->(∀o v,X.H₀ d≠Z (.frz o v))->R (RH d o u ps) (bB H1 d (.frz o u))):=by
 intro af s σ H R I h;refine wpAny_Call_method0_late hbase hline (bS (he af s σ H _ I h) λv s1 hxx=>?_);obtain⟨x,H1,I1,r1,d,u,rfl,hd,hu,q1⟩:=hxx;have r1:v=.ref d:=r1;subst r1;obtain⟨lo,o,ents,ep,ps,g,h3,h4,rel,po⟩:=Ii hu (I1.hok d _ hd);refine⟨"dict","dict.items",PySem.F.plainAttrs_dict,PySem.F.slot_dict_items,PySem.F.type_dict_items,⟨o,g,h3.1⟩,λb eb=>by cases eb;exact⟨o,g,h3.2.1⟩,Xn rfl (PySem.evalArgs_none ?_)⟩;refine X2 PySem.F.slot_dict_items ⟨o,g,h3.1⟩ PySem.F.entry_dict_items (PySem.F.args_dict_items_1 _) (Gr lo) ⟨⟨ents,ep,o,g,h3,h4⟩,?_⟩;have raw:oh (s1.heap.push {cls:=.type "dict_items",data:=.fields #[.ref d]}) d ents ep:=⟨o,Ug _ g,h3,h4⟩;refine JZ (s:={s1 with heap:=s1.heap.push {cls:=.type "dict_items",data:=.fields #[.ref d]}}) ⟨_,Uo _ rfl,rfl,rfl⟩ raw ?_;have I2:=NK I1 hd hu g;have hlt:d<s1.heap.objs.size:=Ut g;have I3:=I2.kept (h':=(s1.heap.push {cls:=.type "dict_items",data:=.fields #[.ref d]}).push {cls:=.type "dict_itemiterator",data:=.fields #[.none,.bool false,.ref d,.int 0 0,.int ents.size 0,.int ep 0,.none,.none]}) (t':=s1.toks) λb u e=>Ug _ (Ug _ e)
 have sz:(s1.heap.push {cls:=.type "dict_items",data:=.fields #[.ref d]}).objs.size=s1.heap.objs.size+1:=Xl ..;refine⟨_,[_],_,_,_,rfl,I3,Bl d _ o ents ep (by rw[sz];exact Uz (Xp hlt)) h3 h4 rel,⟨.none,.none,Uo _ rfl⟩,λb hb=>?_,q1 o ps po λo' v e=>?_⟩
 ·have hb:b=(s1.heap.push {cls:=.type "dict_items",data:=.fields #[.ref d]}).objs.size:=VE.mp hb;have le:s1.heap.objs.size<=b:=by rw[hb,sz];exact Ws _
  exact I2.fpOk le (I2.hok.fresh le)
 ·have z:=I1.base.frzs d o' v e;rw[hd] at z;exact hu.no.2.2.1 _ _ (UT z)
def iL (d:D)(M:ay):Option (List (D×D)):=match d with
 | .mr i=>match M[i]? with
  | some (.dK kvs)=>Z (kvs.map λp=>(vS p.1,p.2))
  | some (.dT kvs)=>Z (kvs.map λp=>(.tup (p.1.map vS),p.2))
  | _=>Y
 | _=>Y
def iP (p:D×D):D:=.tup [p.1,p.2]
def fL (n:Nat)(sg:GG)(ge:GE)(g:GE):GE:=λρ M=>(g ρ M).bind λd M1=>match iL d M1 with
 | some ds=>if ds.all (λp=>(dG p.2).isSome)=true then
   match aW ⟨ds.map iP,Y⟩ n sg bp ge (ds.map iP) (UD ρ.length Y) [] with
   | .ok es _=>if es.all (λe=>(dG e).isSome)=true/\es.length<=Ur then .ok (.lst es) M1 else .bad
   | _=>.bad
  else .bad
 | none=>.bad
section
variable {K:Uu}{θ θ':List Ul}{H H':Hp}{M:ay}{d:Ul}
theorem BX:∀{ds:List D} {ks:List Int},pE ds=Z ks->ds=ks.map D.int
 | [],ks,h=>by cases h;rfl
 | x::ds,ks,h=>by
  cases x with
  | int i=>
   refine q1x2 (UP.mp (h)) λr e zz2=>?_;subst zz2;rw[BX e];rfl
  | _=>cases h
def Af (h:(dG x).isSome=true)(r:cC K θ H x v)(hk:∀b xs,H b=Z (.tup xs)->H' b=Z (.tup xs)/\b∉θ'):cC K θ' H' x v:=by
 refine q1x1 (Yy.mp h) λks e=>?_;refine q1x2 (kI e r) λb zz1 t=>?_;subst zz1;cases x with
 | tup ds=>
  have ed:=BX (e);subst ed;exact⟨b,_,rfl,hk b _ t.1,kD _⟩
 | _=>cases e
theorem zo (hk:∀b xs,H b=Z (.tup xs)->H' b=Z (.tup xs)/\b∉θ'):∀{xs:List D} {vs:List V},xs.all (λe=>(dG e).isSome)=true->a6 K θ H xs vs->a6 K θ' H' xs vs
 | [],vs,_,r=>r
 | x::xs,vs,h,r=>by
  rw[W1,Uw] at h;refine q2x3 r λv vr e r1 r2=>?_;exact⟨v,vr,e,Af h.1 r1 hk,zo hk h.2 r2⟩
def Bx {ds:List (D×D)}(hw:Wr K θ H M)(hM:M[i]?=Z m)(ha:θ[i]?=Z d)(hp:iL (.mr i) M=Z ds) :
  ∃u,H d=Z u/\KU u/\∀ps,xc H u ps->ps.length=ds.length/\∀(j:Nat) (p:D×D),ds[j]?=Z p->∃k v,ps[j]?=Z (k,v)/\(∀H2:Hp,(∀b xs,H b=Z (.tup xs)->H2 b=Z (.tup xs))->cC K [] H2 p.1 k)/\cC K θ H p.2 v:=by
 have at_:=hw.at_ i d m ha hM;unfold iL at hp;dsimp only at hp;rw[hM] at hp;cases m with
 | dK kvs=>
  cases hp;refine q1x2 at_ λvs e r=>?_;refine⟨_,e,.inl ⟨vs,rfl⟩,λps po=>?_⟩;rcases po with⟨vs',q,rfl⟩|⟨ts,q,_⟩
  ·cases q;refine⟨by rw[UB,UB,gP r],λj p ej=>?_⟩;rw[Vc] at ej;obtain⟨⟨k,x⟩,ek,rfl⟩:=UP.mp ej;refine q1x2 (ut r ek) λv ev rv=>?_;exact⟨kV k,v,by rw[Vc,ev];rfl,λ_ _=>by cases k <;> exact rfl,rv⟩
  ·cases q
 | dT kvs=>
  cases hp;refine q1x2 at_ λvs e r=>?_;refine⟨_,e,.inr ⟨vs,rfl⟩,λps po=>?_⟩;rcases po with⟨vs',q,_⟩|⟨ts,q,pr⟩
  ·cases q
  ·cases q;have get:∀{ps:List (V×V)} {ts:List (List bM×V)},Paired (λ(p:V×V) (q:List bM×V)=>(∃b,p.1=.ref b/\H b=Z (.tup (q.1.map kV)))/\p.2=q.2) ps ts->ps.length=ts.length/\∀(j:Nat) (q:List bM×V),ts[j]?=Z q->∃b,ps[j]?=Z (.ref b,q.2)/\H b=Z (.tup (q.1.map kV)):=λ{ps ts} h=>by
    induction h with
    | nil=>exact⟨rfl,λj q e=>by cases e⟩
    | @cons p q ps ts r t ih=>
     refine⟨by rw[U6,U6,ih.1],λj q' e=>?_⟩;cases j with
     | zero=>
      cases e;obtain⟨⟨b,e1,e2⟩,e3⟩:=r;exact⟨b,by rw[<-e1,<-e3];rfl,e2⟩
     | succ j=>exact ih.2 j q' e
   refine q0x2 (get pr) λg1 g2=>?_;refine⟨by rw[g1,UB,gP r],λj p ej=>?_⟩;rw[Vc] at ej;obtain⟨⟨k,x⟩,ek,rfl⟩:=UP.mp ej;refine q1x2 (ut r ek) λv ev rv=>?_;refine q1x2 (g2 j _ ev) λb eb hb=>?_;exact⟨_,_,eb,λH2 q=>⟨b,_,rfl,⟨q _ _ hb,Xh⟩,Cy k⟩,rv⟩
 | _=>cases hp
end
section
variable {X:Cx}{scope:Y6}{xs R:List Str}{sg:GG}{e elt:UY}{tes:List UY}{pos apos cpos tp:Pos}{kt:Nat}{g ge:GE}
def DT (hS:cy scope X.env.kindOf xs R X.N=true)(hc:X.calm=true)(he0:PE X e (tE X g))(own:yq xs.length sg)(hg:∀fp s H C,PG (aC X scope xs R fp s H C) (.Tuple tes kt tp) (tG (aC X scope xs R fp s H C) sg))
  (he:∀fp s H C,PE (aC X scope xs R fp s H C) elt (tE (aC X scope xs R fp s H C) ge))
  (hbase:Vu e "items" X.env (Vo e X.env)=Vo e X.env:=by rfl) (hline:(apos.endLine==cpos.line)=true:=by rfl)
  (hs:∀x,U4 (.Call (.Attribute e "items" apos) [] [] cpos) X.env x=pure x:=by intro _;rfl) :
  PE X (.ListComp elt [⟨.Tuple tes kt tp,.Call (.Attribute e "items" apos) [] [] cpos,[],0⟩] scope pos) (tE X (fL xs.length sg ge g)):=by
 have S:=cq.of hS;intro af s σ H Q I h;refine q3x3 h λρ θ M hd hw h=>?_;rw[eval_ListComp];refine wpAny_comprehension_free (use:=Y) rfl hs (lT (S.cells I)) S.kind S.lnames ?_;refine bS (FV (es:=tes) (kt:=kt) (tp:=tp) he0 hbase hline af s σ H (λJ H2=>∃i M1 θ1 H1 d u o ds ps,J=RH d o u ps/\H2=bB H1 d (.frz o u)/\g ρ M=.ok (.mr i) M1/\Go X.K θ H θ1 H1 M1/\θ1[i]?=Z d/\H1 d=Z u/\KU u/\(∀o v,X.H₀ d≠Z (.frz o v))/\iL (.mr i) M1=Z ds/\
   ps.length=ds.length/\∀(j:Nat) (p:D×D),ds[j]?=Z p->∃k v,ps[j]?=Z (k,v)/\(∀H2:Hp,(∀b xs,H1 b=Z (.tup xs)->H2 b=Z (.tup xs))->cC X.K [] H2 p.1 k)/\cC X.K θ1 H1 p.2 v) I ?_) λv s1 h1=>bS h1 λitv s2 h2=>?_
 ·refine⟨ρ,θ,M,hd,hw,?_⟩;cases q:g ρ M with
  | bad=>unfold fL at h;rw[q] at h;exact h
  | err c M1=>unfold fL at h;rw[q] at h;exact h
  | ok dx M1=>
   intro v θ1 H1 g1 r1;unfold fL at h;rw[q] at h;have h:aK X θ H Q (match iL dx M1 with
    | some ds=>if ds.all (λp=>(dG p.2).isSome)=true then
      match aW ⟨ds.map iP,Y⟩ xs.length sg bp ge (ds.map iP) (UD ρ.length Y) [] with
      | .ok es _=>if es.all (λe=>(dG e).isSome)=true/\es.length<=Ur then .ok (.lst es) M1 else .bad
      | _=>.bad
     else .bad
    | none=>.bad):=h
   cases qp:iL dx M1 with
   | none=>rw[qp] at h;exact h.elim
   | some ds=>
    cases dx with
    | mr i=>
     refine q1x2 r1 λd zz1 ta=>?_;subst zz1;obtain⟨m,em⟩:∃m,M1[i]?=Z m:=by
      cases q:M1[i]? with
      | some m=>exact⟨m,rfl⟩
      | none=>unfold iL at qp;dsimp only at qp;rw[q] at qp;cases qp
     refine q1x3 (Bx g1.wr em ta qp) λu hu du pd=>?_;refine⟨d,u,rfl,hu,du,λo ps po h0=>?_⟩;refine q0x2 (pd ps po) λl1 l2=>?_;exact⟨i,M1,θ1,H1,d,u,o,ds,ps,rfl,rfl,rfl,g1,ta,hu,du,h0,qp,l1,l2⟩
    | _=>cases qp
 obtain⟨it,fp,tn,J,H2,rfl,I2,T,st2,f2,i,M1,θ1,H1,d,u,o,ds,ps,rfl,rfl,qg,g1,ta,hu,du,h0,qp,l1,l2⟩:=h2;unfold fL at h;rw[qg] at h;have h:aK X θ H Q (match iL (.mr i) M1 with
  | some ds=>if ds.all (λp=>(dG p.2).isSome)=true then
    match aW ⟨ds.map iP,Y⟩ xs.length sg bp ge (ds.map iP) (UD ρ.length Y) [] with
    | .ok es _=>if es.all (λe=>(dG e).isSome)=true/\es.length<=Ur then .ok (.lst es) M1 else .bad
    | _=>.bad
   else .bad
  | none=>.bad):=h
 rw[qp] at h;dsimp only at h
 by_cases hv:ds.all (λp=>(dG p.2).isSome)=true
 case neg=>rw[if_neg hv] at h;exact h.elim
 rw[if_pos hv] at h;cases q:aW ⟨ds.map iP,Y⟩ xs.length sg bp ge (ds.map iP) (UD ρ.length Y) [] with
 | bad=>rw[q] at h;exact h.elim
 | err c Mx=>exact(iJ _ _ q).elim
 | ok es Mend=>
  rw[q] at h;dsimp only at h
  by_cases hes:es.all (λe=>(dG e).isSome)=true/\es.length<=Ur
  case neg=>rw[if_neg hes] at h;exact h.elim
  rw[if_pos hes] at h;have nd:∀{b:Ul} {v:HO},H1 b=Z v->v≠u->b≠d:=λ{b v} e n z=>by
   rw[z,hu] at e;exact n (UT e).symm
  have hw2:Wr X.K [] (bB H1 d (.frz o u)) []:=⟨rfl,nodup_nil,λi a m e=>(by cases e),g1.wr.tb.at_ hu du.no.2.2.2.2⟩;have up0:∀b xs,H1 b=Z (.tup xs)->bB H1 d (.frz o u) b=Z (.tup xs)/\b∉([]:List Ul):=λb xs e=>⟨by rw[ar (nd e λz=>du.no.1 _ z.symm)];exact e,Xh⟩
  have hJ:HK X.K (RH d o u ps) [] (bB H1 d (.frz o u)) ⟨ds.map iP,Y⟩:=by
   intro θ3 H3 M3 g3 _ j;have hz:H3 d=Z (.frz o u):=g3.keep d _ aX Xh (by intro _ z;cases z);refine⟨λdd e=>?_,λhl=>⟨hz,by rw[l1];rw[UB] at hl;exact hl⟩⟩;have e:(ds.map iP)[j]?=Z dd:=e;rw[Vc] at e;refine q1x2 (UP.mp e) λp ep zz2=>?_;subst zz2;refine q2x3 (l2 j p ep) λk v ev r1 r2=>?_;have r2':cC X.K [] (bB H1 d (.frz o u)) p.2 v:=Af (Um.mp hv p (Vw ep)) r2 up0;have r1':cC X.K [] (bB H1 d (.frz o u)) p.1 k:=r1 _ λb xs e=>(up0 b xs e).1
   refine⟨⟨hz,(Uk.mp ev).1⟩,λx H4 y=>?_⟩;refine q3x4 y λa k' v' na e2 eH ex=>?_;rw[ev] at e2;cases e2;subst eH ex;exact⟨cQ g3.wr na,gH (ds:=[p.1,p.2]) g3.wr na ⟨_,_,rfl,r1'.go g3,_,_,rfl,r2'.go g3,rfl⟩⟩
  refine oB (θ1:=[]) (M1:=[]) (ρ:=UD ρ.length Y) (RR:=λacc C=>compPost (UA X.prog X.w) X.A X.xe Y (EP X af σ Q) acc C) S hc I2 T st2 f2 hw2 ⟨by rw[aaB,hd.len],λi d e=>by rw[Z2] at e;split at e <;> cases e⟩ hJ q hes.2 (λC=>yW fp s2 _ C) own (λC=>hg fp s2 _ C) (λC=>he fp s2 _ C) ?_;intro acc C s' H' θ' vs m IX hnC fC g' na rd;refine⟨m,hnC,λh' sb=>?_⟩;have I3:L2.Inv X af σ (bB H' acc (.lst vs)) {s' with heap:=h',toks:=s'.toks}:=IX.turned (it:=C) (λb o hb e=>(sb.2 b hb).trans e) fC.1 fC.2.1 fC.2.2.2.1 fC.2.2.2.2.1 fC.2.2.2.2.2;have hzd:H' d=Z (.frz o u):=g'.keep d _ aX Xh (by intro _ z;cases z);have da:d≠acc:=λz=>by rw[<-z,hzd] at na;cases na
  have I4:=NT I3 (by rw[ar da];exact hzd) du h0;generalize hHf:bB (bB H' acc (.lst vs)) d u=Hf at I4;have eA:Hf acc=Z (.lst vs):=by rw[<-hHf,ar (Vl da),aX]
  have eD:Hf d=Z u:=by rw[<-hHf,aX]
  have up:∀{b:Ul} {v:HO},H' b=Z v->v≠.frz o u->Hf b=Z v:=λ{b v} e n=>by
   have h1:b≠d:=λz=>by rw[z,hzd] at e;exact n (UT e).symm
   have h2:b≠acc:=λz=>by rw[z,na] at e;cases e
   rw[<-hHf,ar h1,ar h2];exact e
  have nfz:∀{v:HO},(∀o v',v≠.frz o v')->v≠.frz o u:=λq=>q _ _
  have agree:∀b v,H1 b=Z v->(∀ps,v≠.tbl ps)->Hf b=Z v:=λb v e n=>by
   by_cases z:b=d
   ·rw[z] at e ⊢;rw[hu] at e;rw[eD];exact e
   ·have e2:H' b=Z v:=g'.keep b v (by rw[ar z];exact e) Xh n;have h2:b≠acc:=λz=>by rw[z,na] at e2;cases e2
    rw[<-hHf,ar z,ar h2];exact e2
  have tk:∀b ps,H1 b=Z (.tbl ps)->∃ps',Hf b=Z (.tbl ps'):=λb ps e=>by
   refine q1x1 (g'.tkeep b ps (by rw[ar (nd e λz=>du.no.2.2.2.1 _ z.symm)];exact e)) λps' e2=>?_;exact⟨ps',up e2 (by intro z;cases z)⟩
  have gr:Grow θ1 H1 θ1 Hf:=⟨⟨[],(Yb _).symm,λ_ z=>by cases z⟩,λb v e _ n=>agree b v e n,tk⟩;have tb:=g'.wr.tb;have tb2:nP X.K Hf:=by
   refine⟨λx hx c P e=>?_,λx hx c P e=>?_⟩
   ·refine q1x3 (tb.tab x hx c P e) λps a1 a2 a3=>?_;refine⟨ps,up a1 (by intro z;cases z),a2,λpos cv q=>?_⟩;refine q1x2 (a3 pos cv q) λc' e1 e2=>?_;exact⟨c',e1,up e2 (by intro z;cases z)⟩
   ·refine q2x3 (tb.bm x hx c P e) λbm ob a1 a2 a3=>?_;refine⟨bm,ob,a1,up a2 λz=>?_,a3⟩;unfold RL at z;injection z with z1 z2
    rcases du with⟨vs,e⟩|⟨ts,e⟩ <;> (rw[e] at z2;cases z2)
  have wr:Wr X.K θ1 Hf M1:=⟨g1.wr.len,g1.wr.nd,λj a m e1 e2=>by
   refine q1x2 (g1.wr.plain e1) λv ev pv=>?_;exact(g1.wr.at_ j a m e1 e2).grow gr ((agree a v ev λps z=>by subst z;cases pv).trans ev.symm),tb2⟩
  have nA:acc∉θ1:=λz=>by
   obtain⟨j,hj,e⟩:=Xa.mp z;refine q1x2 (g1.wr.plain (i:=j) (by rw[U8 hj,e])) λv ev pv=>?_;have e2:H' acc=Z v:=g'.keep acc v (by rw[ar (Vl da)];exact ev) Xh λps z=>by subst z;cases pv
   rw[na] at e2;cases e2
  have ri:a6 X.K θ1 Hf es vs:=zo (λb xs e=>by
   have e2:=up e (by intro z;cases z);exact⟨e2,yB wr e2⟩) hes.1 rd
  exact⟨.ref acc,_,I4,rfl,(aK.go g1 h) _ θ1 Hf ⟨gr,wr⟩ ⟨acc,vs,rfl,⟨eA,nA⟩,ri⟩⟩
end
section
variable {X:Cx}{scope:Y6}{xs R:List Str}{sg:GG}{e elt:UY}{tes:List UY}{pos apos cpos tp:Pos}{kt n:Nat}{g ge:GE}
def BI (_:RN pos.line pos.col xs R)(hS:cy scope X.env.kindOf xs R X.N=true)(own:QO xs.length sg)(he0:QE X e g)(hg:∀fp s H C,QG (aC X scope xs R fp s H C) (.Tuple tes kt tp) sg)(he:∀fp s H C,QE (aC X scope xs R fp s H C) elt ge)
  (hn:xs.length=n:=by rfl) (hc:X.calm=true:=by rfl) (hbase:Vu e "items" X.env (Vo e X.env)=Vo e X.env:=by rfl) (hline:(apos.endLine==cpos.line)=true:=by rfl)
  (hs:∀x,U4 (.Call (.Attribute e "items" apos) [] [] cpos) X.env x=pure x:=by intro _;rfl) :
  QE X (.ListComp elt [⟨.Tuple tes kt tp,.Call (.Attribute e "items" apos) [] [] cpos,[],0⟩] scope pos) (fL n sg ge g):=hn▸⟨DT hS hc he0.h own.h (λfp s H C=>(hg fp s H C).h) (λfp s H C=>(he fp s H C).h) hbase hline hs⟩
end
end DL
namespace DL
open PySem PySem.Spec PyProof.Rows PySem.W L2 List
section
variable {prog:UI}{w:UN}{A:Vd}{E:Uh->Ui->Prop}{s:Ui}
def BY {Rz:Array Uh->Prop}(hcol:∀R:List Uh->Ui->Prop,(∀(h':Vn) (tk:Nat),(∀b o,s.heap.get? b=Z o->h'.get? b=Z o)->s.heap.objs.size<=h'.objs.size->R vs {s with heap:=h',toks:=tk})->Uq (UA prog w) A.in1 (ab1 x) R E s)(h64:vs.length<64)
  (hs:∀(s':Ui) (a:Ul),(∀b o,s.heap.get? b=Z o->s'.heap.get? b=Z o)->s'.heap.get? a=Z (US "list" vs.toArray 0)->∀P:Fin->Ui->Prop,(∀out,Rz out->P (.done (.ret .none)) {s' with heap:=sortedHeap s'.heap a vs out})->Uq (UA prog w) A.in1.in1 (Xj.«list.sort» ⟨[.ref a],[]⟩) P E s')
  (h:∀(out:Array Uh) (h':Vn) (tk l n':Nat),Rz out->(∀b o,s.heap.get? b=Z o->h'.get? b=Z o)->s.heap.objs.size<=l->h'.get? l=Z (US "list" out n')->Q (.ref l) {s with heap:=h',toks:=tk}) :
  Uq (UA prog w) A (call (.builtin "sorted") [x]) Q E s:=by
 refine W0 aaS aan aao (aap _) ?_;unfold Xj.«sorted»;refine Ud  (Ue ?_);refine Ud (hcol _ λh1 tk keep1 hs1=>?_);refine Ud (WH ?_ (by rw[U3];omega));have hoL:(h1.push (US "list" vs.toArray 0)).get? h1.objs.size=Z (US "list" vs.toArray 0):=Uo _ rfl;have keep2:∀b o,s.heap.get? b=Z o->(h1.push (US "list" vs.toArray 0)).get? b=Z o:=λb o e=>Ug _ (keep1 b o e)
 refine Ud (UL (UZ Zv ⟨_,hoL,rfl⟩ Y8 (hs {s with heap:=h1.push (US "list" vs.toArray 0),toks:=tk} _ keep2 hoL _ λout ho=>⟨_,rfl,?_⟩) (Zw _)));refine q1x1 (sortedHeap_at (out:=out) hoL) λe he=>?_;exact Ue ⟨_,rfl,h out _ tk h1.objs.size e ho (λb o q=>by
  rw[sortedHeap_old (Uz (Ut (keep1 b o q))) (Ut (keep2 b o q))];exact keep2 b o q) hs1 he⟩
end
def nB:FD:=λds M=>match ds with
 | [.mr i]=>match M[i]? with
  | some (.dK kvs)=>match yy kvs with
   | some ns=>if ns.length<64 then .ok (.lst ((L2.sortI ns).map D.int)) M else .bad
   | none=>.bad
  | some (.dT kvs)=>match p9 (kvs.map λp=>.tup (p.1.map vS)) with
   | some zs=>if zs.length<64 then .ok (.lst ((cB zs).map bH)) M else .bad
   | none=>.bad
  | _=>.bad
 | _=>.bad
section
variable {X:Cx}
def JU (hc:X.calm=true):QC X (.builtin "sorted") nB:=⟨by
 intro af s σ H xs us Q I r h;obtain⟨θ,M,ds,hw,rd,h⟩:=h;unfold nB at h;split at h
 ·rename_i i;obtain⟨v,e,a,ea,ta⟩:=gE rd;subst e ea;obtain⟨u,rfl,rx⟩:=ju r;have rx:u=.ref a:=rx;subst rx;split at h
  ·rename_i kvs qm;split at h
   ·rename_i ns qn;split at h
    ·rename_i hl;obtain⟨vs,hv,ra⟩:=hw.at_ i a _ ta qm;obtain⟨z,lo,ws,rel,hof⟩:=(show bK X.prog X.w H s.heap a (.dK vs) from I.hok a _ hv);have kk:ws.map (·.1)=ns.map UQ:=by rw[<-rel.keys,<-wk ra];exact G9 qn
     obtain⟨o,es,ep,ho,hx,hd,hks,hpr,hn⟩:=hof;have el:∀{es:List WX} {ws:List (bM×Uh)} {ns:List Int},Pairs (bA X.prog X.w) es ws->ws.map (·.1)=ns.map UQ->Ve (es.map (·.key)) ns:=by
      intro es ws ns q
      induction q generalizing ns with
      | nil=>intro e;cases ns with
       | nil=>exact .nil
       | cons _ _=>cases e
      | cons hq hv t ih=>
       intro e;cases ns with
       | nil=>cases e
       | cons n ns=>
        rw[WG,WG] at e;obtain⟨e1,e2⟩:=ZN e;rw[e1] at hq;rcases bX (show uK (UQ n) _=true from hq) with⟨i,t',ei,ek⟩|⟨_,_,ex,_⟩
        ·cases ei;rw[WG,ek];exact .cons _ _ (ih e2)
        ·cases ex
     have ia:=el hpr kk;have li:=yx ia;rw[UB,Vi] at li;refine BY (vs:=es.toList.map (·.key)) (Rz:=λout=>∃ns',Ve out.toList ns'/\ns'.Perm ns/\ns'.Pairwise (·<=·)) (λR q=>rX (CC lo) (show X.A.handled=Y from I.ok.hd hc) ⟨o,ho,hx,hd⟩ (by rw[li,U3];omega) λh' tk acc k1 k2 hacc=>?_) (by rw[UB,Vi,li];exact hl)
      (λs' b k hb P q=>list_sort_tree hb ia (by rw[UB,Vi,li];exact hl) λout ns' a1 a2 a3=>q out ⟨ns',a1,a2,a3⟩) λout h' tk l n' ok k hll g=>?_
     ·have e:acc.toList=es.toList.map (·.key):=by
       apply ext_getElem?;intro j;rw[Vj,Vc,Vj]
       by_cases hj:j<acc.size
       ·obtain⟨e',he,hv⟩:=hacc.2 j _ (U0 hj);rw[U0 hj,hv,he];rfl
       ·rw[VX (by omega),VX (by rw[<-hacc.1];omega)];rfl
      rw[e];exact q h' tk k1 k2
     ·obtain⟨ns',a1,a2,a3⟩:=ok;have es:ns'=L2.sortI ns:=L2.sort_uniq (a2.trans (L2.sortI_perm ns).symm) a3 (L2.sortI_le ns);subst es;have lm:(L2.sortI ns).length=ns.length:=(L2.sortI_perm ns).length_eq;refine oP (vs:=(L2.sortI ns).map V.int) (out:=out.toList) I hw k hll (by rw[Array.toArray_toList];exact g) ?_ (by rw[UB,lm,U3];omega) (kD _) h;exact A2 a1
    ·exact h.elim
   ·exact h.elim
  ·rename_i kvs qm;split at h
   ·rename_i zs qz;split at h
    ·rename_i hl;obtain⟨vs,hv,ra⟩:=hw.at_ i a _ ta qm;obtain⟨z,lo,ys,rel,o,es,ep,h1,h2,h3,h4,_⟩:=(show bK X.prog X.w H s.heap a (.dT vs) from I.hok a _ hv);obtain⟨T,lz,f⟩:=uh I qz (zA hw ra rel) (Am ys);rw[UB] at lz;have sz:es.size=ys.length:=by rw[<-Vi,h4,UB]
     refine BY (vs:=ys.map λq=>UO q.2.1) (Rz:=λout=>∃p:List Nat,p.Perm (UH zs.length)/\p.map (λi=>zs.getD i [])=cB zs/\out=Vg (p.map λi=>(ys.map λq=>UO q.2.1).getD i U5)) (λR q=>rX (CC lo) (show X.A.handled=Y from I.ok.hd hc) ⟨o,h1,h2,h3⟩ (by rw[sz,U3];omega) λh' tk acc k1 k2 hacc=>?_) (by rw[UB];omega)
      (λs' b k hb P q=>mJ hb (T.keep k) (by rw[UB];omega) λp hp hu=>q _ ⟨p.toList,?_,?_,rfl⟩) λout h' tk l n' ok k hll g=>?_
     ·have e:acc.toList=ys.map λq=>UO q.2.1:=by
       apply ext_getElem?;intro j;rw[Vj,Vc]
       by_cases hj:j<acc.size
       ·obtain⟨e',he,hx⟩:=hacc.2 j _ (U0 hj);rw[U0 hj,hx];rw[<-Vj,h4,Vc] at he;obtain⟨y,hy,rfl⟩:=UP.mp he;rw[hy];rfl
       ·rw[VX (by omega),aaH (by rw[<-sz,<-hacc.1];omega)];rfl
      rw[e];exact q h' tk k1 k2
     ·rw[UB,lz] at hp;simpa using WV.mp hp
     ·rw[UB,lz] at hp hu;exact vZ hp hu
     ·obtain⟨p,hpl,es2,rfl⟩:=ok;have inR:∀i∈p,i<zs.length:=λi hi=>YT.mp (hpl.subset hi)
      refine oP (vs:=p.map λi=>(ys.map λq=>V.ref q.2.1).getD i V.non) I hw k hll g (qQ _ λi hi=>(f i (inR i hi)).2) (by rw[UB,hpl.length_eq,Wv,U3];omega) ?_ h;rw[<-es2,aaq];exact qI _ λi hi=>(f i (inR i hi)).1
    ·exact h.elim
   ·exact h.elim
  ·exact h.elim
 ·exact h.elim⟩
end
end DL
namespace DL
open PySem PySem.Spec PyProof.Rows L2 List
def SF (xs ys:List D):List D:=xs.zipWith (λx y=>D.tup [x,y]) ys
section
variable {X:Cx}{k:Nat}{o i e a b:UY}{go gi ge:GE}{gA:GA}{pos p:Pos}
def T5 (hr:bn k X.A):X.A.units+1<YG:=VH (ZI (by decide) _) hr.units
def Ir (hr:bn k X.A)(ho:QE X o go)(hi:QE X i gi)(hs:DI i:=by intro _ _;rfl):QE X (.Subscript o i pos) (g2 AF go gi):=⟨IY (T5 hr) ho.h hi.h hs⟩
end
end DL
namespace DL
open PySem PySem.Spec PyProof.Rows L2 List
open AutoSeq1 (wpAny_loadPart')
def T6 (ds:List D)(M:ay):bc rN:=match ds with
 | [.lst xs,.lst ys]=>if xs.length=ys.length then .ok ⟨mB (SF xs ys),Y⟩ M else .bad
 | _=>.bad
def vf (d:D)(M:ay):D:=match now d M with
 | .lst xs=>.lst (xs.map λx=>now x M)
 | d=>d
def Lb (neg:Bool):F2:=λx y M=>if bG 40 (vf x M)&&bG 40 (vf y M) then .ok (.bl (tK (vf x M) (vf y M) != neg)) M else .bad
section
variable {X:Cx}
theorem oZ (I:Inv X af σ H s)(hw:Wr X.K θ H M):∀(ds:List D) (n:Nat) (vs:List V) (us:List Uh),bj n (ds.map λx=>now x M)=true->a6 X.K θ H ds vs->aV vs us->∃as,ReadsAll s.heap us (qq (ds.map λx=>now x M)) as
 | [],n,vs,us,h,r,q=>by subst r;cases q;exact⟨_,.nil⟩
 | d::ds,n,vs,us,h,r,q=>by
  have h:=UE.mp (h);refine q2x3 r λv rr e r1 r2=>?_;subst e;cases q with
  | cons q1 q2=>
   refine q1x1 (ku I hw h.1 r1 q1) λas R1=>?_;refine q1x1 (oZ I hw ds n rr _ h.2 r2 q2) λbs R2=>?_;exact⟨_,.cons R1 R2⟩
def wM (I:Inv X af σ H s)(hw:Wr X.K θ H M)(h:bG n (vf d M)=true)(r:cC X.K θ H d v)(q:aS v u):∃as,Reads s.heap u (uI (vf d M)) as:=by
 cases d with
 | mr k=>
  refine q1x2 r λa e ta=>?_;subst e;cases q;cases qm:M[k]? with
  | none=>
   have e:vf (.mr k) M=.mr k:=by simp[vf,now,qm]
   rw[e] at h;cases n <;> exact ff h
  | some m=>
   cases m with
   | lst xs=>
    have e:vf (.mr k) M=.lst (xs.map λx=>now x M):=by simp[vf,now,qm]
    rw[e] at h ⊢;cases n with
    | zero=>exact ff h
    | succ n=>
     refine q1x2 (hw.at_ k a _ ta qm) λvs hv ra=>?_;obtain⟨its,rv,⟨o,m,h1,h2,_,h3⟩,_⟩:=I.list (X:=X) (xs:=vs) (.inl (.inl hv));refine q1x1 (oZ I hw xs n vs its h ra rv) λas R=>?_;exact⟨_,.list h1 h2 h3 (by simpa using R)⟩
   | _=>
    have e:vf (.mr k) M=.mr k:=by simp[vf,now,qm]
    rw[e] at h;cases n <;> exact ff h
 | lst xs=>
  have e:vf (.lst xs) M=.lst (xs.map λx=>now x M):=rfl;cases n with
  | zero=>exact ff h
  | succ n=>
   refine q2x3 r λa vs e ta ra=>?_;subst e;cases q;obtain⟨its,rv,⟨o,m,h1,h2,_,h3⟩,_⟩:=I.list (ta.sq (K:=X.K));refine q1x1 (oZ I hw xs n vs its h ra rv) λas R=>?_;exact⟨_,.list h1 h2 h3 (by simpa using R)⟩
 | _=>exact ur I _ n v u h r q
def Na (hu:X.A.units+64<YG):ph X (UX .NotEq) (rD X (Lb true)):=by
 intro af s σ H x y v u Q I rx ry h;refine q4x4 h λθ M dx dy hw r1 r2 h=>?_;unfold Lb at h;split at h
 ·rename_i hc;rw[Uw] at hc;refine q1x1 (wM I hw hc.1 r1 rx) λas R1=>?_;refine q1x1 (wM I hw hc.2 r2 ry) λbs R2=>?_;have l1:=lN _ _ hc.1;refine SeqAt.compareNe_reads R1 R2 l1.1 (lN _ _ hc.2).1 (by have:min (uI (vf dx M)).depth (uI (vf dy M)).depth<=(uI (vf dx M)).depth:=aaZ _ _;omega) ?_;rw[tL _ _ _ _ hc.1 hc.2];refine⟨.bl _,H,I,rfl,?_⟩;have:=h _ θ H (.refl hw) rfl
  simp_all
 ·exact h.elim
def Qy {k:Nat}(hr:bn k X.A):Q2 X (UX .NotEq) (Lb true):=⟨Na hr.units⟩
end
end DL
namespace DL
open PySem L2
inductive Wp {α:Type}:bc α->(α->ay->Prop)->Prop where
 | ok {a:α} {M:ay} {Q:α->ay->Prop} (h:Q a M):Wp (.ok a M) Q
def tj (c:Bool)(A B:Prop):Prop:=(c=true->A)/\(c=false->B)
section
variable {α β:Type}{M M1:ay}{ρ:fE}{Q:α->ay->Prop}{A B P:Prop}{c:Bool}
def bZ {o:bc α}{a:α}(e:o=.ok a M)(h:Q a M):Wp o Q:=e▸.ok h
def Ml {a:α}(h:Q a M):Wp (.ok a M) Q:=.ok h
def Wp.eq {o:bc α}(h:Wp o Q):∃a M,o=.ok a M/\Q a M:=by
 cases h with
 | ok h=>exact⟨_,_,rfl,h⟩
def Wp.imp {R:α->ay->Prop}{o:bc α}(h:Wp o Q)(i:∀a M,Q a M->R a M):Wp o R:=by
 cases h with
 | ok h=>exact .ok (i _ _ h)
def Wp.is {o:bc α}{a:α}(h:Wp o λd N=>d=a/\N=M):o=.ok a M:=by
 cases h with
 | ok h=>rw[h.1,h.2]
def aw {o:bc β}{f:β->ay->bc α}(h:Wp o λa M=>Wp (f a M) Q):Wp (o.bind f) Q:=by
 cases h with
 | ok h=>exact h
def uz {a b:bc α}(h:tj c (Wp a Q) (Wp b Q)):Wp (if c=true then a else b) Q:=by
 cases c
 ·exact h.2 rfl
 ·exact h.1 rfl
def Tg {a b:bc α}[Decidable P](p:P)(h:Wp a Q):Wp (if P then a else b) Q:=by rwa [if_pos p]
def KS {n:Nat}{ds:List D}{o b:bc α}(e:ds.length=n)(h:Wp o Q):Wp (if ds.length=n then o else b) Q:=by rwa [if_pos e]
def Lk {b:Bool}(e:c=b)(h:tj b A B):tj c A B:=e▸h
def Ps (h:A):tj true A B:=⟨λ_=>h,nofun⟩
def Py (h:B):tj false A B:=⟨nofun,λ_=>h⟩
def Tn (h:tj c B A):tj (!c) A B:=by cases c <;> exact⟨λ_=>(by first|exact h.1 rfl|exact h.2 rfl|contradiction),λ_=>(by first|exact h.1 rfl|exact h.2 rfl|contradiction)⟩
def Ks [Decidable P](h1:P->A)(h2:¬P->B):tj (decide P) A B:=⟨λe=>h1 (of_decide_eq_true e),λe=>h2 (of_decide_eq_false e)⟩
def Qg [Decidable P](p:P)(h:A):tj (decide P) A B:=Ks (λ_=>h) λn=>absurd p n
def Qh [Decidable P](p:¬P)(h:B):tj (decide P) A B:=Ks (λn=>absurd n p) λ_=>h
end
section
variable {M:ay}{ρ:fE}{Q:D->ay->Prop}{R:Fl->ay->Prop}
def aN {k:Nat}{g:GS}{ds:List D}(h:Wp (g (oV k ds) M) λf M1=>match f with | .rt d=>Q d M1 | .nx _=>Q .non M1|_=>False):Wp (aP k g ds M) Q:=by
 refine aw (h.imp λf M1 h=>?_);cases f <;> first|exact .ok h|exact h.elim
def nC {n:Nat}{o:bc D}(h:Wp o λd M1=>Wp (lB n (.ok d M1)) Q):Wp (lB n o) Q:=by
 cases h with
 | ok h=>exact h
def Qr {ds:List D}(hl:ds.length<=100000)(h:Q (.tup ds) M):Wp (v7 ds M) Q:=by
 unfold v7;rw[if_pos (b9 (by omega))];exact .ok h
def GP {ds:List D}(hl:ds.length<=100000)(h:Q (.lst ds) M):Wp (aO ds M) Q:=by
 unfold aO;rw[if_pos (b9 (by omega))];exact .ok h
def Ra {ds:List D}(hl:ds.length<=100000)(h:Q (.mr M.length) (M++[.lst ds])):Wp (eU ds M) Q:=by
 unfold eU;rw[if_pos (b9 (by omega))];exact .ok h
def Q3 {a b:GE}(h:Wp (a ρ M) λx M1=>∃c,x=.bl c/\tj c (Wp (b ρ M1) Q) (Q (.bl false) M1)):Wp (eR a b ρ M) Q:=by
 refine aw (h.imp λx M1 h=>?_);obtain⟨c,rfl,h⟩:=h;cases c
 ·exact .ok (h.2 rfl)
 ·exact h.1 rfl
def Td {a b:GE}(h:Wp (a ρ M) λx M1=>∃c,x=.bl c/\tj c (Q (.bl true) M1) (Wp (b ρ M1) Q)):Wp (RP a b ρ M) Q:=by
 refine aw (h.imp λx M1 h=>?_);obtain⟨c,rfl,h⟩:=h;cases c
 ·exact h.2 rfl
 ·exact .ok (h.1 rfl)
def Qe {i j:Int}(h:Q (.bl (decide (i=j))) M):Wp (aR false (.int i) (.int j) M) Q:=bZ (ug i j M) h
def Ri {i j:Int}(h:Q (.bl (!decide (i=j))) M):Wp (aR true (.int i) (.int j) M) Q:=bZ (z9 i j M) h
def Qw {a b:Str}(r:Bool)(e:(Ww a&&Ww b&&((a==b)==r))=true)(h:Q (.bl r) M):Wp (aR false (.str a) (.str b) M) Q:=by
 simp only[Uw,beq_iff_eq] at e;refine bZ ((Pk e.1.1 e.1.2 M).trans ?_) h;have:(a==b)=r:=by rw[<-e.2]
 rw[this]
def QM {i j:Int}(h:(-18446744073709551616<i/\i<18446744073709551616)\/(-18446744073709551616<j/\j<18446744073709551616))(k:Q (.int (i*j)) M):Wp (jX (.int i) (.int j) M) Q:=by
 have e:jX (.int i) (.int j) M=.ok (.int (i*j)) M:=by
  unfold jX
  simp_all
 exact bZ e k
def N6 {i j:Int}(h0:0<j)(h1:j<=1000000)(k:Q (.int (i / j)) M):Wp (hZ (.int i) (.int j) M) Q:=by
 have h2:j.natAbs<2 ^ 20:=by omega
 have h3:j.natAbs≠0:=by omega
 have:=(aaT h3).mpr h2;unfold hZ;dsimp only;rw[if_pos ⟨h0,by omega⟩];exact .ok k
def P8 {i j:Int}(h0:0<j)(k:Q (.int (i % j)) M):Wp (ky (.int i) (.int j) M) Q:=by
 unfold ky;dsimp only;rw[if_pos h0];exact .ok k
def ME {a b:List D}(hl:a.length+b.length<=100000)(k:Q (.tup (a++b)) M):Wp (a8 (.tup a) (.tup b) M) Q:=by
 unfold a8;dsimp only;rw[if_pos (b9 (by omega))];exact .ok k
def LD {j:Int}{Q:rN->ay->Prop}(hl:j<=1000000)(h0:0<=j)(k:Q ⟨aY 0 j.toNat,Y⟩ M):Wp (AU [.int j] M) Q:=by
 refine q1x1 (Us h0) λn zz1=>?_;subst zz1;rw[UC] at k;have e:=Aa (n:=n) (by omega) M;exact bZ e k
def O8 {go ge:GE}(h:Wp (go ρ M) λo M1=>∃k xs,o=.mr k/\M1[k]?=Z (.lst xs)/\Wp (ge ρ M1) λd M2=>Wp (vp k d M2) Q):Wp (gO go ge ρ M) Q:=by
 refine aw (h.imp λo M1 h=>?_);obtain⟨k,xs,rfl,e,h⟩:=h;dsimp only;rw[e];exact aw h
def E9 {L:List D}{d:D}(hl:L.length<1000000)(h:Q .non (M++[.lst (L++[d])])):Wp (vp M.length d (M++[.lst L])) Q:=bZ (GJ hl) h
def E5 {gi:GI}{ge:GE}(p:D->Bool)(h:Wp (gi ρ M) λt M1=>t.m=Y/\t.ds.length<=100000/\(∀x∈t.ds,Wp (ge (Z x::ρ) M1) λd M2=>d=.bl (p x)/\M2=M1)/\Q (.bl (t.ds.all p)) M1):Wp (aJ mh (aa (a9 gi bp ge aO) ag) ρ M) Q:=by
 obtain⟨⟨ds,m⟩,M1,e,h1,h2,h3,h4⟩:=h.eq;cases h1;unfold aJ aa a9;rw[e];refine aw (aw (aw (Ml (aw ?_))));have c:=mI (ds0:=ds) (ge:=ge) (ρ:=ρ) (f:=λd=>D.bl (p d)) (M:=M1) ds λx hx=>by
  refine q2x3 ((h3 x hx).eq) λd M2 e r1 r2=>?_;rw[e,r1,r2]
 refine bZ c (GP (by rw[UB];exact h2) (aw (Ml (Ml ?_))));show Wp (match eB (ds.map λd=>D.bl (p d)) with|some bs=>bc.ok (D.bl (bs.all id)) M1|none=>.bad) Q;rw[yl];dsimp only;rw[List.all_map];exact .ok h4
end
section
variable {M:ay}{ρ:fE}{Q:Fl->ay->Prop}
def OU {s:GG}{g:GE}(h:Wp (g ρ M) λd M1=>∃ρ1,s d ρ=Z ρ1/\Q (.nx ρ1) M1):Wp (dM s g ρ M) Q:=by
 refine aw (h.imp λd M1 h=>?_);refine q1x2 h λρ1 e h=>?_;rw[e];exact .ok h
def Pa {a b:GS}(i:Nat)(d:D)(h1:Wp (a ρ M) λf M1=>f=.nx (ρ.set i (Z d))/\M1=M)(h2:Wp (b (ρ.set i (Z d)) M) Q):Wp (aj a b ρ M) Q:=aw (h1.imp λf M1 h=>by
 refine q0x2 h λzz0 zz1=>?_;subst zz0;subst zz1;exact h2)
def Rn {a b:GS}(P:Fl->ay->Prop)(h1:Wp (a ρ M) P)(h2:∀f N,P f N->Wp (match f with | .nx ρ=>b ρ N | .rt d=>.ok (.rt d) N | .bk ρ=>.ok (.bk ρ) N | .ct ρ=>.ok (.ct ρ) N) Q):Wp (aj a b ρ M) Q:=aw (h1.imp h2)
def K2 {a b:GS}(i:Nat)(h1:Wp (a ρ M) λf N=>∃v:Int,f=.nx (ρ.set i (Z (.int v)))/\N=M)(h2:∀v:Int,Wp (b (ρ.set i (Z (.int v))) M) Q):Wp (aj a b ρ M) Q:=aw (h1.imp λf N h=>by
 refine q1x2 h λv zz1 zz2=>?_;subst zz1;subst zz2;exact h2 v)
def Ru {t:GT}{a b:GS}(P:Prop)[Decidable P](h:Wp (t ρ M) λc N=>c=decide P/\N=M)(h1:P->Wp (a ρ M) Q)(h2:¬P->Wp (b ρ M) Q):Wp (cD t a b ρ M) Q:=aw (h.imp λc N h=>by
 refine q0x2 h λzz0 zz1=>?_;subst zz0;subst zz1;exact uz (Ks h1 h2))
def Fq {s:GG}{body:GS}(I:Nat->fE->ay->Prop){ds0:List D}(ds:List D)(k:Nat)(h0:I k ρ M)
  (ht:∀j d ρ M,ds[j]?=Z d->I (k+j) ρ M->∃ρ1,s d ρ=Z ρ1/\Wp (body ρ1 M) λf M2=>match f with | .nx ρ2=>I (k+j+1) ρ2 M2 | .ct ρ2=>I (k+j+1) ρ2 M2 | .bk ρ2=>Q (.nx ρ2) M2 | .rt d=>Q (.rt d) M2)
  (he:∀ρ M,I (k+ds.length) ρ M->Q (.nx ρ) M):Wp (cT ⟨ds0,Y⟩ s body ds ρ M) Q:=by
 induction ds generalizing k ρ M with
 | nil=>exact .ok (he _ _ h0)
 | cons d ds ih=>
  refine q1x2 (ht 0 d ρ M rfl h0) λρ1 e h=>?_;unfold cT;rw[show(⟨ds0,Y⟩:rN).ok M=true from rfl,if_pos rfl,e];have go:∀ρ M,I (k+1) ρ M->Wp (cT ⟨ds0,Y⟩ s body ds ρ M) Q:=λρ M h=>ih (k+1) h (λj d ρ M e h=>by
   have:=ht (j+1) d ρ M (by simpa using e) (by rwa [WJ,Y3 1 j] at h);rwa [show k+(j+1)+1=k+1+j+1 by omega] at this) λρ M h=>he ρ M (by rwa [U6,Y3 ds.length 1,<-WJ])
  refine aw (h.imp λf M2 h=>?_);cases f with
  | nx ρ2=>exact go _ _ h
  | ct ρ2=>exact go _ _ h
  | bk ρ2=>exact .ok h
  | rt d=>exact .ok h
def E6 {α:Type}{s:GG}{body:GS}(f:α->D){xs:List α}(I:Nat->fE->ay->Prop)(h0:I 0 ρ M)
  (ht:∀j x ρ M,xs[j]?=Z x->I j ρ M->∃ρ1,s (f x) ρ=Z ρ1/\Wp (body ρ1 M) λf M2=>match f with | .nx ρ2=>I (j+1) ρ2 M2 | .ct ρ2=>I (j+1) ρ2 M2 | .bk ρ2=>Q (.nx ρ2) M2 | .rt d=>Q (.rt d) M2)
  (he:∀ρ M,I xs.length ρ M->Q (.nx ρ) M):Wp (cT ⟨xs.map f,Y⟩ s body (xs.map f) ρ M) Q:=by
 refine Fq I (xs.map f) 0 h0 (λj d ρ M e h=>?_) λρ M h=>he ρ M (by rwa [U2,UB] at h)
 rw[U2] at h ⊢;rw[Vc] at e;cases g:xs[j]? with
 | none=>rw[g] at e;cases e
 | some x=>
  rw[g] at e;cases e;exact ht j x ρ M g h
def Bp {s:GG}{body:GS}(I:Nat->fE->ay->Prop){n:Nat}(h0:I 0 ρ M)
  (ht:∀j ρ M,j<n->I j ρ M->∃ρ1,s (.int j) ρ=Z ρ1/\Wp (body ρ1 M) λf M2=>match f with | .nx ρ2=>I (j+1) ρ2 M2 | .ct ρ2=>I (j+1) ρ2 M2 | .bk ρ2=>Q (.nx ρ2) M2 | .rt d=>Q (.rt d) M2)
  (he:∀ρ M,I n ρ M->Q (.nx ρ) M):Wp (cT ⟨aY 0 n,Y⟩ s body (aY 0 n) ρ M) Q:=by
 have l:(aY 0 n).length=n:=by unfold aY;rw[UB,Wv]
 refine Fq I (aY 0 n) 0 h0 (λj d ρ M e h=>?_) λρ M h=>he ρ M (by rwa [U2,l] at h)
 have hj:j<n:=by rw[<-l];exact(Uk.mp e).1
 unfold aY at e;rw[Vc,YQ hj] at e;cases e;rw[U2] at h ⊢;have:=ht j ρ M hj h;rwa [<-Y4 (j:Int)] at this
def NP {P:ay->Prop}{G:D->Prop}{ge:GE}{ds0:List D}{Q:List D->ay->Prop}(ds:List D)(h0:P M)(h:∀x∈ds,∀M,P M->Wp (ge (Z x::ρ) M) λd N=>P N/\G d)(k:∀es N,P N->es.length=ds.length->(∀e∈es,G e)->Q es N):Wp (cr ⟨ds0,Y⟩ bp ge ds ρ M) Q:=by
 have⟨es,M',p,l,q,e⟩:=yz (ds0:=ds0) (ge:=ge) (ρ:=ρ) (P:=P) (Q:=G) ds (λd hd M hM=>by
  have⟨a,N,e,p,g⟩:=(h d hd M hM).eq;exact⟨a,N,p,g,e⟩) M h0
 exact bZ e (k es M' p l q)
theorem Fg {α:Type}{f:α->D}{P:α->Prop}:∀{es:List D},(∀e∈es,∃a,e=f a/\P a)->∃as:List α,es=as.map f/\∀a∈as,P a
 | [],_=>⟨[],rfl,λ_ z=>by grind⟩
 | e::es,h=>by
  refine q1x2 (h e (UG ..)) λa ea pa=>?_;refine q1x2 (Fg λe' he=>h e' (UU _ he)) λas eas pas=>?_
  exact⟨a::as,by simp_all,λb hb=>(Va.mp hb).elim (λq=>q▸pa) (pas b)⟩
def pL {α:Type}(f:α->D)(P:ay->Prop)(G:α->Prop){ge:GE}{n:Nat}{Q:List D->ay->Prop}(h0:P M)(h:∀x M,P M->Wp (ge (Z x::ρ) M) λd N=>P N/\∃a,d=f a/\G a)(k:∀(as:List α) N,P N->(as.map f).length=n->as.length=n->(∀a∈as,G a)->Q (as.map f) N):Wp (cr ⟨aY 0 n,Y⟩ bp ge (aY 0 n) ρ M) Q:=
 NP (aY 0 n) h0 (λx _=>h x) λes N p l q=>by
  refine q1x2 (Fg q) λas zz1 g=>?_;subst zz1;have l:(as.map f).length=n:=by rw[l];unfold aY;rw[UB,Wv]
  exact k as N p l (by rwa [UB] at l) g
def yk (f:Nat->D){ge:GE}{n:Nat}{Q:List D->ay->Prop}(h:∀j,j<n->Wp (ge (Z (.int j)::ρ) M) λd N=>d=f j/\N=M)(k:Q ((UH n).map f) M):Wp (cr ⟨aY 0 n,Y⟩ bp ge (aY 0 n) ρ M) Q:=by
 have c:=mI (ds0:=aY 0 n) (ge:=ge) (ρ:=ρ) (M:=M) (f:=λd=>match d with | .int i=>f i.toNat|d=>d) (aY 0 n) λd hd=>by
  unfold aY at hd;refine q1x2 (ZF.mp hd) λj hj zz2=>?_;subst zz2;rw[Y4];exact(h j (YT.mp hj)).is
 refine bZ c ?_;unfold aY;rw[aaq];rwa [show(UH n).map ((λd=>match d with|D.int i=>f i.toNat|d=>d) ∘ λk:Nat=>D.int (0+(k:Int)))=(UH n).map f from List.map_congr_left λj _=>by simp]
def HX {α:Type}(f:α->D)(p:α->D){ge:GE}{xs:List α}{Q:List D->ay->Prop}(h:∀x,x∈xs->Wp (ge (Z (f x)::ρ) M) λd N=>d=p x/\N=M)(k:Q (xs.map p) M):Wp (cr ⟨xs.map f,Y⟩ bp ge (xs.map f) ρ M) Q:=by
 have c:∀(ds0:List D) (ys:List α),(∀x∈ys,x∈xs)->cr ⟨ds0,Y⟩ bp ge (ys.map f) ρ M=.ok (ys.map p) M:=λds0 ys=>by
  induction ys with
  | nil=>exact λ_=>rfl
  | cons y ys ih=>
   intro hs;have e:=(h y (hs y UG)).is;have i:=ih λx hx=>hs x (UU _ hx)
   rw[WG];unfold cr;rw[mT,if_pos rfl,show bp (Z (f y)::ρ) M=.ok true M from rfl];dsimp only;rw[e];dsimp only;rw[i];rfl
 exact bZ (c _ xs λ_ h=>h) k
end
class Rl (G:Prop) (P:outParam Prop):Prop where
 r:P->G
def T4 {G P:Prop}[r:Rl G P](h:P):G:=r.r h
structure Ev {α:Type}(o:bc α)(Q:α->ay->Prop):Prop where
 h:Wp o Q
def Ev.r {α:Type}{o:bc α}{Q:α->ay->Prop}{a:α}{M:ay}(e:o=.ok a M)(h:Q a M):Ev o Q:=⟨bZ e h⟩
def Ev.rl {α:Type}{o:bc α}{Q:α->ay->Prop}:Rl (Wp o Q) (Ev o Q):=⟨λh=>h.h⟩
structure Al (gi:GI)(ge:GE)(ρ:fE)(M:ay)(Q:D->ay->Prop):Prop where
 h:Wp (aJ mh (aa (a9 gi bp ge aO) ag) ρ M) Q
structure Ar (c p:Prop):Prop where
 c:c
 p:p
inductive OF:D->(Bool->Prop)->Prop where
 | mk {c:Bool} {P:Bool->Prop} (h:P c):OF (.bl c) P
inductive S8 {α:Type}:Option α->(α->Prop)->Prop where
 | mk {o:Option α} {a:α} {P:α->Prop} (e:o=Z a) (h:P a):S8 o P
inductive RQ:Str->Str->(Bool->Prop)->Prop where
 | mk {a b:Str} {P:Bool->Prop} (r:Bool) (e:(Ww a&&Ww b&&((a==b)==r))=true) (h:P r):RQ a b P
inductive RD:D->ay->(Nat->Prop)->Prop where
 | mk {k:Nat} {M:ay} {P:Nat->Prop} {xs:List D} (e:M[k]?=Z (.lst xs)) (h:P k):RD (.mr k) M P
inductive TB (c:Str) (o:D) (M:ay) (P:List (Str×D)->Prop):Prop where
 | mk {k:Nat} {fs:List (Str×D)} (e:jE c o M=Z (k,fs)) (h:P fs)
def O2 {c:Str}{k:Nat}{M:ay}{fs:List (Str×D)}(e:M[k]?=Z (.obj c fs)):jE c (.mr k) M=Z (k,fs):=by
 show(match M[k]? with|some (.obj c' fs)=>if c'=c then Z (k,fs) else Y|_=>Y)=_;rw[e];exact if_pos rfl
inductive Sf:List D->(D->D->Prop)->Prop where
 | mk {a b:D} {P:D->D->Prop} (h:P a b):Sf [a,b] P
section
variable {A B P:Prop}{c:Bool}
instance r_fn:Rl (tj (!c) A B) (tj c B A):=⟨λh=>Tn h⟩
instance r_bl {P:Bool->Prop}:Rl (OF (.bl c) P) (P c):=⟨λh=>.mk h⟩
instance r_tw {a b:D} {P:D->D->Prop}:Rl (Sf [a,b] P) (P a b):=⟨λh=>.mk h⟩
end
section
variable {α β:Type}{M:ay}{Q:α->ay->Prop}{o:bc β}{f:β->ay->bc α}{a b:bc α}{c:Bool}{n:Nat}{ds:List D}{v:α}
instance r_ok:Rl (Wp (.ok v M) Q) (Q v M):=⟨λh=>.ok h⟩
instance r_bind:Rl (Wp (o.bind f) Q) (Wp o λa M=>Wp (f a M) Q):=⟨λh=>aw h⟩
instance r_ite:Rl (Wp (if c=true then a else b) Q) (tj c (Wp a Q) (Wp b Q)):=⟨λh=>uz h⟩
end
section
variable {ρ:fE}{M:ay}{Q:D->ay->Prop}{R:Fl->ay->Prop}{S:Bool->ay->Prop}{T:List D->ay->Prop}{U:rN->ay->Prop}{a b g:GE}{r:GA}{s u:GS}{t v:GT}{i j n:Nat}{d x y:D}{f:F2}{F:FD}{z w:Int}{ds es:List D}{sg:GG}{gi:GI}{k:Bool}
instance r_var:Rl (Wp (ae i ρ M) Q) (Ev (ae i ρ M) Q):=Ev.rl
instance r_g2:Rl (Wp (g2 f a b ρ M) Q) (Wp (a ρ M) λx N=>Wp (b ρ N) λy N=>Wp (f x y N) Q):=⟨λh=>aw (h.imp λ_ _ h=>aw h)⟩
instance r_cons:Rl (Wp (aa a r ρ M) T) (Wp (a ρ M) λx N=>Wp (r ρ N) λds N=>T (x::ds) N):=⟨λh=>aw (h.imp λ_ _ h=>aw (h.imp λ_ _ h=>.ok h))⟩
instance r_drop:Rl (Wp (bI g ρ M) R) (Wp (g ρ M) λ_ N=>R (.nx ρ) N):=⟨λh=>aw (h.imp λ_ _ h=>.ok h)⟩
instance r_if:Rl (Wp (cD t s u ρ M) R) (Wp (t ρ M) λc N=>tj c (Wp (s ρ N) R) (Wp (u ρ N) R)):=⟨λh=>aw (h.imp λ_ _ h=>uz h)⟩
instance r_ife:Rl (Wp (Fc t a b ρ M) Q) (Wp (t ρ M) λc N=>tj c (Wp (a ρ N) Q) (Wp (b ρ N) Q)):=⟨λh=>aw (h.imp λ_ _ h=>uz h)⟩
instance r_asg:Rl (Wp (dM sg g ρ M) R) (Wp (g ρ M) λd N=>S8 (sg d ρ) λρ=>R (.nx ρ) N):=⟨λh=>OU (h.imp λ_ _ ⟨e,h⟩=>⟨_,e,h⟩)⟩
instance r_tst:Rl (Wp (aH g ρ M) S) (Wp (g ρ M) λd N=>OF d λc=>S c N):=⟨λh=>aw (h.imp λ_ _ ⟨h⟩=>.ok h)⟩
instance r_tru:Rl (Wp (gf g ρ M) S) (Wp (g ρ M) λd N=>Ev (Qn d N) S):=⟨λh=>aw (h.imp λ_ _ h=>h.h)⟩
instance r_blt:Rl (Wp (aJ F r ρ M) Q) (Wp (r ρ M) λds N=>Wp (F ds N) Q):=⟨λh=>aw h⟩
instance r_call:Rl (Wp (ah n F r ρ M) Q) (Wp (r ρ M) λds N=>Ar (ds.length=n) (Wp (F ds N) Q)):=⟨λh=>aw (h.imp λ_ _ h=>KS h.c h.p)⟩
instance r_tup:Rl (Wp (aQ r ρ M) Q) (Wp (r ρ M) λds N=>Ar (ds.length<=100000) (Q (.tup ds) N)):=⟨λh=>aw (h.imp λ_ _ h=>Qr h.c h.p)⟩
instance r_lst:Rl (Wp (jf r ρ M) Q) (Wp (r ρ M) λds N=>Ar (ds.length<=100000) (Q (.lst ds) N)):=⟨λh=>aw (h.imp λ_ _ h=>GP h.c h.p)⟩
instance r_mut:Rl (Wp (fZ r ρ M) Q) (Wp (r ρ M) λds N=>Ar (ds.length<=100000) (Q (.mr N.length) (N++[.lst ds]))):=⟨λh=>aw (h.imp λ_ _ h=>Ra h.c h.p)⟩
instance r_not:Rl (Wp (Gq t ρ M) Q) (Wp (t ρ M) λc N=>Q (.bl (!c)) N):=⟨λh=>aw (h.imp λ_ _ h=>.ok h)⟩
instance r_notT:Rl (Wp (dE t ρ M) S) (Wp (t ρ M) λc N=>S (!c) N):=⟨λh=>aw (h.imp λ_ _ h=>.ok h)⟩
instance r_andT:Rl (Wp (fu t v ρ M) S) (Wp (t ρ M) λc N=>tj c (Wp (v ρ N) S) (S false N)):=⟨λh=>aw (h.imp λ_ _ h=>uz ⟨h.1,λe=>.ok (h.2 e)⟩)⟩
instance r_orT:Rl (Wp (je t v ρ M) S) (Wp (t ρ M) λc N=>tj c (S true N) (Wp (v ρ N) S)):=⟨λh=>aw (h.imp λ_ _ h=>uz ⟨λe=>.ok (h.1 e),h.2⟩)⟩
instance r_and:Rl (Wp (eR a b ρ M) Q) (Wp (a ρ M) λx N=>OF x λc=>tj c (Wp (b ρ N) Q) (Q (.bl false) N)):=⟨λh=>Q3 (h.imp λ_ _ ⟨h⟩=>⟨_,rfl,h⟩)⟩
instance r_or:Rl (Wp (RP a b ρ M) Q) (Wp (a ρ M) λx N=>OF x λc=>tj c (Q (.bl true) N) (Wp (b ρ N) Q)):=⟨λh=>Td (h.imp λ_ _ ⟨h⟩=>⟨_,rfl,h⟩)⟩
instance r_aug:Rl (Wp (G8 i k g ρ M) R) (Wp (ae i ρ M) λx N=>Wp (g ρ N) λy N=>Ev (QY k x y N) λz N=>R (.nx (ρ.set i (Z z))) N):=⟨λh=>aw (h.imp λ_ _ h=>aw (h.imp λ_ _ h=>aw (h.h.imp λ_ _ h=>.ok h)))⟩
instance r_par:Rl (Wp (Ef i j r ρ M) R) (Wp (r ρ M) λds N=>Sf ds λd e=>R (.nx ((ρ.set i (Z d)).set j (Z e))) N):=⟨λh=>aw (h.imp λ_ _ ⟨h⟩=>.ok h)⟩
instance r_for:Rl (Wp (gZ gi sg s ρ M) R) (Wp (gi ρ M) λt N=>Wp (cT t sg s t.ds ρ N) R):=⟨λh=>aw h⟩
instance r_its:Rl (Wp (bE g ρ M) U) (Wp (g ρ M) λd N=>Ev (GW d N) U):=⟨λh=>aw (h.imp λ_ _ h=>h.h)⟩
instance r_rng:Rl (Wp (ft r ρ M) U) (Wp (r ρ M) λd N=>Wp (AU d N) U):=⟨λh=>aw h⟩
instance r_rng1:Rl (Wp (AU [.int z] M) U) (Ar (0<=z/\z<=1000000) (U ⟨aY 0 z.toNat,Y⟩ M)):=⟨λh=>LD h.c.2 h.c.1 h.p⟩
instance r_eqI:Rl (Wp (aR false (.int z) (.int w) M) Q) (Q (.bl (decide (z=w))) M):=⟨Qe⟩
instance r_neI:Rl (Wp (aR true (.int z) (.int w) M) Q) (Q (.bl (!decide (z=w))) M):=⟨Ri⟩
instance r_addT:Rl (Wp (a8 (.tup ds) (.tup es) M) Q) (Ar (ds.length+es.length<=100000) (Q (.tup (ds++es)) M)):=⟨λh=>ME h.c h.p⟩
instance r_addI:Rl (Wp (a8 (.int z) (.int w) M) Q) (Q (.int (z+w)) M):=⟨λh=>.ok h⟩
instance r_mul:Rl (Wp (jX (.int z) (.int w) M) Q) (Ar ((-18446744073709551616<z/\z<18446744073709551616)\/(-18446744073709551616<w/\w<18446744073709551616)) (Q (.int (z*w)) M)):=⟨λh=>QM h.c h.p⟩
instance r_fdiv:Rl (Wp (hZ (.int z) (.int w) M) Q) (Ar (0<w/\w<=1000000) (Q (.int (z / w)) M)):=⟨λh=>N6 h.c.1 h.c.2 h.p⟩
instance r_mod:Rl (Wp (ky (.int z) (.int w) M) Q) (Ar (0<w) (Q (.int (z % w)) M)):=⟨λh=>P8 h.c h.p⟩
instance r_neg:Rl (Wp (tR g ρ M) Q) (Wp (g ρ M) λx N=>Ev (match x with | .int i=>.ok (.int (-i)) N|_=>.bad) Q):=⟨λh=>aw (h.imp λ_ _ h=>h.h)⟩
instance r_isi {T:String}:Rl (Wp (mf T g ρ M) Q) (Wp (g ρ M) λd N=>Ev (match NN d N with|some t=>.ok (.bl (F9 t T)) N|none=>.bad) Q):=⟨λh=>aw (h.imp λ_ _ h=>h.h)⟩
instance r_sl {l h:GO}:Rl (Wp (rL g l h ρ M) Q) (Wp (g ρ M) λx N=>Wp (l ρ N) λa N=>Wp (h ρ N) λb N=>Ev (BB x a b N) Q):=⟨λh=>aw (h.imp λ_ _ h=>aw (h.imp λ_ _ h=>aw (h.imp λ_ _ h=>h.h)))⟩
instance r_part {O:Option Int->ay->Prop}:Rl (Wp (cZ g ρ M) O) (Wp (g ρ M) λd N=>Ev (match d with | .int i=>.ok (Z i) N|_=>.bad) O):=⟨λh=>aw (h.imp λ_ _ h=>h.h)⟩
instance r_nopart {O:Option Int->ay->Prop}:Rl (Wp (bq ρ M) O) (O Y M):=⟨λh=>.ok h⟩
instance r_sub:Rl (Wp (dN x y M) Q) (Ev (dN x y M) Q):=Ev.rl
instance r_lt:Rl (Wp (pR x y M) Q) (Ev (pR x y M) Q):=Ev.rl
instance r_le:Rl (Wp (vB x y M) Q) (Ev (vB x y M) Q):=Ev.rl
instance r_gt:Rl (Wp (Bg x y M) Q) (Ev (Bg x y M) Q):=Ev.rl
instance r_ge:Rl (Wp (B9 x y M) Q) (Ev (B9 x y M) Q):=Ev.rl
instance r_is:Rl (Wp (sI k x y M) Q) (Ev (sI k x y M) Q):=Ev.rl
instance r_ix:Rl (Wp (aB x y M) Q) (Ev (aB x y M) Q):=Ev.rl
instance r_len0:Rl (Wp (bU ds M) Q) (Ev (bU ds M) Q):=Ev.rl
instance r_min:Rl (Wp (AK ds M) Q) (Ev (AK ds M) Q):=Ev.rl
instance r_max:Rl (Wp (Ax ds M) Q) (Ev (Ax ds M) Q):=Ev.rl
instance r_list:Rl (Wp (nD ds M) Q) (Ev (nD ds M) Q):=Ev.rl
instance r_int:Rl (Wp (Dc ds M) Q) (Ev (Dc ds M) Q):=Ev.rl
instance r_tuple:Rl (Wp (dm ds M) Q) (Ev (dm ds M) Q):=Ev.rl
instance r_app:Rl (Wp (gO a b ρ M) Q) (Wp (a ρ M) λo N=>RD o N λk=>Wp (b ρ N) λd N=>Wp (vp k d N) Q):=⟨λh=>O8 (h.imp λ_ _ ⟨e,h⟩=>⟨_,_,rfl,e,h⟩)⟩
instance (priority:=high) r_all:Rl (Wp (aJ mh (aa (a9 gi bp a aO) ag) ρ M) Q) (Al gi a ρ M Q):=⟨λh=>h.h⟩
instance r_comp {mk:List D->ay->bc D}:Rl (Wp (a9 gi bp a mk ρ M) Q) (Wp (gi ρ M) λt N=>Wp (cr t bp a t.ds ρ N) λes N=>Wp (mk es N) Q):=⟨λh=>aw (h.imp λ_ _ h=>aw h)⟩
instance r_mklst:Rl (Wp (aO ds M) Q) (Ar (ds.length<=100000) (Q (.lst ds) M)):=⟨λh=>GP h.c h.p⟩
instance r_ssub:Rl (Wp (rA a b g ρ M) R) (Wp (g ρ M) λx N=>Wp (a ρ N) λo N=>Wp (b ρ N) λi N=>Ev (yj o i x N) λ_ N=>R (.nx ρ) N):=⟨λh=>aw (h.imp λ_ _ h=>aw (h.imp λ_ _ h=>aw (h.imp λ_ _ h=>aw (h.h.imp λ_ _ h=>.ok h))))⟩
instance r_mth {c m:Str}:Rl (Wp (dQ c m n F a r ρ M) Q) (Wp (a ρ M) λo N=>TB c o N λfs=>Ar (fs.lookup m=Y) (Wp (r ρ N) λds N=>Ar (ds.length+1=n) (Wp (F (o::ds) N) Q))):=⟨λh=>aw (h.imp λo N h=>by
 obtain⟨e,h⟩:=h;rw[e];dsimp only;rw[if_pos h.c];exact aw (h.p.imp λds N h=>Tg h.c h.p))⟩
instance r_enum:Rl (Wp (yo r ρ M) U) (Wp (r ρ M) λds N=>Ev (Nj ds N) U):=⟨λh=>aw (h.imp λ_ _ h=>h.h)⟩
instance r_in:Rl (Wp (Be k x y M) Q) (Ev (Be k x y M) Q):=Ev.rl
instance r_rev:Rl (Wp (Ky g ρ M) Q) (Wp (g ρ M) λx N=>Ev (match x with | .tup xs=>.ok (.tup xs.reverse) N|_=>.bad) Q):=⟨λh=>aw (h.imp λ_ _ h=>h.h)⟩
instance r_ch {f':F2} {e:GE}:Rl (Wp (Aq f f' a b e ρ M) Q) (Wp (a ρ M) λx N=>Wp (b ρ N) λy N=>Wp (f x y N) λz N=>OF z λc=>tj c (Wp (e ρ N) λw N=>Wp (f' y w N) Q) (Q (.bl false) N)):=⟨λh=>aw (h.imp λ_ _ h=>aw (h.imp λ_ _ h=>aw (h.imp λ_ _ h=>by
 cases h with
 | mk h=>
  rename_i c;cases c
  ·exact .ok (h.2 rfl)
  ·exact aw (h.1 rfl))))⟩
instance r_slc {e h:GE}:Rl (Wp (Ia a e h g ρ M) R) (Wp (g ρ M) λx N=>Wp (a ρ N) λo N=>Wp (e ρ N) λl N=>Wp (h ρ N) λu N=>Wp (jh o x l u N) λ_ N=>R (.nx ρ) N):=⟨λh=>aw (h.imp λ_ _ h=>aw (h.imp λ_ _ h=>aw (h.imp λ_ _ h=>aw (h.imp λ_ _ h=>aw (h.imp λ_ _ h=>.ok h)))))⟩
instance r_dix {tab:List (Str×Int)}:Rl (Wp (J9 tab g ρ M) Q) (Wp (g ρ M) λd N=>Ev (match d with | .str x=>(match jU (jd [] (vL tab)) (XD x) with|some (.int i)=>.ok (.int i) N|_=>.bad)|_=>.bad) Q):=⟨λh=>aw (h.imp λ_ _ h=>h.h)⟩
instance r_listM {xs:List D}:Rl (Wp (ze [.tup xs] M) Q) (Q (.mr M.length) (M++[.lst xs])):=⟨λh=>bZ rfl h⟩
instance r_eqS {p q:Str}:Rl (Wp (aR false (.str p) (.str q) M) Q) (RQ p q λr=>Q (.bl r) M):=⟨λ⟨_,e,h⟩=>Qw _ e h⟩
instance r_appE:Rl (Wp (vp M.length d (M++[.lst ds])) Q) (Ar (ds.length<1000000) (Q .non (M++[.lst (ds++[d])]))):=⟨λh=>E9 h.c h.p⟩
end
def AB {xs:List D}{d:D}{i:Int}{M:ay}(h:wa xs i=Z d):aB (.lst xs) (.int i) M=.ok d M:=by
 unfold aB ba
 simp_all
def rp (ys:List Int)(lo hi:Int){i:Int}{M:ay}{Q:D->ay->Prop}(hi0:0<=i/\i<(ys.length:Int))(h:∀y∈ys,lo<=y/\y<=hi)(k:∀y,lo<=y->y<=hi->Q (.int y) M):Ev (aB (.lst (ys.map D.int)) (.int i) M) Q:=by
 refine q1x1 (Us hi0.1) λn zz1=>?_;subst zz1;have hn:n<ys.length:=by omega
 have hy:=h _ (Xe hn);exact Ev.r (AB (gK (v:=.int ys[n]) (by simp[hn]))) (k _ hy.1 hy.2)
def qx (G:D->Prop){xs:List D}{i:Int}{M:ay}{Q:D->ay->Prop}(hi0:0<=i/\i<(xs.length:Int))(h:∀y∈xs,G y)(k:∀y,G y->Q y M):Ev (aB (.lst xs) (.int i) M) Q:=by
 refine q1x1 (Us hi0.1) λn zz1=>?_;subst zz1;have hn:n<xs.length:=by omega
 exact Ev.r (AB (gK (v:=xs[n]) (by simp[hn]))) (k _ (h _ (Xe hn)))
def rS {α:Type}{f:α->D}{xs:List α}(d0:α){i:Int}{M:ay}{Q:D->ay->Prop}(h:0<=i/\i<(xs.length:Int))(k:Q (f (xs.getD i.toNat d0)) M):Ev (aB (.tup (xs.map f)) (.int i) M) Q:=by
 refine q1x1 (Us h.1) λn zz1=>?_;subst zz1;have hn:n<xs.length:=by omega
 refine Ev.r (dj (k:=n) (d:=f xs[n]) (by simp[hn])) ?_;simpa[hn] using k
def oq {α:Type}(f:α->D){gi:GI}{ge:GE}{ρ:fE}{M:ay}{Q:D->ay->Prop}{xs:List α}(hl:xs.length<=100000)(hi:gi ρ M=.ok ⟨xs.map f,Y⟩ M)(h:∀x,x∈xs->Wp (ge (Z (f x)::ρ) M) λd N=>d=.bl true/\N=M)(k:Q (.bl true) M):Al gi ge ρ M Q:=
 ⟨E5 (λ_=>true) (bZ hi ⟨rfl,by rwa [UB],λx hx=>by
  refine q1x2 (ZF.mp hx) λy hy zz2=>?_;subst zz2;exact h y hy,by rwa [show(xs.map f).all (λ_=>true)=true by simp]⟩)⟩
class Pu {α:Type} (g:fE->ay->bc α):Prop
section
variable {a b:GE}{r:GA}{i j:Nat}{d:D}{t:GT}{s:GG}{k:Bool}
instance u_var:Pu (ae i) where
instance u_c:Pu (gC d) where
instance u_ix [Pu a]:Pu (g2 aB a (gC d)) where
instance u_add [Pu a] [Pu b]:Pu (g2 a8 a b) where
instance u_sub [Pu a] [Pu b]:Pu (g2 dN a b) where
instance u_lt [Pu a] [Pu b]:Pu (g2 pR a b) where
instance u_le [Pu a] [Pu b]:Pu (g2 vB a b) where
instance u_gt [Pu a] [Pu b]:Pu (g2 Bg a b) where
instance u_ge [Pu a] [Pu b]:Pu (g2 B9 a b) where
instance u_is [Pu a] [Pu b]:Pu (g2 (sI k) a b) where
instance u_nil:Pu ag where
instance u_cons [Pu a] [Pu r]:Pu (aa a r) where
instance u_tst [Pu a]:Pu (aH a) where
instance u_not [Pu t]:Pu (dE t) where
instance u_set [Pu a]:Pu (aL i a) where
instance u_ret [Pu a]:Pu (aF a) where
instance u_asg [Pu a]:Pu (dM s a) where
instance u_par [Pu r]:Pu (Ef i j r) where
instance u_next:Pu aG where
end
section
variable {ρ ρ1:fE}{M N:ay}{Q:D->ay->Prop}{R:Fl->ay->Prop}{s u:GS}{t:GT}{a b g:GE}{r:GA}{F:FD}{n i:Nat}{c:Bool}{ds:List D}{P A B:Prop}
def R4 (e:s ρ M=.ok (.nx ρ1) N)(h:Wp (u ρ1 N) R):Wp (aj s u ρ M) R:=aw (bZ e h)
def SS [Pu s](h:Wp (aj s u ρ M) R):Wp (aj s u ρ M) R:=h
def Sw [Pu t](h:Wp (cD t s u ρ M) R):Wp (cD t s u ρ M) R:=h
def LH [Pu r](h:Wp (ah n F r ρ M) Q):Wp (ah n F r ρ M) Q:=h
def Rj [Pu r](h:Wp (aJ F r ρ M) Q):Wp (aJ F r ρ M) Q:=h
def Q0 {α:Type}{g:fE->ay->bc α}{Q:α->ay->Prop}[Pu g](h:Wp (g ρ M) Q):Wp (g ρ M) Q:=h
def O4 (h:Wp (s ρ M) λf N=>Wp (match f with | .nx ρ=>u ρ N | .rt d=>.ok (.rt d) N | .bk ρ=>.ok (.bk ρ) N | .ct ρ=>.ok (.ct ρ) N) R):Wp (aj s u ρ M) R:=aw h
def QU (h:Wp (g ρ M) λd N=>R (.nx (ρ.set i (Z d))) N):Wp (aL i g ρ M) R:=aw (h.imp λ_ _ h=>.ok h)
def QQ (h:Wp (g ρ M) λd N=>R (.rt d) N):Wp (aF g ρ M) R:=aw (h.imp λ_ _ h=>.ok h)
def Q8 (e:t ρ M=.ok c N)(h:tj c (Wp (s ρ N) R) (Wp (u ρ N) R)):Wp (cD t s u ρ M) R:=aw (bZ e (uz h))
def JT (e:r ρ M=.ok ds N)(l:ds.length=n)(h:Wp (F ds N) Q):Wp (ah n F r ρ M) Q:=aw (bZ e (KS l h))
def NZ (e:r ρ M=.ok ds N)(h:Wp (F ds N) Q):Wp (aJ F r ρ M) Q:=aw (bZ e h)
end
end DL
namespace K27
open PySem PySem.Spec PyProof.Rows L2 DL List
open D renaming int → I,tup → U,mr → R,str → S,bl → G
open bc renaming ok → O
def top (i:Nat):WA:=PySem.Challenge.pw_glowrow_k27_whole_scores_played.main.body.getD i (.Pass ⟨0,0,0,0⟩)
abbrev KI:WA:=top 83
abbrev TX:=Tx (("_law_draw",top 64,["tape","many"])::("_law_size",top 65,["tape","most"])::("_law_frame",top 66,["tape","most"])::("_law_inks",top 67,["tape","wide","thin"])::("_law_inked",top 68,["tape","most"])::("_law_far",top 69,["tape","size"])::("_law_mover",top 70,["tape","frame","shapes"])::("_law_stand",top 71,["tape","frame","movers_most"])::("_law_deed",top 72,["tape","frame","stand"])::("_law_score",top 81,["tape","frame","stand"])::("is_whole",top 9,["thing"])::("is_within",top 10,["thing","low","high"])::("is_frame",top 12,["thing"])::("is_ink",top 17,["thing"])::("is_ink_row",top 18,["thing"])::("is_ink_block",top 19,["thing","most"])::("is_shape",top 20,["thing"])::("is_book",top 36,["thing"])::("is_shape_number",top 37,["book","thing"])::("is_place_pair",top 35,["thing"])::("is_rank",top 34,["thing"])::("is_turn",top 21,["thing"])::("is_mover",top 38,["book","thing"])::("are_movers",top 39,["book","thing"])::("is_hue",top 33,["thing"])::("are_pots",top 40,["thing"])::("is_stand",top 41,["thing"])::("check_begin",top 48,["frame","stand"])::("row_ticks",top 13,["frame"])::("ticks_of",top 14,["frame"])::("ticks_hold",top 51,["frame","timed"])::("is_mover_deed",top 43,["stand","word","parts"])::("is_deed",top 42,["stand","thing"])::("check_plan",top 52,["frame","stand","timed"])::("place_of",top 15,["frame","tick"])::("strip_of",top 22,["shape","turn","row"])::("strip_taken",top 29,["stand","number","row"])::("floor_inks",top 28,["frame","stand","row"])::("lying_on",top 24,["stand","row"])::("kept_on",top 25,["frame","stand","row"])::("taken",top 27,["frame","stand","row"])::("lost_on",top 26,["frame","stand","row"])::("covers_at",top 30,["row_taken","x"])::("mover_behind",top 45,["mover","word","parts"])::("with_part",top 46,["things","at","part"])::("stand_behind",top 44,["stand","deed"])::("laid",top 53,["frame","stand","timed"])::("is_line",top 57,["stand","many","thing"])::("is_score",top 56,["stand","thing"])::("tick_named",top 59,["frame","line"])::("tick_of_line",top 60,["frame","line","tick"])::("place_behind",top 61,["frame","line","place","tick"])::("deeds_by",top 58,["frame","stand","score","pace"])::("played",top 62,["frame","stand","score","pace"])::("_law_behind",top 73,["stand","deed"])::("_law_lying",top 75,["stand","row"])::("_law_strip",top 74,["shape","turn","row"])::("_law_taken",top 76,["frame","stand","row"])::("_law_cover",top 77,["row_here","x"])::("_law_ink",top 78,["row_here","x"])::("_law_laid",top 79,["frame","stand","timed","many"])::("_law_hand",top 82,["frame","score","pace"])::("_law_seen_right",top 80,["beam","seen","many"])::[])
 (("Beam","__init__","Beam.__init__",dg (top 49) 0,["self","frame","stand"])::("Beam","take_row","Beam.take_row",dg (top 49) 7,["self","row"])::("Beam","keep_touches","Beam.keep_touches",dg (top 49) 9,["self","numbers","row","spot"])::("Beam","keep_grounds","Beam.keep_grounds",dg (top 49) 10,["self","numbers","row","spot"])::("Beam","lay_spot","Beam.lay_spot",dg (top 49) 8,["self","row","spot"])::("Beam","go_tick","Beam.go_tick",dg (top 49) 6,["self"])::("Beam","go","Beam.go",dg (top 49) 5,["self","many"])::("Beam","is_over","Beam.is_over",dg (top 49) 3,["self"])::("Beam","deed","Beam.deed",dg (top 49) 4,["self","deed"])::("Beam","tick","Beam.tick",dg (top 49) 1,["self"])::("Beam","stand","Beam.stand",dg (top 49) 2,["self"])::("Beam","picture","Beam.picture",dg (top 49) 11,["self"])::("Beam","touches","Beam.touches",dg (top 49) 12,["self"])::("Beam","grounds","Beam.grounds",dg (top 49) 13,["self"])::("Beam","lost","Beam.lost",dg (top 49) 14,["self"])::[])
 [("ink_shown",top 31,["floor_ink","covers"])]
 ("all"::"bool"::"divmod"::"enumerate"::"int"::"isinstance"::"len"::"list"::"max"::"min"::"range"::"sorted"::"tuple"::[]) ["NoDeed","NoFrame","NoScore","NoStand","NoTick","Over"]
 ([]) []
 (("Beam","ahead")::("Beam","first_grounds")::("Beam","first_touches")::("Beam","frame")::("Beam","laid_rows")::("Beam","lost_pairs")::("Beam","row_taken")::("Beam","standing")::[]) [] [("MOST_LINES",100)]
set_option hygiene false
local macro_rules | `(tactic| walk_at "o") => `(tactic| first | with_reducible exact QL | with_reducible exact q_addM | with_reducible exact Pq | with_reducible exact Q7 | with_reducible exact Np | with_reducible exact QX | with_reducible exact O0 | with_reducible exact SO | with_reducible exact Tq | with_reducible exact SV | with_reducible exact Tb | with_reducible exact Su | with_reducible exact Ij | with_reducible exact Sd | with_reducible exact q_notin | with_reducible exact q_mulT | with_reducible exact q_inA | ((with_reducible show Q2 _ _ (dIn _)); first | exact q_din hr | exact q_dnotin hr) | ((with_reducible show Q2 _ _ (Lb _)); first | exact q_eqL hr | exact Qy hr) | ((with_reducible show Q2 _ (UX .Eq) _); exact Tl hr) | exact Sb hr)
local macro_rules | `(tactic| walk_at "c") => `(tactic| first | ((with_reducible refine Rq ?_); rfl) | ((with_reducible refine Ho)) | ((with_reducible refine OS)) | ((with_reducible refine q_lenT)) | ((with_reducible refine Pg)) | ((with_reducible refine q_listT ?_); rfl) | ((with_reducible refine Kf)) | ((with_reducible refine Nz)) | ((with_reducible refine QK ?_); rfl) | ((with_reducible refine PH ?_); rfl) | ((with_reducible refine q_sorted)) | ((with_reducible refine Dl)) | ((with_reducible refine Iq)))
local macro_rules | `(tactic| walk_at "b") => `(tactic| with_reducible first | exact Boot.«all» | exact Boot.«bool» | exact Boot.«divmod» | exact Boot.«enumerate» | exact Boot.«int» | exact Boot.«isinstance» | exact Boot.«len» | exact Boot.«list» | exact Boot.«max» | exact Boot.«min» | exact Boot.«range» | exact Boot.«sorted» | exact Boot.«tuple»)
local macro_rules | `(tactic| walk_at "E") => `(tactic| first
  | ((with_reducible show QE _ _ (fL _ _ _ _));refine BI (by assumption) (by kernel_rfl) ?_ ?_ ?_ ?_)
  | ((with_reducible show QE _ _ (aJ zQ _));refine EY HW (T.z _ (by decide +kernel)) (by walk_at "b") ?_)
  | ((with_reducible show QE _ _ (aJ nB _));refine EY (JU rfl) (T.z _ (by decide +kernel)) (by walk_at "b") ?_)
  | ((with_reducible show QE _ _ (ae _));exact qv _)
  | ((with_reducible show QE _ _ (gC _));first|exact MQ|exact Nn|exact OA|exact QN|exact ID (T3 T.i 0))
  | ((with_reducible show QE _ _ (g2 AF _ _));refine Ir hr ?_ ?_)
  | ((with_reducible show QE _ _ (g2 wz _ _));refine Ew hr ?_ ?_)
  | ((with_reducible show QE _ _ (g2 aB _ _));refine PU ?_ ?_)
  | ((with_reducible show QE _ _ (g2 _ _ _));first|refine Pj (by walk_at "o") ?_ ?_|refine L1 (by walk_at "o") ?_ ?_|refine qe_cmpI (by walk_at "o") ?_ ?_)
  | ((with_reducible show QE _ _ (ah _ _ _));refine OZ (by assumption) hr ?_)
  | ((with_reducible show QE _ _ (aQ _));refine Nv ?_)
  | ((with_reducible show QE _ _ (mf _ _));refine OX (by first|exact .inl rfl|exact .inr (.inl rfl)|exact .inr (.inr (.inl rfl))|exact .inr (.inr (.inr (.inl rfl)))|exact .inr (.inr (.inr (.inr rfl)))) (by walk_at "b") (by rfl) (T.z _ (by decide +kernel)) (by rfl) (T.z _ (by decide +kernel)) ?_)
  | ((with_reducible show QE _ _ (aJ uC _));refine K8 (MA (k:=0) (hr.mono (by decide))) (by rfl) (T.z _ (by decide +kernel)) (by walk_at "b") ?_)
  | ((with_reducible show QE _ _ (aJ _ _));first|refine EY (by walk_at "c") (T.z _ (by decide +kernel)) (by walk_at "b") ?_|refine QH (by walk_at "c") (by rfl) (T.z _ (by decide +kernel)) (by walk_at "b") ?_)
  | ((with_reducible show QE _ _ (jf _));refine M7 ?_)
  | ((with_reducible show QE _ _ (fZ _));refine LL ?_)
  | ((with_reducible show QE _ _ (tR _));refine Lx ?_)
  | ((with_reducible show QE _ _ (Gq _));refine Oi ?_)
  | ((with_reducible show QE _ _ (Aq _ _ _ _ _));refine HB (by walk_at "o") (by walk_at "o") ?_ ?_ ?_)
  | ((with_reducible show QE _ _ (Fc _ _ _));refine PK ?_ ?_ ?_)
  | ((with_reducible show QE _ _ (rL _ _ _));refine Hm ?_ ?_ ?_)
  | ((with_reducible show QE _ _ (Ky _));refine LY rfl ?_)
  | ((with_reducible show QE _ _ (a9 _ _ _ _));first|refine GK (by assumption) (by kernel_rfl) (by first|exact .inl rfl|exact .inr rfl) ?_ ?_ ?_|refine Hn (by kernel_rfl) (by first|exact .inl rfl|exact .inr rfl) ?_ ?_ ?_)
  | ((with_reducible show QE _ _ (ce _ _ _ _ _ _));refine D3 (by assumption) (by kernel_rfl) (by first|exact .inl rfl|exact .inr rfl) ?_ ?_ ?_ ?_ ?_)
  | ((with_reducible show QE _ _ (cX _ _ _));refine J2 (Ci T.a _ _) ?_)
  | ((with_reducible show QE _ _ (dQ _ _ _ _ _ ag));refine Ex (by assumption) hr ?_)
  | ((with_reducible show QE _ _ (dQ _ _ _ _ _ _));refine JJ (by assumption) hr ?_ ?_)
  | ((with_reducible show QE _ _ (rY _ _ _ ag));refine qe_make0A (by assumption) hr)
  | ((with_reducible show QE _ _ (rY _ _ _ _));refine GU (by assumption) hr ?_)
  | ((with_reducible show QE _ _ (gO _ _));refine El ?_ ?_)
  | ((with_reducible show QE _ _ (ib _ _ _));refine DA hr ?_ ?_ ?_)
  | ((with_reducible show QE _ _ (wv));exact HN)
  | ((with_reducible show QE _ _ (wF));exact Iv)
  | ((with_reducible show QE _ _ (J9 _ _));refine Mn hr ?_ ?_)
  | ((with_reducible show QE _ _ (JP _));refine LB ?_)
  | ((with_reducible show QE _ _ (wQ _ _));refine Iw ?_)
  | ((with_reducible show QE _ _ (yp _ _));refine Kl (px:="cover") (N:=["cover"]) (by assumption) (k:=0) (hr.mono (by decide)) (by rfl) (T.z _ (by decide +kernel)) (by walk_at "b") ⟨rfl,rfl,rfl,by decide +kernel,rfl,by decide +kernel,by decide +kernel⟩ ?_ λ_ _ _ _ _ _ _ hr=>?_))
local macro_rules | `(tactic| walk_at "S") => `(tactic| first
  | ((with_reducible show QS _ _ (aF _));refine NO ?_)
  | ((with_reducible show QS _ _ (cD _ _ _));refine Pn ?_ ?_ ?_)
  | ((with_reducible show QS _ _ (aL _ (a9 _ _ _ _)));first|refine qs_setCompR (by assumption) (by kernel_rfl) (by first|exact .inl rfl|exact .inr rfl) nd ?_ ?_ ?_|refine Ad (by kernel_rfl) (by first|exact .inl rfl|exact .inr rfl) nd ?_ ?_ ?_|refine qs_setC _ nd ?_)
  | ((with_reducible show QS _ _ (aL _ (ce _ _ _ _ _ _)));first|refine xZ (by assumption) (by kernel_rfl) (by first|exact .inl rfl|exact .inr rfl) ?_ nd ?_ ?_ ?_ ?_|refine qs_setC _ nd ?_)
  | ((with_reducible show QS _ _ (aL _ _));refine NY _ nd ?_)
  | ((with_reducible show QS _ _ (dM _ _));refine LU ?_ ?_)
  | ((with_reducible show QS _ _ (gZ _ _ _));refine MJ aas ?_ ?_ ?_)
  | ((with_reducible show QS _ _ (bI _));refine Ib ?_)
  | ((with_reducible show QS _ _ (rA _ _ _));refine Nm ?_ ?_ ?_)
  | ((with_reducible show QS _ _ (aG));first|exact qs_pass|exact qs_doc)
  | ((with_reducible show QS _ _ (nk _ _ _));refine GB aas ?_ ?_)
  | ((with_reducible show QS _ _ (gu _ _));refine Dz (T.e _ (by decide +kernel)) ?_)
  | ((with_reducible show QS _ _ (Ef _ _ _));refine LR nd ?_)
  | ((with_reducible show QS _ _ (gQ _ _ _ _));first|refine Kp (Ci T.a _ _) ?_ ?_|refine qs_fldCA (Ci T.a _ _) ?_ ?_)
  | ((with_reducible show QS _ _ (K6 _ _ _ _));refine Ng (Ci T.a _ _) ?_ ?_)
  | ((with_reducible show QS _ _ (Ia _ _ _ _));refine NW ?_ ?_ ?_ ?_)
  | ((with_reducible show QS _ _ (G8 _ _ _));refine Ol _ nd rfl ?_))
local macro_rules | `(tactic| walk_at "Q") => `(tactic| first
  | ((with_reducible show QE _ _ _);first|walk_at "E"|refine N4 ?_|refine LX ?_ ?_|refine Qu ?_ ?_|refine qe_fstr1 ?_)
  | ((with_reducible show QA _ _ _);first|exact OB|refine SZ ?_ ?_)
  | ((with_reducible show QT _ _ _);first
  | ((with_reducible show QT _ _ (aH (Aq _ _ _ _ _)));refine ES (by walk_at "o") (by walk_at "o") ?_ ?_ ?_)
  | ((with_reducible show QT _ _ (aH _));first|refine Mw (by walk_at "o") ?_ ?_|refine Kx (by walk_at "o") ?_ ?_)
  | ((with_reducible show QT _ _ (dE _));refine Og ?_)
  | ((with_reducible show QT _ _ (gf _));refine M6 ?_)
  | ((with_reducible show QT _ _ (fu _ _));refine P0 ?_)
  | ((with_reducible show QT _ _ (je _ _));refine P0 ?_))
  | ((with_reducible show QB _ _ _);first|exact MX|refine Nq ?_|refine Ja ?_ ?_)
  | ((with_reducible show QS _ _ _);walk_at "S")
  | ((with_reducible show QW _ _ _);first|refine Oe ?_ ?_|refine PV ?_ ?_|refine Jg ?_|refine L8 ?_)
  | ((with_reducible show QI _ _ _ _);first|((with_reducible show QI _ _ _ (ft _));refine Qq (by rfl) (T.z _ (by decide +kernel)) ?_)|((with_reducible show QI _ _ _ (gRng2 _));refine qi_r2 (by rfl) (T.z _ (by decide +kernel)) ?_)|((with_reducible show QI _ _ _ (yo _));refine JE (by rfl) (T.z _ (by decide +kernel)) (by walk_at "b") ?_)|((with_reducible show QI _ _ _ (gEz _));refine qi_ez (by rfl) (T.z _ (by decide +kernel)) (by walk_at "b") (by rfl) (T.z _ (by decide +kernel)) (by walk_at "b") ?_)|refine Mz ?_)
  | ((with_reducible show QG _ _ _);first|exact qn _ nd|exact TL _ (by kernel_rfl) |refine Lr ?_|refine Je ?_)
  | ((with_reducible show QV _ _ _);first|exact IQ|refine Qd ?_ ?_)
  | ((with_reducible show Rg _ _ _);first|exact JD|refine P9 ?_ ?_)
  | ((with_reducible show QP _ _ _);first|exact Kr|refine IF ?_)
  | ((with_reducible show Er _ _ _ _ _ _);first|exact DN|refine Ea ?_)
  | ((with_reducible show QO _ _);first|exact qo_one _ _|exact LC _|refine qo_tupG ?_)
  | ((with_reducible show QOs _ _);first|exact qos_nil|refine qos_c ?_ ?_)
  | ((with_reducible show QF _ _ _);first|exact NV|refine SA ?_ ?_)
  | ((with_reducible show QD _ _ _ _ _);first|exact Lw|refine SQ ?_)
  | intro _)
local macro_rules | `(tactic| walk_at "R") => `(tactic| repeat' walk_at "Q")
section
variable {P:UI}{w:UN}{K:Uu}{mg:Str->Option Uh}{base:Vn}
def mw:GS:=(aj (aL 2 (gC (I 2305843009213693951))) (aj (cD (aH (g2 pR (g2 aB (ae 0) (gC (I 2))) (ae 1))) (aj (aL 3 (gC (I 0))) (aj (cD (aH (g2 Bg (aJ bU (aa (g2 aB (ae 0) (gC (I 0))) ag)) (gC (I 0)))) (aL 3 (g2 aB (g2 aB (ae 0) (gC (I 0))) (g2 ky (g2 aB (ae 0) (gC (I 1))) (aJ bU (aa (g2 aB (ae 0) (gC (I 0))) ag))))) aG) (aj (cD (je (aH (g2 B9 (g2 aB (ae 0) (gC (I 1))) (aJ bU (aa (g2 aB (ae 0) (gC (I 0))) ag)))) (aH (g2 pR (ae 3) (g2 EJ (gC (I 10)) (gC (I 18)))))) (aj (aL 3 (g2 ky (g2 a8 (ae 3) (g2 jX (gC (I 1000003)) (g2 aB (ae 0) (gC (I 1))))) (ae 2))) (aj (aL 3 (g2 ky (g2 a8 (g2 a8 (g2 jX (ae 3) (ae 3)) (g2 jX (gC (I 1181783497276652981)) (ae 3))) (gC (I 2049848353892358983))) (ae 2))) (aL 3 (g2 ky (g2 a8 (g2 jX (ae 3) (ae 3)) (gC (I 1442695040888963407))) (ae 2))))) aG) (aj (rA (ae 0) (gC (I 1)) (g2 a8 (g2 aB (ae 0) (gC (I 1))) (gC (I 1)))) (rA (ae 0) (gC (I 2)) (ae 3)))))) aG) (aj (aL 4 (g2 ky (g2 aB (ae 0) (gC (I 2))) (ae 1))) (aj (rA (ae 0) (gC (I 2)) (g2 hZ (g2 aB (ae 0) (gC (I 2))) (ae 1))) (aF (ae 4))))))
def aq:FD:=aP 3 mw
variable (T:TX P w K mg base)
include T
def bT:Ok P w K mg base "_law_draw" 1 2 aq:=bx (bv T.f 0 rfl) ["tape","many","prime","cell","found"] aD rfl λf _ A _ s H E nd hr=>by delta mw;walk_at "R"
def nj:GS:=(aF (g2 a8 (gC (I 1)) (g2 aB (jf (aa (ah 2 aq (aa (ae 0) (aa (aJ AK (aa (ae 1) (aa (gC (I 6)) ag))) ag))) (aa (ah 2 aq (aa (ae 0) (aa (ae 1) ag))) (aa (g2 dN (ae 1) (gC (I 1))) ag)))) (g2 hZ (g2 jX (ah 2 aq (aa (ae 0) (aa (gC (I 8)) ag))) (gC (I 3))) (gC (I 10))))))
def fz:FD:=aP 0 nj
def pH:Ok P w K mg base "_law_size" 2 2 fz:=bx (bv T.f 1 rfl) ["tape","most"] aD rfl λf _ A _ s H E nd hr=>by have:=bT T;delta nj;walk_at "R"
def kX:GS:=(aj (aL 2 (g2 aB (jf (aa (gC (I 0)) (aa (ah 2 aq (aa (ae 0) (aa (gC (I 21)) ag))) ag))) (ah 2 aq (aa (ae 0) (aa (gC (I 2)) ag))))) (aF (aQ (aa (ah 2 fz (aa (ae 0) (aa (ae 1) ag))) (aa (ah 2 fz (aa (ae 0) (aa (ae 1) ag))) (aa (ae 2) (aa (ah 2 aq (aa (ae 0) (aa (gC (I 13)) ag))) ag)))))))
def lW:FD:=aP 1 kX
def vF:Ok P w K mg base "_law_frame" 3 2 lW:=bx (bv T.f 2 rfl) ["tape","most","gap"] aD rfl λf _ A _ s H E nd hr=>by have:=bT T;have:=pH T;delta kX;walk_at "R"
def lu:GE:=(g2 jX (ah 2 aq (aa (ae 1) (aa (gC (I 16)) ag))) (aJ Dc (aa (g2 Bg (ah 2 aq (aa (ae 1) (aa (ae 3) ag))) (gC (I 0))) ag)))
def mH:GS:=(aF (aJ dm (aa (a9 (ft (aa (ae 1) ag)) bp lu aO) ag)))
def m8:FD:=aP 0 mH
def xJ:Ok P w K mg base "_law_inks" 2 3 m8:=bx (bv T.f 3 rfl) ["tape","wide","thin"] aD rfl λf _ A _ s H E nd hr=>by have:=bT T;delta mH lu;walk_at "R"
def kq:GE:=(ah 3 m8 (aa (ae 1) (aa (ae 3) (aa (ae 4) ag))))
def k9:GS:=(aj (aL 2 (ah 2 fz (aa (ae 0) (aa (ae 1) ag)))) (aj (aL 3 (g2 a8 (gC (I 1)) (ah 2 aq (aa (ae 0) (aa (gC (I 4)) ag))))) (aF (aJ dm (aa (a9 (ft (aa (ah 2 fz (aa (ae 0) (aa (ae 1) ag))) ag)) bp kq aO) ag)))))
def ij:FD:=aP 2 k9
def vG:Ok P w K mg base "_law_inked" 3 2 ij:=bx (bv T.f 4 rfl) ["tape","most","wide","thin"] aD rfl λf _ A _ s H E nd hr=>by have:=bT T;have:=pH T;have:=xJ T;delta k9 kq;walk_at "R"
def oC:GS:=(aF (g2 aB (jf (aa (g2 dN (ah 2 aq (aa (ae 0) (aa (g2 a8 (ae 1) (gC (I 16))) ag))) (gC (I 8))) (aa (g2 dN (ah 2 aq (aa (ae 0) (aa (gC (I 2001)) ag))) (gC (I 1000))) ag))) (g2 hZ (ah 2 aq (aa (ae 0) (aa (gC (I 8)) ag))) (gC (I 7)))))
def dU:FD:=aP 0 oC
def mS:Ok P w K mg base "_law_far" 2 2 dU:=bx (bv T.f 5 rfl) ["tape","size"] aD rfl λf _ A _ s H E nd hr=>by have:=bT T;delta oC;walk_at "R"
def kQ:GS:=(aj (aL 3 (gC .non)) (aj (cD (fu (aH (g2 Bg (ae 2) (gC (I 0)))) (aH (g2 Bg (ah 2 aq (aa (ae 0) (aa (gC (I 8)) ag))) (gC (I 0))))) (aL 3 (ah 2 aq (aa (ae 0) (aa (ae 2) ag)))) aG) (aF (aQ (aa (ae 3) (aa (ah 2 dU (aa (ae 0) (aa (g2 aB (ae 1) (gC (I 0))) ag))) (aa (ah 2 dU (aa (ae 0) (aa (g2 aB (ae 1) (gC (I 1))) ag))) (aa (ah 2 aq (aa (ae 0) (aa (gC (I 4)) ag))) (aa (ah 2 aq (aa (ae 0) (aa (gC (I 4)) ag))) ag)))))))))
def iq:FD:=aP 1 kQ
def nZ:Ok P w K mg base "_law_mover" 3 3 iq:=bx (bv T.f 6 rfl) ["tape","frame","shapes","shape"] aD rfl λf _ A _ s H E nd hr=>by have:=bT T;have:=mS T;delta kQ;walk_at "R"
def jQ:GE:=(ah 2 ij (aa (ae 1) (aa (gC (I 8)) ag)))
def jW:GE:=(ah 3 iq (aa (ae 1) (aa (ae 2) (aa (aJ bU (aa (ae 7) ag)) ag))))
def jZ:GE:=(ah 2 aq (aa (ae 1) (aa (gC (I 64)) ag)))
def kP:GS:=(aj (aL 3 (ah 2 ij (aa (ae 0) (aa (gC (I 16)) ag)))) (aj (aL 4 (aQ (aa (ah 2 dU (aa (ae 0) (aa (gC (I 9)) ag))) (aa (ah 2 dU (aa (ae 0) (aa (gC (I 9)) ag))) ag)))) (aj (aL 5 (g2 aB (jf (aa (ah 2 aq (aa (ae 0) (aa (gC (I 4)) ag))) (aa (ah 2 aq (aa (ae 0) (aa (gC (I 9)) ag))) ag))) (g2 hZ (ah 2 aq (aa (ae 0) (aa (gC (I 4)) ag))) (gC (I 3))))) (aj (aL 6 (aJ dm (aa (a9 (ft (aa (ae 5) ag)) bp jQ aO) ag))) (aj (aL 7 (aJ dm (aa (a9 (ft (aa (ah 2 aq (aa (ae 0) (aa (g2 a8 (ae 2) (gC (I 1))) ag))) ag)) bp jW aO) ag))) (aF (aQ (aa (ae 3) (aa (ae 4) (aa (ae 6) (aa (ae 7) (aa (aJ dm (aa (a9 (ft (aa (gC (I 16)) ag)) bp jZ aO) ag)) ag))))))))))))
def kS:FD:=aP 5 kP
def vC:Ok P w K mg base "_law_stand" 4 3 kS:=bx (bv T.f 7 rfl) ["tape","frame","movers_most","floor","shift","shapes","book","movers"] aD rfl λf _ A _ s H E nd hr=>by have:=bT T;have:=vG T;have:=mS T;have:=nZ T;delta kP jQ jW jZ;walk_at "R"
def ng:GS:=(aj (aL 3 (ah 2 aq (aa (ae 0) (aa (gC (I 8)) ag)))) (aj (cD (je (aH (g2 pR (ae 3) (gC (I 2)))) (aH (g2 (aR false) (g2 aB (ae 2) (gC (I 3))) (aQ ag)))) (aj (aL 4 (jf (aa (aQ (aa (gC (S "shift")) (aa (ah 2 dU (aa (ae 0) (aa (gC (I 9)) ag))) (aa (ah 2 dU (aa (ae 0) (aa (gC (I 9)) ag))) ag)))) (aa (aQ (aa (gC (S "pot")) (aa (ah 2 aq (aa (ae 0) (aa (gC (I 16)) ag))) (aa (ah 2 aq (aa (ae 0) (aa (gC (I 64)) ag))) ag)))) ag)))) (aF (g2 aB (ae 4) (g2 ky (ae 3) (gC (I 2)))))) aG) (aj (aL 5 (ah 2 aq (aa (ae 0) (aa (aJ bU (aa (g2 aB (ae 2) (gC (I 3))) ag)) ag)))) (aj (aL 6 (ah 3 iq (aa (ae 0) (aa (ae 1) (aa (aJ bU (aa (g2 aB (ae 2) (gC (I 2))) ag)) ag))))) (aj (cD (aH (g2 pR (ae 3) (gC (I 5)))) (aF (aQ (aa (gC (S "move")) (aa (ae 5) (aa (g2 aB (ae 6) (gC (I 1))) (aa (g2 aB (ae 6) (gC (I 2))) ag)))))) aG) (aF (g2 aB (jf (aa (aQ (aa (gC (S "shape")) (aa (ae 5) (aa (g2 aB (ae 6) (gC (I 0))) ag)))) (aa (aQ (aa (gC (S "rank")) (aa (ae 5) (aa (g2 aB (ae 6) (gC (I 3))) ag)))) (aa (aQ (aa (gC (S "turn")) (aa (ae 5) (aa (g2 aB (ae 6) (gC (I 4))) ag)))) ag)))) (g2 dN (ae 3) (gC (I 5))))))))))
def mR:FD:=aP 4 ng
def yc:Ok P w K mg base "_law_deed" 4 3 mR:=bx (bv T.f 8 rfl) ["tape","frame","stand","way","some","number","mover"] aD rfl λf _ A _ s H E nd hr=>by have:=bT T;have:=mS T;have:=nZ T;delta ng;walk_at "R"
def gG:GS:=(aj (aL 6 (ah 2 aq (aa (ae 0) (aa (gC (I 8)) ag)))) (aj (aL 7 (aQ (aa (ah 2 aq (aa (ae 0) (aa (aJ AK (aa (gC (I 61)) (aa (g2 a8 (g2 aB (ae 1) (gC (I 1))) (gC (I 1))) ag))) ag))) (aa (ah 2 aq (aa (ae 0) (aa (g2 a8 (g2 a8 (g2 aB (ae 1) (gC (I 0))) (g2 aB (ae 1) (gC (I 2)))) (gC (I 1))) ag))) ag)))) (cD (aH (g2 pR (ae 6) (gC (I 4)))) (bI (gO (ae 4) (aQ (aa (gC (S "do")) (aa (ah 3 mR (aa (ae 0) (aa (ae 1) (aa (ae 2) ag)))) ag))))) (cD (aH (g2 pR (ae 6) (gC (I 6)))) (bI (gO (ae 4) (g2 a8 (aQ (aa (g2 aB (jf (aa (gC (S "wait")) (aa (gC (S "skip")) ag))) (g2 dN (ae 6) (gC (I 4)))) ag)) (ae 7)))) (cD (aH (g2 (aR false) (ae 6) (gC (I 6)))) (aj (aL 8 (aQ (aa (ah 2 aq (aa (ae 0) (aa (gC (I 61)) ag))) (aa (ah 2 aq (aa (ae 0) (aa (gC (I 61)) ag))) ag)))) (bI (gO (ae 4) (g2 a8 (aQ (aa (g2 aB (jf (aa (gC (S "wait")) (aa (gC (S "skip")) ag))) (ah 2 aq (aa (ae 0) (aa (gC (I 2)) ag)))) ag)) (g2 aB (jf (aa (ae 7) (aa (ae 8) ag))) (g2 hZ (ah 2 aq (aa (ae 0) (aa (gC (I 3)) ag))) (gC (I 2)))))))) (bI (gO (ae 4) (aQ (aa (gC (S "to")) (aa (g2 aB (jf (aa (ah 2 aq (aa (ae 0) (aa (ae 3) ag))) (aa (aJ AK (aa (g2 dN (ae 3) (gC (I 1))) (aa (g2 a8 (ae 5) (gC (I 1))) ag))) ag))) (ah 2 aq (aa (ae 0) (aa (gC (I 2)) ag)))) ag))))))))))
def iB:GS:=(aj (aL 3 (g2 aB (jf (aa (ah 2 aq (aa (ae 0) (aa (gC (I 5)) ag))) (aa (ah 2 aq (aa (ae 0) (aa (gC (I 20)) ag))) (aa (ah 2 aq (aa (ae 0) (aa (gC (I 101)) ag))) ag)))) (g2 hZ (ah 2 aq (aa (ae 0) (aa (gC (I 8)) ag))) (gC (I 3))))) (aj (aL 4 (fZ ag)) (aj (gZ (ft (aa (ae 3) ag)) (d7 5) gG) (aF (ae 4)))))
def lg:FD:=λds M=>lB M.length (aP 6 iB ds M)
def vj:Ok P w K mg base "_law_score" 5 3 lg:=kR (F:=aP 6 iB) <| bx (bv T.f 9 rfl) ["tape","frame","stand","many","found","k","way","place","far"] aD rfl λf _ A _ s H E nd hr=>by have:=bT T;have:=yc T;delta iB gG;walk_at "R"
def oA:GS:=(aF (eR (mf "int" (ae 0)) (Gq (aH (mf "bool" (ae 0))))))
def uB:FD:=aP 0 oA
def Ac:Ok P w K mg base "is_whole" 1 1 uB:=bx (bv T.f 10 rfl) ["thing"] aD rfl λf _ A _ s H E nd hr=>by delta oA;walk_at "R"
def mO:GS:=(aF (eR (ah 1 uB (aa (ae 0) ag)) (Aq vB vB (ae 1) (ae 0) (ae 2))))
def bf:FD:=aP 0 mO
def cj:Ok P w K mg base "is_within" 2 3 bf:=bx (bv T.f 11 rfl) ["thing","low","high"] aD rfl λf _ A _ s H E nd hr=>by have:=Ac T;delta mO;walk_at "R"
def oE:GS:=(aj (cD (je (dE (gf (mf "tuple" (ae 0)))) (aH (g2 (aR true) (aJ bU (aa (ae 0) ag)) (gC (I 4))))) (aF (gC (G false))) aG) (aj (dM (bN [1,2,3,4]) (ae 0)) (aF (eR (ah 3 bf (aa (ae 1) (aa (gC (I 1)) (aa (gC (I 40)) ag)))) (eR (ah 3 bf (aa (ae 2) (aa (gC (I 1)) (aa (gC (I 40)) ag)))) (eR (ah 3 bf (aa (ae 3) (aa (gC (I 0)) (aa (gC (I 20)) ag)))) (ah 3 bf (aa (ae 4) (aa (gC (I 0)) (aa (gC (I 12)) ag))))))))))
def o8:FD:=aP 4 oE
def yT:Ok P w K mg base "is_frame" 3 1 o8:=bx (bv T.f 12 rfl) ["thing","wide","high","gap","most"] aD rfl λf _ A _ s H E nd hr=>by have:=cj T;delta oE;walk_at "R"
def pq:GS:=(aF (ah 3 bf (aa (ae 0) (aa (gC (I 0)) (aa (gC (I 15)) ag)))))
def uy:FD:=aP 0 pq
def wK:Ok P w K mg base "is_ink" 3 1 uy:=bx (bv T.f 13 rfl) ["thing"] aD rfl λf _ A _ s H E nd hr=>by have:=cj T;delta pq;walk_at "R"
def kr:GE:=(ah 1 uy (aa (ae 0) ag))
def lX:GS:=(aF (eR (mf "tuple" (ae 0)) (aJ mh (aa (a9 (bE (ae 0)) bp kr aO) ag))))
def kY:FD:=aP 0 lX
def vN:Ok P w K mg base "is_ink_row" 4 1 kY:=bx (bv T.f 14 rfl) ["thing"] aD rfl λf _ A _ s H E nd hr=>by have:=wK T;delta lX kr;walk_at "R"
def hG:GE:=(ah 1 kY (aa (ae 0) ag))
def g5:GE:=(g2 (aR false) (aJ bU (aa (ae 0) ag)) (ae 3))
def iY:GS:=(aj (cD (je (dE (gf (mf "tuple" (ae 0)))) (dE (aH (Aq vB vB (gC (I 1)) (aJ bU (aa (ae 0) ag)) (ae 1))))) (aF (gC (G false))) aG) (aj (cD (dE (gf (aJ mh (aa (a9 (bE (ae 0)) bp hG aO) ag)))) (aF (gC (G false))) aG) (aj (aL 2 (aJ bU (aa (g2 aB (ae 0) (gC (I 0))) ag))) (aF (eR (Aq vB vB (gC (I 1)) (ae 2) (ae 1)) (aJ mh (aa (a9 (bE (ae 0)) bp g5 aO) ag)))))))
def fJ:FD:=aP 1 iY
def md:Ok P w K mg base "is_ink_block" 5 2 fJ:=bx (bv T.f 15 rfl) ["thing","most","length"] aD rfl λf _ A _ s H E nd hr=>by have:=vN T;delta iY hG g5;walk_at "R"
def oX:GS:=(aF (ah 2 fJ (aa (ae 0) (aa (gC (I 8)) ag))))
def t7:FD:=aP 0 oX
def zm:Ok P w K mg base "is_shape" 6 1 t7:=bx (bv T.f 16 rfl) ["thing"] aD rfl λf _ A _ s H E nd hr=>by have:=md T;delta oX;walk_at "R"
def oM:GE:=(ah 1 t7 (aa (ae 0) ag))
def rH:GS:=(aF (eR (mf "tuple" (ae 0)) (eR (g2 vB (aJ bU (aa (ae 0) ag)) (gC (I 8))) (aJ mh (aa (a9 (bE (ae 0)) bp oM aO) ag)))))
def rG:FD:=aP 0 rH
def A3:Ok P w K mg base "is_book" 7 1 rG:=bx (bv T.f 17 rfl) ["thing"] aD rfl λf _ A _ s H E nd hr=>by have:=zm T;delta rH oM;walk_at "R"
def dF:GS:=(aF (RP (g2 (sI false) (ae 1) (gC .non)) (ah 3 bf (aa (ae 1) (aa (gC (I 0)) (aa (g2 dN (aJ bU (aa (ae 0) ag)) (gC (I 1))) ag))))))
def cO:FD:=aP 0 dF
def iI:Ok P w K mg base "is_shape_number" 3 2 cO:=bx (bv T.f 18 rfl) ["book","thing"] aD rfl λf _ A _ s H E nd hr=>by have:=cj T;delta dF;walk_at "R"
def gw:GE:=(ah 3 bf (aa (ae 0) (aa (tR (gC (I 1000))) (aa (gC (I 1000)) ag))))
def hU:GS:=(aF (eR (mf "tuple" (ae 0)) (eR (g2 (aR false) (aJ bU (aa (ae 0) ag)) (gC (I 2))) (aJ mh (aa (a9 (bE (ae 0)) bp gw aO) ag)))))
def cF:FD:=aP 0 hU
def d9:Ok P w K mg base "is_place_pair" 3 1 cF:=bx (bv T.f 19 rfl) ["thing"] aD rfl λf _ A _ s H E nd hr=>by have:=cj T;delta hU gw;walk_at "R"
def kN:GS:=(aF (ah 3 bf (aa (ae 0) (aa (gC (I 0)) (aa (gC (I 3)) ag)))))
def qV:FD:=aP 0 kN
def uY:Ok P w K mg base "is_rank" 3 1 qV:=bx (bv T.f 20 rfl) ["thing"] aD rfl λf _ A _ s H E nd hr=>by have:=cj T;delta kN;walk_at "R"
def kE:GS:=(aF (ah 3 bf (aa (ae 0) (aa (gC (I 0)) (aa (gC (I 3)) ag)))))
def qY:FD:=aP 0 kE
def vd:Ok P w K mg base "is_turn" 3 1 qY:=bx (bv T.f 21 rfl) ["thing"] aD rfl λf _ A _ s H E nd hr=>by have:=cj T;delta kE;walk_at "R"
def pb:GS:=(aj (cD (je (dE (gf (mf "tuple" (ae 1)))) (aH (g2 (aR true) (aJ bU (aa (ae 1) ag)) (gC (I 5))))) (aF (gC (G false))) aG) (aj (dM (bN [2,3,4,5,6]) (ae 1)) (aF (eR (ah 2 cO (aa (ae 0) (aa (ae 2) ag))) (eR (ah 1 cF (aa (aQ (aa (ae 3) (aa (ae 4) ag))) ag)) (eR (ah 1 qV (aa (ae 5) ag)) (ah 1 qY (aa (ae 6) ag))))))))
def o0:FD:=aP 5 pb
def zZ:Ok P w K mg base "is_mover" 4 2 o0:=bx (bv T.f 22 rfl) ["book","thing","shape","x","y","rank","turn"] aD rfl λf _ A _ s H E nd hr=>by have:=iI T;have:=d9 T;have:=uY T;have:=vd T;delta pb;walk_at "R"
def jJ:GE:=(ah 2 o0 (aa (ae 1) (aa (ae 0) ag)))
def lS:GS:=(aF (eR (mf "tuple" (ae 1)) (eR (g2 vB (aJ bU (aa (ae 1) ag)) (gC (I 12))) (aJ mh (aa (a9 (bE (ae 1)) bp jJ aO) ag)))))
def lF:FD:=aP 0 lS
def vP:Ok P w K mg base "are_movers" 5 2 lF:=bx (bv T.f 23 rfl) ["book","thing"] aD rfl λf _ A _ s H E nd hr=>by have:=zZ T;delta lS jJ;walk_at "R"
def pY:GS:=(aF (ah 3 bf (aa (ae 0) (aa (gC (I 0)) (aa (gC (I 63)) ag)))))
def uL:FD:=aP 0 pY
def wI:Ok P w K mg base "is_hue" 3 1 uL:=bx (bv T.f 24 rfl) ["thing"] aD rfl λf _ A _ s H E nd hr=>by have:=cj T;delta pY;walk_at "R"
def mZ:GE:=(ah 1 uL (aa (ae 0) ag))
def o3:GS:=(aF (eR (mf "tuple" (ae 0)) (eR (g2 (aR false) (aJ bU (aa (ae 0) ag)) (gC (I 16))) (aJ mh (aa (a9 (bE (ae 0)) bp mZ aO) ag)))))
def oS:FD:=aP 0 o3
def zd:Ok P w K mg base "are_pots" 4 1 oS:=bx (bv T.f 25 rfl) ["thing"] aD rfl λf _ A _ s H E nd hr=>by have:=wI T;delta o3 mZ;walk_at "R"
def oO:GS:=(aj (cD (je (dE (gf (mf "tuple" (ae 0)))) (aH (g2 (aR true) (aJ bU (aa (ae 0) ag)) (gC (I 5))))) (aF (gC (G false))) aG) (aj (dM (bN [1,2,3,4,5]) (ae 0)) (aj (cD (dE (fu (gf (ah 2 fJ (aa (ae 1) (aa (gC (I 16)) ag)))) (fu (gf (ah 1 cF (aa (ae 2) ag))) (gf (ah 1 oS (aa (ae 5) ag)))))) (aF (gC (G false))) aG) (aF (eR (ah 1 rG (aa (ae 3) ag)) (ah 2 lF (aa (ae 3) (aa (ae 4) ag))))))))
def oy:FD:=aP 5 oO
def zi:Ok P w K mg base "is_stand" 8 1 oy:=bx (bv T.f 26 rfl) ["thing","floor","shift","book","movers","pots"] aD rfl λf _ A _ s H E nd hr=>by have:=md T;have:=A3 T;have:=d9 T;have:=vP T;have:=zd T;delta oO;walk_at "R"
def jI:GS:=(aj (cD (dE (gf (ah 1 o8 (aa (ae 0) ag)))) (gu "NoFrame" (gC (S "that is no frame"))) aG) (cD (dE (gf (ah 1 oy (aa (ae 1) ag)))) (gu "NoStand" (gC (S "that is no stand"))) aG))
def bQ:FD:=aP 0 jI
def iZ:Ok P w K mg base "check_begin" 9 2 bQ:=bx (bv T.f 27 rfl) ["frame","stand"] aD rfl λf _ A _ s H E nd hr=>by have:=yT T;have:=zi T;delta jI;walk_at "R"
def sd:GS:=(aj (dM (bN [1,2,3,4]) (ae 0)) (aF (g2 a8 (ae 1) (ae 3))))
def gU:FD:=aP 4 sd
def kU:Ok P w K mg base "row_ticks" 1 1 gU:=bx (bv T.f 28 rfl) ["frame","wide","high","gap","most"] aD rfl λf _ A _ s H E nd hr=>by delta sd;walk_at "R"
def lI:GS:=(aj (dM (bN [1,2,3,4]) (ae 0)) (aF (g2 jX (ae 2) (ah 1 gU (aa (ae 0) ag)))))
def cb:FD:=aP 4 lI
def fD:Ok P w K mg base "ticks_of" 2 1 cb:=bx (bv T.f 29 rfl) ["frame","wide","high","gap","most"] aD rfl λf _ A _ s H E nd hr=>by have:=kU T;delta lI;walk_at "R"
def ke:GE:=(ae 0)
def j9:GE:=(Aq vB pR (gC (I 0)) (ae 0) (ah 1 cb (aa (ae 1) ag)))
def iA:GS:=(aj (aL 2 (ce (bE (ae 1)) 2 (bN [0,1]) bp ke aO)) (aF (eR (g2 (aR false) (ae 2) (aJ zQ (aa (ae 2) ag))) (aJ mh (aa (a9 (bE (ae 2)) bp j9 aO) ag)))))
def iw:FD:=aP 1 iA
def vU:Ok P w K mg base "ticks_hold" 3 2 iw:=bx (bv T.f 30 rfl) ["frame","timed","ticks"] aD rfl λf _ A _ s H E nd hr=>by have:=fD T;have:=rn 258 12 ["tick","deed"] ["frame","timed","ticks"];delta iA ke j9;walk_at "R"
def cG:GS:=(aj (dM (bN [3,4,5,6,7]) (ae 0)) (aj (cD (dE (gf (ah 3 bf (aa (g2 aB (ae 2) (gC (I 0))) (aa (gC (I 0)) (aa (g2 dN (aJ bU (aa (ae 6) ag)) (gC (I 1))) ag)))))) (aF (gC (G false))) aG) (aj (cD (aH (g2 (aR false) (ae 1) (gC (S "move")))) (aF (ah 1 cF (aa (rL (ae 2) (cZ (gC (I 1))) bq) ag))) aG) (aj (cD (aH (g2 (aR true) (aJ bU (aa (ae 2) ag)) (gC (I 2)))) (aF (gC (G false))) aG) (aj (cD (aH (g2 (aR false) (ae 1) (gC (S "shape")))) (aF (ah 2 cO (aa (ae 5) (aa (g2 aB (ae 2) (gC (I 1))) ag)))) aG) (aj (cD (aH (g2 (aR false) (ae 1) (gC (S "rank")))) (aF (ah 1 qV (aa (g2 aB (ae 2) (gC (I 1))) ag))) aG) (aF (eR (g2 (aR false) (ae 1) (gC (S "turn"))) (ah 1 qY (aa (g2 aB (ae 2) (gC (I 1))) ag))))))))))
def l8:FD:=aP 5 cG
def qT:Ok P w K mg base "is_mover_deed" 4 3 l8:=bx (bv T.f 31 rfl) ["stand","word","parts","floor","shift","book","movers","pots"] aD rfl λf _ A _ s H E nd hr=>by have:=cj T;have:=iI T;have:=d9 T;have:=uY T;have:=vd T;delta cG;walk_at "R"
def qP:GS:=(aj (cD (je (dE (gf (mf "tuple" (ae 1)))) (aH (g2 pR (aJ bU (aa (ae 1) ag)) (gC (I 3))))) (aF (gC (G false))) aG) (aj (Ef 2 3 (aa (g2 aB (ae 1) (gC (I 0))) (aa (rL (ae 1) (cZ (gC (I 1))) bq) ag))) (aj (cD (aH (g2 (aR false) (ae 2) (gC (S "shift")))) (aF (ah 1 cF (aa (ae 3) ag))) aG) (aj (cD (aH (g2 (aR false) (ae 2) (gC (S "pot")))) (aF (eR (g2 (aR false) (aJ bU (aa (ae 3) ag)) (gC (I 2))) (eR (ah 1 uy (aa (g2 aB (ae 3) (gC (I 0))) ag)) (ah 1 uL (aa (g2 aB (ae 3) (gC (I 1))) ag))))) aG) (aF (ah 3 l8 (aa (ae 0) (aa (ae 2) (aa (ae 3) ag)))))))))
def kA:FD:=aP 2 qP
def o9:Ok P w K mg base "is_deed" 5 2 kA:=bx (bv T.f 32 rfl) ["stand","thing","word","parts"] aD rfl λf _ A _ s H E nd hr=>by have:=wK T;have:=d9 T;have:=wI T;have:=qT T;delta qP;walk_at "R"
def ka:GE:=(ah 2 kA (aa (ae 3) (aa (ae 1) ag)))
def iu:GS:=(aj (bI (ah 2 bQ (aa (ae 0) (aa (ae 1) ag)))) (aj (cD (dE (gf (ah 2 iw (aa (ae 0) (aa (ae 2) ag))))) (gu "NoTick" (gC (S "a tick isn't one of the frame, or is less than the one ahead"))) aG) (cD (dE (gf (aJ mh (aa (ce (bE (ae 2)) 2 (bN [0,1]) bp ka aO) ag)))) (gu "NoDeed" (gC (S "there is no such deed of the stand"))) aG)))
def k8:FD:=aP 0 iu
def vI:Ok P w K mg base "check_plan" 10 3 k8:=bx (bv T.f 33 rfl) ["frame","stand","timed"] aD rfl λf _ A _ s H E nd hr=>by have:=iZ T;have:=vU T;have:=o9 T;have:=rn 264 15 ["tick","deed"] ["frame","stand","timed"];delta iu ka;walk_at "R"
def eW:GS:=(aj (bI (ah 2 bQ (aa (ae 1) (aa (ae 2) ag)))) (aj (gQ "Beam" "frame" (ae 0) (ae 1)) (aj (gQ "Beam" "standing" (ae 0) (ae 2)) (aj (gQ "Beam" "ahead" (ae 0) (gC (I 0))) (aj (gQ "Beam" "row_taken" (ae 0) (aQ (aa (aQ ag) (aa (aQ ag) ag)))) (aj (gQ "Beam" "laid_rows" (ae 0) (fZ ag)) (aj (gQ "Beam" "first_touches" (ae 0) wF) (aj (gQ "Beam" "first_grounds" (ae 0) wv) (gQ "Beam" "lost_pairs" (ae 0) (fZ ag))))))))))
def eY:FD:=aP 0 eW
def qM:Om P w K mg base "Beam" "__init__" 10 3 eY:=oU (oN T.m 0 rfl) ["self","frame","stand"] aD rfl λf _ A _ s H E nd hr=>by have:=iZ T;delta eW;walk_at "R"
def pc:GS:=(aj (cD (je (aH (g2 pR (ae 1) (gC (I 0)))) (aH (g2 B9 (ae 1) (ah 1 cb (aa (ae 0) ag))))) (gu "NoTick" (wQ [(gC (S "the frame has no tick ")),(JP (ae 1))] ZA)) aG) (aj (dM (bN [2,3,4,5]) (ae 0)) (aj (dM (bN [6,7]) (aJ Hy (aa (ae 1) (aa (ah 1 gU (aa (ae 0) ag)) ag)))) (aj (cD (aH (g2 B9 (ae 7) (ae 2))) (aF (aQ (aa (ae 6) (aa (gC .non) ag)))) aG) (aF (aQ (aa (ae 6) (aa (ae 7) ag))))))))
def lV:FD:=aP 6 pc
def z7:Ok P w K mg base "place_of" 3 2 lV:=bx (bv T.f 34 rfl) ["frame","tick","wide","high","gap","most","row","spot"] aD rfl λf _ A _ s H E nd hr=>by have:=kU T;have:=fD T;delta pc;walk_at "R"
def oG:GS:=(aj (cD (je (aH (g2 pR (ae 2) (gC (I 0)))) (aH (g2 B9 (ae 2) (aJ bU (aa (ae 0) ag))))) (aF (aQ ag)) aG) (aj (aL 3 (Fc (aH (g2 (Be false) (ae 1) (aQ (aa (gC (I 2)) (aa (gC (I 3)) ag))))) (g2 aB (ae 0) (g2 dN (g2 dN (aJ bU (aa (ae 0) ag)) (gC (I 1))) (ae 2))) (g2 aB (ae 0) (ae 2)))) (aF (Fc (aH (g2 (Be false) (ae 1) (aQ (aa (gC (I 1)) (aa (gC (I 3)) ag))))) (Ky (ae 3)) (ae 3)))))
def ou:FD:=aP 1 oG
def Ap:Ok P w K mg base "strip_of" 1 3 ou:=bx (bv T.f 35 rfl) ["shape","turn","row","strip"] aD rfl λf _ A _ s H E nd hr=>by delta oG;walk_at "R"
def jL:GS:=(aj (dM (bN [3,4,5,6,7]) (ae 0)) (aj (dM (bN [8,9,10,11,12]) (g2 aB (ae 6) (ae 1))) (aF (aQ (aa (ae 1) (aa (ae 9) (aa (ae 11) (aa (ah 3 ou (aa (g2 aB (ae 5) (ae 8)) (aa (ae 12) (aa (g2 dN (ae 2) (ae 10)) ag)))) ag))))))))
def jR:FD:=aP 10 jL
def uD:Ok P w K mg base "strip_taken" 2 3 jR:=bx (bv T.f 36 rfl) ["stand","number","row","floor","shift","book","movers","pots","shape","x","y","rank","turn"] aD rfl λf _ A _ s H E nd hr=>by have:=Ap T;delta jL;walk_at "R"
def jK:GE:=(g2 aB (ae 14) (g2 ky (g2 a8 (ae 0) (ae 9)) (aJ bU (aa (ae 14) ag))))
def lU:GS:=(aj (dM (bN [3,4,5,6]) (ae 0)) (aj (dM (NG [(d7 7),(bN [8,9]),(d7 10),(d7 11),(d7 12)]) (ae 1)) (aj (aL 13 (g2 aB (ae 7) (g2 ky (g2 a8 (ae 2) (ae 9)) (aJ bU (aa (ae 7) ag))))) (aF (aJ dm (aa (a9 (ft (aa (ae 3) ag)) bp jK aO) ag))))))
def lG:FD:=aP 11 lU
def vh:Ok P w K mg base "floor_inks" 1 3 lG:=bx (bv T.f 37 rfl) ["frame","stand","row","wide","high","gap","most","floor","across","down","book","movers","pots","inks"] aD rfl λf _ A _ s H E nd hr=>by delta lU jK;walk_at "R"
def nh:GS:=(cD (fu (aH (g2 (sI true) (ae 9) (gC .non))) (aH (Aq vB pR (ae 11) (ae 1) (g2 a8 (ae 11) (aJ bU (aa (g2 aB (ae 4) (ae 9)) ag)))))) (bI (gO (ae 7) (ae 8))) aG)
def lH:GS:=(aj (dM (bN [2,3,4,5,6]) (ae 0)) (aj (aL 7 (fZ ag)) (aj (gZ (yo (aa (ae 5) ag)) (NG [(d7 8),(bN [9,10,11,12,13])]) nh) (aF (ae 7)))))
def lZ:FD:=λds M=>lB M.length (aP 12 lH ds M)
def sv:Ok P w K mg base "lying_on" 1 2 lZ:=kR (F:=aP 12 lH) <| bx (bv T.f 38 rfl) ["stand","row","floor","shift","book","movers","pots","told","number","shape","x","y","rank","turn"] aD rfl λf _ A _ s H E nd hr=>by delta lH nh;walk_at "R"
def rq:GS:=(aj (dM (bN [3,4,5,6]) (ae 0)) (aF (rL (ah 2 lZ (aa (ae 1) (aa (ae 2) ag))) bq (cZ (ae 6)))))
def qE:FD:=aP 4 rq
def AO:Ok P w K mg base "kept_on" 2 3 qE:=bx (bv T.f 39 rfl) ["frame","stand","row","wide","high","gap","most"] aD rfl λf _ A _ s H E nd hr=>by have:=sv T;delta rq;walk_at "R"
def uF:GE:=(ah 3 jR (aa (ae 2) (aa (ae 0) (aa (ae 3) ag))))
def xR:GS:=(aj (aL 3 (a9 (bE (ah 3 qE (aa (ae 0) (aa (ae 1) (aa (ae 2) ag))))) bp uF aO)) (aF (aQ (aa (ah 3 lG (aa (ae 0) (aa (ae 1) (aa (ae 2) ag)))) (aa (aJ dm (aa (ae 3) ag)) ag)))))
def tF:FD:=aP 1 xR
def Fz:Ok P w K mg base "taken" 3 3 tF:=bx (bv T.f 40 rfl) ["frame","stand","row","strips"] aD rfl λf _ A _ s H E nd hr=>by have:=uD T;have:=vh T;have:=AO T;delta xR uF;walk_at "R"
def qX:GS:=(aj (dM (bN [3,4,5,6]) (ae 0)) (aF (rL (ah 2 lZ (aa (ae 1) (aa (ae 2) ag))) (cZ (ae 6)) bq)))
def iG:FD:=aP 4 qX
def AE:Ok P w K mg base "lost_on" 2 3 iG:=bx (bv T.f 41 rfl) ["frame","stand","row","wide","high","gap","most"] aD rfl λf _ A _ s H E nd hr=>by have:=sv T;delta qX;walk_at "R"
def d8:GE:=(aQ (aa (ae 2) (aa (ae 0) ag)))
def fj:GS:=(aj (gQ "Beam" "row_taken" (ae 0) (ah 3 tF (aa (cX "Beam" "frame" (ae 0)) (aa (cX "Beam" "standing" (ae 0)) (aa (ae 1) ag))))) (aj (bI (gO (cX "Beam" "laid_rows" (ae 0)) (fZ ag))) (K6 "Beam" "lost_pairs" (ae 0) (a9 (bE (ah 3 iG (aa (cX "Beam" "frame" (ae 0)) (aa (cX "Beam" "standing" (ae 0)) (aa (ae 1) ag))))) bp d8 aO))))
def eV:FD:=aP 0 fj
def qN:Om P w K mg base "Beam" "take_row" 4 2 eV:=oU (oN T.m 1 rfl) ["self","row"] aD rfl λf _ A _ s H E nd hr=>by have:=Fz T;have:=AE T;delta fj d8;walk_at "R"
def eC:GS:=(cD (fu (aH (Aq vB pR (ae 6) (ae 1) (g2 a8 (ae 6) (aJ bU (aa (ae 8) ag))))) (aH (g2 (aR true) (g2 aB (ae 8) (g2 dN (ae 1) (ae 6))) (gC (I 0))))) (bI (gO (ae 4) (aQ (aa (ae 7) (aa (ae 5) (aa (g2 aB (ae 8) (g2 dN (ae 1) (ae 6))) ag)))))) aG)
def gV:GS:=(aj (dM (bN [2,3]) (ae 0)) (aj (aL 4 (fZ ag)) (aj (gZ (bE (ae 3)) (bN [5,6,7,8]) eC) (aF (ae 4)))))
def jv:FD:=λds M=>lB M.length (aP 7 gV ds M)
def wV:Ok P w K mg base "covers_at" 1 2 jv:=kR (F:=aP 7 gV) <| bx (bv T.f 42 rfl) ["row_taken","x","inks","strips","told","number","left","rank","strip"] aD rfl λf _ A _ s H E nd hr=>by delta gV eC;walk_at "R"
def cK:GS:=(bI (ib (cX "Beam" "first_touches" (ae 0)) (aQ (aa (ae 5) (aa (ae 6) ag))) (aQ (aa (ae 2) (aa (ae 3) ag)))))
def cM:GS:=(gZ (bE (rL (ae 1) (cZ (g2 a8 (ae 4) (gC (I 1)))) bq)) (d7 6) cK)
def cS:GS:=(gZ (yo (aa (ae 1) ag)) (bN [4,5]) cM)
def eO:FD:=aP 3 cS
def nb:Om P w K mg base "Beam" "keep_touches" 1 4 eO:=oU (oN T.m 2 rfl) ["self","numbers","row","spot","at","one","other"] aD rfl λf _ A _ s H E nd hr=>by delta cS cK cM;walk_at "R"
def dP:GS:=(bI (ib (cX "Beam" "first_grounds" (ae 0)) (ae 4) (aQ (aa (ae 2) (aa (ae 3) ag)))))
def cR:GS:=(gZ (bE (ae 1)) (d7 4) dP)
def eJ:FD:=aP 1 cR
def ny:Om P w K mg base "Beam" "keep_grounds" 1 4 eJ:=oU (oN T.m 3 rfl) ["self","numbers","row","spot","number"] aD rfl λf _ A _ s H E nd hr=>by delta cR dP;walk_at "R"
def eI:GE:=(aQ (aa (tR (g2 aB (ae 0) (gC (I 0)))) (aa (g2 aB (ae 0) (gC (I 1))) ag)))
def jj:GS:=(aj (cD (gf (ae 1)) (aj (dM (bN [2,3,4]) (yp (HJ 0 eI) (ae 1))) (cD (je (aH (g2 B9 (ae 2) (gC (I 1)))) (aH (g2 (aR false) (ae 0) (gC (I 0))))) (aF (ae 4)) aG)) aG) (aF (ae 0)))
def dS:FD:=aP 3 jj
def xa:Ok P w K mg base "ink_shown" 3 2 dS:=SK (Ss T.l 0 rfl) ["floor_ink","covers","rank","number","ink"] aD rfl λf _ _ A _ s H E nd tb hr=>by delta jj eI;walk_at "R"
def eE:GE:=(ae 1)
def eZ:GS:=(aj (dM (bN [3,4]) (cX "Beam" "row_taken" (ae 0))) (aj (aL 5 (ah 2 jv (aa (cX "Beam" "row_taken" (ae 0)) (aa (ae 2) ag)))) (aj (dM (bN [6,7,8,9,10]) (cX "Beam" "standing" (ae 0))) (aj (bI (gO (g2 aB (cX "Beam" "laid_rows" (ae 0)) (tR (gC (I 1)))) (g2 aB (ae 10) (ah 2 dS (aa (g2 aB (ae 3) (ae 2)) (aa (ae 5) ag)))))) (aj (aL 11 (ce (bE (ae 5)) 3 (bN [0,1,2]) bp eE aO)) (aj (bI (dQ "Beam" "keep_touches" 4 eO (ae 0) (aa (ae 11) (aa (ae 1) (aa (ae 2) ag))))) (cD (aH (g2 (aR true) (g2 aB (ae 3) (ae 2)) (gC (I 0)))) (bI (dQ "Beam" "keep_grounds" 4 eJ (ae 0) (aa (ae 11) (aa (ae 1) (aa (ae 2) ag))))) aG)))))))
def dq:FD:=aP 9 eZ
def rB:Om P w K mg base "Beam" "lay_spot" 4 3 dq:=oU (oN T.m 4 rfl) ["self","row","spot","inks","strips","covers","floor","shift","book","movers","pots","numbers"] aD rfl λf _ A _ s H E nd hr=>by have:=wV T;have:=nb T;have:=ny T;have:=xa T;have:=rn 231 18 ["rank","number","ink"] ["self","row","spot","inks","strips","covers","floor","shift","book","movers","pots","numbers"];delta eZ eE;walk_at "R"
def cU:GS:=(aj (dM (bN [1,2]) (ah 2 lV (aa (cX "Beam" "frame" (ae 0)) (aa (cX "Beam" "ahead" (ae 0)) ag)))) (aj (cD (aH (g2 (aR false) (ae 2) (gC (I 0)))) (bI (dQ "Beam" "take_row" 2 eV (ae 0) (aa (ae 1) ag))) aG) (aj (cD (aH (g2 (sI true) (ae 2) (gC .non))) (bI (dQ "Beam" "lay_spot" 3 dq (ae 0) (aa (ae 1) (aa (ae 2) ag)))) aG) (K6 "Beam" "ahead" (ae 0) (gC (I 1))))))
def dX:FD:=aP 2 cU
def sR:Om P w K mg base "Beam" "go_tick" 5 1 dX:=oU (oN T.m 5 rfl) ["self","row","spot"] aD rfl λf _ A _ s H E nd hr=>by have:=z7 T;have:=qN T;have:=rB T;delta cU;walk_at "R"
def iH:GS:=(bI (dQ "Beam" "go_tick" 1 dX (ae 0) ag))
def gD:GT:=(aH (g2 pR (cX "Beam" "ahead" (ae 0)) (ae 2)))
def nK:GS:=(aj (aL 2 (g2 a8 (cX "Beam" "ahead" (ae 0)) (ae 1))) (aj (cD (aH (g2 Bg (ae 2) (ah 1 cb (aa (cX "Beam" "frame" (ae 0)) ag)))) (gu "Over" (gC (S "fewer ticks are left than that"))) aG) (nk 5000 gD iH)))
def nN:FD:=aP 1 nK
def Bf:Om P w K mg base "Beam" "go" 6 2 nN:=oU (oN T.m 6 rfl) ["self","many","end"] aD rfl λf _ A _ s H E nd hr=>by have:=fD T;have:=sR T;delta nK iH gD;walk_at "R"
def cV:GS:=(aF (g2 (aR false) (cX "Beam" "ahead" (ae 0)) (ah 1 cb (aa (cX "Beam" "frame" (ae 0)) ag))))
def dO:FD:=aP 0 cV
def l9:Om P w K mg base "Beam" "is_over" 3 1 dO:=oU (oN T.m 7 rfl) ["self"] aD rfl λf _ A _ s H E nd hr=>by have:=fD T;delta cV;walk_at "R"
def cW:GS:=(aj (dM (bN [3,4,5,6,7]) (ae 0)) (aj (cD (aH (g2 (aR false) (ae 1) (gC (S "move")))) (aF (aQ (aa (ae 3) (aa (g2 aB (ae 2) (gC (I 0))) (aa (g2 aB (ae 2) (gC (I 1))) (aa (ae 6) (aa (ae 7) ag))))))) aG) (aj (cD (aH (g2 (aR false) (ae 1) (gC (S "shape")))) (aF (aQ (aa (g2 aB (ae 2) (gC (I 0))) (aa (ae 4) (aa (ae 5) (aa (ae 6) (aa (ae 7) ag))))))) aG) (aj (cD (aH (g2 (aR false) (ae 1) (gC (S "rank")))) (aF (aQ (aa (ae 3) (aa (ae 4) (aa (ae 5) (aa (g2 aB (ae 2) (gC (I 0))) (aa (ae 7) ag))))))) aG) (aF (aQ (aa (ae 3) (aa (ae 4) (aa (ae 5) (aa (ae 6) (aa (g2 aB (ae 2) (gC (I 0))) ag)))))))))))
def nw:FD:=aP 5 cW
def sH:Ok P w K mg base "mover_behind" 1 3 nw:=bx (bv T.f 43 rfl) ["mover","word","parts","shape","x","y","rank","turn"] aD rfl λf _ A _ s H E nd hr=>by delta cW;walk_at "R"
def mU:GS:=(aF (g2 a8 (g2 a8 (rL (ae 0) bq (cZ (ae 1))) (aQ (aa (ae 2) ag))) (rL (ae 0) (cZ (g2 a8 (ae 1) (gC (I 1)))) bq)))
def gN:FD:=aP 0 mU
def xr:Ok P w K mg base "with_part" 1 3 gN:=bx (bv T.f 44 rfl) ["things","at","part"] aD rfl λf _ A _ s H E nd hr=>by delta mU;walk_at "R"
def iR:GS:=(aj (cD (dE (gf (ah 2 kA (aa (ae 0) (aa (ae 1) ag))))) (gu "NoDeed" (gC (S "that is no deed of the stand"))) aG) (aj (dM (bN [2,3,4,5,6]) (ae 0)) (aj (aL 7 (g2 aB (ae 1) (gC (I 0)))) (aj (cD (aH (g2 (aR false) (ae 7) (gC (S "shift")))) (aF (aQ (aa (ae 2) (aa (rL (ae 1) (cZ (gC (I 1))) bq) (aa (ae 4) (aa (ae 5) (aa (ae 6) ag))))))) aG) (aj (cD (aH (g2 (aR false) (ae 7) (gC (S "pot")))) (aF (aQ (aa (ae 2) (aa (ae 3) (aa (ae 4) (aa (ae 5) (aa (ah 3 gN (aa (ae 6) (aa (g2 aB (ae 1) (gC (I 1))) (aa (g2 aB (ae 1) (gC (I 2))) ag)))) ag))))))) aG) (aj (aL 8 (g2 aB (ae 1) (gC (I 1)))) (aj (aL 9 (ah 3 nw (aa (g2 aB (ae 5) (ae 8)) (aa (ae 7) (aa (rL (ae 1) (cZ (gC (I 2))) bq) ag))))) (aF (aQ (aa (ae 2) (aa (ae 3) (aa (ae 4) (aa (ah 3 gN (aa (ae 5) (aa (ae 8) (aa (ae 9) ag)))) (aa (ae 6) ag))))))))))))))
def fI:FD:=aP 8 iR
def sU:Ok P w K mg base "stand_behind" 6 2 fI:=bx (bv T.f 45 rfl) ["stand","deed","floor","shift","book","movers","pots","word","number","mover"] aD rfl λf _ A _ s H E nd hr=>by have:=o9 T;have:=sH T;have:=xr T;delta iR;walk_at "R"
def jm:GS:=(aj (cD (gf (dQ "Beam" "is_over" 1 dO (ae 0) ag)) (gu "Over" (gC (S "no tick is left to do a deed ahead of"))) aG) (gQ "Beam" "standing" (ae 0) (ah 2 fI (aa (cX "Beam" "standing" (ae 0)) (aa (ae 1) ag)))))
def mG:FD:=aP 0 jm
def xq:Om P w K mg base "Beam" "deed" 7 2 mG:=oU (oN T.m 8 rfl) ["self","deed"] aD rfl λf _ A _ s H E nd hr=>by have:=l9 T;have:=sU T;delta jm;walk_at "R"
def fA:GS:=(aF (cX "Beam" "ahead" (ae 0)))
def bY:FD:=aP 0 fA
def lK:Om P w K mg base "Beam" "tick" 1 1 bY:=oU (oN T.m 9 rfl) ["self"] aD rfl λf _ A _ s H E nd hr=>by delta fA;walk_at "R"
def qi:GS:=(aj (bI (dQ "Beam" "go" 2 nN (ae 3) (aa (g2 dN (ae 4) (dQ "Beam" "tick" 1 bY (ae 3) ag)) ag))) (bI (dQ "Beam" "deed" 2 mG (ae 3) (aa (ae 5) ag))))
def xT:GS:=(aj (bI (ah 3 k8 (aa (ae 0) (aa (ae 1) (aa (ae 2) ag))))) (aj (aL 3 (rY "Beam" 3 eY (aa (ae 0) (aa (ae 1) ag)))) (aj (gZ (bE (ae 2)) (bN [4,5]) qi) (aj (bI (dQ "Beam" "go" 2 nN (ae 3) (aa (g2 dN (ah 1 cb (aa (ae 0) ag)) (dQ "Beam" "tick" 1 bY (ae 3) ag)) ag))) (aF (ae 3))))))
def AD:FD:=aP 3 xT
def HP:Ok P w K mg base "laid" 12 3 AD:=bx (bv T.f 46 rfl) ["frame","stand","timed","beam","tick","deed"] aD rfl λf _ A _ s H E nd hr=>by have:=fD T;have:=vI T;have:=qM T;have:=Bf T;have:=xq T;have:=lK T;delta xT qi;walk_at "R"
def oF:GE:=(ah 3 bf (aa (ae 0) (aa (gC (I 0)) (aa (gC (I 60)) ag))))
def qK:GS:=(aj (cD (je (dE (gf (mf "tuple" (ae 2)))) (aH (g2 pR (aJ bU (aa (ae 2) ag)) (gC (I 2))))) (aF (gC (G false))) aG) (aj (Ef 3 4 (aa (g2 aB (ae 2) (gC (I 0))) (aa (rL (ae 2) (cZ (gC (I 1))) bq) ag))) (aj (cD (je (aH (g2 (aR false) (ae 3) (gC (S "wait")))) (aH (g2 (aR false) (ae 3) (gC (S "skip"))))) (aF (eR (g2 (aR false) (aJ bU (aa (ae 4) ag)) (gC (I 2))) (aJ mh (aa (a9 (bE (ae 4)) bp oF aO) ag)))) aG) (aj (cD (aH (g2 (aR true) (aJ bU (aa (ae 4) ag)) (gC (I 1)))) (aF (gC (G false))) aG) (aj (cD (aH (g2 (aR false) (ae 3) (gC (S "do")))) (aF (ah 2 kA (aa (ae 0) (aa (g2 aB (ae 4) (gC (I 0))) ag)))) aG) (aF (eR (g2 (aR false) (ae 3) (gC (S "to"))) (ah 3 bf (aa (g2 aB (ae 4) (gC (I 0))) (aa (gC (I 0)) (aa (g2 dN (ae 1) (gC (I 1))) ag)))))))))))
def qF:FD:=aP 2 qK
def Aw:Ok P w K mg base "is_line" 6 3 qF:=bx (bv T.f 47 rfl) ["stand","many","thing","word","parts"] aD rfl λf _ A _ s H E nd hr=>by have:=cj T;have:=o9 T;delta qK oF;walk_at "R"
def mW:GE:=(ah 3 qF (aa (ae 1) (aa (aJ bU (aa (ae 2) ag)) (aa (ae 0) ag))))
def oi:GS:=(aj (cD (je (dE (gf (mf "list" (ae 1)))) (aH (g2 Bg (aJ bU (aa (ae 1) ag)) (gC (I 100))))) (aF (gC (G false))) aG) (aF (aJ mh (aa (a9 (bE (ae 1)) bp mW aO) ag))))
def oR:FD:=aP 0 oi
def zg:Ok P w K mg base "is_score" 7 2 oR:=bx (bv T.f 48 rfl) ["stand","thing"] aD rfl λf _ A _ s H E nd hr=>by have:=Aw T;delta oi mW;walk_at "R"
def kW:GS:=(aj (dM (bN [2,3,4]) (ae 1)) (aF (g2 a8 (g2 jX (ae 3) (ah 1 gU (aa (ae 0) ag))) (ae 4))))
def io:FD:=aP 3 kW
def oe:Ok P w K mg base "tick_named" 2 2 io:=bx (bv T.f 49 rfl) ["frame","line","word","row","spot"] aD rfl λf _ A _ s H E nd hr=>by have:=kU T;delta kW;walk_at "R"
def iK:GS:=(aj (cD (aH (g2 (aR false) (g2 aB (ae 1) (gC (I 0))) (gC (S "wait")))) (aF (aJ Ax (aa (ae 2) (aa (ah 2 io (aa (ae 0) (aa (ae 1) ag))) ag)))) aG) (aF (ae 2)))
def iN:FD:=aP 0 iK
def sV:Ok P w K mg base "tick_of_line" 3 3 iN:=bx (bv T.f 50 rfl) ["frame","line","tick"] aD rfl λf _ A _ s H E nd hr=>by have:=oe T;delta iK;walk_at "R"
def iQ:GS:=(aj (cD (aH (g2 (aR false) (g2 aB (ae 1) (gC (I 0))) (gC (S "to")))) (aF (g2 aB (ae 1) (gC (I 1)))) aG) (aj (cD (fu (aH (g2 (aR false) (g2 aB (ae 1) (gC (I 0))) (gC (S "skip")))) (aH (g2 B9 (ae 3) (ah 2 io (aa (ae 0) (aa (ae 1) ag)))))) (aF (g2 a8 (ae 2) (gC (I 2)))) aG) (aF (g2 a8 (ae 2) (gC (I 1))))))
def jc:FD:=aP 0 iQ
def sM:Ok P w K mg base "place_behind" 3 4 jc:=bx (bv T.f 51 rfl) ["frame","line","place","tick"] aD rfl λf _ A _ s H E nd hr=>by have:=oe T;delta iQ;walk_at "R"
def jD:GS:=(aj (aL 7 (g2 aB (ae 2) (ae 5))) (aj (aL 6 (ah 3 iN (aa (ae 0) (aa (ae 7) (aa (ae 6) ag))))) (aj (cD (aH (g2 B9 (ae 6) (ah 1 cb (aa (ae 0) ag)))) (aF (ae 4)) aG) (aj (cD (aH (g2 (aR false) (g2 aB (ae 7) (gC (I 0))) (gC (S "do")))) (bI (gO (ae 4) (aQ (aa (ae 6) (aa (g2 aB (ae 7) (gC (I 1))) ag))))) aG) (aj (aL 5 (ah 4 jc (aa (ae 0) (aa (ae 7) (aa (ae 5) (aa (ae 6) ag)))))) (G8 6 true (ae 3)))))))
def jz:GT:=(aH (g2 pR (ae 5) (aJ bU (aa (ae 2) ag))))
def lR:GS:=(aj (bI (ah 2 bQ (aa (ae 0) (aa (ae 1) ag)))) (aj (cD (dE (gf (ah 2 oR (aa (ae 1) (aa (ae 2) ag))))) (gu "NoScore" (gC (S "that is no score of the stand"))) aG) (aj (aL 4 (fZ ag)) (aj (aL 5 (gC (I 0))) (aj (aL 6 (gC (I 0))) (aj (nk 5000 jz jD) (aF (ae 4))))))))
def og:FD:=λds M=>lB M.length (aP 4 lR ds M)
def zV:Ok P w K mg base "deeds_by" 10 4 og:=kR (F:=aP 4 lR) <| bx (bv T.f 52 rfl) ["frame","stand","score","pace","timed","place","tick","line"] aD rfl λf _ A _ s H E nd hr=>by have:=iZ T;have:=fD T;have:=zg T;have:=sV T;have:=sM T;delta lR jD jz;walk_at "R"
def ui:GS:=(aF (ah 3 AD (aa (ae 0) (aa (ae 1) (aa (ah 4 og (aa (ae 0) (aa (ae 1) (aa (ae 2) (aa (ae 3) ag))))) ag)))))
def zS:FD:=aP 0 ui
def Di:Ok P w K mg base "played" 13 4 zS:=bx (bv T.f 53 rfl) ["frame","stand","score","pace"] aD rfl λf _ A _ s H E nd hr=>by have:=HP T;have:=zV T;delta ui;walk_at "R"
def gM:GS:=(aj (dM (bN [2,3,4,5,6]) (ae 0)) (aj (cD (aH (g2 (aR false) (g2 aB (ae 1) (gC (I 0))) (gC (S "shift")))) (aF (aQ (aa (ae 2) (aa (rL (ae 1) (cZ (gC (I 1))) bq) (aa (ae 4) (aa (ae 5) (aa (ae 6) ag))))))) aG) (aj (cD (aH (g2 (aR false) (g2 aB (ae 1) (gC (I 0))) (gC (S "pot")))) (aF (aQ (aa (ae 2) (aa (ae 3) (aa (ae 4) (aa (ae 5) (aa (g2 a8 (g2 a8 (rL (ae 6) bq (cZ (g2 aB (ae 1) (gC (I 1))))) (aQ (aa (g2 aB (ae 1) (gC (I 2))) ag))) (rL (ae 6) (cZ (g2 a8 (g2 aB (ae 1) (gC (I 1))) (gC (I 1)))) bq)) ag))))))) aG) (aj (aL 7 (aJ ze (aa (g2 aB (ae 5) (g2 aB (ae 1) (gC (I 1)))) ag))) (aj (cD (aH (g2 (aR false) (g2 aB (ae 1) (gC (I 0))) (gC (S "move")))) (Ia (ae 7) (gC (I 1)) (gC (I 3)) (jf (aa (g2 aB (ae 1) (gC (I 2))) (aa (g2 aB (ae 1) (gC (I 3))) ag)))) (rA (ae 7) (J9 [("shape",0),("rank",3),("turn",4)] (g2 aB (ae 1) (gC (I 0)))) (g2 aB (ae 1) (gC (I 2))))) (aF (aQ (aa (ae 2) (aa (ae 3) (aa (ae 4) (aa (g2 a8 (g2 a8 (rL (ae 5) bq (cZ (g2 aB (ae 1) (gC (I 1))))) (aQ (aa (aJ dm (aa (ae 7) ag)) ag))) (rL (ae 5) (cZ (g2 a8 (g2 aB (ae 1) (gC (I 1))) (gC (I 1)))) bq)) (aa (ae 6) ag))))))))))))
def jM:FD:=λds M=>lB M.length (aP 6 gM ds M)
def tV:Ok P w K mg base "_law_behind" 1 2 jM:=kR (F:=aP 6 gM) <| bx (bv T.f 54 rfl) ["stand","deed","floor","shift","book","movers","pots","mover"] aD rfl λf _ A _ s H E nd hr=>by delta gM;walk_at "R"
def jN:GS:=(aj (dM (bN [4,5,6,7,8]) (g2 aB (g2 aB (ae 0) (gC (I 3))) (ae 3))) (cD (fu (aH (g2 (sI true) (ae 4) (gC .non))) (fu (aH (g2 vB (ae 6) (ae 1))) (aH (g2 pR (ae 1) (g2 a8 (ae 6) (aJ bU (aa (g2 aB (g2 aB (ae 0) (gC (I 2))) (ae 4)) ag))))))) (bI (gO (ae 2) (ae 3))) aG))
def il:GS:=(aj (aL 2 (fZ ag)) (aj (gZ (ft (aa (aJ bU (aa (g2 aB (ae 0) (gC (I 3))) ag)) ag)) (d7 3) jN) (aF (ae 2))))
def d5:FD:=λds M=>lB M.length (aP 7 il ds M)
def nT:Ok P w K mg base "_law_lying" 1 2 d5:=kR (F:=aP 7 il) <| bx (bv T.f 55 rfl) ["stand","row","found","number","shape","x","y","rank","turn"] aD rfl λf _ A _ s H E nd hr=>by delta il jN;walk_at "R"
def gJ:GE:=(g2 aB (g2 aB (ae 1) (ae 3)) (g2 dN (g2 dN (aJ bU (aa (g2 aB (ae 1) (ae 3)) ag)) (gC (I 1))) (ae 0)))
def lJ:GS:=(aj (cD (aH (g2 (aR false) (g2 hZ (ae 1) (gC (I 2))) (gC (I 1)))) (aL 2 (g2 dN (g2 dN (aJ bU (aa (ae 0) ag)) (gC (I 1))) (ae 2))) aG) (aj (cD (aH (g2 (aR false) (g2 ky (ae 1) (gC (I 2))) (gC (I 0)))) (aF (g2 aB (ae 0) (ae 2))) aG) (aF (aJ dm (aa (a9 (ft (aa (aJ bU (aa (g2 aB (ae 0) (ae 2)) ag)) ag)) bp gJ aO) ag)))))
def lL:FD:=aP 0 lJ
def vK:Ok P w K mg base "_law_strip" 1 3 lL:=bx (bv T.f 56 rfl) ["shape","turn","row"] aD rfl λf _ A _ s H E nd hr=>by delta lJ gJ;walk_at "R"
def jO:GS:=(aj (dM (bN [8,9,10,11,12]) (g2 aB (g2 aB (ae 1) (gC (I 3))) (ae 7))) (bI (gO (ae 6) (aQ (aa (ae 7) (aa (ae 9) (aa (ae 11) (aa (ah 3 lL (aa (g2 aB (g2 aB (ae 1) (gC (I 2))) (ae 8)) (aa (ae 12) (aa (g2 dN (ae 2) (ae 10)) ag)))) ag))))))))
def jV:GE:=(g2 aB (ae 6) (g2 ky (g2 a8 (ae 0) (g2 aB (ae 5) (gC (I 0)))) (aJ bU (aa (ae 6) ag))))
def ie:GS:=(aj (dM (bN [3,4]) (rL (ae 1) bq (cZ (gC (I 2))))) (aj (aL 5 (g2 aB (ae 3) (g2 ky (g2 a8 (ae 2) (g2 aB (ae 4) (gC (I 1)))) (aJ bU (aa (ae 3) ag))))) (aj (aL 6 (fZ ag)) (aj (gZ (bE (rL (ah 2 d5 (aa (ae 1) (aa (ae 2) ag))) bq (cZ (g2 aB (ae 0) (gC (I 3)))))) (d7 7) jO) (aF (aQ (aa (aJ dm (aa (a9 (ft (aa (g2 aB (ae 0) (gC (I 0))) ag)) bp jV aO) ag)) (aa (aJ dm (aa (ae 6) ag)) ag))))))))
def iy:FD:=λds M=>lB M.length (aP 10 ie ds M)
def vV:Ok P w K mg base "_law_taken" 2 3 iy:=kR (F:=aP 10 ie) <| bx (bv T.f 57 rfl) ["frame","stand","row","floor","shift","inks","strips","number","shape","x","y","rank","turn"] aD rfl λf _ A _ s H E nd hr=>by have:=nT T;have:=vK T;have:=rn 406 18 ["x"] ["frame","stand","row","floor","shift","inks","strips","number","shape","x.","y","rank","turn"];delta ie jO jV;walk_at "R"
def jY:GS:=(cD (fu (aH (g2 vB (ae 4) (ae 1))) (fu (aH (g2 pR (ae 1) (g2 a8 (ae 4) (aJ bU (aa (ae 6) ag))))) (aH (g2 (aR true) (g2 aB (ae 6) (g2 dN (ae 1) (ae 4))) (gC (I 0)))))) (bI (gO (ae 2) (aQ (aa (ae 5) (aa (g2 dN (gC (I 0)) (ae 3)) (aa (g2 aB (ae 6) (g2 dN (ae 1) (ae 4))) ag)))))) aG)
def iz:GS:=(aj (aL 2 (fZ ag)) (aj (gZ (bE (g2 aB (ae 0) (gC (I 1)))) (bN [3,4,5,6]) jY) (aF (ae 2))))
def eG:FD:=λds M=>lB M.length (aP 5 iz ds M)
def nX:Ok P w K mg base "_law_cover" 1 2 eG:=kR (F:=aP 5 iz) <| bx (bv T.f 58 rfl) ["row_here","x","found","number","left","rank","inks"] aD rfl λf _ A _ s H E nd hr=>by delta iz jY;walk_at "R"
def jx:GE:=(ae 0)
def jw:GT:=(aH (g2 Bg (g2 aB (ae 0) (gC (I 0))) (gC (I 0))))
def oj:GS:=(aj (aL 2 (ah 2 eG (aa (ae 0) (aa (ae 1) ag)))) (aj (aL 3 (a9 (bE (ae 2)) jw jx aO)) (aj (cD (aH (g2 (aR true) (ae 3) (jf ag))) (aF (g2 aB (aJ uC (aa (ae 3) ag)) (gC (I 2)))) aG) (aj (cD (je (aH (g2 (aR true) (g2 aB (g2 aB (ae 0) (gC (I 0))) (ae 1)) (gC (I 0)))) (aH (g2 (aR false) (ae 2) (jf ag)))) (aF (g2 aB (g2 aB (ae 0) (gC (I 0))) (ae 1))) aG) (aF (g2 aB (aJ uC (aa (ae 2) ag)) (gC (I 2))))))))
def gq:FD:=aP 2 oj
def zG:Ok P w K mg base "_law_ink" 2 2 gq:=bx (bv T.f 59 rfl) ["row_here","x","found","above"] aD rfl λf _ A _ s H E nd hr=>by have:=nX T;delta oj jx jw;walk_at "R"
def fT:GS:=(aj (aL 1 (ah 2 jM (aa (ae 1) (aa (g2 aB (g2 aB (ae 2) (ae 6)) (gC (I 1))) ag)))) (aL 6 (g2 a8 (ae 6) (gC (I 1)))))
def cN:GT:=(fu (aH (g2 pR (ae 6) (aJ bU (aa (ae 2) ag)))) (aH (g2 (aR false) (g2 aB (g2 aB (ae 2) (ae 6)) (gC (I 0))) (ae 7))))
def ii:GE:=(aQ (aa (ae 9) (aa (ae 0) ag)))
def fW:GE:=(g2 dN (gC (I 0)) (g2 aB (ae 0) (gC (I 1))))
def lC:GS:=(bI (ib (g2 aB (ae 4) (gC (I 1))) (aQ (aa (g2 aB (ae 10) (ae 11)) (aa (ae 12) ag))) (aQ (aa (ae 8) (aa (ae 9) ag)))))
def dZ:GS:=(aj (gZ (bE (rL (ae 10) (cZ (g2 a8 (ae 11) (gC (I 1)))) bq)) (d7 12) lC) (cD (aH (g2 (aR true) (g2 aB (g2 aB (ae 5) (gC (I 0))) (ae 9)) (gC (I 0)))) (bI (ib (g2 aB (ae 4) (gC (I 2))) (g2 aB (ae 10) (ae 11)) (aQ (aa (ae 8) (aa (ae 9) ag))))) aG))
def fH:GS:=(aj (nk 5000 cN fT) (aj (aL 8 (g2 hZ (ae 7) (g2 a8 (g2 aB (ae 0) (gC (I 0))) (g2 aB (ae 0) (gC (I 2)))))) (aj (aL 9 (g2 ky (ae 7) (g2 a8 (g2 aB (ae 0) (gC (I 0))) (g2 aB (ae 0) (gC (I 2)))))) (aj (cD (aH (g2 (aR false) (ae 9) (gC (I 0)))) (aj (aL 5 (ah 3 iy (aa (ae 0) (aa (ae 1) (aa (ae 8) ag))))) (aj (bI (gO (g2 aB (ae 4) (gC (I 0))) (fZ ag))) (rA (ae 4) (gC (I 3)) (g2 a8 (g2 aB (ae 4) (gC (I 3))) (a9 (bE (rL (ah 2 d5 (aa (ae 1) (aa (ae 8) ag))) (cZ (g2 aB (ae 0) (gC (I 3)))) bq)) bp ii aO))))) aG) (cD (aH (g2 pR (ae 9) (g2 aB (ae 0) (gC (I 0))))) (aj (bI (gO (g2 aB (g2 aB (ae 4) (gC (I 0))) (tR (gC (I 1)))) (g2 aB (g2 aB (ae 1) (gC (I 4))) (ah 2 gq (aa (ae 5) (aa (ae 9) ag)))))) (aj (aL 10 (a9 (bE (ah 2 eG (aa (ae 5) (aa (ae 9) ag)))) bp fW aO)) (gZ (ft (aa (aJ bU (aa (ae 10) ag)) ag)) (d7 11) dZ))) aG)))))
def js:GS:=(aj (aL 4 (fZ (aa (fZ ag) (aa wF (aa wv (aa (jf ag) (aa (ae 1) ag))))))) (aj (aL 5 (gC .non)) (aj (aL 6 (gC (I 0))) (aj (gZ (ft (aa (ae 3) ag)) (d7 7) fH) (aj (rA (ae 4) (gC (I 4)) (ae 1)) (aF (ae 4)))))))
def m9:FD:=aP 9 js
def xY:Ok P w K mg base "_law_laid" 3 4 m9:=bx (bv T.f 60 rfl) ["frame","stand","timed","many","seen","row_here","at","tick","row","x","numbers","k","other"] aD rfl λf _ A _ s H E nd hr=>by have:=tV T;have:=nT T;have:=vV T;have:=nX T;have:=zG T;delta js fT cN ii fW lC dZ fH;walk_at "R"
def iD:GS:=(aj (aL 7 (g2 aB (ae 1) (ae 5))) (aj (cD (fu (aH (g2 (aR false) (g2 aB (ae 7) (gC (I 0))) (gC (S "wait")))) (aH (g2 Bg (g2 a8 (g2 jX (g2 aB (ae 7) (gC (I 1))) (ae 3)) (g2 aB (ae 7) (gC (I 2)))) (ae 6)))) (aL 6 (g2 a8 (g2 jX (g2 aB (ae 7) (gC (I 1))) (ae 3)) (g2 aB (ae 7) (gC (I 2))))) aG) (aj (cD (aH (g2 Bg (ae 6) (g2 dN (g2 jX (ae 3) (g2 aB (ae 0) (gC (I 1)))) (gC (I 1))))) (aF (ae 4)) aG) (aj (aL 8 (g2 a8 (ae 5) (gC (I 1)))) (aj (cD (aH (g2 (aR false) (g2 aB (ae 7) (gC (I 0))) (gC (S "do")))) (bI (gO (ae 4) (aQ (aa (ae 6) (aa (g2 aB (ae 7) (gC (I 1))) ag))))) aG) (aj (cD (aH (g2 (aR false) (g2 aB (ae 7) (gC (I 0))) (gC (S "to")))) (aL 8 (g2 aB (ae 7) (gC (I 1)))) aG) (aj (cD (fu (aH (g2 (aR false) (g2 aB (ae 7) (gC (I 0))) (gC (S "skip")))) (aH (g2 vB (g2 a8 (g2 jX (g2 aB (ae 7) (gC (I 1))) (ae 3)) (g2 aB (ae 7) (gC (I 2)))) (ae 6)))) (aL 8 (g2 a8 (ae 5) (gC (I 2)))) aG) (aj (aL 5 (ae 8)) (aL 6 (g2 a8 (ae 6) (ae 2)))))))))))
def ig:GT:=(aH (g2 pR (ae 5) (aJ bU (aa (ae 1) ag))))
def jH:GS:=(aj (aL 3 (g2 a8 (g2 aB (ae 0) (gC (I 0))) (g2 aB (ae 0) (gC (I 2))))) (aj (aL 4 (fZ ag)) (aj (aL 5 (gC (I 0))) (aj (aL 6 (gC (I 0))) (aj (nk 5000 ig iD) (aF (ae 4)))))))
def mF:FD:=λds M=>lB M.length (aP 6 jH ds M)
def yi:Ok P w K mg base "_law_hand" 1 3 mF:=kR (F:=aP 6 jH) <| bx (bv T.f 61 rfl) ["frame","score","pace","row","found","here","tick","line","later"] aD rfl λf _ A _ s H E nd hr=>by delta jH iD ig;walk_at "R"
def h8:GS:=(aF (cX "Beam" "standing" (ae 0)))
def fU:FD:=aP 0 h8
def vE:Om P w K mg base "Beam" "stand" 1 1 fU:=oU (oN T.m 10 rfl) ["self"] aD rfl λf _ A _ s H E nd hr=>by delta h8;walk_at "R"
def fc:GE:=(aJ nD (aa (ae 0) ag))
def fN:GS:=(aF (a9 (bE (cX "Beam" "laid_rows" (ae 0))) bp fc aO))
def dR:FD:=aP 0 fN
def sK:Om P w K mg base "Beam" "picture" 1 1 dR:=oU (oN T.m 11 rfl) ["self"] aD rfl λf _ A _ s H E nd hr=>by delta fN fc;walk_at "R"
def gW:GE:=(g2 a8 (ae 0) (ae 1))
def fG:GS:=(aF (aJ zF (aa (fL 2 (bN [0,1]) gW (cX "Beam" "first_touches" (ae 0))) ag)))
def fK:FD:=aP 0 fG
def sQ:Om P w K mg base "Beam" "touches" 1 1 fK:=oU (oN T.m 12 rfl) ["self"] aD rfl λf _ A _ s H E nd hr=>by have:=rn 249 22 ["pair","place"] ["self"];delta fG gW;walk_at "R"
def gX:GE:=(g2 a8 (aQ (aa (ae 0) ag)) (ae 1))
def fV:GS:=(aF (aJ zF (aa (fL 2 (bN [0,1]) gX (cX "Beam" "first_grounds" (ae 0))) ag)))
def fP:FD:=aP 0 fV
def sN:Om P w K mg base "Beam" "grounds" 1 1 fP:=oU (oN T.m 13 rfl) ["self"] aD rfl λf _ A _ s H E nd hr=>by have:=rn 252 22 ["number","place"] ["self"];delta fV gX;walk_at "R"
def jy:GS:=(aF (aJ nD (aa (cX "Beam" "lost_pairs" (ae 0)) ag)))
def ji:FD:=aP 0 jy
def ya:Om P w K mg base "Beam" "lost" 1 1 ji:=oU (oN T.m 14 rfl) ["self"] aD rfl λf _ A _ s H E nd hr=>by delta jy;walk_at "R"
def dh:GE:=(g2 a8 (ae 0) (g2 AF (g2 aB (ae 2) (gC (I 1))) (ae 0)))
def df:GE:=(g2 a8 (aQ (aa (ae 0) ag)) (g2 wz (g2 aB (ae 2) (gC (I 2))) (ae 0)))
def dH:GS:=(aj (aL 3 (a9 (bE (aJ nB (aa (g2 aB (ae 1) (gC (I 1))) ag))) bp dh aO)) (aj (aL 4 (a9 (bE (aJ nB (aa (g2 aB (ae 1) (gC (I 2))) ag))) bp df aO)) (aj (cD (je (aH (g2 (aR true) (dQ "Beam" "tick" 1 bY (ae 0) ag) (ae 2))) (je (aH (g2 (aR true) (dQ "Beam" "stand" 1 fU (ae 0) ag) (g2 aB (ae 1) (gC (I 4))))) (aH (g2 (Lb true) (dQ "Beam" "picture" 1 dR (ae 0) ag) (g2 aB (ae 1) (gC (I 0))))))) (aF (gC (G false))) aG) (aF (eR (g2 (aR false) (dQ "Beam" "touches" 1 fK (ae 0) ag) (ae 3)) (eR (g2 (aR false) (dQ "Beam" "grounds" 1 fP (ae 0) ag) (ae 4)) (g2 (aR false) (dQ "Beam" "lost" 1 ji (ae 0) ag) (g2 aB (ae 1) (gC (I 3))))))))))
def fR:FD:=aP 2 dH
def o4:Ok P w K mg base "_law_seen_right" 2 3 fR:=bx (bv T.f 62 rfl) ["beam","seen","many","touches","grounds"] aD rfl λf _ A _ s H E nd hr=>by have:=lK T;have:=vE T;have:=sK T;have:=sQ T;have:=sN T;have:=ya T;delta dH dh df;walk_at "R"
def xX:GS:=(aj (aL 3 (ah 2 lW (aa (ae 1) (aa (gC (I 12)) ag)))) (aj (aL 4 (ah 3 kS (aa (ae 1) (aa (ae 3) (aa (gC (I 4)) ag))))) (aj (aL 5 (ah 3 lg (aa (ae 1) (aa (ae 3) (aa (ae 4) ag))))) (aj (aL 6 (g2 a8 (gC (I 1)) (ah 2 aq (aa (ae 1) (aa (gC (I 8)) ag))))) (aj (aL 7 (g2 jX (g2 aB (ae 3) (gC (I 1))) (g2 a8 (g2 aB (ae 3) (gC (I 0))) (g2 aB (ae 3) (gC (I 2)))))) (aj (aL 8 (ah 4 zS (aa (ae 3) (aa (ae 4) (aa (aJ nD (aa (ae 5) ag)) (aa (ae 6) ag)))))) (aj (cD (je (aH (g2 (sI true) (dQ "Beam" "is_over" 1 dO (ae 8) ag) (gC (G true)))) (aH (g2 (aR true) (dQ "Beam" "tick" 1 bY (ae 8) ag) (ae 7)))) (aF (gC (G false))) aG) (aj (aL 9 (ah 4 m9 (aa (ae 3) (aa (ae 4) (aa (ah 3 mF (aa (ae 3) (aa (ae 5) (aa (ae 6) ag)))) (aa (ae 7) ag)))))) (cD (dE (gf (ah 3 fR (aa (ae 8) (aa (ae 9) (aa (ae 7) ag)))))) (aF (gC (G false))) aG)))))))))
def E7:GS:=(aj (aL 1 (fZ (aa (aJ nD (aa (ae 0) ag)) (aa (gC (I 0)) (aa (gC (I 0)) ag))))) (aj (gZ (ft (aa (gC (I 3)) ag)) (d7 2) xX) (aF (gC (G true)))))
def zz:FD:=aP 9 E7
def My{f:Ul}{fd:VL} (F:Fn K mg "law" KI f fd ["script"]):eM P w K mg base (jF P w) 14 f fd ["script"] (sC K 1 zz):=MK F.F (N:=["script","tape","turn","frame","stand","score","pace","total","beam","seen"]) aD rfl λ_ A _ s H E hr=>by
 have nd:(["script","tape","turn","frame","stand","score","pace","total","beam","seen"]:List Str).Nodup:=by decide +kernel
 have:=bT T;have:=vF T;have:=vC T;have:=vj T;have:=l9 T;have:=lK T;have:=Di T;have:=xY T;have:=yi T;have:=o4 T;delta E7 xX;walk_at "R"
end
end K27
section
open PySem PySem.W PyProof.Rows
local macro_rules | `(tactic| o_head $H) => `(tactic| (
 refine holds_open (q:=K27.VV) (loose:=[]) (Xt:=(λs=>xlAt K27.VV [] s&&recOk (abV (abh (Xf PySem.Challenge.rw_glowrow_k27_whole_scores_played))) s)) (XP:=XL K27.VV []) (Yf:=Hook.obs $H) (Ya:=Hook.val $H) (YP:=Hook.says $H) (N:=8632) ?hl (Hook.of $H) (Hook.keeps $H) (λs e=>xl_of s (UE.mp e).1) XL.keeps (by rfl) (by rfl) (by rfl) (λs e=>recFacts_of (UE.mp e).2) (by rfl) (by first|assumption|decide +kernel) (by decide +kernel) ⟨rfl,rfl,rfl,rfl,rfl,by decide +kernel⟩ ?hw ?hc;
 (case hl=>
  refine Hd.left_km (boot_open (by kernel_rfl) rfl (λs=>by kernel_rfl)) (λw=>by kernel_rfl) K27.h1 K27.h2 K27.h3 ?_;intro w os;unfold Hd.RT;rw[W.Fast.te15732481512506401174,W.Fast.te2530740449226627131];kernel_rfl)))
set_option hygiene false
local macro_rules | `(tactic| walk_at "us") => `(tactic| first | rfl | (exfalso; simp at hl; done) | (cases us with | nil => (first | rfl | cases hl) | cons _ us => walk_at "us"))
local macro_rules | `(tactic| walk_at "kc") => `(tactic| refine' DL.Qx KX G ?y0 ?y1 ?y2 ?y3 ?y4 ?y5 ?y6; (case y0 => k_is); (case y1 => k_is); (case y2 => k_is); (case y3 => k_is); (case y4 => k_is); (case y5 => k_is); (case y6 => k_is))
local macro_rules | `(tactic| walk_at "ec") => `(tactic| refine' DL.O9 KX G ?w0 ?w1 ?w2 ?w3 ?w4 ?w5 ?w6 ?w7 ?w8 ?w9 ?w10 ?w11; (case w0 => k_is); (case w1 => k_is); (case w2 => k_is); (case w3 => k_is); (case w4 => k_is); (case w5 => k_is); (case w6 => k_is); (case w7 => k_is); (case w8 => k_is); (case w9 => k_exc); (case w10 => k_is); (case w11 => k_is))
local macro_rules | `(tactic| walk_at "ff") => `(tactic| (refine' DL.PD KX G ?x0 ?x1 ?x2 ?x3 ?x4; (case x0 => k_is); (case x1 => k_is); (case x2 => k_is); (case x3 => k_is); (case x4 => (intro _ _ _ _ _ _ us hl; walk_at "us"))))
local macro_rules | `(tactic| walk_at "mf") => `(tactic| (refine' DL.Rc ?x0 ?x1 ?x2 ?x3 ?x4 ?x5 ?x6; (case x0 => walk_at "kc"); (case x1 => k_is); (case x2 => k_is); (case x3 => k_is); (case x4 => k_is); (case x5 => k_is); (case x6 => (intro _ _ _ _ _ _ us hl; walk_at "us"))))
local macro_rules | `(tactic| walk_at "im") => `(tactic| (refine' DL.im_mk ?v0 ?v1; (case v0 => walk_at "ec"); (case v1 => k_is)))
local macro_rules | `(tactic| walk_at "lf") => `(tactic| (refine' DL.PB KX G ?x0 ?x1 ?x2 ?x3 ?x4 ?x5 ?x6 ?x7 ?x8 ?x9 ?x10 ?x11 ?x12 ?x13 ?x14; (case x0 => k_is); (case x1 => k_is); (case x2 => k_is); (case x3 => k_is); (case x4 => k_is); (case x5 => rfl); (case x6 => rfl); (case x7 => rfl); (case x8 => rfl); (case x9 => rfl); (case x10 => rfl); (case x11 => decide); (case x12 => decide); (case x13 => (refine DL.yG (fun z => absurd rfl z) (fun _ => ?y_table_within) (fun _ => ?y_slots_given) (fun _ => ?y_cast_on_slots); (case y_table_within => k_is); (case y_slots_given => k_is); (case y_cast_on_slots => k_is))); (case x14 => (intro _ _ _ _ _ _ us hl; walk_at "us"))))
set_option maxRecDepth 100000 in
set_option maxHeartbeats 0 in
def K27.pre (ht:∀ns:List Int,ns.length<=63->∃M',K27.zz [.ro (ns.map DL.D.int)] []=.ok (.bl true) M'):PySem.Challenge.rw_glowrow_k27_whole_scores_played.Holds:=by
 w_on;refine holds_law (Hd.said_of K27.s1 K27.s2 K27.s3 K27.s4) λsaid=>?_;k_head;(case hw=>w_witness2)
 k_fill
 refine DL.Iu (l:=PySem.Challenge.rw_glowrow_k27_whole_scores_played) (n:=63) (k:=14) (x:="script") (F:=K27.zz) rfl (by decide) rfl ⟨rfl,by decide,by decide⟩ (λw h Y=>W.km_in_of Y) ?F ?T ht
 case F=>
  intro w mg fa h KX G hmg;refine DL.ND (st:=K27.KI) hmg ?L (λbase f fd L=>K27.My ?TT L) (λ_ _ _ _ _ _ _=>rfl)
  (case TT=>
   refine DL.Tx.mk ?q0 ?q1 ?q2 ?q3 ?q4 ?q5 ?q6 ?q7 ?q8 ?q9
   (case q0=>((repeat (refine' DL.Ls.cons ?x ?_;(case x=>(walk_at "ff"))));exact DL.Ls.nil))
   (case q1=>((repeat (refine' DL.Ls.cons ?x ?_;(case x=>(walk_at "mf"))));exact DL.Ls.nil))
   (case q2=>((repeat (refine' DL.Ls.cons ?x ?_;(case x=>(walk_at "lf"))));exact DL.Ls.nil))
   (case q3=>((repeat (refine' DL.Ls.cons ?x ?_;(case x=>(refine' DL.Te KX G ?x0;(case x0=>k_is)))));exact DL.Ls.nil))
   (case q4=>((repeat (refine' DL.Ls.cons ?x ?_;(case x=>(refine' DL.Qk ?x0;(case x0=>walk_at "ec")))));exact DL.Ls.nil))
   (case q5=>((repeat (refine' DL.Ls.cons ?x ?_;(case x=>(refine' DL.OY ?u0 ?u1;(case u0=>walk_at "ec");(case u1=>((repeat (refine' DL.Ls.cons ?u2 ?_;(case u2=>walk_at "im")));exact DL.Ls.nil))))));exact DL.Ls.nil))
   (case q6=>((repeat (refine' DL.Ls.cons ?x ?_;(case x=>(walk_at "im"))));exact DL.Ls.nil))
   (case q7=>((repeat (refine' DL.Ls.cons ?x ?_;(case x=>(refine' DL.Qv ?x0 ?x1;(case x0=>walk_at "kc");(case x1=>k_is)))));exact DL.Ls.nil))
   (case q8=>((repeat (refine' DL.Ls.cons ?x ?_;(case x=>(refine' DL.PY (u:=PySem.Value.str _) KX G ?x0;(case x0=>k_is)))));exact DL.Ls.nil))
   (case q9=>((repeat (refine' DL.Ls.cons ?x ?_;(case x=>(refine' DL.PY (u:=PySem.Value.int _) KX G ?x0;(case x0=>k_is)))));exact DL.Ls.nil)))
  (case L=>walk_at "ff")
 case T=>
  intro w;refine' DL.Jh (DL.DU (x:="ink_shown") ?zL (DL.LK ?xu ?xS ?xL ?xh ?xH) ?Ag DL.Gz) (DL.yG (.inr ⟨_,.head _,rfl⟩) (.inl ?e_table_within) (.inl ?e_slots_given) (.inl ?e_cast_on_slots)) ?bm ?bl
  (case zL=>rfl)
  (case xu=>k_is)
  (case xS=>k_is)
  (case xL=>rfl)
  (case xh=>k_is)
  (case xH=>rfl)
  (case Ag=>kernel_rfl)
  (case e_table_within=>k_is)
  (case e_slots_given=>k_is)
  (case e_cast_on_slots=>k_is)
  (case bm=>k_is)
  (case bl=>kernel_rfl)
end
namespace K27
open PySem PySem.Spec PyProof.Rows L2 DL List
open D renaming int → I,tup → U,mr → R,str → S,bl → G
open bc renaming ok → O
set_option hygiene false
local macro_rules | `(tactic| simp_arith!) => `(tactic| first
  | ((fail_if_success fail_if_success with_reducible apply SS);refine R4 rfl ?_)
  | with_reducible refine O4 ?_
  | ((fail_if_success fail_if_success with_reducible apply Q0);refine bZ rfl ?_)
  | ((fail_if_success fail_if_success with_reducible apply Sw);refine Q8 rfl ?_)
  | ((fail_if_success fail_if_success with_reducible apply LH);refine JT rfl rfl ?_)
  | ((fail_if_success fail_if_success with_reducible apply Rj);refine NZ rfl ?_)
  | with_reducible refine QU ?_
  | with_reducible refine QQ ?_
  | with_reducible refine Ps ?_
  | with_reducible refine Py ?_
  | ((with_reducible apply Qg);first|omega|assumption|exact of_decide_eq_true rfl)
  | ((with_reducible apply Qh);first|omega|assumption|exact of_decide_eq_false rfl)
  | with_reducible refine Ks (λhc=>?_) (λhc=>?_)
  | refine T4 ?_
  | ((with_reducible apply Ev.r);first|with_reducible assumption|exact rfl|exact dj rfl|exact AZ (by assumption)|exact dj (by assumption))
  | ((with_reducible apply Ar.mk);first|exact V3 rfl|omega|rfl)
  | ((with_reducible apply S8.mk);exact rfl)
  | ((with_reducible apply RD.mk);first|exact sD _ _|assumption)
  | ((with_reducible apply TB.mk);exact O2 (by assumption))
  | ((with_reducible apply RQ.mk true);decide +kernel)
  | ((with_reducible apply RQ.mk false);decide +kernel)
  | with_reducible refine bZ (by assumption) ?_
  | ((with_reducible show tj _ _ _);first|refine Lk (b:=true) rfl (Ps ?_)|refine Lk (b:=false) rfl (Py ?_))
  | simp_all_arith!)
local macro_rules | `(tactic| simp_all_arith) => `(tactic| repeat' simp_arith!)
local macro_rules | `(tactic| simp_arith) => `(tactic| repeat' (fail_if_success with_reducible show Wp (aj _ _ _ _) _); simp_arith!)
def tp (l:List Int)(i c:Int):MO:=.lst [.lst (l.map I),I i,I c]
def dL (l:List Int)(rest:ay)(M:ay):Prop:=∃i c,0<=i/\M=tp l i c::rest
def ET {l:List Int}{k:Int}(h0:0<=k)(h1:k<l.length):∃v,wa (l.map I) k=Z (I v):=by
 obtain⟨n,rfl⟩:=Us h0;exact⟨l[n],gK (by simp)⟩
section
variable {l:List Int}{rest M:ay}{Q:D->ay->Prop}
def xx {many:Int}(t:dL l rest M)(hm:0<many)(h2:many<=1000000)(k:∀f M',0<=f->f<many->dL l rest M'->Q (I f) M'):Wp (aq [R 0,I many] M) Q:=by
 obtain⟨i,c,hi,rfl⟩:=t;refine aN ?_;unfold mw;refine aw ?_;simp_arith;refine Rn (λf N=>∃i c x3,0<=i/\f=.nx [Z (R 0),Z (I many),Z (I 2305843009213693951),x3,Y]/\N=tp l i c::rest) ?_ λf N h=>?_
 ·simp_arith
  ·refine aw ?_;simp_arith;refine K2 3 ?_ λv=>?_
   ·simp_all_arith
    ·obtain⟨v,hv⟩:=ET (l:=l) (k:=i % ((l.map I).length:Int)) (Vz _ (by omega)) (by rw[UB] at hc ⊢;exact VA _ hc);exact Ev.r (AB hv) ⟨v,rfl,rfl⟩
    ·exact⟨0,rfl,rfl⟩
   ·refine K2 3 ?_ λv=>?_
    ·have po:∀M,EJ (I 10) (I 18) M=O (I (10 ^ 18)) M:=λM=>by
      unfold EJ;dsimp only;rw[if_pos (by decide)];rfl
     simp_all_arith
     ·exact⟨_,rfl,rfl⟩
     refine bZ (po _) ?_
     simp_all_arith
     ·exact⟨_,rfl,rfl⟩
     ·exact⟨v,rfl,rfl⟩
    ·simp_all_arith
     exact⟨i+1,v,_,by omega,rfl,rfl⟩
  ·exact⟨i,c,_,hi,rfl,rfl⟩
 ·obtain⟨i,c,x3,hi,rfl,rfl⟩:=h
  simp_all_arith
  exact k _ _ (Vz _ (by omega)) (VA _ hm) ⟨i,c / many,hi,rfl⟩
local macro_rules | `(tactic| simp_all_arith!) => `(tactic| with_reducible refine xx (by assumption) (by omega) (by omega) fun v M q0 q1 t => ?_)
def xI {most:Int}(t:dL l rest M)(hm:1<=most)(hm2:most<=1000)(k:∀f M',1<=f->f<=most->dL l rest M'->Q (I f) M'):Wp (fz [R 0,I most] M) Q:=by
 refine aN ?_;unfold nj
 simp_all_arith
 refine rp [_,_,_] 0 (most-1) (by simp;omega) (by simp;omega) λy h0 h1=>?_
 simp_all_arith
 exact k _ _ (by omega) (by omega) t
def Ni {wide thin:Int}(t:dL l rest M)(hw:0<=wide/\wide<=1000)(ht:1<=thin/\thin<=1000)(k:∀(ks:List Int) M',(ks.length:Int)=wide->(∀k∈ks,0<=k/\k<=15)->dL l rest M'->Q (U (ks.map I)) M'):Wp (m8 [R 0,I wide,I thin] M) Q:=by
 refine aN ?_;unfold mH lu
 simp_all_arith
 refine pL I (dL l rest) (λk=>0<=k/\k<=15) t (λx M t=>?_) λks N t l1 l2 h=>?_
 ·simp_all_arith
  exact⟨t,_,rfl,by split <;> omega⟩
 ·simp_all_arith
  exact k ks _ (by omega) h t
def bu (rs:List (List Int)):D:=U (rs.map λr=>D.tup (r.map I))
def p5 (most:Int)(rs:List (List Int)):Prop:=1<=rs.length/\(rs.length:Int)<=most/\∃w:Nat,1<=w/\(w:Int)<=most/\∀r∈rs,r.length=w/\∀k∈r,0<=k/\k<=15
def BS {most:Int}(t:dL l rest M)(hm:1<=most)(hm2:most<=1000)(k:∀rs M',p5 most rs->dL l rest M'->Q (bu rs) M'):Wp (ij [R 0,I most] M) Q:=by
 refine aN ?_;unfold k9 kq
 simp_all_arith
 refine xI t hm hm2 λwide M a b t=>?_
 simp_all_arith
 refine xI t hm hm2 λhigh M c d t=>?_
 simp_all_arith
 refine pL (λr:List Int=>D.tup (r.map I)) (dL l rest) (λr=>r.length=wide.toNat/\∀k∈r,0<=k/\k<=15) t (λx M t=>?_) λrs N t l1 l2 h=>?_
 ·simp_all_arith
  refine Ni t (by omega) (by omega) λks M le h t=>?_
  exact⟨t,ks,rfl,by omega,h⟩
 ·simp_all_arith
  exact k rs _ ⟨by omega,by omega,wide.toNat,by omega,by omega,h⟩ t
def v6 {size:Int}(t:dL l rest M)(hm:0<=size)(hm2:size<=900)(k:∀f M',(-1000<=f/\f<=1000)->dL l rest M'->Q (I f) M'):Wp (dU [R 0,I size] M) Q:=by
 refine aN ?_;unfold oC
 simp_all_arith
 refine rp [_,_] (-1000) 1000 (by simp;omega) (by simp;omega) λy h0 h1=>?_
 simp_all_arith
 exact k _ _ ⟨h0,h1⟩ t
def IE {most:Int}(t:dL l rest M)(hm:1<=most)(hm2:most<=1000)(k:∀w h g m M',(1<=w/\w<=most)->(1<=h/\h<=most)->(0<=g/\g<=20)->(0<=m/\m<=12)->dL l rest M'->Q (U [I w,I h,I g,I m]) M'):Wp (lW [R 0,I most] M) Q:=by
 refine aN ?_;unfold kX
 simp_all_arith
 refine rp [_,_] 0 20 (by simp;omega) (by simp;omega) λg g0 g1=>?_
 simp_all_arith
 refine xI t hm hm2 λw M a b t=>?_
 simp_all_arith
 refine xI t hm hm2 λh M c d t=>?_
 simp_all_arith
 exact k w h g v _ ⟨a,b⟩ ⟨c,d⟩ ⟨g0,g1⟩ (by omega) t
structure Mv where
 shape:Option Nat
 x:Int
 y:Int
 rank:Int
 turn:Int
def Mv.d (m:Mv):D:=U [match m.shape with|some k=>I k|none=>.non,I m.x,I m.y,I m.rank,I m.turn]
structure DC (n:Nat)(m:Mv):Prop where
 s:∀k,m.shape=Z k->k<n
 x:-1000<=m.x/\m.x<=1000
 y:-1000<=m.y/\m.y<=1000
 r:0<=m.rank/\m.rank<=3
 t:0<=m.turn/\m.turn<=3
def BW {w h:Int}{more:List D}{n:Nat}(t:dL l rest M)(hw:0<=w/\w<=900)(hh:0<=h/\h<=900)(hn:n<=1000)(k:∀m M',DC n m->dL l rest M'->Q m.d M'):Wp (iq [R 0,U (I w::I h::more),I n] M) Q:=by
 refine aN ?_;unfold kQ;refine aw ?_;simp_arith;refine Rn (λf N=>∃s:Option Nat,(∀k,s=Z k->k<n)/\dL l rest N/\f=.nx [Z (R 0),Z (U (I w::I h::more)),Z (I n),Z (match s with|some k=>I k|none=>.non)]) ?_ λf N e=>?_
 ·simp_all_arith
  ·obtain⟨j,rfl⟩:=Us q0;exact⟨Z j,λk e=>by cases e;omega,t,rfl⟩
  ·exact⟨Y,nofun,t,rfl⟩
  ·exact⟨Y,nofun,t,rfl⟩
 ·obtain⟨s,hs,t,rfl⟩:=e
  simp_all_arith
  refine v6 t hw.1 hw.2 λx M hx t=>?_
  simp_all_arith
  refine v6 t hh.1 hh.2 λy M hy t=>?_
  simp_all_arith
  rename_i r _ hr0 hr1 _;exact k ⟨s,x,y,r,v⟩ _ ⟨hs,hx,hy,by dsimp only;omega,by dsimp only;omega⟩ t
structure bP where
 floor:List (List Int)
 sx:Int
 sy:Int
 book:List (List (List Int))
 movers:List Mv
 pots:List Int
def bP.d (s:bP):D:=U [bu s.floor,U [I s.sx,I s.sy],U (s.book.map bu),U (s.movers.map Mv.d),U (s.pots.map I)]
structure a7 (most:Int)(s:bP):Prop where
 floor:p5 16 s.floor
 sx:-1000<=s.sx/\s.sx<=1000
 sy:-1000<=s.sy/\s.sy<=1000
 bl:s.book.length<=8
 book:∀b∈s.book,p5 8 b
 ml:(s.movers.length:Int)<=most
 movers:∀m∈s.movers,DC s.book.length m
 pl:s.pots.length=16
 pots:∀k∈s.pots,0<=k/\k<=63
def HL {w h mm:Int}{more:List D}(t:dL l rest M)(hw:0<=w/\w<=900)(hh:0<=h/\h<=900)(hm:0<=mm/\mm<=900)(k:∀s M',a7 mm s->dL l rest M'->Q s.d M'):Wp (kS [R 0,U (I w::I h::more),I mm] M) Q:=by
 refine aN ?_;unfold kP jQ jW jZ
 simp_all_arith
 refine BS t (by decide) (by decide) λfl M fo t=>?_
 simp_all_arith
 refine v6 t (by decide) (by decide) λsx M hx t=>?_
 simp_all_arith
 refine v6 t (by decide) (by decide) λsy M hy t=>?_
 simp_all_arith
 refine rp [_,_] 0 8 (by simp;omega) (by simp;omega) λg g0 g1=>?_
 simp_all_arith
 refine pL bu (dL l rest) (p5 8) t (λx M t=>?_) λbk N t l1 l2 hb=>?_
 ·simp_all_arith
  exact BS t (by decide) (by decide) λfl M fo t=>⟨t,fl,rfl,fo⟩
 simp_all_arith
 refine pL Mv.d (dL l rest) (DC bk.length) t (λx M t=>?_) λms N t l3 l4 hs=>?_
 ·simp_all_arith
  rw[UB];exact BW t hw hh (by omega) λm M ok t=>⟨t,m,rfl,ok⟩
 simp_all_arith
 refine pL I (dL l rest) (λk=>0<=k/\k<=63) t (λx M t=>?_) λps N t l5 l6 hp=>?_
 ·simp_all_arith
  exact⟨t,_,rfl,by omega⟩
 simp_all_arith
 exact k ⟨fl,sx,sy,bk,ms,ps⟩ _ ⟨fo,hx,hy,by dsimp only;omega,hb,by dsimp only;omega,hs,l6,hp⟩ t
end
def Dt {x:Int}(h0:0<x)(h1:x<=1000000):x.natAbs.log2<9000:=by
 have h2:x.natAbs<2 ^ 20:=by omega
 have:=(aaT (by omega)).mpr h2;omega
theorem kZ:ag ρ M=O [] M:=rfl
def JN (h:0<j)(M:ay):ky (I i) (I j) M=O (I (i % j)) M:=by
 unfold ky
 simp_all
def Ke {go:GE}{M M1:ay}(h:g ρ M=O x M)(h2:(go ρ M).bind (λo M2=>(gi ρ M2).bind λi M3=>(yj o i x M3).bind λ_ M4=>O (Fl.nx ρ) M4)=O (Fl.nx ρ) M1):rA go gi g ρ M=O (.nx ρ) M1:=by
 unfold rA
 simp_all
def IS {a:GT}{M M1:ay}(ha:a ρ M=O false M1):fu a b ρ M=O false M1:=by
 unfold fu
 simp_all
theorem o5 {W:Nat->fE->ay->Prop}:∀(ds:List D) (i:Nat),(∀j d,ds[j]?=Z d->∀ρ M,W (i+j) ρ M->∃ρ1 ρ2 M2,s d ρ=Z ρ1/\body ρ1 M=O (.nx ρ2) M2/\W (i+j+1) ρ2 M2)->∀ρ M,W i ρ M->
  ∃ρ' M',W (i+ds.length) ρ' M'/\cT ⟨ds0,Y⟩ s body ds ρ M=O (.nx ρ') M'
 | [],i,h,ρ,M,hW=>⟨ρ,M,hW,rfl⟩
 | d::ds,i,h,ρ,M,hW=>by
  obtain⟨ρ1,ρ2,M2,e1,e2,h2⟩:=h 0 d rfl ρ M hW;obtain⟨ρ',M',h3,e3⟩:=o5 (ds0:=ds0)   ds (i+1) (λj d' hd ρ M hW=>by
   have e:i+1+j=i+(j+1):=by omega
   rw[e] at hW ⊢;exact h (j+1) d' hd ρ M hW) ρ2 M2 h2
  refine⟨ρ',M',?_,by simp[cT,mT,e1,e2,e3]⟩
  grind
def tW {lo:Int}(h:(aY lo n)[j]?=Z d):j<n/\d=I (lo+j):=by
 unfold aY at h;rw[Vc] at h;cases q:(UH n)[j]? with
 | none=>simp_all
 | some k=>
  rw[q] at h;obtain⟨hj,ek⟩:=Uk.mp q;rw[Wv] at hj
  simp_all
def zt (s:bP)(row:Int)(m:Mv):Bool:=match m.shape with
 | none=>false
 | some k=>decide (m.y<=row)&&decide (row<m.y+((s.book.getD k []).length:Int))
def o7 (s:bP)(row:Int):Nat->List Int
 | 0=>[]
 | n+1=>o7 s row n++(match s.movers[n]? with|some m=>if zt s row m then [(n:Int)] else []|none=>[])
theorem kH (s:bP)(row:Int):∀n,(o7 s row n).length<=n
 | 0=>Uj _
 | n+1=>by
  have:=kH s row n;unfold o7;split
  ·split <;> simp <;> omega
  ·simp;omega
def bz (s:bP)(row:Int):List Int:=o7 s row s.movers.length
abbrev JO (rs:List (List Int)):D:=U (rs.map λr=>D.tup (r.map I))
def mV (rs:List (List Int))(way:Int)(n:Nat):List Int:=
 let r:=if way=2\/way=3 then rs.getD (rs.length-1-n) [] else rs.getD n []
 if way=1\/way=3 then r.reverse else r
def O6 {way:Int}(h0:0<=way)(h1:way<4):way=0\/way=1\/way=2\/way=3:=by omega
theorem ni:∀{j:Nat} {n:Int},n∈o7 s row j->∃i:Nat,n=i/\i<j/\∃m,s.movers[i]?=Z m/\zt s row m=true
 | 0,n,h=>by cases h
 | j+1,n,h=>by
  rcases Yq.mp h with z|z
  ·obtain⟨i,e,hi,r⟩:=ni z;exact⟨i,e,by omega,r⟩
  ·split at z
   ·rename_i m hm;split at z
    ·rename_i hl;exact⟨j,by simpa using z,by simp,m,hm,hl⟩
    simp_all
   simp_all
def yX (xs:List Int)(lo hi:Option Int):∃ys:List Int,g6 (xs.map I) lo hi=ys.map I/\ys.length<=xs.length/\∀y∈ys,y∈xs:=by
 refine⟨(xs.drop (HT.sIx xs.length 0 lo)).take (HT.sIx xs.length xs.length hi-HT.sIx xs.length 0 lo),by simp[g6],?_,λy hy=>mem_of_mem_drop (mem_of_mem_take hy)⟩;rw[XW,Z4];omega
def bd (s:bP)(row n:Int):D:=match s.movers[n.toNat]? with
 | some m=>U [I n,I m.x,I m.rank,U ((mV (s.book.getD (m.shape.getD 0) []) m.turn (row-m.y).toNat).map I)]
 | none=>.non
def bh (s:bP)(row:Int):List Int:=s.floor.getD ((row+s.sy) % (s.floor.length:Int)).toNat []
def cL (s:bP)(row x:Int):Int:=(bh s row).getD ((x+s.sx) % ((bh s row).length:Int)).toNat 0
def o6 (s:bP)(m row:Int):List D:=(g6 ((bz s row).map I) Y (Z m)).map λd=>match d with | .int n=>bd s row n|d=>d
def bC (s:bP)(w m row:Int):D:=U [U ((UH w.toNat).map λ(x:Nat)=>I (cL s row x)),U (o6 s m row)]
def AN (n:Int):aI 28 (bd s row n)=true:=by
 unfold bd;split
 ·rename_i m _;simp only[gF,W1,all_nil,(dA 25 (mV (s.book.getD (m.shape.getD 0) []) m.turn (row-m.y).toNat))];rfl
 rfl
def O5 {a:GE}(ha:a ρ M=O (I x) M)(hb:b ρ M=O (I y) M)(hc:x<=y->c ρ M=O (I z) M):Aq vB pR a b c ρ M=O (G (decide (x<=y)&&decide (y<z))) M:=by
 unfold Aq;rw[ha,az,hb,az];show(bc.ok (D.bl (decide (x<=y))) M).bind _=_;rw[az]
 by_cases q:x<=y
 ·rw[decide_eq_true q,hc q];rfl
 ·rw[decide_eq_false q];rfl
def tU {M M1:ay}(h:g ρ M=O d M1)(h2:sg d ρ=Z ρ1):dM sg g ρ M=O (.nx ρ1) M1:=by
 unfold dM;rw[h,az,h2]
def T7 (o:Option Nat):D:=match o with|some k=>I k|none=>.non
def EN (ok:a7 mm s)(hm:mm<=900)(hM:cA M):lZ [s.d,I row] M=O (.lst ((bz s row).map I)) M:=by
 have lm:=ok.ml;refine Wp.is (nC (aN ?_));unfold lH nh
 simp_all_arith
 refine Fq (λi ρ N=>∃y0 y1 y2 y3 y4 y5,ρ=[Z s.d,Z (I row),Z (bu s.floor),Z (U [I s.sx,I s.sy]),Z (U (s.book.map bu)),Z (U (s.movers.map Mv.d)),Z (U (s.pots.map I)),Z (R M.length),y0,y1,y2,y3,y4,y5]/\N=M++[.lst ((o7 s row i).map I)]) _ 0 ⟨_,_,_,_,_,_,rfl,rfl⟩ (λj d ρ N hd e=>?_) λρ N e=>?_
 ·obtain⟨y0,y1,y2,y3,y4,y5,rfl,rfl⟩:=e;obtain⟨dx,ex,rfl⟩:=rP hd;rw[U2];rw[Vc] at ex;cases gm:s.movers[j]? with
  | none=>rw[gm] at ex;cases ex
  | some m=>
   rw[gm] at ex;cases ex;have hj:=(Uk.mp gm).1;have om:=(ok.movers _ (Vw gm)).s;have ey:o7 s row (j+1)=o7 s row j++(if zt s row m then [(j:Int)] else []):=by rw[o7,gm]
   have l1:((o7 s row j).map I).length<1000:=by have:=kH s row j;rw[UB];omega
   unfold zt at ey;refine⟨[Z s.d,Z (I row),Z (bu s.floor),Z (U [I s.sx,I s.sy]),Z (U (s.book.map bu)),Z (U (s.movers.map Mv.d)),Z (U (s.pots.map I)),Z (R M.length),Z (I j),Z (T7 m.shape),Z (I m.x),Z (I m.y),Z (I m.rank),Z (I m.turn)],rfl,?_⟩;cases hs:m.shape with
   | none=>
    rw[hs] at ey
    simp_all_arith
    exact⟨_,_,_,_,_,_,rfl,by rw[ey];simp⟩
   | some k=>
    have hk:=om k hs;rw[hs] at ey;have gb:(s.book.map bu)[k]?=Z (bu s.book[k]):=by rw[Vc,U8 hk];rfl
    have e:s.book.getD k []=s.book[k]:=by simp[hk]
    have lb:(s.book[k].map λr=>D.tup (r.map I)).length=s.book[k].length:=UB _;simp only[e] at ey
    simp_all_arith <;> exact⟨_,_,_,_,_,_,rfl,by first|(rw[ey,if_pos (by simp;omega)];simp)|(rw[ey,if_neg (by simp;omega)];simp)⟩
 ·obtain⟨y0,y1,y2,y3,y4,y5,rfl,rfl⟩:=e;rw[lh,UB,U2]
  simp_all_arith
  exact bZ (jb (dA 28 _) hM) ⟨rfl,rfl⟩
def Fs {rs:List (List Int)}{way:Int}{n:Nat}{M:ay}(h0:0<=way)(h1:way<4)(hn:n<rs.length) :
  ou [JO rs,I way,I n] M=O (U ((mV rs way n).map I)) M:=by
 have ls:(rs.map λr=>D.tup (r.map I)).length=rs.length:=UB _;have a1:aB (JO rs) (I n) M=O (U ((rs.getD n []).map I)) M:=(rS (f:=λr:List Int=>D.tup (r.map I)) (Q:=λd N=>d=U ((rs.getD n []).map I)/\N=M) [] (by omega) ⟨by rw[UC],rfl⟩).h.is;have a2:aB (JO rs) (I (((rs.map λr=>D.tup (r.map I)).length:Int)-1-n)) M=O (U ((rs.getD (rs.length-1-n) []).map I)) M:=(rS (f:=λr:List Int=>D.tup (r.map I)) (Q:=λd N=>d=U ((rs.getD (rs.length-1-n) []).map I)/\N=M) [] (by omega) ⟨by rw[ls,show((rs.length:Int)-1-n).toNat=rs.length-1-n by omega],rfl⟩).h.is;refine Wp.is (aN ?_);unfold oG;rcases O6 h0 h1 with rfl|rfl|rfl|rfl <;> simp_all_arith
 ·exact⟨rfl,rfl⟩
 ·exact⟨congrArg D.tup map_reverse.symm,rfl⟩
 ·exact⟨rfl,rfl⟩
 ·exact⟨congrArg D.tup map_reverse.symm,rfl⟩
def Em (ok:a7 mm s)(hn:n∈bz s row):jR [s.d,I n,I row] M=O (bd s row n) M:=by
 obtain⟨i,rfl,hi,m,gm,lz⟩:=ni hn;have om:=ok.movers m (Vw gm);have gd:(s.movers.map Mv.d)[i]?=Z m.d:=by rw[Vc,gm];rfl
 unfold zt at lz;unfold Mv.d at gd;cases hs:m.shape with
 | none=>rw[hs] at lz;cases lz
 | some k=>
  rw[hs] at lz gd;have hk:=om.s k hs;have ge:s.book.getD k []=s.book[k]:=by simp[hk]
  have gb:(s.book.map bu)[k]?=Z (JO s.book[k]):=by rw[Vc,U8 hk];rfl
  simp only[ge,Uw,decide_eq_true_eq] at lz;obtain⟨r,hr⟩:=Us (by omega:0<=row-m.y);have ls:=Fs (rs:=s.book[k]) (way:=m.turn) (n:=r) (M:=M) om.t.1 (by have:=om.t.2;omega) (by omega);rw[<-hr] at ls;refine Wp.is (aN ?_);unfold jL
  simp_all_arith
  refine⟨?_,rfl⟩;unfold bd;rw[UC,gm];simp only[hs,aaK,ge,show(row-m.y).toNat=r by omega]
def De (ok:a7 mm s)(hw:1<=w/\w<=900) :
  lG [U [I w,I hh,I g,I m],s.d,I row] M=O (U ((UH w.toNat).map λ(x:Nat)=>I (cL s row x))) M:=by
 obtain⟨f1,f2,fw,f3,f4,f5⟩:=ok.floor;have hfl:0<=(row+s.sy) % (s.floor.length:Int)/\(row+s.sy) % (s.floor.length:Int)<s.floor.length:=⟨Vz _ (by omega),VA _ (by omega)⟩;have lw:(bh s row).length=fw:=by
  unfold bh;have h:((row+s.sy) % (s.floor.length:Int)).toNat<s.floor.length:=by omega
  rw[Wd,U8 h];exact(f5 _ (Xe h)).1
 have lf:(s.floor.map λr=>D.tup (r.map I)).length=s.floor.length:=UB _;have lr:((bh s row).map I).length=(bh s row).length:=UB _;have hix:aB (bu s.floor) (I ((row+s.sy) % ((s.floor.map λr=>D.tup (r.map I)).length:Int))) M=O (U ((bh s row).map I)) M:=by
  rw[lf];exact(rS (f:=λr:List Int=>D.tup (r.map I)) (Q:=λd N=>d=U ((bh s row).map I)/\N=M) [] hfl ⟨rfl,rfl⟩).h.is
 refine Wp.is (aN ?_);unfold lU jK
 simp_all_arith
 refine yk (λ(x:Nat)=>I (cL s row x)) (λx hx=>?_) ?_
 ·have hix:aB (U ((bh s row).map I)) (I (((x:Int)+s.sx) % (((bh s row).map I).length:Int))) M=O (I (cL s row x)) M:=by
   rw[lr];exact(rS (f:=I) (Q:=λd N=>d=I (cL s row x)/\N=M) 0 ⟨Vz _ (by omega),VA _ (by omega)⟩ ⟨rfl,rfl⟩).h.is
  simp_all_arith
  exact⟨rfl,rfl⟩
 ·have l2:((UH w.toNat).map λ(x:Nat)=>I (cL s row x)).length=w.toNat:=by simp
  simp_all_arith
  exact⟨rfl,rfl⟩
def G7 (ok:a7 mm s)(hm:mm<=900)(hM:cA M) :
  qE [U [I w,I hh,I g,I m],s.d,I row] M=O (.lst (g6 ((bz s row).map I) Y (Z m))) M:=by
 have e:=EN (row:=row) ok hm hM;refine Wp.is (aN ?_);unfold rq
 simp_all_arith
 exact⟨rfl,rfl⟩
def Hw (ok:a7 mm s)(hm:mm<=900)(hw:1<=w/\w<=900)(hmo:0<=m/\m<=12)(hM:cA M) :
  tF [U [I w,I hh,I g,I m],s.d,I row] M=O (bC s w m row) M:=by
 obtain⟨ys,ey,ly,qy⟩:=yX (bz s row) Y (Z m);have ll:(bz s row).length<=900:=by
  have:=kH s row s.movers.length;have:=ok.ml;unfold bz;omega
 have etk:o6 s m row=ys.map (bd s row):=by unfold o6;rw[ey,aaq];rfl
 have ek:=G7 (w:=w) (hh:=hh) (g:=g) (m:=m) (row:=row) ok hm hM;rw[ey] at ek;have ef:=De (w:=w) (hh:=hh) (g:=g) (m:=m) (row:=row) (M:=M) ok hw;have l1:(ys.map (bd s row)).length<=900:=by rw[UB];omega
 unfold bC;rw[etk];refine Wp.is (aN ?_);unfold xR uF
 simp_all_arith
 refine HX I (bd s row) (λn hn=>?_) ?_
 ·have e:=Em (row:=row) (M:=M) ok (qy n hn)
  simp_all_arith
  exact⟨rfl,rfl⟩
 ·simp_all_arith
  exact⟨rfl,rfl⟩
structure Sn where
 n:Int
 x:Int
 r:Int
 ks:List Int
def Sn.d (s:Sn):D:=U [I s.n,I s.x,I s.r,U (s.ks.map I)]
def cp (x:Int)(s:Sn):Int:=if s.x<=x/\x<s.x+(s.ks.length:Int) then s.ks.getD (x-s.x).toNat 0 else 0
def eN (x:Int)(ss:List Sn):List Sn:=ss.filter λs=>cp x s != 0
def qu (x:Int)(s:Sn):D:=U [I s.r,I s.n,I (cp x s)]
def nH (x:Int)(ss:List Sn):(eN x ss).length<=ss.length:=length_filter_le _ _
def yF {ss:List Sn}(h:ss[j]?=Z s):eN x (ss.take (j+1))=eN x (ss.take j)++(if cp x s=0 then [] else [s]):=by
 rw[take_succ,h];unfold eN
 by_cases hz:cp x s=0 <;> simp[hz]
def zT {s:Sn}(h1:s.x<=x)(h2:x<s.x+(s.ks.length:Int)):∃i:Nat,x-s.x=i/\wa (s.ks.map I) (i:Int)=Z (I (cp x s)):=by
 obtain⟨i,hi⟩:=Us (by omega:0<=x-s.x);have hl:i<s.ks.length:=by omega
 refine⟨i,hi,?_⟩;have e:cp x s=s.ks[i]:=by
  unfold cp
  simp_all
 exact gK (by simp_all)
def wJ (h:¬(s.x<=x/\x<s.x+(s.ks.length:Int))):cp x s=0:=by unfold cp;rw[if_neg h]
def CY (h:∀s,aI 29 (f s)=true)(l:List Sn):(l.map f).all (aI 29)=true:=by
 simp_all
def FO (hE:E.length<1000) :
  eC [x0,Z (I x),x2,x3,Z (R M.length),Z (I s.n),Z (I s.x),Z (I s.r),Z (U (s.ks.map I))] (M++[.lst E]) =
   O (.nx [x0,Z (I x),x2,x3,Z (R M.length),Z (I s.n),Z (I s.x),Z (I s.r),Z (U (s.ks.map I))]) (M++[.lst (E++if cp x s=0 then [] else [qu x s])]):=by
 unfold eC;have ln:aJ bU (aa (ae 8) ag) [x0,Z (I x),x2,x3,Z (R M.length),Z (I s.n),Z (I s.x),Z (I s.r),Z (U (s.ks.map I))] (M++[.lst E])=O (I (s.ks.length:Int)) (M++[.lst E]):=by
  refine sP (a:=ae 8) rfl ?_;show bc.ok (I ((s.ks.map I).length:Int)) _=_;rw[UB]
 have c1:=dC (O5 (a:=ae 6) (b:=ae 1) (y:=x) (z:=s.x+(s.ks.length:Int)) rfl rfl λ_=>aT (f:=a8) (a:=ae 6) rfl ln rfl)
 by_cases h:s.x<=x/\x<s.x+(s.ks.length:Int)
 ·obtain⟨i,hi,ai⟩:=zT h.1 h.2;have ix:g2 aB (ae 8) (g2 dN (ae 1) (ae 6)) [x0,Z (I x),x2,x3,Z (R M.length),Z (I s.n),Z (I s.x),Z (I s.r),Z (U (s.ks.map I))] (M++[.lst E])=O (I (cp x s)) (M++[.lst E]):=by
   refine aT (f:=aB) (a:=ae 8) (y:=I (x-s.x)) rfl rfl ?_;rw[hi];show(match wa (s.ks.map I) (i:Int) with|some d=>bc.ok d (M++[MO.lst E])|none=>.bad)=_;rw[ai]
  have t:=xN c1 λ_=>dC (aT (f:=aR true) ix (b:=gC (I 0)) (y:=I 0) rfl (z9 (cp x s) 0 _))
  rw[decide_eq_true h.1,decide_eq_true h.2] at t
  by_cases hz:cp x s=0
  ·rw[decide_eq_true hz] at t;rw[if_pos hz,Yb];exact(nQ t).trans rfl
  ·rw[decide_eq_false hz] at t;rw[if_neg hz];exact(vM t).trans (b8 (N2 (go:=ae 4) (d:=qu x s) rfl (kj (cx rfl (cx rfl (cx ix rfl))) (by simp)) (by omega)))
 ·have hz:=wJ h;have b:(decide (s.x<=x)&&decide (x<s.x+(s.ks.length:Int)))=false:=by
   rw[<-Bool.decide_and];exact decide_eq_false h
  rw[b] at c1;rw[if_pos hz,Yb];exact(nQ ((xN (y:=true) c1 λz=>by cases z).trans rfl)).trans rfl
def AH {ss:List Sn}(hs:ss.length<=900)(hM:cA M) :
  jv [U [fl,U (ss.map Sn.d)],I x] M=O (.lst ((eN x ss).map (qu x))) M:=by
 obtain⟨ρ',M',⟨x5,x6,x7,x8,rfl,rfl⟩,ef⟩:=o5 (ds0:=ss.map Sn.d) (s:=bN [5,6,7,8]) (body:=eC)
  (W:=λi ρ N=>∃x5 x6 x7 x8,ρ=[Z (U [fl,U (ss.map Sn.d)]),Z (I x),Z fl,Z (U (ss.map Sn.d)),Z (R M.length),x5,x6,x7,x8]/\N=M++[.lst ((eN x (ss.take i)).map (qu x))])
  (ss.map Sn.d) 0 (λj d hd ρ N hW=>by
   obtain⟨x5,x6,x7,x8,rfl,rfl⟩:=hW;rw[U2];rw[Vc] at hd;cases gs:ss[j]? with
   | none=>rw[gs] at hd;cases hd
   | some s=>
   rw[gs] at hd;cases hd;rw[yF gs];have ll:((eN x (ss.take j)).map (qu x)).length<1000:=by
    rw[UB];exact VH (nH x _) (by rw[XW];omega)
   have e:=FO (x0:=Z (U [fl,U (ss.map Sn.d)])) (x2:=Z fl) (x3:=Z (U (ss.map Sn.d))) (x:=x) (s:=s) (M:=M) ll;refine⟨_,_,_,rfl,e,_,_,_,_,rfl,?_⟩;rw[abT]
   by_cases hz:cp x s=0
   ·rw[if_pos hz,if_pos hz];rfl
   ·rw[if_neg hz,if_neg hz];rfl)
  [Z (U [fl,U (ss.map Sn.d)]),Z (I x),Z fl,Z (U (ss.map Sn.d)),Z (R M.length),Y,Y,Y,Y] (M++[.lst []]) ⟨_,_,_,_,rfl,rfl⟩
 have e0:(0:Nat)+(ss.map Sn.d).length=ss.length:=by simp
 rw[e0,take_length] at ef;have rt:=jb (M:=M) (xs:=(eN x ss).map (qu x)) (CY (λ_=>rfl) _) hM;show lB M.length (bL (gV [Z (U [fl,U (ss.map Sn.d)]),Z (I x),Y,Y,Y,Y,Y,Y,Y] M))=_;unfold gV;have a1:dM (bN [2,3]) (ae 0) [Z (U [fl,U (ss.map Sn.d)]),Z (I x),Y,Y,Y,Y,Y,Y,Y] M=O (.nx [Z (U [fl,U (ss.map Sn.d)]),Z (I x),Z fl,Z (U (ss.map Sn.d)),Y,Y,Y,Y,Y]) M:=rfl;have s4:∀b:GS,aj (aL 4 (fZ ag)) b [Z (U [fl,U (ss.map Sn.d)]),Z (I x),Z fl,Z (U (ss.map Sn.d)),Y,Y,Y,Y,Y] M=b [Z (U [fl,U (ss.map Sn.d)]),Z (I x),Z fl,Z (U (ss.map Sn.d)),Z (R M.length),Y,Y,Y,Y] (M++[.lst []]):=λb=>aU (dY sZ)
 have kf:gZ (bE (ae 3)) (bN [5,6,7,8]) eC [Z (U [fl,U (ss.map Sn.d)]),Z (I x),Z fl,Z (U (ss.map Sn.d)),Z (R M.length),Y,Y,Y,Y] (M++[.lst []])=_:=mP (t:=⟨ss.map Sn.d,Y⟩) (IG rfl) ef;rw[aU a1,s4,aU kf];exact rt
def Az (a b:Sn):Prop:=b.r<a.r\/(a.r=b.r/\a.n<=b.n)
def L4:HJ 0 eI [qu x s] M=O (U [I (-s.r),I s.n]) M:=by
 rfl
def Rt (a b c d:Int):HT.lexLt [a,b] [c,d]=decide (a<c\/(a=c/\b<d)):=by
 by_cases h1:a<c <;> by_cases h2:a=c <;> by_cases h3:b<d <;> simp[HT.lexLt,h1,h2,h3] <;> omega
def CK (b:Sn):∀s∈[b],Az b s:=λs hs=>by
 rcases Va.mp hs with z|z
 ·subst z;exact .inr ⟨rfl,Zs _⟩
 grind
theorem A9:∀(cs:List Sn) (b:Sn),∃b',b'∈b::cs/\(∀s∈b::cs,Az b' s)/\rZ (HJ 0 eI) (cs.map (qu x)) (qu x b) [-b.r,b.n] M=O (qu x b') M
 | [],b=>⟨b,UG ..,CK b,rfl⟩
 | s::r,b=>by
  have hk:=L4 (x:=x) (s:=s) (M:=M);have hi:dG (U [I (-s.r),I s.n])=Z [-s.r,s.n]:=rfl
  by_cases h:-s.r < -b.r\/(-s.r=-b.r/\s.n<b.n)
  ·obtain⟨b',h1,h2,h3⟩:=A9 (x:=x) (M:=M) r s;refine⟨b',UU _ h1,λt ht=>?_,?_⟩
   ·rcases Va.mp ht with z|z
    ·subst z;have:=h2 s (UG ..);unfold Az at *;omega
    ·exact h2 t z
   ·rw[WG];unfold rZ;rw[hk];dsimp only;rw[hi];dsimp only;rw[Rt,if_pos (decide_eq_true h)];exact h3
  ·obtain⟨b',h1,h2,h3⟩:=A9 (x:=x) (M:=M) r b;have hb:=h2 b (UG ..);refine⟨b',?_,λt ht=>?_,?_⟩
   ·rcases Va.mp h1 with z|z
    ·exact z▸UG ..
    ·exact UU _ (UU _ z)
   ·rcases Va.mp ht with z|z
    ·exact z▸hb
    ·rcases Va.mp z with z|z
     ·subst z;unfold Az at *;omega
     ·exact h2 t (UU _ z)
   ·rw[WG];unfold rZ;rw[hk];dsimp only;rw[hi];dsimp only;rw[Rt,if_neg (by simpa using h)];exact h3
def E0:(cs=[]/\dS [I fl,.lst (cs.map (qu x))] M=O (I fl) M)\/
  ∃b∈cs,(∀s∈cs,Az b s)/\dS [I fl,.lst (cs.map (qu x))] M=O (I (if 1<=b.r\/fl=0 then cp x b else fl)) M:=by
 cases cs with
 | nil=>
  exact .inl ⟨rfl,rfl⟩
 | cons s r=>
  obtain⟨b,h1,h2,h3⟩:=A9 (x:=x) (M:=M) r s;refine .inr ⟨b,h1,h2,?_⟩;have hg:∀ρ,yp (HJ 0 eI) (ae 1) (Z (I fl)::Z (.lst (qu x s::r.map (qu x)))::ρ) M=O (U [I b.r,I b.n,I (cp x b)]) M:=λρ=>by
   assumption
  rw[WG];show bL (jj [Z (I fl),Z (.lst (qu x s::r.map (qu x))),Y,Y,Y] M)=_;unfold jj;have t:=AJ (dC (aT (f:=B9) (a:=ae 2) (b:=gC (I 1)) (ρ:=[Z (I fl),Z (.lst (qu x s::r.map (qu x))),Z (I b.r),Z (I b.n),Z (I (cp x b))]) (x:=I b.r) (M:=M) rfl rfl rfl)) λ_=>dC (aT  (a:=ae 0) (b:=gC (I 0)) (x:=I fl) rfl rfl (ug fl 0 M))
  have run:∀{o},_=o->cD (gf (ae 1)) (aj (dM (bN [2,3,4]) (yp (HJ 0 eI) (ae 1))) (cD (je (aH (g2 B9 (ae 2) (gC (I 1)))) (aH (g2 (aR false) (ae 0) (gC (I 0))))) (aF (ae 4)) aG)) aG [Z (I fl),Z (.lst (qu x s::r.map (qu x))),Y,Y,Y] M=o:=λ{o} ho=>((vM (M1:=M) rfl).trans (aU (tU (hg [Y,Y,Y]) rfl))).trans ho
  by_cases q:1<=b.r\/fl=0
  ·rw[if_pos q,PQ (run ((vM (t.trans (by rw[<-abA,decide_eq_true q]))).trans (fX rfl)))];rfl
  ·rw[if_neg q,aU (run ((nQ (t.trans (by rw[<-abA,decide_eq_false q]))).trans rfl))];rfl
mutual
theorem uS:∀(d:D) (n:Nat),bG n d=true->tK d d=true
 | .non,n,h=>rfl
 | .bl a,n,h=>beq_self_eq_true a
 | .int a,n,h=>beq_self_eq_true a
 | .str a,n,h=>beq_self_eq_true a
 | .tup xs,n,h=>by
  cases n with
  | zero=>exact ff h
  | succ n=>exact nM xs n h
 | .lst xs,n,h=>by
  cases n with
  | zero=>exact ff h
  | succ n=>exact nM xs n h
 | .ro xs,n,h=>by
  cases n with
  | zero=>exact ff h
  | succ n=>exact nM xs n h
 | .mr a,n,h=>by cases n <;> exact ff h
 | .exc a,n,h=>by cases n <;> exact ff h
 | .any,n,h=>by cases n <;> exact ff h
theorem nM:∀(ds:List D) (n:Nat),bj n ds=true->gY ds ds=true
 | [],n,h=>rfl
 | d::ds,n,h=>
  have h:=UE.mp (show(bG n d&&bj n ds)=true from h)
  UE.mpr ⟨uS d n h.1,nM ds n h.2⟩
end
theorem cu {n:Nat}:∀{ds:List D},(∀d∈ds,bG n d=true)->bj n ds=true
 | [],_=>rfl
 | d::ds,h=>UE.mpr ⟨h d mem_cons_self,cu λe he=>h e (mem_cons_of_mem _ he)⟩
structure dJ (w h g m:Int):Prop where
 w:1<=w/\w<=40
 h:1<=h/\h<=40
 g:0<=g/\g<=20
 m:0<=m/\m<=12
def aZ (w h g m:Int):D:=U [I w,I h,I g,I m]
def iW {lo hi i:Int}{M:ay}(h:lo<=i/\i<=hi):bf [I i,I lo,I hi] M=O (G true) M:=by
 refine Wp.is (aN ?_);unfold mO
 simp_all_arith
 refine aN ?_;unfold oA
 simp_all_arith
 exact⟨by rw[decide_eq_true h.2],rfl⟩
local macro_rules | `(tactic| simp_all_arith!) => `(tactic| ((with_reducible refine bZ (iW ?_) ?_); omega))
section
variable {M:ay}
def Kh {w h g m:Int}(f:dJ w h g m):o8 [aZ w h g m] M=O (G true) M:=by
 have:=f.w;have:=f.h;have:=f.g;have:=f.m;refine Wp.is (aN ?_);unfold oE
 simp_all_arith
 exact⟨rfl,rfl⟩
def EG {r:List Int}(h:∀k∈r,0<=k/\k<=15)(hl:r.length<=1000):kY [U (r.map I)] M=O (G true) M:=by
 refine Wp.is (aN ?_);unfold lX kr
 simp_all_arith
 refine oq I (by omega) rfl (λk hk=>?_) ⟨rfl,rfl⟩;have:=h k hk
 simp_all_arith
 refine aN ?_;unfold pq
 simp_all_arith
 exact⟨rfl,rfl⟩
def BN {most:Int}{rs:List (List Int)}(h:p5 most rs)(hm:most<=16):fJ [bu rs,I most] M=O (G true) M:=by
 obtain⟨h1,h2,w,h3,h4,h5⟩:=h;have ls:(rs.map λr=>D.tup (r.map I)).length=rs.length:=length_map _;refine Wp.is (aN ?_);unfold iY hG g5
 simp_all_arith
 refine oq (λr:List Int=>D.tup (r.map I)) (by omega) rfl (λr hr=>?_) ?_
 ·have e:=EG (M:=M) (h5 r hr).2 (by have:=(h5 r hr).1;omega)
  simp_all_arith
  exact⟨rfl,rfl⟩
 simp_all_arith
 obtain⟨r0,rt,rfl⟩:=exists_cons_of_length_pos h1;have hw:(r0.map I).length=w:=by rw[length_map];exact(h5 r0 mem_cons_self).1
 refine Ev.r (dj (k:=0) rfl) ?_
 simp_all_arith
 refine oq (λr:List Int=>D.tup (r.map I)) (by omega) rfl (λr hr=>?_) ⟨rfl,rfl⟩;have e:(r.map I).length=w:=by rw[length_map];exact(h5 r hr).1
 simp_all_arith
 exact⟨by rw[e,hw];simp,rfl⟩
def xW {x y:Int}(hx:-1000<=x/\x<=1000)(hy:-1000<=y/\y<=1000):cF [U [I x,I y]] M=O (G true) M:=by
 refine Wp.is (aN ?_);unfold hU gw
 simp_all_arith
 refine oq I (xs:=[x,y]) (by simp) rfl (λk hk=>?_) ⟨rfl,rfl⟩;have:-1000<=k/\k<=1000:=by
  simp only[mem_cons,not_mem_nil,or_false] at hk;rcases hk with rfl|rfl <;> assumption
 simp_all_arith
 exact⟨rfl,rfl⟩
def KZ {bk:List D}:cO [U bk,.non] M=O (G true) M:=by
 refine Wp.is (aN ?_);unfold dF
 simp_all_arith
 exact⟨rfl,rfl⟩
def Lo {bk:List D}{k:Nat}(h:k<bk.length):cO [U bk,I k] M=O (G true) M:=by
 refine Wp.is (aN ?_);unfold dF
 simp_all_arith
 exact⟨rfl,rfl⟩
def HR {bk:List D}{m:Mv}(h:DC bk.length m):o0 [U bk,m.d] M=O (G true) M:=by
 have e:=xW (M:=M) h.x h.y;have:=h.r;have:=h.t;have n0:=KZ (M:=M) (bk:=bk);refine Wp.is (aN ?_);unfold pb Mv.d;cases hs:m.shape with
 | none=>
  simp_all_arith
  refine aN ?_;unfold kN
  simp_all_arith
  refine aN ?_;unfold kE
  simp_all_arith
  exact⟨rfl,rfl⟩
 | some k=>
  have n1:=Lo (M:=M) (h.s k hs)
  simp_all_arith
  refine aN ?_;unfold kN
  simp_all_arith
  refine aN ?_;unfold kE
  simp_all_arith
  exact⟨rfl,rfl⟩
def HQ {mm:Int}{s:bP}(ok:a7 mm s)(hm:mm<=12):oy [s.d] M=O (G true) M:=by
 have:=ok.bl;have:=ok.ml;have:=ok.pl;have lb:(s.book.map bu).length=s.book.length:=length_map _;have lm:(s.movers.map Mv.d).length=s.movers.length:=length_map _;have lp:(s.pots.map I).length=s.pots.length:=length_map _;have e1:=BN (M:=M) ok.floor (by decide);have e2:=xW (M:=M) ok.sx ok.sy;have e3:oS [U (s.pots.map I)] M=O (G true) M:=by
  refine Wp.is (aN ?_);unfold o3 mZ
  simp_all_arith
  refine oq I (by omega) rfl (λk hk=>?_) ⟨rfl,rfl⟩;have:=ok.pots k hk
  simp_all_arith
  refine aN ?_;unfold pY
  simp_all_arith
  exact⟨rfl,rfl⟩
 have e4:rG [U (s.book.map bu)] M=O (G true) M:=by
  refine Wp.is (aN ?_);unfold rH oM
  simp_all_arith
  refine oq bu (by omega) rfl (λb hb=>?_) ⟨rfl,rfl⟩
  simp_all_arith
  refine aN ?_;unfold oX
  simp_all_arith
  exact bZ (BN (ok.book b hb) (by decide)) ⟨rfl,rfl⟩
 have e5:lF [U (s.book.map bu),U (s.movers.map Mv.d)] M=O (G true) M:=by
  refine Wp.is (aN ?_);unfold lS jJ
  simp_all_arith
  refine oq Mv.d (by omega) rfl (λm hm=>?_) ⟨rfl,rfl⟩;have e:=HR (M:=M) (bk:=s.book.map bu) (lb▸ok.movers m hm)
  simp_all_arith
  exact⟨rfl,rfl⟩
 refine Wp.is (aN ?_);unfold oO
 simp_all_arith
 exact⟨rfl,rfl⟩
def ve {w h g m mm:Int}{s:bP}(f:dJ w h g m)(ok:a7 mm s)(hm:mm<=12):bQ [aZ w h g m,s.d] M=O .non M:=by
 have e1:=Kh (M:=M) f;have e2:=HQ (M:=M) ok hm;refine Wp.is (aN ?_);unfold jI
 simp_all_arith
 exact⟨rfl,rfl⟩
end
def uX (xs:List D)(k:Nat):g6 xs (Z (k:Int)) Y=xs.drop k:=by
 unfold g6;rw[HT.sIx_nat,HT.sIx_none]
 by_cases h:k<=xs.length
 ·rw[XT h];exact take_of_length_le (by simp)
 ·rw[Nat.min_eq_right (by omega),drop_eq_nil_of_le (Uj _),drop_eq_nil_of_le (by omega),take_nil]
def tN (xs:List D)(k:Nat):g6 xs Y (Z (k:Int))=xs.take k:=by
 unfold g6;rw[HT.sIx_nat,HT.sIx_none];simp
inductive Dd where
 | shift (x y:Int)|pot (k h:Int)|move (i:Nat) (x y:Int)|shape (i:Nat) (o:Option Nat)|rank (i:Nat) (r:Int)|turn (i:Nat) (t:Int)
def ym (o:Option Nat):D:=match o with|some k=>I k|none=>.non
def Dd.d:Dd->D
 | .shift x y=>U [S "shift",I x,I y]
 | .pot k h=>U [S "pot",I k,I h]
 | .move i x y=>U [S "move",I i,I x,I y]
 | .shape i o=>U [S "shape",I i,ym o]
 | .rank i r=>U [S "rank",I i,I r]
 | .turn i t=>U [S "turn",I i,I t]
def jP (s:bP):Dd->Prop
 | .shift x y=>(-1000<=x/\x<=1000)/\(-1000<=y/\y<=1000)
 | .pot k h=>(0<=k/\k<=15)/\(0<=h/\h<=63)
 | .move i x y=>i<s.movers.length/\(-1000<=x/\x<=1000)/\(-1000<=y/\y<=1000)
 | .shape i o=>i<s.movers.length/\∀k,o=Z k->k<s.book.length
 | .rank i r=>i<s.movers.length/\(0<=r/\r<=3)
 | .turn i t=>i<s.movers.length/\(0<=t/\t<=3)
def l7 (s:bP)(i:Nat)(f:Mv->Mv):bP:=match s.movers[i]? with
 | some m=>{s with movers:=s.movers.set i (f m)}
 | none=>s
def cg (s:bP):Dd->bP
 | .shift x y=>{s with sx:=x,sy:=y}
 | .pot k h=>{s with pots:=s.pots.set k.toNat h}
 | .move i x y=>l7 s i λm=>{m with x:=x,y:=y}
 | .shape i o=>l7 s i λm=>{m with shape:=o}
 | .rank i r=>l7 s i λm=>{m with rank:=r}
 | .turn i t=>l7 s i λm=>{m with turn:=t}
local macro_rules | `(tactic| simp_all_arith!) => `(tactic| ((with_reducible refine bZ (iW ?_) ?_); omega))
def qW {s:bP}{dd:Dd}{M:ay}(h:jP s dd):kA [s.d,dd.d] M=O (G true) M:=by
 have lm:(s.movers.map Mv.d).length=s.movers.length:=length_map _;have lb:(s.book.map bu).length=s.book.length:=length_map _;refine Wp.is (aN ?_);unfold qP;cases dd with
 | shift x y=>
  simp_all_arith
  exact bZ (xW h.1 h.2) ⟨rfl,rfl⟩
 | pot k hu=>
  have:=h.1;have:=h.2
  simp_all_arith
  refine aN ?_;unfold pq
  simp_all_arith
  refine aN ?_;unfold pY
  simp_all_arith
  exact⟨rfl,rfl⟩
 | move i x y=>
  have:=h.1
  simp_all_arith
  refine aN ?_;unfold cG
  simp_all_arith
  exact bZ (xW h.2.1 h.2.2) ⟨rfl,rfl⟩
 | shape i o=>
  have:=h.1
  simp_all_arith
  refine aN ?_;unfold cG
  simp_all_arith
  cases o with
  | none=>exact bZ KZ ⟨rfl,rfl⟩
  | some k=>exact bZ (Lo (by rw[lb];exact h.2 k rfl)) ⟨rfl,rfl⟩
 | rank i r=>
  have:=h.1;have:=h.2
  simp_all_arith
  refine aN ?_;unfold cG
  simp_all_arith
  refine aN ?_;unfold kN
  simp_all_arith
  exact⟨rfl,rfl⟩
 | turn i r=>
  have:=h.1;have:=h.2
  simp_all_arith
  refine aN ?_;unfold cG
  simp_all_arith
  refine aN ?_;unfold kE
  simp_all_arith
  exact⟨rfl,rfl⟩
def z6 (m:Mv):m.d=U [ym m.shape,I m.x,I m.y,I m.rank,I m.turn]:=by
 rfl
local macro_rules | `(tactic| simp_all_arith!) => `(tactic| with_reducible refine xx (by assumption) (by omega) (by omega) fun v M q0 q1 t => ?_)
def Ta {s:bP}{M:ay}:aR false (U (s.movers.map Mv.d)) (U []) M=O (G (decide (s.movers=[]))) M:=by
 have cm:bj 39 (s.movers.map Mv.d)=true:=cu λd hd=>by
  obtain⟨m,_,rfl⟩:=mem_map.mp hd;rw[z6];have:bG 38 (ym m.shape)=true:=by cases m.shape <;> rfl
  simp[this]
 unfold aR;show(if(bj 39 (s.movers.map Mv.d)&&true)=true then bc.ok (D.bl (tK (U (s.movers.map Mv.d)) (U []) != false)) M else .bad)=_;rw[cm,if_pos (by rfl),Zo,show tK (U (s.movers.map Mv.d)) (U [])=decide (s.movers=[]) by cases s.movers <;> simp]
def D7 {l:List Int}{rest M:ay}{Q:D->ay->Prop}{w h:Int}{more:List D}{s:bP}{mm:Int}(t:dL l rest M)(ok:a7 mm s)(hm:mm<=900)(hw:0<=w/\w<=900)(hh:0<=h/\h<=900)(k:∀dd M',jP s dd->dL l rest M'->Q dd.d M'):Wp (mR [R 0,U (I w::I h::more),s.d] M) Q:=by
 have ml:=ok.ml;have bl:=ok.bl;have lm:(s.movers.map Mv.d).length=s.movers.length:=length_map _;have lb:(s.book.map bu).length=s.book.length:=length_map _;refine aN ?_;unfold ng;refine aw ?_;simp_arith;refine aw (Ru (v<2\/s.movers=[]) ?_ (λ_=>?_) λno=>?_)
 ·simp_all_arith
  ·exact⟨by simp[hc],rfl⟩
  ·refine bZ Ta ?_
   simp_all_arith
   simp[hc]
 ·simp_all_arith
  refine v6 t (by decide) (by decide) λx M hx t=>?_
  simp_all_arith
  refine v6 t (by decide) (by decide) λy M hy t=>?_
  simp_all_arith
  rename_i p _ p0 p1 _;refine qx (λd=>∃dd:Dd,d=dd.d/\jP s dd) (by simp;omega) (by
   simp only[mem_cons,not_mem_nil,or_false,forall_eq_or_imp,forall_eq];exact⟨⟨.shift x y,rfl,hx,hy⟩,⟨.pot p v,rfl,⟨p0,by omega⟩,q0,by omega⟩⟩) λd hd=>?_
  obtain⟨dd,rfl,hd⟩:=hd
  simp_all_arith
  exact k dd _ hd t
 ·have m0:0<s.movers.length:=length_pos_iff.mpr λe=>no (.inr e)
  simp_all_arith
  rename_i way _ w0 w1 _;rw[lb];rw[lm] at q1;obtain⟨j,rfl⟩:=Us q0;refine BW t hw hh (by omega) λm M mk t=>?_
  have hj:j<s.movers.length:=by omega
  have:¬way<2:=λe=>no (.inl e)
  simp_all_arith
  ·exact k (.move j m.x m.y) _ ⟨hj,mk.x,mk.y⟩ t
  ·refine qx (λd=>∃dd:Dd,d=dd.d/\jP s dd) (by simp;omega) (by
    simp only[mem_cons,not_mem_nil,or_false,forall_eq_or_imp,forall_eq];exact⟨⟨.shape j m.shape,rfl,hj,mk.s⟩,⟨.rank j m.rank,rfl,hj,mk.r⟩,⟨.turn j m.turn,rfl,hj,mk.t⟩⟩) λd hd=>?_
   obtain⟨dd,rfl,hd⟩:=hd
   simp_all_arith
   exact k dd _ hd t
def p8 {s:bP}{mm:Int}{i:Nat}{f:Mv->Mv}(ok:a7 mm s)(hf:∀m,DC s.book.length m->DC s.book.length (f m)):a7 mm (l7 s i f):=by
 unfold l7;split
 ·rename_i m hm;refine⟨ok.floor,ok.sx,ok.sy,ok.bl,ok.book,by simpa using ok.ml,λm' h'=>?_,ok.pl,ok.pots⟩;rcases mem_or_eq_of_mem_set h' with q|q
  ·exact ok.movers m' q
  ·rw[q];exact hf m (ok.movers m (mem_of_getElem? hm))
 omega
def p7 {s:bP}{mm:Int}{dd:Dd}(ok:a7 mm s)(h:jP s dd):a7 mm (cg s dd):=by
 cases dd with
 | shift x y=>exact⟨ok.floor,h.1,h.2,ok.bl,ok.book,ok.ml,ok.movers,ok.pl,ok.pots⟩
 | pot k hu=>
  refine⟨ok.floor,ok.sx,ok.sy,ok.bl,ok.book,ok.ml,ok.movers,by simpa[cg] using ok.pl,λq hq=>?_⟩;rcases mem_or_eq_of_mem_set hq with z|z
  ·exact ok.pots q z
  ·rw[z];exact h.2
 | move i x y=>exact p8 ok λm hm=>⟨hm.s,h.2.1,h.2.2,hm.r,hm.t⟩
 | shape i o=>exact p8 ok λm hm=>⟨h.2,hm.x,hm.y,hm.r,hm.t⟩
 | rank i r=>exact p8 ok λm hm=>⟨hm.s,hm.x,hm.y,h.2,hm.t⟩
 | turn i t=>exact p8 ok λm hm=>⟨hm.s,hm.x,hm.y,hm.r,h.2⟩
def rJ (xs:List D)(i:Nat)(x:D)(h:i<xs.length):xs.take i++[x]++xs.drop (i+1)=xs.set i x:=by
 rw[set_eq_take_append_cons_drop,if_pos h];simp
def sF {xs:List D}{i:Nat}{x:D}{M:ay}(h:i<xs.length)(hl:xs.length<=2000):gN [U xs,I i,x] M=O (U (xs.set i x)) M:=by
 rw[<-rJ xs i x h];refine Wp.is (aN ?_);unfold mU
 simp_all_arith
 rw[tN];refine Ar.mk (by simp;omega) ?_
 simp_all_arith
 rw[show g6 xs (Z ((i:Int)+1)) Y=xs.drop (i+1) from uX xs (i+1)];refine Ar.mk (by simp;omega) ?_
 simp_all_arith
 exact⟨rfl,rfl⟩
def wG (n:Nat)(rs:List (List Int)):aI (n+3) (bu rs)=true:=by
 unfold bu;rw[gF,all_map,all_eq_true];intro r _;exact dA n r
def IR (n:Nat)(m:Mv):aI (n+2) m.d=true:=by
 unfold Mv.d;cases m.shape <;> rfl
def iT (s:bP):aI 30 s.d=true:=by
 have p2:(s.book.map bu).all (aI 28)=true:=by
  rw[all_map,all_eq_true];intro b _;exact wG 25 b
 have p3:(s.movers.map Mv.d).all (aI 28)=true:=by
  rw[all_map,all_eq_true];intro m _;exact IR 26 m
 unfold bP.d;simp only[gF,all_cons,all_nil,(wG 26 s.floor),p2,p3,(dA 27 s.pots)];rfl
def pQ {s:bP}{i:Nat}{m:Mv}{f:Mv->Mv}(gm:s.movers[i]?=Z m):(l7 s i f).d=U [bu s.floor,U [I s.sx,I s.sy],U (s.book.map bu),U ((s.movers.map Mv.d).set i (f m).d),U (s.pots.map I)]:=by
 have e:l7 s i f={s with movers:=s.movers.set i (f m)}:=by unfold l7;rw[gm]
 rw[e];unfold bP.d;simp
def Bk {s:bP}{mm:Int}{dd:Dd}{M:ay}(ok:a7 mm s)(hm:mm<=900)(h:jP s dd):fI [s.d,dd.d] M=O (cg s dd).d M:=by
 have id1:=qW (M:=M) h;have ml:=ok.ml;have hl:(s.movers.map Mv.d).length<=2000:=by rw[length_map];omega
 have mv:∀(i:Nat) (hi:i<s.movers.length),∃m,s.movers[i]?=Z m/\(s.movers.map Mv.d)[i]?=Z (U [ym m.shape,I m.x,I m.y,I m.rank,I m.turn]):=λi hi=>
  ⟨s.movers[i],getElem?_eq_getElem hi,by rw[getElem?_map,getElem?_eq_getElem hi,<-z6];rfl⟩
 have wp:∀{i:Nat} {x:D},i<s.movers.length->gN [U (s.movers.map Mv.d),I i,x] M=O (U ((s.movers.map Mv.d).set i x)) M:=λh=>sF (by rwa [length_map]) hl
 refine Wp.is (aN ?_);unfold iR;cases dd with
 | shift x y=>
  simp_all_arith
  exact⟨rfl,rfl⟩
 | pot k hu=>
  obtain⟨kn,rfl⟩:=Us h.1.1;have hk:=h.1.2;have w:=sF (xs:=s.pots.map I) (i:=kn) (x:=I hu) (M:=M) (by rw[length_map,ok.pl];omega) (by rw[length_map,ok.pl];omega)
  simp_all_arith
  refine⟨?_,rfl⟩;show _=D.tup [bu s.floor,U [I s.sx,I s.sy],U (s.book.map bu),U (s.movers.map Mv.d),U ((s.pots.set kn hu).map I)];rw[map_set]
 | move i x y=>
  obtain⟨m,gm,am⟩:=mv i h.1
  simp_all_arith
  refine aN ?_;unfold cW
  simp_all_arith
  refine bZ (wp h.1) ?_
  simp_all_arith
  exact⟨(pQ (f:=λm=>{m with x:=x,y:=y}) gm).symm,rfl⟩
 | shape i o=>
  obtain⟨m,gm,am⟩:=mv i h.1
  simp_all_arith
  refine aN ?_;unfold cW
  simp_all_arith
  refine bZ (wp h.1) ?_
  simp_all_arith
  exact⟨((pQ (f:=λm=>{m with shape:=o}) gm).trans (by rw[z6])).symm,rfl⟩
 | rank i r=>
  obtain⟨m,gm,am⟩:=mv i h.1
  simp_all_arith
  refine aN ?_;unfold cW
  simp_all_arith
  refine bZ (wp h.1) ?_
  simp_all_arith
  exact⟨((pQ (f:=λm=>{m with rank:=r}) gm).trans (by rw[z6])).symm,rfl⟩
 | turn i t=>
  obtain⟨m,gm,am⟩:=mv i h.1
  simp_all_arith
  refine aN ?_;unfold cW
  simp_all_arith
  refine bZ (wp h.1) ?_
  simp_all_arith
  exact⟨((pQ (f:=λm=>{m with turn:=t}) gm).trans (by rw[z6])).symm,rfl⟩
structure Bs where
 st:D
 t:Int
 tk:D
 rows:List (List Int)
 tch:List (List bM×D)
 grd:List (bM×D)
 lost:List D
def cY (fr:D)(b:Nat)(B:Bs):List (Str×D):=[("frame",fr),("standing",B.st),("ahead",I B.t),("row_taken",B.tk),("laid_rows",R (b+1)),("first_touches",R (b+2)),("first_grounds",R (b+3)),("lost_pairs",R (b+4))]
def kF (b n:Nat):List D:=(UH n).map λi=>D.mr (b+5+i)
def sG (r:List Int):MO:=.lst (r.map I)
def uu (fr:D)(b:Nat)(B:Bs):ay:=.obj "Beam" (cY fr b B)::.lst (kF b B.rows.length)::.dT B.tch::.dK B.grd::.lst B.lost::B.rows.map sG
def ao (M0:ay)(fr:D)(B:Bs):ay:=M0++uu fr M0.length B
section
variable {M0:ay}{fr:D}{B:Bs}
def wq (k:Nat):(ao M0 fr B)[M0.length+k]?=(uu fr M0.length B)[k]?:=by
 unfold ao;rw[getElem?_append_right (by simp),Xi]
def ox (k:Nat)(o:MO):(ao M0 fr B).set (M0.length+k) o=M0++(uu fr M0.length B).set k o:=by
 unfold ao;simp
def fm:(ao M0 fr B)[M0.length]?=Z (.obj "Beam" (cY fr M0.length B)):=wq 0
def Kg:(ao M0 fr B)[M0.length+1]?=Z (.lst (kF M0.length B.rows.length)):=wq 1
def NQ:(ao M0 fr B)[M0.length+2]?=Z (.dT B.tch):=wq 2
def LG:(ao M0 fr B)[M0.length+3]?=Z (.dK B.grd):=wq 3
def PM:(ao M0 fr B)[M0.length+4]?=Z (.lst B.lost):=wq 4
def BD {i:Nat}{r:List Int}(h:B.rows[i]?=Z r):(ao M0 fr B)[M0.length+5+i]?=Z (sG r):=by
 rw[WJ,wq,show 5+i=i+5 by omega];show(B.rows.map sG)[i]?=_
 simp_all
def AY:(ao M0 fr B).length=M0.length+5+B.rows.length:=by
 unfold ao uu;simp only[length_append,length_cons,length_map];omega
theorem m7 {b:Nat}:(cY fr b B).lookup ("frame":Str)=Z (fr:D):=rfl
theorem BP {b:Nat}:(cY fr b B).lookup ("standing":Str)=Z (B.st:D):=rfl
theorem yf {b:Nat}:(cY fr b B).lookup ("ahead":Str)=Z ((I B.t):D):=rfl
theorem KQ {b:Nat}:(cY fr b B).lookup ("row_taken":Str)=Z (B.tk:D):=rfl
theorem xp {b:Nat}:(cY fr b B).lookup ("laid_rows":Str)=Z ((R (b+1)):D):=rfl
theorem GH {b:Nat}:(cY fr b B).lookup ("first_touches":Str)=Z ((R (b+2)):D):=rfl
theorem FX {b:Nat}:(cY fr b B).lookup ("first_grounds":Str)=Z ((R (b+3)):D):=rfl
theorem CD {b:Nat}:(cY fr b B).lookup ("lost_pairs":Str)=Z ((R (b+4)):D):=rfl
def Rh {t:Int}:(ao M0 fr B).set M0.length (.obj "Beam" (jG "ahead" (I t) (cY fr M0.length B)))=ao M0 fr {B with t:=t}:=ox 0 _
def Mt {tk:D}:(ao M0 fr B).set M0.length (.obj "Beam" (jG "row_taken" tk (cY fr M0.length B)))=ao M0 fr {B with tk:=tk}:=ox 0 _
def MC {st:D}:(ao M0 fr B).set M0.length (.obj "Beam" (jG "standing" st (cY fr M0.length B)))=ao M0 fr {B with st:=st}:=ox 0 _
def Ee:(ao M0 fr B).set M0.length (.obj "Beam" (jG "lost_pairs" (R (M0.length+4)) (cY fr M0.length B)))=ao M0 fr B:=uM fm
def Ku {x:List (List bM×D)}:(ao M0 fr B).set (M0.length+2) (.dT x)=ao M0 fr {B with tch:=x}:=ox 2 _
def Jd {x:List (bM×D)}:(ao M0 fr B).set (M0.length+3) (.dK x)=ao M0 fr {B with grd:=x}:=ox 3 _
def FU {x:List D}:(ao M0 fr B).set (M0.length+4) (.lst x)=ao M0 fr {B with lost:=x}:=ox 4 _
def IL {i:Nat}{r:List Int}:(ao M0 fr B).set (M0.length+5+i) (sG r)=ao M0 fr {B with rows:=B.rows.set i r}:=by
 rw[WJ,ox,show 5+i=i+5 by omega];unfold ao uu cY;simp
def IZ:((ao M0 fr B)++[MO.lst []]).set (M0.length+1) (MO.lst (kF M0.length B.rows.length++[D.mr (ao M0 fr B).length]))=ao M0 fr {B with rows:=B.rows++[[]]}:=by
 rw[AY];unfold ao;rw[append_assoc,set_append_right _ _ (by simp),Xi];have e:kF M0.length B.rows.length++[D.mr (M0.length+5+B.rows.length)]=kF M0.length (B.rows++[[]]).length:=by
  unfold kF;rw[length_append,length_singleton,range_succ,map_append];rfl
 rw[e];show M0++(_::_::_::_::_::(B.rows.map sG++[.lst []]))=M0++(_::_::_::_::_::((B.rows++[[]]).map sG));rw[map_append];rfl
structure Bs.Pure (B:Bs):Prop where
 st:aI 30 B.st=true
 tk:aI 30 B.tk=true
 tch:∀p∈B.tch,aI 30 p.2=true
 grd:∀p∈B.grd,aI 30 p.2=true
 lost:∀p∈B.lost,aI 30 p=true
def nJ (h0:cA M0)(hf:aI 30 fr=true)(p:B.Pure):cA (ao M0 fr B):=by
 unfold cA;rw[AY];unfold ao;rw[all_append,Uw];refine⟨all_eq_true.mpr λx hx=>qU (by omega) (all_eq_true.mp h0 x hx),?_⟩;unfold uu;simp only[all_cons,Uw];have f:∀k:Nat,k<=4->oJ (M0.length+5+B.rows.length) 30 (R (M0.length+k))=true:=λk hk=>decide_eq_true (by omega)
 refine⟨?_,?_,?_,?_,?_,?_⟩
 ·show(cY fr M0.length B).all (λp=>oJ (M0.length+5+B.rows.length) 30 p.2)=true;unfold cY;simp only[all_cons,all_nil,Uw];exact⟨bV 30 _ hf,bV 30 _ p.st,rfl,bV 30 _ p.tk,f 1 (by decide),f 2 (by decide),f 3 (by decide),f 4 (by decide),trivial⟩
 ·refine all_eq_true.mpr λx hx=>?_
  obtain⟨i,hi,rfl⟩:=mem_map.mp hx;exact decide_eq_true (by grind)
 ·exact all_eq_true.mpr λx hx=>bV 30 _ (p.tch x hx)
 ·exact all_eq_true.mpr λx hx=>bV 30 _ (p.grd x hx)
 ·exact all_eq_true.mpr λx hx=>bV 30 _ (p.lost x hx)
 ·refine all_eq_true.mpr λx hx=>?_
  obtain⟨r,_,rfl⟩:=mem_map.mp hx;exact nF (dA 29 r)
end
theorem jq {w h g m:Int}{M:ay}:gU [aZ w h g m] M=O (I (w+g)) M:=rfl
def cn {w h g m:Int}{M:ay}(k:dJ w h g m):cb [aZ w h g m] M=O (I (h*(w+g))) M:=by
 show bL (lI [Z (aZ w h g m),Y,Y,Y,Y] M)=_;unfold lI;rw[aU rfl,fX (aT rfl (wb rfl jq) (Mq   (by have:=k.h;omega) (by have:=k.h;omega) M))];rfl
def oz (w g t:Int):D:=if t % (w+g)<w then U [I (t / (w+g)),I (t % (w+g))] else U [I (t / (w+g)),.non]
def G4 {w h g m t:Int}{M:ay}(f:dJ w h g m)(h0:0<=t)(h1:t<h*(w+g)):lV [aZ w h g m,I t] M=O (oz w g t) M:=by
 have e:=jq (w:=w) (h:=h) (g:=g) (m:=m) (M:=M);have e2:=cn (M:=M) f;have p:0<w+g:=by have:=f.w;have:=f.g;omega
 have dv:Hy [I t,I (w+g)] M=O (U [I (t / (w+g)),I (t % (w+g))]) M:=by
  unfold Hy;dsimp only;rw[if_pos ⟨p,Dt p (by have:=f.w;have:=f.g;omega)⟩]
 refine Wp.is (aN ?_);unfold pc oz
 simp_all_arith
 ·exact⟨by rw[if_neg (by omega)],rfl⟩
 ·exact⟨by rw[if_pos (by omega)],rfl⟩
def jS (xs:List Int)(lo hi:Option Int):List Int:=(xs.drop (HT.sIx xs.length 0 lo)).take (HT.sIx xs.length xs.length hi-HT.sIx xs.length 0 lo)
def p6 (xs:List Int)(lo hi:Option Int):g6 (xs.map I) lo hi=(jS xs lo hi).map I:=by simp[g6,jS]
def qD (xs:List Int)(lo hi:Option Int):(jS xs lo hi).length<=xs.length:=by
 unfold jS;rw[length_take,length_drop];omega
def zE {xs:List Int}{lo hi:Option Int}{y:Int}(h:y∈jS xs lo hi):y∈xs:=mem_of_mem_drop (mem_of_mem_take h)
def sJ (s:bP)(row n:Int):Sn:=match s.movers[n.toNat]? with
 | some m=>⟨n,m.x,m.rank,mV (s.book.getD (m.shape.getD 0) []) m.turn (row-m.y).toNat⟩
 | none=>⟨n,0,0,[]⟩
def bD (s:bP)(m row:Int):List Sn:=(jS (bz s row) Y (Z m)).map (sJ s row)
def GQ {s:bP}{row n:Int}(h:n∈bz s row):bd s row n=(sJ s row n).d:=by
 obtain⟨i,rfl,hi,m,gm,lz⟩:=ni h;unfold bd sJ;rw[UC,gm];rfl
def DR (s:bP)(m row:Int):o6 s m row=(bD s m row).map Sn.d:=by
 unfold o6 bD;rw[p6,map_map,map_map];apply map_congr_left;intro n hn;exact GQ (zE hn)
def sO (s:bP)(w row:Int):List Int:=(UH w.toNat).map λ(x:Nat)=>cL s row x
def qG (s:bP)(w m row:Int):bC s w m row=U [U ((sO s w row).map I),U ((bD s m row).map Sn.d)]:=by
 unfold bC;rw[DR];unfold sO;rw[map_map];rfl
def xl {s:bP}{row mm:Int}(ok:a7 mm s)(hm:mm<=12):(bz s row).length<=12:=by
 have:=kH s row s.movers.length;have:=ok.ml;unfold bz;omega
def xy {s:bP}{m row mm:Int}(ok:a7 mm s)(hm:mm<=12):(bD s m row).length<=12:=by
 unfold bD;rw[length_map];exact UK (qD _ _ _) (xl ok hm)
def va (s:bP)(w m row:Int):aI 30 (bC s w m row)=true:=by
 rw[qG];have b:((bD s m row).map Sn.d).all (aI 28)=true:=all_eq_true.mpr λx hx=>by
  obtain⟨q,_,rfl⟩:=mem_map.mp hx;unfold Sn.d;simp only[gF,all_cons,all_nil,(dA 25 q.ks)];rfl
 simp only[gF,all_cons,all_nil,(dA 27 (sO s w row)),b];rfl
def Ck {s:bP}{w row mm:Int}(ok:a7 mm s):∀k∈sO s w row,0<=k/\k<=15:=by
 intro k hk;obtain⟨x,_,rfl⟩:=mem_map.mp hk;obtain⟨f1,f2,fw,f3,f4,f5⟩:=ok.floor;unfold cL;have fr:∀k∈bh s row,0<=k/\k<=15:=by
  intro k hk;unfold bh at hk;rw[Wd] at hk;cases q:s.floor[((row+s.sy) % (s.floor.length)).toNat]? with
  | none=>simp_all
  | some r=>
   rw[q] at hk;exact(f5 r (mem_of_getElem? q)).2 k hk
 rw[Wd];cases q:(bh s row)[((↑x+s.sx) % ((bh s row).length)).toNat]? with
 | none=>simp
 | some r=>exact fr r (mem_of_getElem? q)
def Dn {rs:List (List Int)}{way:Int}{n:Nat}(h:∀r∈rs,∀k∈r,0<=k/\k<=15):∀k∈mV rs way n,0<=k/\k<=15:=by
 have g:∀(i:Nat),∀k∈rs.getD i [],0<=k/\k<=15:=by
  intro i k hk;rw[Wd] at hk;cases q:rs[i]? with
  | none=>simp_all
  | some r=>rw[q] at hk;exact h r (mem_of_getElem? q) k hk
 intro k hk;unfold mV at hk;dsimp only at hk;split at hk
 ·rw[mem_reverse] at hk;split at hk
  ·exact g _ k hk
  ·exact g _ k hk
 ·split at hk
  ·exact g _ k hk
  ·exact g _ k hk
def Gy {s:bP}{m row mm x:Int}(ok:a7 mm s):∀q∈bD s m row,0<=cp x q/\cp x q<=15:=by
 intro q hq;obtain⟨n,_,rfl⟩:=mem_map.mp hq;have a:∀k∈(sJ s row n).ks,0<=k/\k<=15:=by
  intro k hk;unfold sJ at hk;split at hk
  ·refine Dn (λr hr k hk=>?_) k hk;rename_i m' _ _;rw[Wd] at hr;cases e:s.book[m'.shape.getD 0]? with
   | none=>simp_all
   | some b=>
    rw[e] at hr;obtain⟨b1,b2,bw,b3,b4,b5⟩:=ok.book b (mem_of_getElem? e);exact(b5 r hr).2 k hk
  simp_all
 unfold cp;split
 ·rw[Wd];cases e:(sJ s row n).ks[(x-(sJ s row n).x).toNat]? with
  | none=>simp
  | some k=>exact a k (mem_of_getElem? e)
 simp
def hX (x fl:Int)(cs:List Sn)(k:Int):Prop:=(cs=[]/\k=fl)\/∃b∈cs,(∀s∈cs,Az b s)/\k=if 1<=b.r\/fl=0 then cp x b else fl
def Fu {x fl:Int}{cs:List Sn}{M:ay}:∃k,hX x fl cs k/\dS [I fl,.lst (cs.map (qu x))] M=O (I k) M:=by
 rcases E0   with⟨e,h⟩|⟨b,hb,hl,h⟩
 ·exact⟨fl,.inl ⟨e,rfl⟩,h⟩
 ·exact⟨_,.inr ⟨b,hb,hl,rfl⟩,h⟩
def hX.rng {x fl k:Int}{cs:List Sn}(h:hX x fl cs k)(hf:0<=fl/\fl<=15)(hc:∀q∈cs,0<=cp x q/\cp x q<=15):0<=k/\k<=15:=by
 rcases h with⟨_,rfl⟩|⟨b,hb,_,rfl⟩
 ·omega
 ·split
  ·exact hc b hb
  omega
def E2 {s:bP}{w h g m row mm:Int}{M:ay}(ok:a7 mm s)(hm:mm<=12)(hM:cA M):iG [aZ w h g m,s.d,I row] M=O (.lst ((jS (bz s row) (Z m) Y).map I)) M:=by
 have e:=EN (row:=row) ok (by omega) hM;refine Wp.is (aN ?_);unfold qX
 simp_all_arith
 exact⟨by rw[p6],rfl⟩
def xP {fr:D}{b:Nat}{B:Bs}:(cY fr b B).length<1000:=by show 8<1000;simp
def iV (row:Int)(ns:List Int):List D:=ns.map λn=>D.tup [I row,I n]
def JQ {M0:ay}{B:Bs}{s:bP}{w h g m row mm:Int}(h0:cA M0)(p:B.Pure)(hs:B.st=s.d)(ok:a7 mm s)(hm:mm<=12)(f:dJ w h g m)(hl:B.lost.length<=90000)(hr:B.rows.length<100000) :
  eV [R M0.length,I row] (ao M0 (aZ w h g m) B)=O .non (ao M0 (aZ w h g m) {B with tk:=bC s w m row,rows:=B.rows++[[]],lost:=B.lost++iV row (jS (bz s row) (Z m) Y)}):=by
 have pf:aI 30 (aZ w h g m)=true:=rfl;have sh:=nJ (fr:=aZ w h g m) h0 pf p;have et:=Hw (w:=w) (hh:=h) (g:=g) (m:=m) (row:=row) ok (by omega) (by have:=f.w;omega) f.m sh;show bL (fj [Z (R M0.length),Z (I row)] _)=_;unfold fj;have f1:=λ(B:Bs)=>bO (g:=ae 0) (ρ:=[Z (R M0.length),Z (I row)]) (M:=ao M0 (aZ w h g m) B) (f:="frame") rfl fm m7
 have f2:=λ(B:Bs)=>bO (g:=ae 0) (ρ:=[Z (R M0.length),Z (I row)]) (M:=ao M0 (aZ w h g m) B) (f:="standing") rfl fm BP
 have f3:=λ(B:Bs)=>bO (g:=ae 0) (ρ:=[Z (R M0.length),Z (I row)]) (M:=ao M0 (aZ w h g m) B) (f:="laid_rows") rfl fm xp
 have c1:=CA (F:=tF) (o:=O (bC s w m row) (ao M0 (aZ w h g m) B)) (f1 B) (f2 B) (c:=ae 1) rfl (by rw[hs];exact et);have s1:=xC (c:="Beam") (f:="row_taken") (go:=ae 0) (fs:=cY (aZ w h g m) M0.length B) c1 rfl fm xP;rw[aU s1,Mt];generalize hB1:({B with tk:=bC s w m row}:Bs)=B1;have p1:B1.Pure:=by rw[<-hB1];exact⟨p.st,va s w m row,p.tch,p.grd,p.lost⟩
 have hs1:B1.st=s.d:=by rw[<-hB1];exact hs
 have a1:=yh (f3 B1) Kg sZ (by rw[getElem?_append_left (by rw[AY];omega)];exact Kg) (by unfold kF;rw[length_map,length_range,<-hB1];show B.rows.length<1000000;omega);rw[IZ] at a1;rw[aU (b8 a1)];generalize hB2:({B1 with rows:=B1.rows++[[]]}:Bs)=B2;have p2:B2.Pure:=by rw[<-hB2];exact⟨p1.st,p1.tk,p1.tch,p1.grd,p1.lost⟩
 have hs2:B2.st=s.d:=by rw[<-hB2];exact hs1
 have hl2:B2.lost=B.lost:=by rw[<-hB2,<-hB1]
 have sh2:=nJ (fr:=aZ w h g m) h0 pf p2;have el:=E2 (w:=w) (h:=h) (g:=g) (m:=m) (row:=row) ok hm sh2;have ll:(jS (bz s row) (Z m) Y).length<=12:=UK (qD _ _ _) (xl ok hm);have c2:=CA (F:=iG) (o:=O (.lst ((jS (bz s row) (Z m) Y).map I)) (ao M0 (aZ w h g m) B2)) (f1 B2) (f2 B2) (c:=ae 1) rfl (by rw[hs2];exact el);have ec:=mI (ds0:=(jS (bz s row) (Z m) Y).map I) (ge:=d8) (ρ:=[Z (R M0.length),Z (I row)]) (f:=λd=>U [I row,d]) (M:=ao M0 (aZ w h g m) B2) ((jS (bz s row) (Z m) Y).map I) (λd hd=>rfl);have em:((jS (bz s row) (Z m) Y).map I).map (λd=>D.tup [I row,d])=iV row (jS (bz s row) (Z m) Y):=by rw[map_map];rfl
 rw[em] at ec;generalize jS (bz s row) (Z m) Y=ls at *;have gi:bE (ah 3 iG (aa (cX "Beam" "frame" (ae 0)) (aa (cX "Beam" "standing" (ae 0)) (aa (ae 1) ag)))) [Z (R M0.length),Z (I row)] (ao M0 (aZ w h g m) B2)=O ⟨ls.map I,Y⟩ (ao M0 (aZ w h g m) B2):=by
  unfold bE;rw[c2];rfl
 have gv:a9 (bE (ah 3 iG (aa (cX "Beam" "frame" (ae 0)) (aa (cX "Beam" "standing" (ae 0)) (aa (ae 1) ag))))) bp d8 aO [Z (R M0.length),Z (I row)] (ao M0 (aZ w h g m) B2)=O (.lst (iV row ls)) (ao M0 (aZ w h g m) B2):=by
  unfold a9;rw[gi,az];dsimp only;rw[ec,az];unfold aO;rw[if_pos (b9 (by unfold iV;rw[length_map];omega))]
 have au:=Jq (ys:=iV row ls) (PM (M0:=M0) (fr:=aZ w h g m) (B:=B2)) (by rw[hl2];unfold iV;rw[length_map];omega);rw[FU] at au;have s3:=K3 (c:="Beam") (f:="lost_pairs") (go:=ae 0) (ρ:=[Z (R M0.length),Z (I row)]) rfl fm CD gv au fm xP;rw[s3];have fin:=Ee (M0:=M0) (fr:=aZ w h g m) (B:={B2 with lost:=B2.lost++iV row ls});show bc.ok D.non ((ao M0 (aZ w h g m) {B2 with lost:=B2.lost++iV row ls}).set M0.length (.obj "Beam" (jG "lost_pairs" (R (M0.length+4)) (cY (aZ w h g m) M0.length {B2 with lost:=B2.lost++iV row ls}))))=_;rw[fin,<-hB2,<-hB1]
theorem kJ {κ α:Type}[DecidableEq κ](key:α->κ)(z:D):∀(os:List α) (acc:List (κ×D)),(os.foldl (λa o=>tZ a (key o) z) acc).length<=acc.length+os.length
 | [],acc=>Uj _
 | o::os,acc=>by
  have:=kJ key z os (tZ acc (key o) z);have:=Cs acc (key o) z
  grind
def EU {κ:Type}[DecidableEq κ]{acc:List (κ×D)}{k:κ}{z:D}(hz:aI 30 z=true)(h:∀p∈acc,aI 30 p.2=true):∀p∈tZ acc k z,aI 30 p.2=true:=by
 unfold tZ;split
 ·omega
 ·intro p hp;rcases mem_append.mp hp with q|q
  ·exact h p q
  ·rw[mem_singleton] at q;rwa [q]
theorem qH {κ α:Type}[DecidableEq κ](key:α->κ){z:D}(hz:aI 30 z=true):∀(os:List α) (acc:List (κ×D)),(∀p∈acc,aI 30 p.2=true)->∀p∈os.foldl (λa o=>tZ a (key o) z) acc,aI 30 p.2=true
 | [],acc,h=>h
 | o::os,acc,h=>qH key hz os _ (EU hz h)
def fO (ns:List Int)(z:D)(g:List (bM×D)):List (bM×D):=ns.foldl (λa n=>tZ a (UQ n) z) g
def f6 (n:Int)(os:List Int)(z:D)(t:List (List bM×D)):List (List bM×D):=os.foldl (λa o=>tZ a [UQ n,UQ o] z) t
def ck (ns:List Int)(z:D)(t0:List (List bM×D)):Nat->List (List bM×D)
 | 0=>t0
 | j+1=>match ns[j]? with
  | some n=>f6 n (ns.drop (j+1)) z (ck ns z t0 j)
  | none=>ck ns z t0 j
theorem nO (ns:List Int)(z:D)(t0:List (List bM×D)):∀j,(ck ns z t0 j).length<=t0.length+j*ns.length
 | 0=>by show t0.length<=_;simp
 | j+1=>by
  have ih:=nO ns z t0 j;have e:(j+1)*ns.length=j*ns.length+ns.length:=Nat.succ_mul _ _;unfold ck;split
  ·rename_i n _;have:=kJ (κ:=List bM) (λo=>[UQ n,UQ o]) z (ns.drop (j+1)) (ck ns z t0 j);unfold f6;rw[length_drop] at this;omega
  grind
theorem ux {ns:List Int}{z:D}{t0:List (List bM×D)}(hz:aI 30 z=true)(h:∀p∈t0,aI 30 p.2=true):∀j,∀p∈ck ns z t0 j,aI 30 p.2=true
 | 0=>h
 | j+1=>by
  have ih:=ux (ns:=ns) hz h j;unfold ck;split
  ·exact qH _ hz _ _ ih
  omega
def zq {ns:List Int}{j:Nat}(hj:j<ns.length):g6 (ns.map I) (Z ((j:Int)+1)) Y=(ns.drop (j+1)).map I:=by
 rw[p6];unfold jS;rw[show((j:Int)+1)=((j+1:Nat)) from by rfl,HT.sIx_nat,HT.sIx_none,XT (by omega),take_of_length_le (by simp)]
def A5 {M0:ay}{B:Bs}{fr:D}{ns:List Int}{row x:Int}(hl:B.grd.length+ns.length<1000000) :
  eJ [R M0.length,.lst (ns.map I),I row,I x] (ao M0 fr B)=O .non (ao M0 fr {B with grd:=fO ns (U [I row,I x]) B.grd}):=by
 obtain⟨ρ',M',⟨x4,rfl,rfl⟩,ef⟩:=o5 (ds0:=ns.map I) (s:=d7 4) (body:=dP)
  (W:=λi ρ N=>∃x4,ρ=[Z (R M0.length),Z (.lst (ns.map I)),Z (I row),Z (I x),x4]/\N=ao M0 fr {B with grd:=fO (ns.take i) (U [I row,I x]) B.grd})
  (ns.map I) 0 (λj d hd ρ N hW=>by
   obtain⟨x4,rfl,rfl⟩:=hW;rw[U2];rw[getElem?_map] at hd;cases gs:ns[j]? with
   | none=>rw[gs] at hd;cases hd
   | some n=>
   rw[gs] at hd;cases hd;have e1:fO (ns.take (j+1)) (U [I row,I x]) B.grd=tZ (fO (ns.take j) (U [I row,I x]) B.grd) (UQ n) (U [I row,I x]):=by
    unfold fO;rw[take_succ,gs,foldl_append];rfl
   have lb:(fO (ns.take j) (U [I row,I x]) B.grd).length<1000000:=by
    have:=kJ (κ:=bM) (λn=>UQ n) (U [I row,I x]) (ns.take j) B.grd;rw[length_take] at this;unfold fO;omega
   rw[e1];generalize fO (ns.take j) (U [I row,I x]) B.grd=gd at *;have fl:=bO (g:=ae 0) (ρ:=[Z (R M0.length),Z (.lst (ns.map I)),Z (I row),Z (I x),Z (I n)]) (M:=ao M0 fr {B with grd:=gd}) rfl fm FX;obtain⟨r,er⟩:=u7 (y:=I n) (z:=U [I row,I x]) (LG (M0:=M0) (fr:=fr) (B:={B with grd:=gd})) rfl lb;rw[Jd] at er;have tp:=kj (ga:=aa (ae 2) (aa (ae 3) ag)) (ρ:=[Z (R M0.length),Z (.lst (ns.map I)),Z (I row),Z (I x),Z (I n)]) (M:=ao M0 fr {B with grd:=gd})  (ds:=[I row,I x]) rfl (by simp);exact⟨_,_,_,rfl,b8 (nG fl (by rw[LG];rfl) rfl tp er),_,rfl,rfl⟩)
  [Z (R M0.length),Z (.lst (ns.map I)),Z (I row),Z (I x),Y] (ao M0 fr B) ⟨_,rfl,rfl⟩
 rw[length_map,U2,take_length] at ef;show bL (cR [Z (R M0.length),Z (.lst (ns.map I)),Z (I row),Z (I x),Y] _)=_;unfold cR;rw[mP (nI (i:=1) rfl) ef];rfl
def Gx {M0:ay}{B:Bs}{fr:D}{ns os:List Int}{n row x at_:Int}{t:List (List bM×D)}{x6:Option D}(hl:t.length+os.length<1000000) :
  ∃y6,cT ⟨os.map I,Y⟩ (d7 6) cK (os.map I) [Z (R M0.length),Z (.lst (ns.map I)),Z (I row),Z (I x),Z (I at_),Z (I n),x6] (ao M0 fr {B with tch:=t}) =
   O (.nx [Z (R M0.length),Z (.lst (ns.map I)),Z (I row),Z (I x),Z (I at_),Z (I n),y6]) (ao M0 fr {B with tch:=f6 n os (U [I row,I x]) t}):=by
 obtain⟨ρ',M',⟨y6,rfl,rfl⟩,ef⟩:=o5 (ds0:=os.map I) (s:=d7 6) (body:=cK)
  (W:=λi ρ N=>∃x6,ρ=[Z (R M0.length),Z (.lst (ns.map I)),Z (I row),Z (I x),Z (I at_),Z (I n),x6]/\N=ao M0 fr {B with tch:=f6 n (os.take i) (U [I row,I x]) t})
  (os.map I) 0 (λj d hd ρ N hW=>by
   obtain⟨x6,rfl,rfl⟩:=hW;rw[U2];rw[getElem?_map] at hd;cases gs:os[j]? with
   | none=>rw[gs] at hd;cases hd
   | some o=>
   rw[gs] at hd;cases hd;have hj:=(Uk.mp gs).1;have e1:f6 n (os.take (j+1)) (U [I row,I x]) t=tZ (f6 n (os.take j) (U [I row,I x]) t) [UQ n,UQ o] (U [I row,I x]):=by
    unfold f6;rw[take_succ,gs,foldl_append];rfl
   have lb:(f6 n (os.take j) (U [I row,I x]) t).length<1000000:=by
    have:=kJ (κ:=List bM) (λo=>[UQ n,UQ o]) (U [I row,I x]) (os.take j) t;rw[length_take] at this;unfold f6;omega
   rw[e1];generalize f6 n (os.take j) (U [I row,I x]) t=gd at *;have fl:=bO (g:=ae 0) (ρ:=[Z (R M0.length),Z (.lst (ns.map I)),Z (I row),Z (I x),Z (I at_),Z (I n),Z (I o)]) (M:=ao M0 fr {B with tch:=gd}) rfl fm GH;obtain⟨r,er⟩:=uo (y:=U [I n,I o]) (k:=[UQ n,UQ o]) (z:=U [I row,I x]) (NQ (M0:=M0) (fr:=fr) (B:={B with tch:=gd})) rfl lb;rw[Ku] at er;have tp:=kj (ga:=aa (ae 2) (aa (ae 3) ag)) (ρ:=[Z (R M0.length),Z (.lst (ns.map I)),Z (I row),Z (I x),Z (I at_),Z (I n),Z (I o)]) (M:=ao M0 fr {B with tch:=gd})  (ds:=[I row,I x]) rfl (by simp);have tp2:=kj (ga:=aa (ae 5) (aa (ae 6) ag)) (ρ:=[Z (R M0.length),Z (.lst (ns.map I)),Z (I row),Z (I x),Z (I at_),Z (I n),Z (I o)]) (M:=ao M0 fr {B with tch:=gd})  (ds:=[I n,I o]) rfl (by simp);exact⟨_,_,_,rfl,b8 (nG fl (by rw[NQ];rfl) tp2 tp er),_,rfl,rfl⟩)
  [Z (R M0.length),Z (.lst (ns.map I)),Z (I row),Z (I x),Z (I at_),Z (I n),x6] (ao M0 fr {B with tch:=t}) ⟨_,rfl,rfl⟩
 rw[length_map,U2,take_length] at ef;exact⟨y6,ef⟩
def Av {M0:ay}{B:Bs}{fr:D}{ns:List Int}{row x:Int}(hn:ns.length<=12)(hl:B.tch.length<900000) :
  eO [R M0.length,.lst (ns.map I),I row,I x] (ao M0 fr B)=O .non (ao M0 fr {B with tch:=ck ns (U [I row,I x]) B.tch ns.length}):=by
 obtain⟨ρ',M',⟨x4,x5,x6,rfl,rfl⟩,ef⟩:=o5 (ds0:=mB (ns.map I)) (s:=bN [4,5]) (body:=cM)
  (W:=λi ρ N=>∃x4 x5 x6,ρ=[Z (R M0.length),Z (.lst (ns.map I)),Z (I row),Z (I x),x4,x5,x6]/\N=ao M0 fr {B with tch:=ck ns (U [I row,I x]) B.tch i})
  (mB (ns.map I)) 0 (λj d hd ρ N hW=>by
   obtain⟨x4,x5,x6,rfl,rfl⟩:=hW;obtain⟨dx,ex,rfl⟩:=rP hd;rw[U2];rw[getElem?_map] at ex;cases gs:ns[j]? with
   | none=>rw[gs] at ex;cases ex
   | some n=>
   rw[gs] at ex;cases ex;have hj:=(Uk.mp gs).1;have e1:ck ns (U [I row,I x]) B.tch (j+1)=f6 n (ns.drop (j+1)) (U [I row,I x]) (ck ns (U [I row,I x]) B.tch j):=by
    show(match ns[j]? with|some n=>f6 n (ns.drop (j+1)) (U [I row,I x]) (ck ns (U [I row,I x]) B.tch j)|none=>_)=_;rw[gs]
   have lb:=nO ns (U [I row,I x]) B.tch j;have lj:j*ns.length<=12*12:=Yk (by omega) hn;rw[e1];generalize ck ns (U [I row,I x]) B.tch j=td at *;obtain⟨y6,ei⟩:=Gx (M0:=M0) (B:=B) (fr:=fr) (ns:=ns) (os:=ns.drop (j+1)) (n:=n) (row:=row) (at_:=(j:Int)) (t:=td) (x6:=x6) (by rw[length_drop];omega);refine⟨[Z (R M0.length),Z (.lst (ns.map I)),Z (I row),Z (I x),Z (I (j:Int)),Z (I n),x6],[Z (R M0.length),Z (.lst (ns.map I)),Z (I row),Z (I x),Z (I (j:Int)),Z (I n),y6],_,rfl,?_,_,_,_,rfl,rfl⟩;unfold cM;refine mP (t:=⟨(ns.drop (j+1)).map I,Y⟩) ?_ ei;have cf:=zq hj;unfold bE;have sl:rL (ae 1) (cZ (g2 a8 (ae 4) (gC (I 1)))) bq [Z (R M0.length),Z (.lst (ns.map I)),Z (I row),Z (I x),Z (I (j:Int)),Z (I n),x6] (ao M0 fr {B with tch:=td})=O (.lst ((ns.drop (j+1)).map I)) (ao M0 fr {B with tch:=td}):=by
    rw[<-cf];rfl
   rw[sl];rfl)
  [Z (R M0.length),Z (.lst (ns.map I)),Z (I row),Z (I x),Y,Y,Y] (ao M0 fr B) ⟨_,_,_,rfl,rfl⟩
 rw[lh,length_map,U2] at ef;show bL (cS [Z (R M0.length),Z (.lst (ns.map I)),Z (I row),Z (I x),Y,Y,Y] _)=_;unfold cS;rw[mP rfl ef];rfl
theorem qZ {ds0:List D}{n:Nat}{sg:GG}{ge:GE}{ρ:fE}{f:D->D}{M:ay}:∀(ds:List D),(∀d∈ds,∃ρ1,sg d (UD n Y++ρ)=Z ρ1/\ge ρ1 M=O (f d) M)->aW ⟨ds0,Y⟩ n sg bp ge ds ρ M=O (ds.map f) M
 | [],h=>rfl
 | d::ds,h=>by
  obtain⟨ρ1,e1,e2⟩:=h d mem_cons_self;have ih:=qZ (ds0:=ds0) (sg:=sg) ds λx hx=>h x (mem_cons_of_mem _ hx)
  unfold aW;rw[mT,if_pos rfl,e1];dsimp only;rw[show bp ρ1 M=O true M from rfl];dsimp only;rw[e2];dsimp only;rw[ih];rfl
def Cj {k:Nat}{xs:List D}{x d:D}{i:Int}{M:ay}(h:M[k]?=Z (.lst xs))(ha:wa xs i=Z d):aB (R k) (I i) M=O d M:=by
 unfold aB ba;dsimp only;rw[h];dsimp only;rw[ha]
def DY {b n:Nat}:wa (kF b (n+1)) (-1)=Z (R (b+5+n)):=by
 unfold kF;rw[range_succ,map_append];exact CW _ _
def Bs.laid (B:Bs)(s0:bP)(w m row x hue:Int)(rs:List (List Int))(last:List Int):Bs:=
 {B with rows:=rs++[last++[hue]],tch:=ck ((eN x (bD s0 m row)).map Sn.n) (U [I row,I x]) B.tch ((eN x (bD s0 m row)).map Sn.n).length,grd:=if(sO s0 w row).getD x.toNat 0=0 then B.grd else fO ((eN x (bD s0 m row)).map Sn.n) (U [I row,I x]) B.grd}
def Gd {M0:ay}{B:Bs}{s s0:bP}{w h g m row x mm:Int}{rs:List (List Int)}{last:List Int}(h0:cA M0)(p:B.Pure)(hs:B.st=s.d)(ok:a7 mm s)(ok0:a7 mm s0)(hm:mm<=12)(f:dJ w h g m)
  (htk:B.tk=bC s0 w m row) (hx:0<=x/\x<w) (hr:B.rows=rs++[last]) (hl:last.length<100000) (ht:B.tch.length<900000) (hg:B.grd.length<900000) :
  ∃ink hue,hX x ((sO s0 w row).getD x.toNat 0) (eN x (bD s0 m row)) ink/\s.pots[ink.toNat]?=Z hue/\0<=ink/\
   dq [R M0.length,I row,I x] (ao M0 (aZ w h g m) B)=O .non (ao M0 (aZ w h g m) (B.laid s0 w m row x hue rs last)):=by
 have pf:aI 30 (aZ w h g m)=true:=rfl;have sh:=nJ (fr:=aZ w h g m) h0 pf p;have fin:=Ck (w:=w) (row:=row) ok0;have sin:=Gy (m:=m) (row:=row) (x:=x) ok0;have sl:=xy (m:=m) (row:=row) ok0 hm;unfold Bs.laid;rw[qG] at htk;have fll:(sO s0 w row).length=w.toNat:=by unfold sO;rw[length_map,length_range]
 generalize sO s0 w row=fl at *;generalize bD s0 m row=ss at *;obtain⟨xn,rfl⟩:=Us hx.1;have hxl:xn<fl.length:=by omega
 have gx:fl[xn]?=Z fl[xn]:=getElem?_eq_getElem hxl;have gxd:fl.getD (xn:Int).toNat 0=fl[xn]:=by rw[UC,Wd,gx];rfl
 rw[gxd];have fkr:=fin _ (getElem_mem hxl);generalize fl[xn]=fk at *;have ax:∀M,aB (U (fl.map I)) (I (xn:Int)) M=O (I fk) M:=λM=>dj (by rw[getElem?_map,gx];rfl)
 have ecov:=AH (fl:=U (fl.map I)) (ss:=ss) (x:=(xn:Int)) (by omega) sh;obtain⟨ink,hsh,eink⟩:=Fu (x:=(xn:Int)) (fl:=fk) (cs:=eN xn ss) (M:=ao M0 (aZ w h g m) B);have csub:∀q∈eN (xn:Int) ss,q∈ss:=λq hq=>(mem_filter.mp hq).1
 have ir:=hsh.rng fkr (λq hq=>sin q (csub q hq));have cl:(eN (xn:Int) ss).length<=12:=UK (nH _ _) sl;generalize eN (xn:Int) ss=cs at *;obtain⟨kn,rfl⟩:=Us ir.1;have hk:kn<s.pots.length:=by rw[ok.pl];omega
 have gp:s.pots[kn]?=Z s.pots[kn]:=getElem?_eq_getElem hk;refine⟨kn,s.pots[kn],hsh,by rw[UC];exact gp,ir.1,?_⟩;generalize s.pots[kn]=hue at *;have ap:∀M,aB (U (s.pots.map I)) (I (kn:Int)) M=O (I hue) M:=λM=>dj (by rw[getElem?_map,gp];rfl)
 generalize hfr:aZ w h g m=fr at *;show bL (eZ [Z (R M0.length),Z (I row),Z (I (xn:Int)),Y,Y,Y,Y,Y,Y,Y,Y,Y] _)=_;unfold eZ;have q0:(ao M0 fr B)[M0.length]?=Z (.obj "Beam" (cY fr M0.length B)):=fm;have k1:=tU (sg:=bN [3,4]) (bO (g:=ae 0) (ρ:=[Z (R M0.length),Z (I row),Z (I (xn:Int)),Y,Y,Y,Y,Y,Y,Y,Y,Y]) (f:="row_taken") rfl q0 KQ)
  (ρ1:=[Z (R M0.length),Z (I row),Z (I (xn:Int)),Z (U (fl.map I)),Z (U (ss.map Sn.d)),Y,Y,Y,Y,Y,Y,Y]) (by rw[htk];rfl)
 rw[aU k1];have k2:=dY (i:=5) (l0 (F:=jv) (bO (g:=ae 0) (ρ:=[Z (R M0.length),Z (I row),Z (I (xn:Int)),Z (U (fl.map I)),Z (U (ss.map Sn.d)),Y,Y,Y,Y,Y,Y,Y]) (f:="row_taken") rfl q0 KQ) (b:=ae 2) rfl (by rw[htk];exact ecov));rw[aU k2];have k3:=tU (sg:=bN [6,7,8,9,10]) (bO (g:=ae 0) (ρ:=[Z (R M0.length),Z (I row),Z (I (xn:Int)),Z (U (fl.map I)),Z (U (ss.map Sn.d)),Z (.lst (cs.map (qu xn))),Y,Y,Y,Y,Y,Y]) (f:="standing") rfl q0 BP)
  (ρ1:=[Z (R M0.length),Z (I row),Z (I (xn:Int)),Z (U (fl.map I)),Z (U (ss.map Sn.d)),Z (.lst (cs.map (qu xn))),Z (bu s.floor),Z (U [I s.sx,I s.sy]),Z (U (s.book.map bu)),Z (U (s.movers.map Mv.d)),Z (U (s.pots.map I)),Y]) (by rw[hs];rfl)
 refine(congrArg bL (aU k3)).trans ?_;generalize hρ:([Z (R M0.length),Z (I row),Z (I (xn:Int)),Z (U (fl.map I)),Z (U (ss.map Sn.d)),Z (.lst (cs.map (qu xn))),Z (bu s.floor),Z (U [I s.sx,I s.sy]),Z (U (s.book.map bu)),Z (U (s.movers.map Mv.d)),Z (U (s.pots.map I)),Y]:fE)=ρ;have v0:∀M,ae 0 ρ M=O (R M0.length) M:=λM=>by rw[<-hρ];rfl
 have v2:∀M,ae 2 ρ M=O (I (xn:Int)) M:=λM=>by rw[<-hρ];rfl
 have v3:∀M,ae 3 ρ M=O (U (fl.map I)) M:=λM=>by rw[<-hρ];rfl
 have v5:∀M,ae 5 ρ M=O (.lst (cs.map (qu xn))) M:=λM=>by rw[<-hρ];rfl
 have v10:∀M,ae 10 ρ M=O (U (s.pots.map I)) M:=λM=>by rw[<-hρ];rfl
 have hrl:B.rows.length=rs.length+1:=by rw[hr,length_append];rfl
 have grow:B.rows[rs.length]?=Z last:=by rw[hr];simp
 have go:=aT (f:=aB) (bO (g:=ae 0) (ρ:=ρ) (f:="laid_rows") (v0 _) q0 xp) (b:=tR (gC (I 1))) (M2:=ao M0 fr B) rfl (Cj (x:=.non) Kg (by rw[hrl];exact DY));have gi:=aT (f:=aB) (v10 _) (l0 (F:=dS) (aT (f:=aB) (v3 _) (v2 _) (ax _)) (v5 _) eink) (ap _);have k4:=yh go (BD grow) gi (BD grow) (by rw[length_map];omega);have em:last.map I++[I hue]=(last++[hue]).map I:=by rw[map_append];rfl
 have er:B.rows.set rs.length (last++[hue])=rs++[last++[hue]]:=by rw[hr];simp
 have sr:=IL (M0:=M0) (fr:=fr) (B:=B) (i:=rs.length) (r:=last++[hue]);rw[er] at sr;rw[em] at k4;have k4':gO (g2 aB (cX "Beam" "laid_rows" (ae 0)) (tR (gC (I 1)))) (g2 aB (ae 10) (ah 2 dS (aa (g2 aB (ae 3) (ae 2)) (aa (ae 5) ag)))) ρ (ao M0 fr B)=O .non (ao M0 fr {B with rows:=rs++[last++[hue]]}):=k4.trans (congrArg (bc.ok D.non) sr);rw[aU (b8 k4')];generalize hB1:({B with rows:=rs++[last++[hue]]}:Bs)=B1;have t1:B1.tch=B.tch:=by rw[<-hB1]
 have g1:B1.grd=B.grd:=by rw[<-hB1]
 have gits:bE (ae 5) ρ (ao M0 fr B1)=O ⟨cs.map (qu xn),Y⟩ (ao M0 fr B1):=by
  unfold bE;rw[v5];rfl
 have ec:=qZ (ds0:=cs.map (qu xn)) (n:=3) (sg:=bN [0,1,2]) (ge:=eE) (ρ:=ρ) (f:=λd=>match d with | .tup [_,n,_]=>n|d=>d) (M:=ao M0 fr B1) (cs.map (qu xn)) (λd hd=>by
  obtain⟨q,_,rfl⟩:=mem_map.mp hd;exact⟨[Z (I q.r),Z (I q.n),Z (I (cp xn q))]++ρ,rfl,rfl⟩)
 have em2:(cs.map (qu xn)).map (λd=>match d with | .tup [_,n,_]=>n|d=>d)=(cs.map Sn.n).map I:=by
  rw[map_map,map_map];rfl
 rw[em2] at ec;have lns:(cs.map Sn.n).length<=12:=by rw[length_map];exact cl
 generalize cs.map Sn.n=ns at *;have k5:ce (bE (ae 5)) 3 (bN [0,1,2]) bp eE aO ρ (ao M0 fr B1)=O (.lst (ns.map I)) (ao M0 fr B1):=by
  unfold ce;rw[gits,az];dsimp only;rw[ec,az];unfold aO;rw[if_pos (b9 (by rw[length_map];omega))]
 rw[aU (dY k5)];generalize hρ2:ρ.set 11 (Z (.lst (ns.map I)))=ρ2;have u0:∀M,ae 0 ρ2 M=O (R M0.length) M:=λM=>by rw[<-hρ2,<-hρ];rfl
 have u1:∀M,ae 1 ρ2 M=O (I row) M:=λM=>by rw[<-hρ2,<-hρ];rfl
 have u2:∀M,ae 2 ρ2 M=O (I (xn:Int)) M:=λM=>by rw[<-hρ2,<-hρ];rfl
 have u3:∀M,ae 3 ρ2 M=O (U (fl.map I)) M:=λM=>by rw[<-hρ2,<-hρ];rfl
 have u11:∀M,ae 11 ρ2 M=O (.lst (ns.map I)) M:=λM=>by rw[<-hρ2,<-hρ];rfl
 have args:∀M,aa (ae 11) (aa (ae 1) (aa (ae 2) ag)) ρ2 M=O [.lst (ns.map I),I row,I (xn:Int)] M:=λM=>cx (u11 M) (cx (u1 M) (cx (u2 M) rfl))
 have k6:=g9 (c:="Beam") (m:="keep_touches") (n:=4) (u0 _) (fm (M0:=M0) (fr:=fr) (B:=B1)) rfl (args _) rfl (Av (row:=row) (x:=(xn:Int)) lns (by rw[t1];exact ht));rw[aU (b8 k6),t1];have tst:∀M,aH (g2 (aR true) (g2 aB (ae 3) (ae 2)) (gC (I 0))) ρ2 M=O (!decide (fk=0)) M:=λM=>dC (aT (aT (f:=aB) (u3 M) (u2 M) (ax M)) rfl (z9 fk 0 M))
 by_cases hz:fk=0
 ·rw[nQ ((tst _).trans (by rw[hz];rfl)),if_pos hz,<-hB1];rfl
 ·rw[vM ((tst _).trans (by rw[decide_eq_false hz];rfl)),if_neg hz];have k7:=g9 (c:="Beam") (m:="keep_grounds") (n:=4) (u0 _) (fm (M0:=M0) (fr:=fr) (B:={B1 with tch:=ck ns (U [I row,I (xn:Int)]) B.tch ns.length})) rfl (args _) rfl (A5 (row:=row) (x:=(xn:Int)) (ns:=ns) (by show B1.grd.length+_<_;rw[g1];omega));rw[b8 k7,<-hB1];rfl
def mD {t p:Int}(hp:0<p):((t+1) / p=t / p/\(t+1) % p=t % p+1)\/(t+1) % p=0:=by
 have a:=Zf (t+1) p;have b:=Zf t p;have c1:=Vz t (Y5 hp);have c2:=VA t hp;have c3:=Vz (t+1) (Y5 hp);have c4:=VA (t+1) hp;have e1:p*((t+1) / p)-p*(t / p)=1+t % p-(t+1) % p:=by omega
 rw[<-Int.mul_sub] at e1;rcases Int.lt_trichotomy ((t+1) / p-t / p) 0 with z|z|z
 ·have:p*((t+1) / p-t / p)<=p*(-1):=XO (by omega) (by omega);omega
 ·grind
 ·have:p*1<=p*((t+1) / p-t / p):=XO (by omega) (by omega)
  grind
structure mq (w g m mm:Int)(s:bP)(t:Int)(B:Bs):Prop where
 te:B.t=t
 st:B.st=s.d
 p:B.Pure
 tch:B.tch.length<=144*t.toNat
 grd:B.grd.length<=12*t.toNat
 lost:B.lost.length<=12*t.toNat
 rl:B.rows.length<=t.toNat
 rr:∀r∈B.rows,r.length<=t.toNat
 row:0<t % (w+g)->t % (w+g)<w->∃s0,a7 mm s0/\B.tk=bC s0 w m (t / (w+g))/\B.rows≠[]
def yO {M0:ay}{B:Bs}{s s0:bP}{w g m mm t hue:Int}{rs:List (List Int)}{last:List Int}{fs:bP}(hm:mm<=12)(ok0:a7 mm s0)(h0:0<=t)(hp:0<w+g)
  (i1:B.t=t) (i2:B.st=s.d) (i3:B.Pure) (i4:B.tch.length<=144*t.toNat) (i5:B.grd.length<=12*t.toNat) (i6:B.lost.length<=12*(t.toNat+1)) (i7:B.rows.length<=t.toNat+1) (i8:∀r∈B.rows,r.length<=t.toNat)
  (htk:B.tk=bC s0 w m (t / (w+g))) (hr:B.rows=rs++[last]):mq w g m mm s (t+1) {B.laid s0 w m (t / (w+g)) (t % (w+g)) hue rs last with t:=t+1}:=by
 have e:(t+1).toNat=t.toNat+1:=by omega
 have pz:aI 30 (U [I (t / (w+g)),I (t % (w+g))])=true:=rfl;have sl:((eN (t % (w+g)) (bD s0 m (t / (w+g)))).map Sn.n).length<=12:=by
  rw[length_map];exact UK (nH _ _) (xy ok0 hm)
 refine⟨rfl,i2,⟨i3.st,i3.tk,ux pz i3.tch _,?_,i3.lost⟩,?_,?_,?_,?_,?_,?_⟩
 ·unfold Bs.laid;dsimp only;split
  ·exact i3.grd
  ·exact qH _ pz _ _ i3.grd
 ·show(ck _ _ B.tch _).length<=_;have:=nO ((eN (t % (w+g)) (bD s0 m (t / (w+g)))).map Sn.n) (U [I (t / (w+g)),I (t % (w+g))]) B.tch ((eN (t % (w+g)) (bD s0 m (t / (w+g)))).map Sn.n).length;have b:((eN (t % (w+g)) (bD s0 m (t / (w+g)))).map Sn.n).length*((eN (t % (w+g)) (bD s0 m (t / (w+g)))).map Sn.n).length<=12*12:=Yk sl sl;omega
 ·unfold Bs.laid;dsimp only;split
  ·omega
  ·have:=kJ (κ:=bM) (λn=>UQ n) (U [I (t / (w+g)),I (t % (w+g))]) ((eN (t % (w+g)) (bD s0 m (t / (w+g)))).map Sn.n) B.grd;unfold fO;omega
 ·show B.lost.length<=_;omega
 ·show(rs++[last++[hue]]).length<=_;rw[hr,length_append] at i7;rw[length_append];simp only[length_singleton] at *;omega
 ·show∀r∈rs++[last++[hue]],_;intro r hr';rcases mem_append.mp hr' with q|q
  ·have:=i8 r (by rw[hr];exact mem_append_left _ q);omega
  ·rw[mem_singleton] at q;have:=i8 last (by rw[hr];simp);rw[q,length_append,length_singleton];omega
 ·intro h1 h2;have d:(t+1) / (w+g)=t / (w+g):=by
   rcases mD hp with⟨q,_⟩|q
   ·exact q
   ·omega
  refine⟨s0,ok0,?_,?_⟩
  ·show B.tk=_;rw[htk,d]
  ·show rs++[last++[hue]]≠[];simp
def jA {M0:ay}{f:Str}{gv:GE}{ρ:fE}{fs:List (Str×D)}{L L':ay}{y:D}(hv:gv ρ (M0++(.obj "Beam" fs::L))=O y (M0++(.obj "Beam" fs::L')))(hρ:∀M,ae 0 ρ M=O (R M0.length) M)(hl:fs.length<1000) :
  gQ "Beam" f (ae 0) gv ρ (M0++(.obj "Beam" fs::L))=O (.nx ρ) (M0++(.obj "Beam" (jG f y fs)::L')):=by
 rw[xC hv (hρ _) (by rw[getElem?_append_right (Uj _)];simp) hl];simp
def xV {M0 L:ay}{ρ:fE}:fZ ag ρ (M0++L)=O (R (M0.length+L.length)) (M0++(L++[.lst []])):=by
 rw[sZ,length_append,append_assoc]
def K1 {M0 L:ay}{ρ:fE}:wv ρ (M0++L)=O (R (M0.length+L.length)) (M0++(L++[.dK []])):=by
 show bc.ok (D.mr (M0++L).length) (M0++L++[.dK []])=_;simp
def K0 {M0 L:ay}{ρ:fE}:wF ρ (M0++L)=O (R (M0.length+L.length)) (M0++(L++[.dT []])):=by
 show bc.ok (D.mr (M0++L).length) (M0++L++[.dT []])=_;simp
def yJ (st:D):Bs:=⟨st,0,U [U [],U []],[],[],[],[]⟩
def Kq {M0:ay}{fr st:D}(hc:∀M,bQ [fr,st] M=O .non M):eY [R M0.length,fr,st] (M0++[.obj "Beam" []])=O .non (ao M0 fr (yJ st)):=by
 show bL (eW [Z (R M0.length),Z fr,Z st] _)=_;unfold eW;have hρ:∀M,ae 0 [Z (R M0.length),Z fr,Z st] M=O (R M0.length) M:=λM=>rfl
 have k0:=b8 (l0 (F:=bQ) (a:=ae 1) (b:=ae 2) (ρ:=[Z (R M0.length),Z fr,Z st]) (M:=M0++[MO.obj "Beam" []]) rfl rfl (hc _));rw[aU k0];rw[aU (jA (gv:=ae 1) rfl hρ (by decide))];rw[aU (jA (gv:=ae 2) rfl hρ (VJ (by decide:1<1000) rfl))];rw[aU (jA (gv:=gC (I 0)) rfl hρ (VJ (by decide:2<1000) rfl))];rw[aU (jA (kj  rfl (by decide)) hρ (VJ (by decide:3<1000) rfl))];rw[aU (jA xV hρ (VJ (by decide:4<1000) rfl))];rw[aU (jA K0 hρ (VJ (by decide:5<1000) rfl))];rw[aU (jA K1 hρ (VJ (by decide:6<1000) rfl))];rw[jA xV hρ (VJ (by decide:7<1000) rfl)];rfl
def Jr {ga:GA}{ρ:fE}{M0:ay}{fr st:D}(ha:ga ρ M0=O [fr,st] M0)(hc:∀M,bQ [fr,st] M=O .non M):rY "Beam" 3 eY ga ρ M0=O (R M0.length) (ao M0 fr (yJ st)):=by
 unfold rY;rw[ha,az,if_pos (show [fr,st].length+1=3 from rfl),Kq hc,az]
def Pd {w g m mm:Int}{s:bP}(ps:aI 30 s.d=true):mq w g m mm s 0 (yJ s.d):=
 ⟨rfl,rfl,⟨ps,rfl,λ_ h=>(by cases h),λ_ h=>(by cases h),λ_ h=>(by cases h)⟩,UW _,UW _,UW _,UW _,λ_ h=>(by cases h),λh=>(by simp_all)⟩
def AV {s:bP}{mm:Int}{dd:Dd}{M:ay}(ok:a7 mm s)(hm:mm<=900)(h:jP s dd)(hM:cA M):jM [s.d,dd.d] M=O (cg s dd).d M:=by
 have ml:=ok.ml;have pl:=ok.pl;have mv:∀(i:Nat) (hi:i<s.movers.length),∃m,s.movers[i]?=Z m/\(s.movers.map Mv.d)[i]?=Z (U [ym m.shape,I m.x,I m.y,I m.rank,I m.turn]):=λi hi=>
  ⟨s.movers[i],getElem?_eq_getElem hi,by rw[getElem?_map,getElem?_eq_getElem hi,<-z6];rfl⟩
 have end_:∀{d:D} {L:ay},d=(cg s dd).d->Wp (lB M.length (O d (M++L))) λd N=>d=(cg s dd).d/\N=M:=λ{d L} e=>by
  subst e;exact bZ (BZ (iT _) hM) ⟨rfl,rfl⟩
 have st:∀{k:Nat} {a b c d e x:D},k<5->yj (R M.length) (I k) x (M++[.lst [a,b,c,d,e]])=O () (M++[.lst ([a,b,c,d,e].set k x)]):=λ{k a b c d e x} hk=>by
  unfold yj;dsimp only;rw[sD];dsimp only;rw[show Co [a,b,c,d,e].length (k:Int)=Z k from by
   unfold Co;rw[if_pos (by omega),if_pos (by simp;omega),UC]]
  dsimp only;rw[AW]
 have tf:∀ys,dm [R M.length] (M++[.lst ys])=O (U ys) (M++[.lst ys]):=λys=>by
  unfold dm ba;dsimp only;rw[sD]
 refine Wp.is (nC (aN ?_));unfold gM;cases dd
 case shift x y=>
  simp_all_arith
  have:=end_ (d:=(cg s (.shift x y)).d) (L:=[]) rfl;rwa [append_nil] at this
 case pot k hu=>
  obtain⟨kn,rfl⟩:=Us h.1.1;have hk:=h.1.2
  simp_all_arith
  rw[tN];refine Ar.mk (by simp;omega) ?_
  simp_all_arith
  rw[show g6 (s.pots.map I) (Z ((kn:Int)+1)) Y=(s.pots.map I).drop (kn+1) from uX _ _];refine Ar.mk (by simp;omega) ?_
  simp_all_arith
  rw[rJ _ _ _ (by rw[length_map];omega)];have:=end_ (L:=[]) (show D.tup [bu s.floor,U [I s.sx,I s.sy],U (s.book.map bu),U (s.movers.map Mv.d),U ((s.pots.map I).set kn (I hu))]=D.tup [bu s.floor,U [I s.sx,I s.sy],U (s.book.map bu),U (s.movers.map Mv.d),U ((s.pots.set kn hu).map I)] by rw[map_set]);rwa [append_nil] at this
 case' move i x y=>
  obtain⟨m,gm,am⟩:=mv i h.1
  simp_all_arith
  have sg:jh (R M.length) (.lst [I x,I y]) (I 1) (I 3) (M++[.lst [ym m.shape,I m.x,I m.y,I m.rank,I m.turn]])=O () (M++[.lst [ym m.shape,I x,I y,I m.rank,I m.turn]]):=by
   unfold jh rj;dsimp only;rw[sD];dsimp only;rw[if_pos ⟨by decide,by decide,(show(3:Int)<=5 by decide),b9 (show 7<=1000000 by decide)⟩,AW];rfl
  refine bZ sg ?_
  simp_all_arith
 case' shape i o=>
  obtain⟨m,gm,am⟩:=mv i h.1
  simp_all_arith
  refine Ev.r (st (k:=0) (by decide)) ?_
  simp_all_arith
 case' rank i r=>
  obtain⟨m,gm,am⟩:=mv i h.1
  simp_all_arith
  refine Ev.r (st (k:=3) (by decide)) ?_
  simp_all_arith
 case' turn i t=>
  obtain⟨m,gm,am⟩:=mv i h.1
  simp_all_arith
  refine Ev.r (st (k:=4) (by decide)) ?_
  simp_all_arith
 all_goals
  have hi:=h.1;refine Ev.r (tf _) ?_
  simp_all_arith
  rw[tN];refine Ar.mk (by simp;omega) ?_
  simp_all_arith
  rw[show g6 (s.movers.map Mv.d) (Z ((i:Int)+1)) Y=(s.movers.map Mv.d).drop (i+1) from uX _ _];refine Ar.mk (by simp;omega) ?_
  simp_all_arith
  rw[rJ _ _ _ (by rw[length_map];exact hi)];refine end_ (L:=[_]) (Eq.trans ?_ (pQ gm).symm);rw[z6]
  try rfl
def GD {M E:ay}(h:cA M)(hE:E.all (zN (M.length+E.length))=true):cA (M++E):=by
 unfold cA;rw[length_append,all_append,hE,Bool.and_true];exact all_eq_true.mpr λx hx=>qU (YJ _ _) (all_eq_true.mp h x hx)
def F1 {M:ay}{o:MO}(h:cA M)(hp:Cq o=true):cA (M++[o]):=GD h (by rw[all_cons,nF hp];rfl)
def Ah (ok:a7 mm s)(hm:mm<=900)(hM:cA M):d5 [s.d,I row] M=O (.lst ((bz s row).map I)) M:=by
 have lm:=ok.ml;have ll:(s.movers.map Mv.d).length=s.movers.length:=length_map _;refine Wp.is (nC (aN ?_));unfold il jN
 simp_all_arith
 rw[UC,ll];refine Bp (λi ρ N=>∃y0 y1 y2 y3 y4 y5,ρ=[Z s.d,Z (I row),Z (R M.length),y0,y1,y2,y3,y4,y5]/\N=M++[.lst ((o7 s row i).map I)]) ⟨_,_,_,_,_,_,rfl,rfl⟩ (λj ρ N hj e=>?_) λρ N e=>?_
 ·obtain⟨y0,y1,y2,y3,y4,y5,rfl,rfl⟩:=e;have gm:s.movers[j]?=Z s.movers[j]:=getElem?_eq_getElem hj;have om:=(ok.movers _ (getElem_mem hj)).s;have ey:o7 s row (j+1)=o7 s row j++(if zt s row s.movers[j] then [(j:Int)] else []):=by rw[o7,gm]
  have l1:((o7 s row j).map I).length<1000:=by have:=kH s row j;rw[length_map];omega
  generalize s.movers[j]=m at *;have gd:(s.movers.map Mv.d)[j]?=Z m.d:=by rw[getElem?_map,gm];rfl
  refine⟨_,rfl,?_⟩;unfold zt at ey;unfold Mv.d at gd;cases hs:m.shape with
  | none=>
   rw[hs] at gd ey
   simp_all_arith
   exact⟨_,_,_,_,_,_,rfl,by rw[ey];simp⟩
  | some k=>
   have hk:=om k hs;rw[hs] at gd ey;have gb:(s.book.map bu)[k]?=Z (bu s.book[k]):=by rw[getElem?_map,getElem?_eq_getElem hk];rfl
   have e:s.book.getD k []=s.book[k]:=by simp[hk]
   have lb:(s.book[k].map λr=>D.tup (r.map I)).length=s.book[k].length:=length_map _;simp only[e] at ey
   simp_all_arith <;> exact⟨_,_,_,_,_,_,rfl,by first|(rw[ey,if_pos (by simp;omega)];simp)|(rw[ey,if_neg (by simp;omega)];simp)⟩
 ·obtain⟨y0,y1,y2,y3,y4,y5,rfl,rfl⟩:=e
  simp_all_arith
  exact bZ (jb (dA 28 _) hM) ⟨rfl,rfl⟩
def HU (q:List Int):(UH (q.map I).length).map (λj=>I (q.getD (q.length-1-j) 0))=q.reverse.map I:=by
 apply ext_getElem
 ·simp
 ·intro i q1 q2;simp at q1 q2 ⊢;rw[getElem?_eq_getElem (by omega)];rfl
def EC {rs:List (List Int)}{way:Int}{n:Nat}{M:ay}(h0:0<=way)(h1:way<4)(hn:n<rs.length)(hr:∀r∈rs,r.length<=1000) :
  lL [JO rs,I way,I n] M=O (U ((mV rs way n).map I)) M:=by
 have ls:(rs.map λr=>D.tup (r.map I)).length=rs.length:=length_map _;have at_:∀(k:Nat) {i:Int} {Q:D->ay->Prop},i=k->k<rs.length->Q (U ((rs.getD k []).map I)) M->Ev (aB (JO rs) (I i) M) Q:=λk i Q e hk h=>by
  subst e;exact rS [] (by omega) (by rwa [UC])
 have lq:∀k,k<rs.length->(rs.getD k []).length<=1000:=λk hk=>by
  rw[Wd,getElem?_eq_getElem hk];exact hr _ (getElem_mem hk)
 have rev:∀(k:Nat) {i:Int} {ρ:fE} {Q:List D->ay->Prop},i=k->k<rs.length->ρ[0]?=Z (Z (JO rs))->ρ[2]?=Z (Z (I i))->Q ((rs.getD k []).reverse.map I) M->Wp (cr ⟨aY 0 ((rs.getD k []).map I).length,Y⟩ bp gJ (aY 0 ((rs.getD k []).map I).length) ρ M) Q:=λk i ρ Q e hk e0 e2 q=>by
  have lm:((rs.getD k []).map I).length=(rs.getD k []).length:=length_map _;have v1:∀d,ae 1 (d::ρ) M=O (JO rs) M:=λd=>by unfold ae;rw[getElem?_cons_succ,e0]
  have v3:∀d,ae 3 (d::ρ) M=O (I i) M:=λd=>by unfold ae;rw[getElem?_cons_succ,e2]
  refine yk (λj=>I ((rs.getD k []).getD ((rs.getD k []).length-1-j) 0)) (λj hj=>?_) (by rwa [HU]);unfold gJ
  simp_all_arith
  refine Ev.r (v1 _) ?_
  simp_all_arith
  refine Ev.r (v3 _) ?_
  simp_all_arith
  refine at_ k e hk ?_
  simp_all_arith
  refine Ev.r (v1 _) ?_
  simp_all_arith
  refine Ev.r (v3 _) ?_
  simp_all_arith
  refine at_ k e hk ?_
  simp_all_arith
  refine rS 0 (by omega) ⟨?_,rfl⟩;rw[lm,show((((rs.getD k []).length:Int)-1-j).toNat)=(rs.getD k []).length-1-j by omega]
 have k3:((rs.length:Int)-1-n)=((rs.length-1-n:Nat):Int):=by omega
 have l1:=lq n hn;have l2:=lq (rs.length-1-n) (by omega);have m1:((rs.getD n []).map I).length=(rs.getD n []).length:=length_map _;have m2:((rs.getD (rs.length-1-n) []).map I).length=(rs.getD (rs.length-1-n) []).length:=length_map _;refine Wp.is (aN ?_);unfold lJ;rcases O6 h0 h1 with rfl|rfl|rfl|rfl <;> simp_all_arith
 ·refine at_ n rfl hn ?_
  simp_all_arith
  exact⟨rfl,rfl⟩
 ·refine at_ n rfl hn ?_
  simp_all_arith
  rw[UC];refine rev n rfl hn rfl rfl ?_;have lr:((rs.getD n []).reverse.map I).length=(rs.getD n []).length:=by simp
  simp_all_arith
  exact⟨rfl,rfl⟩
 ·rw[ls];refine at_ _ k3 (by omega) ?_
  simp_all_arith
  exact⟨rfl,rfl⟩
 ·rw[ls];refine at_ _ k3 (by omega) ?_
  simp_all_arith
  rw[UC];refine rev _ k3 (by omega) rfl rfl ?_;have lr:((rs.getD (rs.length-1-n) []).reverse.map I).length=(rs.getD (rs.length-1-n) []).length:=by simp
  simp_all_arith
  exact⟨rfl,rfl⟩
def zJ (ok:a7 mm s)(hm:mm<=900)(hw:1<=w/\w<=900)(hM:cA M) :
  iy [U [I w,I hh,I g,I m],s.d,I row] M=O (bC s w m row) M:=by
 obtain⟨f1,f2,fw,f3,f4,f5⟩:=ok.floor;have hfl:0<=(row+s.sy) % (s.floor.length:Int)/\(row+s.sy) % (s.floor.length:Int)<s.floor.length:=⟨Vz _ (by omega),VA _ (by omega)⟩;have lw:(bh s row).length=fw:=by
  unfold bh;have h:((row+s.sy) % (s.floor.length:Int)).toNat<s.floor.length:=by omega
  rw[Wd,getElem?_eq_getElem h];exact(f5 _ (getElem_mem h)).1
 obtain⟨ys,ey,ly,qy⟩:=yX (bz s row) Y (Z m);have ll:(bz s row).length<=900:=by
  have:=kH s row s.movers.length;have:=ok.ml;unfold bz;omega
 have etk:o6 s m row=ys.map (bd s row):=by unfold o6;rw[ey,map_map];rfl
 have ely:=Ah (row:=row) (M:=M++[.lst []]) ok hm (F1 hM rfl);have lf:(s.floor.map λr=>D.tup (r.map I)).length=s.floor.length:=length_map _;have lr:((bh s row).map I).length=(bh s row).length:=length_map _;refine Wp.is (nC (aN ?_));unfold ie jO jV;have hix:aB (bu s.floor) (I ((row+s.sy) % ((s.floor.map λr=>D.tup (r.map I)).length:Int))) M=O (U ((bh s row).map I)) M:=by
  rw[lf];exact(rS (f:=λr:List Int=>D.tup (r.map I)) (Q:=λd N=>d=U ((bh s row).map I)/\N=M) [] hfl ⟨rfl,rfl⟩).h.is
 simp_all_arith
 rw[ey];refine E6 I (λj ρ N=>∃y0 y1 y2 y3 y4 y5,ρ=[Z (U [I w,I hh,I g,I m]),Z s.d,Z (I row),Z (bu s.floor),Z (U [I s.sx,I s.sy]),Z (U ((bh s row).map I)),Z (R M.length),y0,y1,y2,y3,y4,y5]/\N=M++[.lst ((ys.take j).map (bd s row))]) ⟨_,_,_,_,_,_,rfl,rfl⟩ (λj n ρ N hj e=>?_) λρ N e=>?_
 ·obtain⟨y0,y1,y2,y3,y4,y5,rfl,rfl⟩:=e;have l1:((ys.take j).map (bd s row)).length<=900:=by rw[length_map,length_take];omega
  have et:(ys.take (j+1)).map (bd s row)=(ys.take j).map (bd s row)++[bd s row n]:=by rw[take_add_one,hj,map_append];rfl
  obtain⟨i,rfl,hi,m,gm,lz⟩:=ni (qy n (mem_of_getElem? hj));have om:=ok.movers m (mem_of_getElem? gm);have gd:(s.movers.map Mv.d)[i]?=Z m.d:=by rw[getElem?_map,gm];rfl
  unfold zt at lz;unfold Mv.d at gd;cases hs:m.shape with
  | none=>rw[hs] at lz;cases lz
  | some k=>
   rw[hs] at lz gd;have hk:=om.s k hs;have ge:s.book.getD k []=s.book[k]:=by simp[hk]
   have gb:(s.book.map bu)[k]?=Z (JO s.book[k]):=by rw[getElem?_map,getElem?_eq_getElem hk];rfl
   simp only[ge,Uw,decide_eq_true_eq] at lz;obtain⟨b1,b2,bw,b3,b4,b5⟩:=ok.book _ (getElem_mem hk);obtain⟨r,hr⟩:=Us (by omega:0<=row-m.y);have lst:=EC (rs:=s.book[k]) (way:=m.turn) (n:=r) (M:=M++[.lst ((ys.take j).map (bd s row))]) om.t.1 (by have:=om.t.2;omega) (by omega) (λq hq=>by have:=(b5 q hq).1;omega);rw[<-hr] at lst;refine⟨_,rfl,?_⟩
   simp_all_arith
   have es:bd s row (i:Int)=U [I i,I m.x,I m.rank,U ((mV s.book[k] m.turn r).map I)]:=by
    unfold bd;rw[UC,gm];simp only[hs,aaK,ge,show(row-m.y).toNat=r by omega]
   exact⟨_,_,_,_,_,_,rfl,by rw[et,es]⟩
 ·obtain⟨y0,y1,y2,y3,y4,y5,rfl,rfl⟩:=e;rw[take_length]
  simp_all_arith
  refine yk (λ(x:Nat)=>I (cL s row x)) (λx hx=>?_) ?_
  ·have hix:aB (U ((bh s row).map I)) (I (((x:Int)+s.sx) % (((bh s row).map I).length:Int))) (M++[.lst (ys.map (bd s row))])=O (I (cL s row x)) (M++[.lst (ys.map (bd s row))]):=by
    rw[lr];exact(rS (f:=I) (Q:=λd N=>d=I (cL s row x)/\N=_) 0 ⟨Vz _ (by omega),VA _ (by omega)⟩ ⟨rfl,rfl⟩).h.is
   simp_all_arith
   exact⟨rfl,rfl⟩
  ·have l2:((UH w.toNat).map λ(x:Nat)=>I (cL s row x)).length=w.toNat:=by simp
   have tf:dm [R M.length] (M++[.lst (ys.map (bd s row))])=O (U (ys.map (bd s row))) (M++[.lst (ys.map (bd s row))]):=by
    unfold dm;dsimp only;rw[show ba (R M.length) (M++[.lst (ys.map (bd s row))])=Z (ys.map (bd s row)) from by unfold ba;dsimp only;rw[sD]]
   simp_all_arith
   have h1:((ys.map (bd s row)).all (aI 28))=true:=by rw[all_map];exact all_eq_true.mpr λn _=>AN n
   have h2:(((UH w.toNat).map λ(x:Nat)=>I (cL s row x)).all (aI 28))=true:=by rw[all_map];exact all_eq_true.mpr λn _=>rfl
   have tk:bC s w m row=U [U ((UH w.toNat).map λ(x:Nat)=>I (cL s row x)),U (ys.map (bd s row))]:=by unfold bC;rw[etk]
   rw[tk];refine bZ (BZ ?_ hM) ⟨rfl,rfl⟩;show(aI 29 (U _)&&(aI 29 (U _)&&true))=true;rw[gF,gF,h1,h2];rfl
def nY (x:Int)(s:Sn):D:=U [I s.r,I (0-s.n),I (cp x s)]
def Rp (a b c d e f:Int):HT.lexLt [a,b,c] [d,e,f]=decide (a<d\/(a=d/\(b<e\/(b=e/\c<f)))):=by
 by_cases h1:a<d <;> by_cases h2:a=d <;> by_cases h3:b<e <;> by_cases h4:b=e <;> by_cases h5:c<f <;> simp[HT.lexLt,h1,h2,h3,h4,h5] <;> omega
theorem BE:∀(cs:List Sn) (b:Sn),∃b',b'∈b::cs/\(∀s∈b::cs,Az b' s)/\sw (cs.map (nY x)) (nY x b) [b.r,0-b.n,cp x b]=Z (nY x b')
 | [],b=>⟨b,mem_cons_self ..,CK b,rfl⟩
 | s::r,b=>by
  have hi:dG (nY x s)=Z [s.r,0-s.n,cp x s]:=rfl
  by_cases h:b.r<s.r\/(b.r=s.r/\(0-b.n<0-s.n\/(0-b.n=0-s.n/\cp x b<cp x s)))
  ·obtain⟨b',h1,h2,h3⟩:=BE r s;refine⟨b',mem_cons_of_mem _ h1,λt ht=>?_,?_⟩
   ·rcases mem_cons.mp ht with z|z
    ·subst z;have:=h2 s (mem_cons_self ..);unfold Az at *;omega
    ·exact h2 t z
   ·rw[map_cons];unfold sw;rw[hi];dsimp only;rw[Rp,if_pos (decide_eq_true h)];exact h3
  ·obtain⟨b',h1,h2,h3⟩:=BE r b;have hb:=h2 b (mem_cons_self ..);refine⟨b',?_,λt ht=>?_,?_⟩
   ·rcases mem_cons.mp h1 with z|z
    ·exact z▸mem_cons_self ..
    ·exact mem_cons_of_mem _ (mem_cons_of_mem _ z)
   ·rcases mem_cons.mp ht with z|z
    ·exact z▸hb
    ·rcases mem_cons.mp z with z|z
     ·subst z;unfold Az at *;omega
     ·exact h2 t (mem_cons_of_mem _ z)
   ·rw[map_cons];unfold sw;rw[hi];dsimp only;rw[Rp,if_neg (by simpa using h)];exact h3
def uO {ss:List Sn}(hs:ss.length<=900)(hM:cA M) :
  eG [U [fl,U (ss.map Sn.d)],I x] M=O (.lst ((eN x ss).map (nY x))) M:=by
 refine Wp.is (nC (aN ?_));unfold iz jY
 simp_all_arith
 refine E6 Sn.d (λj ρ N=>∃x5 x6 x7 x8,ρ=[Z (U [fl,U (ss.map Sn.d)]),Z (I x),Z (R M.length),x5,x6,x7,x8]/\N=M++[.lst ((eN x (ss.take j)).map (nY x))]) ⟨_,_,_,_,rfl,rfl⟩ (λj s ρ N gs e=>?_) λρ N e=>?_
 ·obtain⟨x5,x6,x7,x8,rfl,rfl⟩:=e;have lk:(s.ks.map I).length=s.ks.length:=length_map _;have ll:((eN x (ss.take j)).map (nY x)).length<1000:=by
   rw[length_map];exact VH (nH x _) (by rw[length_take];omega)
  rw[yF gs,map_append];refine⟨_,rfl,?_⟩
  by_cases h:s.x<=x/\x<s.x+(s.ks.length:Int)
  ·obtain⟨i,hi,ai⟩:=zT h.1 h.2;have hix:∀N,aB (U (s.ks.map I)) (I (x-s.x)) N=O (I (cp x s)) N:=λN=>by
    rw[hi];unfold aB ba
    simp_all
   have hix1:=hix (M++[.lst ((eN x (ss.take j)).map (nY x))])
   simp_all_arith
   ·exact⟨_,_,_,_,rfl,by rw[if_pos hc];simp⟩
   ·exact⟨_,_,_,_,rfl,by rw[if_neg hc];rfl⟩
  ·rw[if_pos (wJ h),map_nil,append_nil]
   simp_all_arith <;> exact⟨_,_,_,_,rfl,rfl⟩
 ·obtain⟨x5,x6,x7,x8,rfl,rfl⟩:=e;rw[take_length]
  simp_all_arith
  exact bZ (jb (CY (λ_=>rfl) _) hM) ⟨rfl,rfl⟩
theorem yR:∀cs:List Sn,cr ⟨ds0,Y⟩ jw jx (cs.map (nY x)) ρ M=O ((cs.filter λs=>decide (0<s.r)).map (nY x)) M
 | []=>rfl
 | s::r=>by
  have ih:=yR (x:=x) (ρ:=ρ) (M:=M) (ds0:=ds0) r;have et:jw (Z (nY x s)::ρ) M=O (decide (0<s.r)) M:=by rfl
  have ee:jx (Z (nY x s)::ρ) M=O (nY x s) M:=rfl
  by_cases h:0<s.r
  ·simp[cr,mT,et,ee,ih,h]
  ·simp[cr,mT,et,ih,h]
theorem B8 (x:Int)(n:Nat):∀cs:List Sn,bj (n+1) (cs.map (nY x))=true
 | []=>rfl
 | s::r=>by
  show(bG (n+1) (nY x s)&&bj (n+1) (r.map (nY x)))=true;rw[B8 x n r];rfl
def eq_nil (cs:List Sn):gY (cs.map (nY x)) []=cs.isEmpty:=by
 cases cs <;> rfl
def HZ (h:cs≠[]):∃b∈cs,(∀s∈cs,Az b s)/\HE (cs.map (nY x))=Z (U [I b.r,I (0-b.n),I (cp x b)]):=by
 cases cs with
 | nil=>exact absurd rfl h
 | cons s r=>
  obtain⟨b,h1,h2,h3⟩:=BE r s;exact⟨b,h1,h2,h3⟩
def DM {fs:List D}{ss:List Sn}(hs:ss.length<=900)(hM:cA M)(hf:wa fs x=Z (I fl)) :
  ∃k:Int,hX x fl (eN x ss) k/\gq [U [U fs,U (ss.map Sn.d)],I x] M=O (I k) M:=by
 suffices h:Wp (gq [U [U fs,U (ss.map Sn.d)],I x] M) λd N=>∃k,hX x fl (eN x ss) k/\d=I k/\N=M by
  obtain⟨_,_,e,k,sh,rfl,rfl⟩:=h.eq;exact⟨k,sh,e⟩
 have e2:=uO (fl:=U fs) (ss:=ss) (x:=x) (M:=M) hs hM;have ea:=λρ=>yR (x:=x) (ρ:=ρ) (M:=M) (ds0:=(eN x ss).map (nY x)) (eN x ss)
 have lc:(eN x ss).length<=1000000:=UK (nH x ss) (by omega);have lf:((eN x ss).filter λs=>decide (0<s.r)).length<=1000000:=UK (length_filter_le _ _) lc;generalize hfl:((eN x ss).filter λs=>decide (0<s.r))=ab at *;generalize eN x ss=cs at *;have mab:∀s,s∈ab↔s∈cs/\0<s.r:=λs=>by rw[<-hfl];simp
 have en:∀l:List Sn,aR false (.lst (l.map (nY x))) (.lst []) M=O (G (decide (l=[]))) M/\aR true (.lst (l.map (nY x))) (.lst []) M=O (G (!decide (l=[]))) M:=λl=>by
  have k:(bj 39 (l.map (nY x))&&true)=true:=by rw[B8];rfl
  have q:gY (l.map (nY x)) []=decide (l=[]):=by rw[eq_nil];cases l <;> rfl
  refine⟨?_,?_⟩
  ·show(if(bj 39 (l.map (nY x))&&true)=true then bc.ok (D.bl (gY (l.map (nY x)) [] != false)) M else .bad)=_;rw[if_pos k,q,Zo]
  ·show(if(bj 39 (l.map (nY x))&&true)=true then bc.ok (D.bl (gY (l.map (nY x)) [] != true)) M else .bad)=_;rw[if_pos k,q,Bool.bne_true]
 have ef:=(en cs).1;have et:=(en ab).2;have hix:aB (U fs) (I x) M=O (I fl) M:=by
  unfold aB ba
  simp_all
 have mx:∀l:List Sn,l≠[]->∃b,b∈l/\(∀s,s∈l->Az b s)/\uC [.lst (l.map (nY x))] M=O (U [I b.r,I (0-b.n),I (cp x b)]) M:=λl hl=>by
  obtain⟨b,b1,b2,e⟩:=HZ (x:=x) hl;refine⟨b,b1,b2,?_⟩;unfold uC;dsimp only;rw[e]
 refine aN ?_;unfold oj
 simp_all_arith
 refine bZ (M:=M) (a:=.lst (ab.map (nY x))) ?_ ?_
 ·unfold a9;rw[nI (xs:=cs.map (nY x)) rfl,az];dsimp only;rw[ea,az];unfold aO;rw[if_pos (b9 (by rw[length_map];exact lf))]
 by_cases hab:ab=[]
 ·have nr:∀b∈cs,¬1<=b.r:=λb b1 z=>by
   have q:=(mab b).mpr ⟨b1,by omega⟩;rw[hab] at q;cases q
  by_cases hn:cs=[]
  ·simp_all_arith <;> exact⟨fl,.inl ⟨hn,rfl⟩,rfl,rfl⟩
  ·obtain⟨b,b1,b2,e⟩:=mx cs hn
   simp_all_arith
   ·exact⟨_,.inr ⟨b,b1,b2,by rw[if_pos (.inr hc)]⟩,rfl,rfl⟩
   ·exact⟨fl,.inr ⟨b,b1,b2,by rw[if_neg (λz=>z.elim (nr b b1) hc)]⟩,rfl,rfl⟩
 ·obtain⟨b,b1,b2,e⟩:=mx ab hab;have bb:=(mab b).mp b1
  simp_all_arith
  refine⟨_,.inr ⟨b,bb.1,λs hs=>?_,by rw[if_pos (.inl (by omega))]⟩,rfl,rfl⟩
  by_cases q:0<s.r
  ·exact b2 s ((mab s).mpr ⟨hs,q⟩)
  ·unfold Az;have:=bb.2;omega
def hX.uniq {x fl k k':Int}{s:bP}{m row:Int}(h:hX x fl (eN x (bD s m row)) k)(h':hX x fl (eN x (bD s m row)) k'):k=k':=by
 have nf:∀b∈eN x (bD s m row),b=sJ s row b.n:=λb hb=>by
  obtain⟨n,_,rfl⟩:=mem_map.mp (mem_filter.mp hb).1;have e:(sJ s row n).n=n:=by
   unfold sJ;split <;> rfl
  rw[e]
 rcases h with⟨e,rfl⟩|⟨b,hb,hl,rfl⟩
 ·rcases h' with⟨_,rfl⟩|⟨b,hb,_⟩
  ·rfl
  simp_all
 ·rcases h' with⟨e,rfl⟩|⟨b',hb',hl',rfl⟩
  ·rw[e] at hb;cases hb
  ·have a1:Az b b':=hl b' hb';have a2:Az b' b:=hl' b hb;unfold Az at a1 a2;have e:b.n=b'.n:=by omega
   have e2:b=b':=by rw[nf b hb,nf b' hb',e]
   rw[e2]
def Cb {B:Bs}{s s0:bP}{w h g m row x mm:Int}{rs:List (List Int)}{last:List Int}(p:B.Pure)(hs:B.st=s.d)(ok:a7 mm s)(ok0:a7 mm s0)(hm:mm<=12)(f:dJ w h g m)
  (htk:B.tk=bC s0 w m row) (hx:0<=x/\x<w) (hr:B.rows=rs++[last]) (hl:last.length<100000) (ht:B.tch.length<900000) (hg:B.grd.length<900000) :
  ∃ink hue,hX x ((sO s0 w row).getD x.toNat 0) (eN x (bD s0 m row)) ink/\s.pots[ink.toNat]?=Z hue/\0<=ink/\
   ∀M0,cA M0->dq [R M0.length,I row,I x] (ao M0 (aZ w h g m) B)=O .non (ao M0 (aZ w h g m) (B.laid s0 w m row x hue rs last)):=by
 obtain⟨ink,hue,h1,h2,h3,_⟩:=Gd (M0:=[])  rfl p hs ok ok0 hm f htk hx hr hl ht hg;refine⟨ink,hue,h1,h2,h3,λM0 h0=>?_⟩;obtain⟨ink',hue',k1,k2,_,e⟩:=Gd   h0 p hs ok ok0 hm f htk hx hr hl ht hg;have e1:=hX.uniq h1 k1
 simp_all
section
variable {M0:ay}{B B2:Bs}{w h g m t:Int}
def Ff (x1 x2:Option D)(hB:B.t=t):K6 "Beam" "ahead" (ae 0) (gC (I 1)) [Z (R M0.length),x1,x2] (ao M0 (aZ w h g m) B)=O (.nx [Z (R M0.length),x1,x2]) (ao M0 (aZ w h g m) {B with t:=t+1}):=by
 rw[(K3     rfl fm yf rfl (by rw[hB];rfl) fm xP),Rh]
def yH (f:dJ w h g m)(h0:0<=t)(h1:t<h*(w+g))(te:B.t=t):ah 2 lV (aa (cX "Beam" "frame" (ae 0)) (aa (cX "Beam" "ahead" (ae 0)) ag)) [Z (R M0.length),Y,Y] (ao M0 (aZ w h g m) B)=O (oz w g t) (ao M0 (aZ w h g m) B):=
 l0 (bO rfl fm m7) (bO rfl fm yf) (by rw[te];exact G4 f h0 h1)
def Ge (f:dJ w h g m)(h0:0<=t)(h1:t<h*(w+g))(te:B.t=t)(hz:¬t % (w+g)<w):dX [R M0.length] (ao M0 (aZ w h g m) B)=O .non (ao M0 (aZ w h g m) {B with t:=t+1}):=by
 have c1:=yH (M0:=M0) f h0 h1 te;have pl:oz w g t=U [I (t / (w+g)),.non]:=by unfold oz;rw[if_neg hz]
 rw[pl] at c1;show bL (cU [Z (R M0.length),Y,Y] _)=_;unfold cU;rw[aU (tU  c1 (ρ1:=[Z (R M0.length),Z (I (t / (w+g))),Z .non]) rfl),aU ((nQ ((λM=>rfl) _)).trans rfl),aU ((nQ ((λM=>rfl) _)).trans rfl),Ff _ _ te];rfl
def CB {B1:Bs}(f:dJ w h g m)(h0:0<=t)(h1:t<h*(w+g))(te:B.t=t)(te2:B2.t=t)(hz:t % (w+g)<w)
  (h2:(t % (w+g)=0/\eV [R M0.length,I (t / (w+g))] (ao M0 (aZ w h g m) B)=O .non (ao M0 (aZ w h g m) B1))\/(t % (w+g)≠0/\B1=B))
  (h3:dq [R M0.length,I (t / (w+g)),I (t % (w+g))] (ao M0 (aZ w h g m) B1)=O .non (ao M0 (aZ w h g m) B2)) :
  dX [R M0.length] (ao M0 (aZ w h g m) B)=O .non (ao M0 (aZ w h g m) {B2 with t:=t+1}):=by
 have c1:=yH (M0:=M0) (B:=B) f h0 h1 te;have pl:oz w g t=U [I (t / (w+g)),I (t % (w+g))]:=by unfold oz;rw[if_pos hz]
 rw[pl] at c1;show bL (cU [Z (R M0.length),Y,Y] _)=_;unfold cU;rw[aU (tU (sg:=bN [1,2]) c1  rfl)];have tst:∀M,aH (g2 (aR false) (ae 2) (gC (I 0))) [Z (R M0.length),Z (I (t / (w+g))),Z (I (t % (w+g)))] M=O (decide (t % (w+g)=0)) M:=λM=>dC (aT rfl rfl (ug _ 0 M))
 rw[aU (by
  rcases h2 with⟨hx,k⟩|⟨hx,k⟩
  ·exact(vM ((tst (ao M0 (aZ w h g m) B)).trans (by rw[decide_eq_true hx]))).trans (b8 (g9 (m:="take_row") (n:=2) (go:=ae 0) (ga:=aa (ae 1) ag) (ρ:=[Z (R M0.length),Z (I (t / (w+g))),Z (I (t % (w+g)))]) rfl fm rfl (ds:=[I (t / (w+g))]) rfl rfl k))
  ·rw[k];exact(nQ ((tst (ao M0 (aZ w h g m) B)).trans (by rw[decide_eq_false hx]))).trans rfl)]
 have k3:=g9 (m:="lay_spot") (n:=3) (go:=ae 0) (ga:=aa (ae 1) (aa (ae 2) ag)) (ρ:=[Z (R M0.length),Z (I (t / (w+g))),Z (I (t % (w+g)))]) rfl fm rfl (ds:=[I (t / (w+g)),I (t % (w+g))]) rfl rfl h3;rw[aU ((vM ((λM=>rfl) (ao M0 (aZ w h g m) B1))).trans (b8 k3)),Ff _ _ te2];rfl
end
def inkS (x fl:Int) (cs:List Sn):Int:=open Classical in if h:∃k,hX x fl cs k then Classical.choose h else 0
def Kw {x fl k:Int}{s:bP}{m row:Int}(h:hX x fl (eN x (bD s m row)) k):inkS x fl (eN x (bD s m row))=k:=by
 have e:∃k,hX x fl (eN x (bD s m row)) k:=⟨k,h⟩;unfold inkS;rw[dif_pos e];exact hX.uniq (Classical.choose_spec e) h
def hueAt (s s0:bP) (w m row x:Int):Int:=s.pots.getD (inkS x ((sO s0 w row).getD x.toNat 0) (eN x (bD s0 m row))).toNat 0
structure Pc where
 s0:bP
 rows:List (List Int)
 tch:List (List bM×D)
 grd:List (bM×D)
 lost:List D
def layP (s:bP) (w m row x:Int) (P:Pc):Pc:={P with rows:=P.rows.dropLast++[P.rows.getLastD []++[hueAt s P.s0 w m row x]],tch:=ck ((eN x (bD P.s0 m row)).map Sn.n) (U [I row,I x]) P.tch ((eN x (bD P.s0 m row)).map Sn.n).length,grd:=if(sO P.s0 w row).getD x.toNat 0=0 then P.grd else fO ((eN x (bD P.s0 m row)).map Sn.n) (U [I row,I x]) P.grd}
def vW (s:bP)(m row:Int)(P:Pc):Pc:={P with s0:=s,rows:=P.rows++[[]],lost:=P.lost++iV row (jS (bz s row) (Z m) Y)}
def tickP (w g m:Int) (s:bP) (t:Int) (P:Pc):Pc:=
 if t % (w+g)<w then layP s w m (t / (w+g)) (t % (w+g)) (if t % (w+g)=0 then vW s m (t / (w+g)) P else P) else P
def goP (w g m:Int) (s:bP):Nat->Int->Pc->Pc
 | 0,_,P=>P
 | n+1,t,P=>goP w g m s n (t+1) (tickP w g m s t P)
def planP (w g m T:Int):List (Int×Dd)->bP->Int->Pc->Pc
 | [],s,t,P=>goP w g m s (T-t).toNat t P
 | p::td,s,t,P=>planP w g m T td (cg s p.2) p.1 (goP w g m s (p.1-t).toNat t P)
structure yw (w g m mm t:Int)(P:Pc)(B:Bs):Prop where
 rows:B.rows=P.rows
 tch:B.tch=P.tch
 grd:B.grd=P.grd
 lost:B.lost=P.lost
 row:0<t % (w+g)->t % (w+g)<w->a7 mm P.s0/\B.tk=bC P.s0 w m (t / (w+g))/\P.rows≠[]
def AL {s s0:bP}{w m row x ink hue:Int}(h:hX x ((sO s0 w row).getD x.toNat 0) (eN x (bD s0 m row)) ink)(e:s.pots[ink.toNat]?=Z hue):hueAt s s0 w m row x=hue:=by
 unfold hueAt;rw[Kw h,getD_eq_getElem?_getD,e];rfl
def zH {B:Bs}{P:Pc}{s:bP}{w g m mm t hue:Int}{rs:List (List Int)}{last:List Int}(hp:0<w+g)(ok0:a7 mm P.s0)(htk:B.tk=bC P.s0 w m (t / (w+g)))(er:P.rows=rs++[last])(et:B.tch=P.tch)(eg:B.grd=P.grd)(el:B.lost=P.lost)(eh:hueAt s P.s0 w m (t / (w+g)) (t % (w+g))=hue) :
  yw w g m mm (t+1) (layP s w m (t / (w+g)) (t % (w+g)) P) {B.laid P.s0 w m (t / (w+g)) (t % (w+g)) hue rs last with t:=t+1}:=by
 subst eh;refine⟨?_,?_,?_,el,λh1 h2=>⟨ok0,?_,?_⟩⟩
 ·show rs++[last++[_]]=P.rows.dropLast++[P.rows.getLastD []++[_]];rw[er,dropLast_concat,getLastD_concat]
 ·show ck _ _ B.tch _=ck _ _ P.tch _;rw[et]
 ·show(if _ then B.grd else fO _ _ B.grd)=(if _ then P.grd else fO _ _ P.grd);rw[eg]
 ·show B.tk=bC P.s0 w m ((t+1) / (w+g));rcases mD hp with⟨q,_⟩|q
  ·rw[htk,q]
  omega
 ·show P.rows.dropLast++[_]≠[];simp
def zl {B:Bs}{P:Pc}{s:bP}{w h g m mm t:Int}(ok:a7 mm s)(hm:mm<=12)(f:dJ w h g m)(ht0:0<=t)(ht1:t<h*(w+g))(ht2:t<=3000)(iv:mq w g m mm s t B)(pn:yw w g m mm t P B) :
  ∃B',mq w g m mm s (t+1) B'/\yw w g m mm (t+1) (tickP w g m s t P) B'/\∀M0,cA M0->dX [R M0.length] (ao M0 (aZ w h g m) B)=O .non (ao M0 (aZ w h g m) B'):=by
 have hp:0<w+g:=by have:=f.w;have:=f.g;omega
 by_cases hz:t % (w+g)<w
 ·have x0:=Vz t (Y5 hp)
  by_cases hx:t % (w+g)=0
  ·generalize hB1:({B with tk:=bC s w m (t / (w+g)),rows:=B.rows++[[]],lost:=B.lost++iV (t / (w+g)) (jS (bz s (t / (w+g))) (Z m) Y)}:Bs)=B1;have j1:B1.t=t:=by rw[<-hB1];exact iv.te
   have j2:B1.st=s.d:=by rw[<-hB1];exact iv.st
   have jl:(iV (t / (w+g)) (jS (bz s (t / (w+g))) (Z m) Y)).length<=12:=by
    unfold iV;rw[length_map];exact UK (qD _ _ _) (xl ok hm)
   have j3:B1.Pure:=by
    rw[<-hB1];refine⟨iv.p.st,va s w m _,iv.p.tch,iv.p.grd,λp hp'=>?_⟩;rcases mem_append.mp hp' with q|q
    ·exact iv.p.lost p q
    ·obtain⟨n,_,rfl⟩:=mem_map.mp q;rfl
   have j6:B1.lost.length<=12*(t.toNat+1):=by
    rw[<-hB1];show(B.lost++_).length<=_;rw[length_append];have:=iv.lost;omega
   have j7:B1.rows.length<=t.toNat+1:=by
    rw[<-hB1];show(B.rows++[[]]).length<=_;rw[length_append];have:=iv.rl;simp only[length_singleton];omega
   have j8:∀r∈B1.rows,r.length<=t.toNat:=by
    rw[<-hB1];intro r hr;rcases mem_append.mp hr with q|q
    ·exact iv.rr r q
    ·rw[mem_singleton] at q;rw[q];exact UW _
   have jt:B1.tch=B.tch:=by rw[<-hB1]
   have jg:B1.grd=B.grd:=by rw[<-hB1]
   have jk:B1.tk=bC s w m (t / (w+g)):=by rw[<-hB1]
   have jr:B1.rows=B.rows++[[]]:=by rw[<-hB1]
   obtain⟨ink,hue,hS,hH,_,ey⟩:=Cb (row:=t / (w+g)) j3 j2 ok ok hm f jk ⟨x0,hz⟩ jr (by decide) (by rw[jt];have:=iv.tch;omega) (by rw[jg];have:=iv.grd;omega);refine⟨_,yO (M0:=[]) (fs:=s) (hue:=hue) hm ok ht0 hp j1 j2 j3 (by rw[jt];exact iv.tch) (by rw[jg];exact iv.grd) j6 j7 j8 jk jr,by unfold tickP;rw[if_pos hz,if_pos hx];exact zH (P:=vW s m (t / (w+g)) P) hp ok jk (by show P.rows++[[]]=_;rw[<-pn.rows]) (by rw[jt];exact pn.tch) (by rw[jg];exact pn.grd) (by rw[<-hB1];show B.lost++_=P.lost++_;rw[pn.lost]) (AL hS hH),λM0 h0=>?_⟩;have tk:=JQ (row:=t / (w+g)) h0 iv.p iv.st ok hm f (by have:=iv.lost;omega) (by have:=iv.rl;omega);rw[hB1] at tk;exact CB f ht0 ht1 iv.te j1 hz (.inl ⟨hx,tk⟩) (ey M0 h0)
  ·obtain⟨ok0,jk,jn⟩:=pn.row (by omega) hz;rw[<-pn.rows] at jn;obtain⟨rs,last,jr⟩:∃rs last,B.rows=rs++[last]:=⟨B.rows.dropLast,B.rows.getLast jn,(dropLast_concat_getLast jn).symm⟩;have jll:last.length<100000:=by
    have:=iv.rr last (by rw[jr];simp);omega
   obtain⟨ink,hue,hS,hH,_,ey⟩:=Cb (row:=t / (w+g)) iv.p iv.st ok ok0 hm f jk ⟨x0,hz⟩ jr jll (by have:=iv.tch;omega) (by have:=iv.grd;omega);refine⟨_,yO (M0:=[]) (fs:=s) (hue:=hue) hm ok0 ht0 hp iv.te iv.st iv.p iv.tch iv.grd (by have:=iv.lost;omega) (by have:=iv.rl;omega) iv.rr jk jr,by unfold tickP;rw[if_pos hz,if_neg hx];exact zH (P:=P) hp ok0 jk (by rw[<-pn.rows];exact jr) pn.tch pn.grd pn.lost (AL hS hH),λM0 h0=>?_⟩;exact CB f ht0 ht1 iv.te iv.te hz (.inr ⟨hx,rfl⟩) (ey M0 h0)
 ·refine⟨{B with t:=t+1},⟨rfl,iv.st,⟨iv.p.st,iv.p.tk,iv.p.tch,iv.p.grd,iv.p.lost⟩,by have:=iv.tch;show B.tch.length<=_;omega,by have:=iv.grd;show B.grd.length<=_;omega,by have:=iv.lost;show B.lost.length<=_;omega,by have:=iv.rl;show B.rows.length<=_;omega,λr hr=>by have:=iv.rr r hr;omega,λh1 h2=>?_⟩,?_,λM0 _=>Ge f ht0 ht1 iv.te hz⟩
  ·exfalso;rcases mD (t:=t) hp with⟨_,q⟩|q <;> omega
  ·unfold tickP;rw[if_neg hz];refine⟨pn.rows,pn.tch,pn.grd,pn.lost,λh1 h2=>?_⟩;exfalso;rcases mD (t:=t) hp with⟨_,q⟩|q <;> omega
theorem ww {s:bP}{w h g m mm e:Int}(ok:a7 mm s)(hm:mm<=12)(f:dJ w h g m)(he:e<=h*(w+g))(he2:e<=3000){x1:Option D}:∀(n fuel:Nat) (t:Int) (B:Bs) (P:Pc),0<=t->t+n=e->n<fuel->mq w g m mm s t B->yw w g m mm t P B->
  ∃B',mq w g m mm s e B'/\yw w g m mm e (goP w g m s n t P) B'/\∀M0,cA M0->cJ gD iH fuel [Z (R M0.length),x1,Z (I e)] (ao M0 (aZ w h g m) B)=O (.nx [Z (R M0.length),x1,Z (I e)]) (ao M0 (aZ w h g m) B')
 | n,0,t,B,_,_,_,hf,_,_=>by omega
 | 0,fuel+1,t,B,P,h1,h2,_,iv,pn=>by
  have e1:t=e:=by omega
  subst e1;refine⟨B,iv,pn,λM0 h0=>oK ?_⟩;unfold gD;exact dC (aT (bO rfl fm yf) rfl (by rw[iv.te];show bc.ok (D.bl (decide (t<t))) _=_;rw[decide_eq_false (by omega)]))
 | n+1,fuel+1,t,B,P,h1,h2,hf,iv,pn=>by
  obtain⟨B1,iv1,pn1,e1⟩:=zl ok hm f h1 (by omega) (by omega) iv pn;obtain⟨B',iv',pn',e2⟩:=ww ok hm f he he2 (x1:=x1) n fuel (t+1) B1 _ (by omega) (by omega) (by omega) iv1 pn1;refine⟨B',iv',pn',λM0 h0=>?_⟩;rw[<-e2 M0 h0];refine zM (M1:=ao M0 (aZ w h g m) B) ?_ ?_
  ·unfold gD;exact dC (aT (bO rfl fm yf) rfl (by rw[iv.te];show bc.ok (D.bl (decide (t<e))) _=_;rw[decide_eq_true (by omega)]))
  ·unfold iH;exact b8 (g9 (go:=ae 0) rfl fm rfl rfl rfl (e1 M0 h0))
def EB {B:Bs}{P:Pc}{s:bP}{w h g m mm t k:Int}(ok:a7 mm s)(hm:mm<=12)(f:dJ w h g m)(ht0:0<=t)(hk:0<=k)(he:t+k<=h*(w+g))(iv:mq w g m mm s t B)(pn:yw w g m mm t P B) :
  ∃B',mq w g m mm s (t+k) B'/\yw w g m mm (t+k) (goP w g m s k.toNat t P) B'/\∀M0,cA M0->nN [R M0.length,I k] (ao M0 (aZ w h g m) B)=O .non (ao M0 (aZ w h g m) B'):=by
 have hb:h*(w+g)<=40*60:=by
  have a:=f.w;have b:=f.g;have c:=f.h;exact Yl (by omega) (by omega) (by omega) (by omega)
 obtain⟨B',iv',pn',ew⟩:=ww  ok hm f he (by omega) k.toNat 5000 t B P ht0 (by omega) (by omega) iv pn;refine⟨B',iv',pn',λM0 h0=>?_⟩;show bL (nK [Z (R M0.length),Z (I k),Y] _)=_;unfold nK;have q0:(ao M0 (aZ w h g m) B)[M0.length]?=Z (.obj "Beam" (cY (aZ w h g m) M0.length B)):=fm;have k1:=dY (i:=2) (aT (f:=a8) (bO (g:=ae 0) (ρ:=[Z (R M0.length),Z (I k),Y]) (f:="ahead") rfl q0 yf) (b:=ae 1) rfl (by rw[iv.te];rfl));rw[aU k1];have c1:=wb (F:=cb) (bO (g:=ae 0) (ρ:=[Z (R M0.length),Z (I k),Z (I (t+k))]) (f:="frame") rfl q0 m7) (cn f);have tst:=dC (aT (f:=Bg) (a:=ae 2)  rfl c1 (by show bc.ok (D.bl (decide (t+k>h*(w+g)))) _=_;rw[decide_eq_false (by omega)]));refine(congrArg bL (aU ((nQ tst).trans rfl))).trans ?_;show bL (cJ gD iH 5000 [Z (R M0.length),Z (I k),Z (I (t+k))] _)=_;rw[ew M0 h0];rfl
def Jt {M0:ay}{B:Bs}{w h g m:Int}(f:dJ w h g m):dO [R M0.length] (ao M0 (aZ w h g m) B)=O (G (decide (B.t=h*(w+g)))) (ao M0 (aZ w h g m) B):=by
 show bL (cV [Z (R M0.length)] _)=_;unfold cV;have q0:(ao M0 (aZ w h g m) B)[M0.length]?=Z (.obj "Beam" (cY (aZ w h g m) M0.length B)):=fm;rw[fX (aT (bO rfl q0 yf) (wb (bO rfl q0 m7) (cn f)) (ug _ _ _))];rfl
def EF {M0:ay}{B:Bs}{s:bP}{dd:Dd}{w h g m mm:Int}(ok:a7 mm s)(hm:mm<=900)(f:dJ w h g m)(hs:B.st=s.d)(hd:jP s dd)(ht:B.t≠h*(w+g)) :
  mG [R M0.length,dd.d] (ao M0 (aZ w h g m) B)=O .non (ao M0 (aZ w h g m) {B with st:=(cg s dd).d}):=by
 show bL (jm [Z (R M0.length),Z dd.d] _)=_;unfold jm;have q0:(ao M0 (aZ w h g m) B)[M0.length]?=Z (.obj "Beam" (cY (aZ w h g m) M0.length B)):=fm;have k1:=AI (g9  (m:="is_over") (n:=1) (go:=ae 0) (ga:=ag) (ρ:=[Z (R M0.length),Z dd.d]) rfl q0 rfl  rfl rfl (Jt  (B:=B) f));rw[decide_eq_false ht] at k1;rw[aU ((nQ k1).trans rfl)];rw[xC (l0 (F:=fI)  (bO   rfl q0 BP)   rfl (by rw[hs];exact Bk ok hm hd)) (rfl) q0 xP,MC];rfl
def yr {w g m mm t:Int}{s:bP}{dd:Dd}{B:Bs}(iv:mq w g m mm s t B):mq w g m mm (cg s dd) t {B with st:=(cg s dd).d}:=
 ⟨iv.te,rfl,⟨iT _,iv.p.tk,iv.p.tch,iv.p.grd,iv.p.lost⟩,iv.tch,iv.grd,iv.lost,iv.rl,iv.rr,iv.row⟩
def Ab {w g m mm t:Int}{P:Pc}{B:Bs}{st:D}(pn:yw w g m mm t P B):yw w g m mm t P {B with st:=st}:=⟨pn.rows,pn.tch,pn.grd,pn.lost,pn.row⟩
def EL (b:Nat)(n:Nat):nW (kF b n) (kF b n)=true:=ja _
def kO (td:List (Int×Dd)):List D:=td.map λp=>U [I p.1,p.2.d]
structure oo (T:Int)(s:bP)(td:List (Int×Dd)):Prop where
 rng:∀p∈td,0<=p.1/\p.1<T
 ord:(td.map (·.1)).Pairwise (·<=·)
 dd:∀p∈td,jP s p.2
 len:td.length<=3000
def wg {gi:GI}{n:Nat}{sg:GG}{ge:GE}{ρ:fE}{f:D->D}{M:ay}{ds:List D}(hi:gi ρ M=O ⟨ds,Y⟩ M)(hl:ds.length<=100000)(h:∀d∈ds,∃ρ1,sg d (UD n Y++ρ)=Z ρ1/\ge ρ1 M=O (f d) M) :
  ce gi n sg bp ge aO ρ M=O (.lst (ds.map f)) M:=by
 unfold ce;rw[hi,az,qZ ds h,az];unfold aO;rw[if_pos (b9 (by grind))]
theorem wc:∀ns:List Int,uT (ns.map I)=Z ns
 | []=>rfl
 | n::ns=>by
  show(uT (ns.map I)).map (n::·)=_;rw[wc ns];rfl
def Bt {ns:List Int}{M:ay}(ho:ns.Pairwise (·<=·))(hl:ns.length<=100000):zQ [.lst (ns.map I)] M=O (.lst (ns.map I)) M:=by
 show(match uT (ns.map I) with|some ns'=>if Lc ns'=true/\ns'.length<=100000 then bc.ok (D.lst (ns.map I)) M else .bad|none=>.bad)=_;rw[wc];show(if Lc ns=true/\ns.length<=100000 then _ else _)=_;rw[if_pos ⟨Gs ho,hl⟩]
def Ji {a b:List Int}{M:ay}:aR false (.lst (a.map I)) (.lst (b.map I)) M=O (G (decide (a=b))) M:=by
 have co:∀l:List Int,bG 40 (.lst (l.map I))=true:=λl=>cu λd hd=>by
  obtain⟨i,_,rfl⟩:=mem_map.mp hd;rfl
 have eb:∀a b:List Int,gY (a.map I) (b.map I)=decide (a=b):=by
  intro a
  induction a with
  | nil=>intro b;cases b with
   | nil=>rfl
   | cons x b=>rfl
  | cons x a ih=>intro b;cases b with
   | nil=>rfl
   | cons y b=>
    have e:gY ((x::a).map I) ((y::b).map I)=(decide (x=y)&&gY (a.map I) (b.map I)):=rfl
    simp_all
 unfold aR
 simp_all
def Ip {T:List (Int×Dd)}{w h g m:Int}{M:ay}(f:dJ w h g m)(ho:(T.map (·.1)).Pairwise (·<=·))(hl:T.length<=3000) :
  iw [aZ w h g m,.lst (kO T)] M=O (G ((T.map (·.1)).all λt=>decide (0<=t)&&decide (t<h*(w+g)))) M:=by
 show bL (iA [Z (aZ w h g m),Z (.lst (kO T)),Y] M)=_;unfold iA;have ll:(kO T).length<=100000:=by unfold kO;rw[length_map];omega
 have c1:=wg (gi:=bE (ae 1)) (n:=2) (sg:=bN [0,1]) (ge:=ke) (ρ:=[Z (aZ w h g m),Z (.lst (kO T)),Y]) (M:=M) (f:=λd=>match d with | .tup [t,_]=>t|d=>d) (nI rfl) ll (λd hd=>by
  obtain⟨p,_,rfl⟩:=mem_map.mp hd;exact⟨[Z (I p.1),Z p.2.d,Z (aZ w h g m),Z (.lst (kO T)),Y],rfl,rfl⟩)
 have em:(kO T).map (λd=>match d with | .tup [t,_]=>t|d=>d)=(T.map (·.1)).map I:=by
  unfold kO;rw[map_map,map_map];rfl
 rw[em] at c1;rw[aU (dY c1)];generalize hn:T.map (·.1)=ns at *;have nl:ns.length<=3000:=by rw[<-hn,length_map];exact hl
 have k2:=LM (gi:=bE (ae 2)) (ge:=j9) (ρ:=[Z (aZ w h g m),Z (.lst (kO T)),Z (.lst (ns.map I))]) (M:=M) (xs:=ns.map I) (p:=λd=>match d with | .int t=>decide (0<=t)&&decide (t<h*(w+g))|_=>true) (nI rfl) (by rw[length_map];omega) (λd hd=>by
  obtain⟨t,_,rfl⟩:=mem_map.mp hd;have tc:=wb (F:=cb) (a:=ae 1) (ρ:=[Z (I t),Z (aZ w h g m),Z (.lst (kO T)),Z (.lst (ns.map I))]) (M:=M) rfl (cn f);show Aq vB pR (gC (I 0)) (ae 0) (ah 1 cb (aa (ae 1) ag)) [Z (I t),Z (aZ w h g m),Z (.lst (kO T)),Z (.lst (ns.map I))] M=_;unfold Aq;show(bc.ok (I 0) M).bind _=_;rw[az];show(bc.ok (I t) M).bind _=_;rw[az];show(bc.ok (D.bl (decide (0<=t))) M).bind _=_;rw[az]
  by_cases q:0<=t
  ·rw[decide_eq_true q];dsimp only;rw[tc,az];show bc.ok (D.bl (decide (t<h*(w+g)))) M=_;rw[decide_eq_true q,abH]
  ·rw[decide_eq_false q];dsimp only;rw[decide_eq_false q,abl])
 have ea:(ns.map I).all (λd=>match d with | .int t=>decide (0<=t)&&decide (t<h*(w+g))|_=>true)=ns.all λt=>decide (0<=t)&&decide (t<h*(w+g)):=by rw[all_map];rfl
 rw[ea] at k2;show bL (aF _ [Z (aZ w h g m),Z (.lst (kO T)),Z (.lst (ns.map I))] M)=_;rw[fX (Bu (aT rfl (sP (a:=ae 2) rfl (Bt ho (by omega))) (Ji.trans (by rw[decide_eq_true rfl]))) λ_=>k2)];rfl
def oo.hold {w h g m:Int}{s:bP}{td:List (Int×Dd)}{M:ay}(f:dJ w h g m)(p:oo (h*(w+g)) s td):iw [aZ w h g m,.lst (kO td)] M=O (G true) M:=by
 rw[Ip f p.ord p.len,(all_eq_true.mpr λt ht=>by
  obtain⟨q,hq,rfl⟩:=mem_map.mp ht;have:=p.rng q hq
  simp_all)]
def yD {s:bP}{fr:D}{td:List (Int×Dd)}{M:ay}(h:∀p∈td,jP s p.2)(hl:td.length<=3000) :
  aJ mh (aa (ce (bE (ae 2)) 2 (bN [0,1]) bp ka aO) ag) [Z fr,Z s.d,Z (.lst (kO td))] M=O (G true) M:=by
 refine sP (wg       (f:=λ_=>G true) (nI rfl) (by unfold kO;rw[length_map];omega) (λd hd=>by
  obtain⟨p,hp,rfl⟩:=mem_map.mp hd;refine⟨[Z (I p.1),Z p.2.d,Z fr,Z s.d,Z (.lst (kO td))],rfl,?_⟩;exact l0 rfl rfl (qW (h p hp)))) ?_
 have bo:=λds=>yl (p:=λ_=>true) ds
 show(match eB ((kO td).map λ_=>D.bl true) with|some bs=>bc.ok (D.bl (bs.all id)) M|none=>.bad)=_
 simp_all
def Km {w h g m mm:Int}{s:bP}{td:List (Int×Dd)}{M:ay}(f:dJ w h g m)(ok:a7 mm s)(hm:mm<=12)(p:oo (h*(w+g)) s td):k8 [aZ w h g m,s.d,.lst (kO td)] M=O .non M:=by
 show bL (iu [Z (aZ w h g m),Z s.d,Z (.lst (kO td))] M)=_;unfold iu;rw[aU (b8 (l0    rfl rfl (ve f ok hm))),aU ((nQ (Cr (AI (l0    rfl rfl (p.hold  f))))).trans rfl),nQ (Cr (AI (yD p.dd p.len)))];rfl
def ue (s:bP)(dd:Dd):(cg s dd).movers.length=s.movers.length/\(cg s dd).book=s.book:=by
 have sm:∀i f,(l7 s i f).movers.length=s.movers.length/\(l7 s i f).book=s.book:=λi f=>by
  unfold l7;split
  ·simp
  simp
 cases dd <;> first|exact⟨rfl,rfl⟩|exact sm _ _
def wH {s:bP}{dd d2:Dd}(h:jP s d2):jP (cg s dd) d2:=by
 obtain⟨e1,e2⟩:=ue s dd;cases d2 <;> simp only[jP,e1,e2] at*<;> exact h
def CP {ds0:List D}{sg:GG}{b:GS}{d:D}{ds:List D}{ρ ρ1 ρ2:fE}{M M1:ay}(h1:sg d ρ=Z ρ1)(h2:b ρ1 M=O (.nx ρ2) M1):cT ⟨ds0,Y⟩ sg b (d::ds) ρ M=cT ⟨ds0,Y⟩ sg b ds ρ2 M1:=by
 show(match sg d ρ with|none=>bc.bad|some ρ1=>(b ρ1 M).bind λf M1=>match f with | .nx ρ2=>cT ⟨ds0,Y⟩ sg b ds ρ2 M1 | .ct ρ2=>cT ⟨ds0,Y⟩ sg b ds ρ2 M1 | .bk ρ2=>O (.nx ρ2) M1 | .rt d=>O (.rt d) M1)=_;rw[h1];dsimp only;rw[h2,az]
def v4 {M0:ay}{fr:D}{B:Bs}:bY [R M0.length] (ao M0 fr B)=O (I B.t) (ao M0 fr B):=by
 show bL (fA [Z (R M0.length)] _)=_;unfold fA;rw[fX (bO rfl fm yf)];rfl
def sY (td:List (Int×Dd))(s:bP):bP:=td.foldl (λs p=>cg s p.2) s
theorem yM {w h g m mm:Int}(hm:mm<=12)(f:dJ w h g m)(x0 x1 x2:Option D)(ds0:List D):∀(td:List (Int×Dd)) (s:bP) (t:Int) (B:Bs) (P:Pc),a7 mm s->0<=t->t<=h*(w+g)->(∀p∈td,t<=p.1/\p.1<h*(w+g))->(td.map (·.1)).Pairwise (·<=·)->(∀p∈td,jP s p.2)->mq w g m mm s t B->yw w g m mm t P B->
  ∃B' s' t' P',a7 mm s'/\0<=t'/\t'<=h*(w+g)/\mq w g m mm s' t' B'/\yw w g m mm t' P' B'/\planP w g m (h*(w+g)) td s t P=goP w g m s' (h*(w+g)-t').toNat t' P'/\s'=sY td s/\∀M0,cA M0->∀x4 x5,∃y4 y5,cT ⟨ds0,Y⟩ (bN [4,5]) qi (kO td) [x0,x1,x2,Z (R M0.length),x4,x5] (ao M0 (aZ w h g m) B)=O (.nx [x0,x1,x2,Z (R M0.length),y4,y5]) (ao M0 (aZ w h g m) B')
 | [],s,t,B,P,ok,h0,hT,_,_,_,iv,pn=>⟨B,s,t,P,ok,h0,hT,iv,pn,rfl,rfl,λM0 _ x4 x5=>⟨x4,x5,rfl⟩⟩
 | p::td,s,t,B,P,ok,h0,hT,hr,ho,hd,iv,pn=>by
  obtain⟨a1,a2⟩:=hr p (mem_cons_self ..);obtain⟨o1,o2⟩:=pairwise_cons.mp ho;obtain⟨B1,iv1,pn1,e1⟩:=EB (k:=p.1-t) ok hm f h0 (by omega) (by omega) iv pn;rw[show t+(p.1-t)=p.1 by omega] at iv1 pn1;have d0:=hd p (mem_cons_self ..);have iv2:=yr (dd:=p.2) iv1;have ok2:=p7 ok d0;obtain⟨B',s',t',P',ok',h0',hl',iv',pn',eP,eS,e2⟩:=yM hm f x0 x1 x2 ds0 td (cg s p.2) p.1 _ _ ok2 (by omega) (by omega) (λq hq=>⟨o1 q.1 (mem_map.mpr ⟨q,hq,rfl⟩),(hr q (mem_cons_of_mem _ hq)).2⟩) o2 (λq hq=>wH (hd q (mem_cons_of_mem _ hq))) iv2 (Ab pn1);refine⟨B',s',t',P',ok',h0',hl',iv',pn',eP,eS,λM0 hM x4 x5=>?_⟩;obtain⟨y4,y5,e3⟩:=e2 M0 hM (Z (I p.1)) (Z p.2.d);refine⟨y4,y5,?_⟩;rw[<-e3];refine CP (ρ1:=[x0,x1,x2,Z (R M0.length),Z (I p.1),Z p.2.d]) rfl ?_;unfold qi;have kt:=g9 (m:="tick") (n:=1) (go:=ae 3) (ga:=ag) (ρ:=[x0,x1,x2,Z (R M0.length),Z (I p.1),Z p.2.d]) (M:=ao M0 (aZ w h g m) B) rfl fm rfl (ds:=[]) rfl rfl (v4 (M0:=M0) (B:=B));have ks:=aT (f:=dN) (o:=O (I (p.1-t)) (ao M0 (aZ w h g m) B)) (a:=ae 4) rfl kt (by rw[iv.te];rfl);have kg:=g9 (m:="go") (n:=2) (go:=ae 3) (ga:=aa (g2 dN (ae 4) (dQ "Beam" "tick" 1 bY (ae 3) ag)) ag) (ρ:=[x0,x1,x2,Z (R M0.length),Z (I p.1),Z p.2.d]) (M:=ao M0 (aZ w h g m) B) rfl fm rfl (ds:=[I (p.1-t)]) (cx ks rfl) rfl (e1 M0 hM);rw[aU (b8 kg)];exact b8 (g9 (m:="deed") (n:=2) (go:=ae 3) (ga:=aa (ae 5) ag) (ρ:=[x0,x1,x2,Z (R M0.length),Z (I p.1),Z p.2.d]) (M:=ao M0 (aZ w h g m) B1) rfl fm rfl (ds:=[p.2.d]) rfl rfl (EF ok (by omega) f iv1.st d0 (by rw[iv1.te];omega)))
def Hb {w h g m mm:Int}{s:bP}{td:List (Int×Dd)}(hm:mm<=12)(f:dJ w h g m)(ok:a7 mm s)(p:oo (h*(w+g)) s td) :
  ∃B',mq w g m mm (sY td s) (h*(w+g)) B'/\yw w g m mm (h*(w+g)) (planP w g m (h*(w+g)) td s 0 ⟨s,[],[],[],[]⟩) B'/\∀M0,cA M0->AD [aZ w h g m,s.d,.lst (kO td)] M0=O (R M0.length) (ao M0 (aZ w h g m) B'):=by
 have hp:0<=h*(w+g):=abB (by have:=f.h;omega) (by have:=f.w;have:=f.g;omega);have hc:∀M,bQ [aZ w h g m,s.d] M=O .non M:=λM=>ve f ok hm
 obtain⟨B1,s1,t1,P1,ok1,h1,h2,iv1,pn1,eP,eS,e1⟩:=yM hm f (Z (aZ w h g m)) (Z s.d) (Z (.lst (kO td))) (kO td) td s 0 (yJ s.d) ⟨s,[],[],[],[]⟩ ok (Zs 0) hp p.rng p.ord p.dd (Pd (iT s)) ⟨rfl,rfl,rfl,rfl,λq=>absurd q (by simp)⟩;obtain⟨B',iv',pn',e2⟩:=EB (k:=h*(w+g)-t1) ok1 hm f h1 (by omega) (by omega) iv1 pn1;rw[show t1+(h*(w+g)-t1)=h*(w+g) by omega] at iv' pn';refine⟨B',eS▸iv',by rw[eP];exact pn',λM0 h0=>?_⟩;obtain⟨y4,y5,e3⟩:=e1 M0 h0 Y Y;show bL (xT [Z (aZ w h g m),Z s.d,Z (.lst (kO td)),Y,Y,Y] M0)=_;unfold xT;rw[aU (b8 (CA (a:=ae 0) (ρ:=[Z (aZ w h g m),Z s.d,Z (.lst (kO td)),Y,Y,Y]) rfl rfl rfl (Km f ok hm p)))];rw[aU (dY (Jr (ga:=aa (ae 0) (aa (ae 1) ag)) (ρ:=[Z (aZ w h g m),Z s.d,Z (.lst (kO td)),Y,Y,Y]) rfl hc))];rw[aU (show gZ (bE (ae 2)) (bN [4,5]) qi ([Z (aZ w h g m),Z s.d,Z (.lst (kO td)),Y,Y,Y].set 3 (Z (R M0.length))) (ao M0 (aZ w h g m) (yJ s.d))=_ from(mP (t:=⟨kO td,Y⟩) (nI rfl) e3))];have kt:=g9 (m:="tick") (n:=1) (go:=ae 3) (ga:=ag) (ρ:=[Z (aZ w h g m),Z s.d,Z (.lst (kO td)),Z (R M0.length),y4,y5]) (M:=ao M0 (aZ w h g m) B1) rfl fm rfl (ds:=[]) rfl rfl (v4 (M0:=M0) (B:=B1));have ks:=aT (f:=dN) (o:=O (I (h*(w+g)-t1)) (ao M0 (aZ w h g m) B1)) (wb (a:=ae 0)  rfl (cn (M:=ao M0 (aZ w h g m) B1) f)) kt (by rw[iv1.te];rfl);have kg:=g9 (m:="go") (n:=2) (go:=ae 3)  (M:=ao M0 (aZ w h g m) B1) rfl fm rfl (ga:=aa (g2 dN (ah 1 cb (aa (ae 0) ag)) (dQ "Beam" "tick" 1 bY (ae 3) ag)) ag) (ds:=[I (h*(w+g)-t1)]) (cx ks rfl) rfl (e2 M0 h0);rw[aU (b8 kg)];rfl
def nV (b n:Nat):List D:=(UH n).map λi=>D.mr (b+4+i)
def rW (b:Nat)(st:D)(P:Pc):ay:=.lst (nV b P.rows.length)::.dT P.tch::.dK P.grd::.lst [R b,R (b+1),R (b+2),.lst P.lost,st]::P.rows.map sG
def aA (M0:ay)(st:D)(P:Pc):ay:=M0++rW M0.length st P
section
variable {M0:ay}{st:D}{P:Pc}
def zB (k:Nat):(aA M0 st P)[M0.length+k]?=(rW M0.length st P)[k]?:=by
 unfold aA;rw[getElem?_append_right (YJ _ _),Xi]
def xo (k:Nat)(o:MO):(aA M0 st P).set (M0.length+k) o=M0++(rW M0.length st P).set k o:=by
 unfold aA;simp
def Ic:(aA M0 st P)[M0.length]?=Z (.lst (nV M0.length P.rows.length)):=zB 0
def MI:(aA M0 st P)[M0.length+1]?=Z (.dT P.tch):=zB 1
def LJ:(aA M0 st P)[M0.length+2]?=Z (.dK P.grd):=zB 2
def JF:(aA M0 st P)[M0.length+3]?=Z (.lst [R M0.length,R (M0.length+1),R (M0.length+2),.lst P.lost,st]):=zB 3
def Ba {i:Nat}{r:List Int}(h:P.rows[i]?=Z r):(aA M0 st P)[M0.length+4+i]?=Z (sG r):=by
 rw[WJ,zB,Y3 4 i];show(P.rows.map sG)[i]?=_
 simp_all
def vc:(aA M0 st P).length=M0.length+4+P.rows.length:=by
 unfold aA rW;rw[length_append,length_cons,length_cons,length_cons,length_cons,length_map];omega
def FY {x:List (List bM×D)}:(aA M0 st P).set (M0.length+1) (.dT x)=aA M0 st {P with tch:=x}:=xo 1 _
def Fw {x:List (bM×D)}:(aA M0 st P).set (M0.length+2) (.dK x)=aA M0 st {P with grd:=x}:=xo 2 _
def yV {l:List D}{st2:D}:(aA M0 st P).set (M0.length+3) (.lst [R M0.length,R (M0.length+1),R (M0.length+2),.lst l,st2])=aA M0 st2 {P with lost:=l}:=xo 3 _
def HD {i:Nat}{r:List Int}:(aA M0 st P).set (M0.length+4+i) (sG r)=aA M0 st {P with rows:=P.rows.set i r}:=by
 rw[WJ,xo,Y3 4 i];unfold aA rW;simp
def G5:((aA M0 st P)++[MO.lst []]).set M0.length (MO.lst (nV M0.length P.rows.length++[D.mr (aA M0 st P).length]))=aA M0 st {P with rows:=P.rows++[[]]}:=by
 rw[vc];unfold aA rW;rw[append_assoc,set_append_right _ _ (Uj _),XZ,map_append,length_append];unfold nV;rw[length_singleton,range_succ,map_append];rfl
theorem tH:∀{n:Nat} {d:D},aI n d=true->aI (n+1) d=true
 | 0,d,h=>by cases h
 | n+1,d,h=>by
  cases d with
  | mr k=>cases h
  | tup xs=>exact all_eq_true.mpr λx hx=>tH (all_eq_true.mp (h) x hx)
  | lst xs=>exact all_eq_true.mpr λx hx=>tH (all_eq_true.mp (h) x hx)
  | ro xs=>exact all_eq_true.mpr λx hx=>tH (all_eq_true.mp (h) x hx)
  | _=>rfl
structure Pc.Pure (P:Pc):Prop where
 tch:∀p,p∈P.tch->aI 30 p.2=true
 grd:∀p,p∈P.grd->aI 30 p.2=true
 lost:∀p,p∈P.lost->aI 28 p=true
def iE (h0:cA M0)(hs:aI 30 st=true)(p:P.Pure):cA (aA M0 st P):=by
 unfold cA;rw[vc];unfold aA rW;rw[all_append,Uw];refine⟨all_eq_true.mpr λx hx=>qU (by omega) (all_eq_true.mp h0 x hx),?_⟩;simp only[all_cons,Uw];have f:∀k:Nat,k<=3->oJ (M0.length+4+P.rows.length) 30 (R (M0.length+k))=true:=λk hk=>decide_eq_true (by omega)
 refine⟨?_,?_,?_,?_,?_⟩
 ·refine all_eq_true.mpr λx hx=>?_
  obtain⟨i,hi,rfl⟩:=mem_map.mp hx;exact decide_eq_true (by grind)
 ·exact all_eq_true.mpr λx hx=>bV 30 _ (p.tch x hx)
 ·exact all_eq_true.mpr λx hx=>bV 30 _ (p.grd x hx)
 ·show([R M0.length,R (M0.length+1),R (M0.length+2),.lst P.lost,st]:List D).all (oJ (M0.length+4+P.rows.length) 30)=true;simp only[all_cons,all_nil,Uw];exact⟨f 0 (by decide),f 1 (by decide),f 2 (by decide),all_eq_true.mpr λx hx=>bV 29 _ (by exact tH (p.lost x hx)),bV 30 _ hs,trivial⟩
 ·refine all_eq_true.mpr λx hx=>?_
  obtain⟨r,_,rfl⟩:=mem_map.mp hx;exact nF (dA 29 r)
end
abbrev aE (fr:D)(s:bP)(tm mn:D)(n:Nat)(rh:D)(k:Nat)(x7 x8 x9 x10 x11 x12:Option D):fE:=[Z fr,Z s.d,Z tm,Z mn,Z (R (n+3)),Z rh,Z (I k),x7,x8,x9,x10,x11,x12]
def zY {M0:ay}{st d:D}{P:Pc}{ρ:fE}{i:Nat}(h:ρ[4]?=Z (Z (R (M0.length+3))))(hi:([R M0.length,R (M0.length+1),R (M0.length+2),.lst P.lost,st]:List D)[i]?=Z d):g2 aB (ae 4) (gC (I i)) ρ (aA M0 st P)=O d (aA M0 st P):=
 aT  (by unfold ae;rw[h]) rfl (Cj (x:=.non) JF (gK hi))
section
variable {M0:ay}{st fr tm mn rh:D}{P:Pc}{s:bP}{k:Nat}{x7:Option D}{row x n:Int}{ns:List Int}
theorem Lp {j:Nat}(hj:ns[j]?=Z n){ds0:List D}:∀(os:List Int) (T:List (List bM×D)) (x12:Option D),T.length+os.length<900000->
  ∃y12,cT ⟨ds0,Y⟩ (d7 12) lC (os.map I) (aE fr s tm mn M0.length rh k x7 (Z (I row)) (Z (I x)) (Z (.lst (ns.map I))) (Z (I j)) x12) (aA M0 st {P with tch:=T})=O (.nx (aE fr s tm mn M0.length rh k x7 (Z (I row)) (Z (I x)) (Z (.lst (ns.map I))) (Z (I j)) y12)) (aA M0 st {P with tch:=f6 n os (U [I row,I x]) T})
 | [],T,x12,_=>⟨x12,rfl⟩
 | o::os,T,x12,hl=>by
  rw[length_cons] at hl;obtain⟨r,e⟩:=uo (kvs:=T) (y:=U [I n,I o])  (M:=aA M0 st {P with tch:=T}) MI rfl (by omega);rw[FY] at e;obtain⟨y12,ih⟩:=Lp hj  os (tZ T [UQ n,UQ o] (U [I row,I x])) (Z (I o)) (by
   have:=Cs T [UQ n,UQ o] (U [I row,I x]);omega)
  refine⟨y12,?_⟩;refine(CP  rfl ?_).trans ih;exact b8 (nG (zY rfl rfl) (by rw[MI];rfl) (kj (cx (aT rfl rfl (AZ (by simp_all))) (cx rfl kZ))) (kj (cx rfl (cx rfl kZ))) e)
def Oz {fl:Int}(hn:ns.length<=12)(ht:P.tch.length<=500000)(hg:P.grd.length<=500000)(hf:∀(M:ay) (x8 x10 x11 x12:Option D),g2 aB (g2 aB (ae 5) (gC (I 0))) (ae 9) (aE fr s tm mn M0.length rh k x7 x8 (Z (I x)) x10 x11 x12) M=O (I fl) M)(y11 y12:Option D) :
  ∃z11 z12,cT ⟨aY 0 ns.length,Y⟩ (d7 11) dZ (aY 0 ns.length) (aE fr s tm mn M0.length rh k x7 (Z (I row)) (Z (I x)) (Z (.lst (ns.map I))) y11 y12) (aA M0 st P) =
   O (.nx (aE fr s tm mn M0.length rh k x7 (Z (I row)) (Z (I x)) (Z (.lst (ns.map I))) z11 z12)) (aA M0 st {P with tch:=ck ns (U [I row,I x]) P.tch ns.length,grd:=if fl=0 then P.grd else fO ns (U [I row,I x]) P.grd}):=by
 obtain⟨ρ',N,⟨z11,z12,rfl,rfl⟩,ef⟩:=o5 (ds0:=aY 0 ns.length) (s:=d7 11) (body:=dZ)
  (W:=λj ρ N=>∃z11 z12,ρ=aE fr s tm mn M0.length rh k x7 (Z (I row)) (Z (I x)) (Z (.lst (ns.map I))) z11 z12/\N=aA M0 st {P with tch:=ck ns (U [I row,I x]) P.tch j,grd:=if fl=0 then P.grd else fO (ns.take j) (U [I row,I x]) P.grd})
  (aY 0 ns.length) 0 (λj d hd ρ N hW=>by
   obtain⟨z11,z12,rfl,rfl⟩:=hW;obtain⟨hj,rfl⟩:=tW hd;rw[U2,Y4];have gj:ns[j]?=Z ns[j]:=getElem?_eq_getElem hj;have tl:=nO ns (U [I row,I x]) P.tch j;have b12:j*ns.length<=12*12:=Yk (by omega) hn;have gl:(fO (ns.take j) (U [I row,I x]) P.grd).length<=P.grd.length+12:=by
    unfold fO;have:=kJ (κ:=bM) (λn:Int=>UQ n) (U [I row,I x]) (ns.take j) P.grd;rw[length_take] at this;omega
   obtain⟨w12,ei⟩:=Lp (M0:=M0) (st:=st) (fr:=fr) (tm:=tm) (mn:=mn) (rh:=rh) (P:={P with grd:=if fl=0 then P.grd else fO (ns.take j) (U [I row,I x]) P.grd}) (s:=s) (k:=k) (x7:=x7) (row:=row) gj (ds0:=(ns.drop (j+1)).map I) (ns.drop (j+1)) (ck ns (U [I row,I x]) P.tch j) z12 (by rw[length_drop];omega);have et:ck ns (U [I row,I x]) P.tch (j+1)=f6 ns[j] (ns.drop (j+1)) (U [I row,I x]) (ck ns (U [I row,I x]) P.tch j):=by
    rw[ck,gj]
   have eg:(if fl=0 then P.grd else fO (ns.take (j+1)) (U [I row,I x]) P.grd)=if fl=0 then P.grd else tZ (fO (ns.take j) (U [I row,I x]) P.grd) (UQ ns[j]) (U [I row,I x]):=by
    rw[<-take_append_getElem hj];unfold fO;rw[foldl_append];rfl
   refine⟨_,aE fr s tm mn M0.length rh k x7 (Z (I row)) (Z (I x)) (Z (.lst (ns.map I))) (Z (I j)) w12,_,rfl,?_,_,_,rfl,rfl⟩;rw[et,eg];unfold dZ;have gi:bE (rL (ae 10) (cZ (g2 a8 (ae 11) (gC (I 1)))) bq) (aE fr s tm mn M0.length rh k x7 (Z (I row)) (Z (I x)) (Z (.lst (ns.map I))) (Z (I j)) z12) (aA M0 st {P with tch:=ck ns (U [I row,I x]) P.tch j,grd:=if fl=0 then P.grd else fO (ns.take j) (U [I row,I x]) P.grd})=O ⟨(ns.drop (j+1)).map I,Y⟩ (aA M0 st {P with tch:=ck ns (U [I row,I x]) P.tch j,grd:=if fl=0 then P.grd else fO (ns.take j) (U [I row,I x]) P.grd}):=by
    show bc.ok (rN.mk (g6 (ns.map I) (Z ((j:Int)+1)) Y) Y) _=_;rw[zq hj]
   refine(aU (mP gi ei)).trans ?_;have t:=dC (aT (hf (aA M0 st {P with tch:=f6 ns[j] (ns.drop (j+1)) (U [I row,I x]) (ck ns (U [I row,I x]) P.tch j),grd:=if fl=0 then P.grd else fO (ns.take j) (U [I row,I x]) P.grd}) (Z (I row)) (Z (.lst (ns.map I))) (Z (I j)) w12) (b:=gC (I 0)) (y:=I 0) rfl (z9 fl 0 _))
   by_cases z:fl=0
   ·rw[decide_eq_true z] at t;rw[if_pos z,if_pos z];rw[if_pos z] at t;exact(nQ t).trans rfl
   ·rw[decide_eq_false z] at t;rw[if_neg z,if_neg z];rw[if_neg z] at t;refine(vM t).trans ?_;obtain⟨r,e⟩:=u7 (i:=M0.length+2) (kvs:=fO (ns.take j) (U [I row,I x]) P.grd) (y:=I ns[j]) (z:=U [I row,I x]) (k:=UQ ns[j]) (M:=aA M0 st {P with tch:=f6 ns[j] (ns.drop (j+1)) (U [I row,I x]) (ck ns (U [I row,I x]) P.tch j),grd:=fO (ns.take j) (U [I row,I x]) P.grd}) LJ rfl (by omega);rw[Fw] at e;exact b8 (nG (zY (i:=2) rfl rfl) (by rw[LJ];rfl) (aT rfl rfl (AZ (by rw[getElem?_map,gj];rfl))) (kj (cx rfl (cx rfl kZ))) e)) _ (aA M0 st P) ⟨y11,y12,rfl,by
    have:(if fl=0 then P.grd else fO (ns.take 0) (U [I row,I x]) P.grd)=P.grd:=by
     split <;> rfl
    rw[this];rfl⟩
 refine⟨z11,z12,?_⟩;rw[n5,U2,take_length] at ef;exact ef
end
def FR:GS:=(aj (aL 5 (ah 3 iy (aa (ae 0) (aa (ae 1) (aa (ae 8) ag))))) (aj (bI (gO (g2 aB (ae 4) (gC (I 0))) (fZ ag))) (rA (ae 4) (gC (I 3)) (g2 a8 (g2 aB (ae 4) (gC (I 3))) (a9 (bE (rL (ah 2 d5 (aa (ae 1) (aa (ae 8) ag))) (cZ (g2 aB (ae 0) (gC (I 3)))) bq)) bp ii aO)))))
def Gn:GS:=(aj (bI (gO (g2 aB (g2 aB (ae 4) (gC (I 0))) (tR (gC (I 1)))) (g2 aB (g2 aB (ae 1) (gC (I 4))) (ah 2 gq (aa (ae 5) (aa (ae 9) ag)))))) (aj (aL 10 (a9 (bE (ah 2 eG (aa (ae 5) (aa (ae 9) ag)))) bp fW aO)) (gZ (ft (aa (aJ bU (aa (ae 10) ag)) ag)) (d7 11) dZ)))
def Fd:GS:=aj (aL 8 (g2 hZ (ae 7) (g2 a8 (g2 aB (ae 0) (gC (I 0))) (g2 aB (ae 0) (gC (I 2)))))) (aj (aL 9 (g2 ky (ae 7) (g2 a8 (g2 aB (ae 0) (gC (I 0))) (g2 aB (ae 0) (gC (I 2)))))) (aj (cD (aH (g2 (aR false) (ae 9) (gC (I 0)))) FR aG) (cD (aH (g2 pR (ae 9) (g2 aB (ae 0) (gC (I 0))))) Gn aG)))
theorem Pb:fH=aj (nk 5000 cN fT) Fd:=rfl
theorem TC {α:Type}{f g:α->D}{ge:GE}{ρ:fE}{M:ay}{t:rN}(ht:t.ok M=true):∀l:List α,(∀a,a∈l->ge (Z (f a)::ρ) M=O (g a) M)->cr t bp ge (l.map f) ρ M=O (l.map g) M
 | [],_=>by
  show(if t.ok M=true then bc.ok [] M else .bad)=_;rw[if_pos ht];rfl
 | a::l,h=>by
  rw[map_cons,map_cons,cr,if_pos ht];show(match ge (Z (f a)::ρ) M with | .ok e M2=>(cr t bp ge (l.map f) ρ M2).bind λes M3=>O (e::es) M3|_=>.bad)=_;rw[h a mem_cons_self];dsimp only;rw[TC ht l λb hb=>h b (mem_cons_of_mem _ hb),az]
def tP {α:Type}{f g:α->D}{gi:GI}{ge:GE}{ρ:fE}{M:ay}{m:Option (Nat×List D)}{l:List α}(hi:gi ρ M=O ⟨l.map f,m⟩ M)(h:∀a,a∈l->ge (Z (f a)::ρ) M=O (g a) M)(hl:l.length<=100000)(ht:rN.ok ⟨l.map f,m⟩ M=true:=by rfl):a9 gi bp ge aO ρ M=O (.lst (l.map g)) M:=by
 unfold a9;rw[hi,az,TC ht l h,az];unfold aO;rw[if_pos (b9 (by grind))]
def Sv {a b:List D}{M:ay}(h:a.length+b.length<=1000000):a8 (.lst a) (.lst b) M=O (.lst (a++b)) M:=by
 show(if a.length+b.length<=sizeLine then bc.ok (D.lst (a++b)) M else .bad)=_;rw[if_pos (b9 h)]
def L9 {k i:Nat}{xs:List D}{x:D}{M:ay}(h:M[k]?=Z (.lst xs))(hi:i<xs.length):yj (R k) (I i) x M=O () (M.set k (.lst (xs.set i x))):=by
 have ix:Co xs.length (i)=Z i:=by
  unfold Co
  simp_all
 unfold yj
 simp_all
def GN {k i:Nat}{g:GE}{xs:List D}{x:D}{ρ:fE}{M:ay}(h:M[k]?=Z (.lst xs))(hi:i<xs.length)(hv:ρ[4]?=Z (Z (R k)))(hg:g ρ M=O x M):rA (ae 4) (gC (I i)) g ρ M=O (.nx ρ) (M.set k (.lst (xs.set i x))):=by
 refine Ke hg ?_;rw[show ae 4 ρ M=O (R k) M by unfold ae;rw[hv]];show(yj (R k) (I i) x M).bind _=_;rw[L9 h hi,az]
section
variable {M0:ay}{st tm mn rh:D}{P:Pc}{s:bP}{k:Nat}{x7:Option D}{w h g m mm row x:Int}
def Ob (ok:a7 mm s)(hm:mm<=12)(f:dJ w h g m)(h0:cA M0)(ps:aI 30 st=true)(pp:P.Pure)(hl:P.lost.length<=90000)(hr:P.rows.length<100000)(x9 x10 x11 x12:Option D) :
  FR (aE (aZ w h g m) s tm mn M0.length rh k x7 (Z (I row)) x9 x10 x11 x12) (aA M0 st P)=O (.nx (aE (aZ w h g m) s tm mn M0.length (bC s w m row) k x7 (Z (I row)) x9 x10 x11 x12)) (aA M0 st (vW s m row P)):=by
 have fw:=f.w;unfold FR;rw[aU (dY (CA rfl rfl rfl (zJ (hh:=h) (g:=g) ok (by omega) ⟨fw.1,by omega⟩ (iE h0 ps pp))))];show aj _ _ (aE (aZ w h g m) s tm mn M0.length (bC s w m row) k x7 (Z (I row)) x9 x10 x11 x12) (aA M0 st P)=_;have a:=yh (go:=g2 aB (ae 4) (gC (I 0))) (ge:=fZ ag) (ρ:=aE (aZ w h g m) s tm mn M0.length (bC s w m row) k x7 (Z (I row)) x9 x10 x11 x12) (M:=aA M0 st P) (zY (i:=0) rfl rfl) Ic sZ (by rw[getElem?_append_left (by rw[vc];omega)];exact Ic) (by unfold nV;rw[length_map,length_range];omega);rw[G5] at a;rw[aU (b8 a)];have pp1:Pc.Pure {P with rows:=P.rows++[[]]}:=⟨pp.tch,pp.grd,pp.lost⟩;have ly:=Ah (row:=row) ok (by omega) (iE h0 ps pp1);have gi:bE (rL (ah 2 d5 (aa (ae 1) (aa (ae 8) ag))) (cZ (g2 aB (ae 0) (gC (I 3)))) bq) (aE (aZ w h g m) s tm mn M0.length (bC s w m row) k x7 (Z (I row)) x9 x10 x11 x12) (aA M0 st {P with rows:=P.rows++[[]]})=O ⟨(jS (bz s row) (Z m) Y).map I,Y⟩ (aA M0 st {P with rows:=P.rows++[[]]}):=by
  unfold bE rL;rw[l0 rfl rfl ly,az];show bc.ok (rN.mk (g6 ((bz s row).map I) (Z m) Y) Y) _=_;rw[p6]
 have ll:=UK (qD (bz s row) (Z m) Y) (xl ok hm);have c:=tP (g:=λn=>D.tup [I row,I n]) (ge:=ii) (m:=Y) gi (λn _=>by
  rfl) (by omega)
 have ad:=
  aT (zY (i:=3) rfl rfl) c (Sv (by rw[length_map];show P.lost.length+_<=_;omega))
 refine(GN (i:=3) JF (show 3<5 by decide) rfl ad).trans ?_;show bc.ok _ ((aA M0 st {P with rows:=P.rows++[[]]}).set (M0.length+3) (.lst [R M0.length,R (M0.length+1),R (M0.length+2),.lst (P.lost++iV row (jS (bz s row) (Z m) Y)),st]))=_;rw[yV];rfl
def EI {rs:List (List Int)}{last:List Int}(ok:a7 mm s)(ok0:a7 mm P.s0)(hm:mm<=12)(f:dJ w h g m)(h0:cA M0)(ps:aI 30 st=true)(pp:P.Pure)(hrh:rh=bC P.s0 w m row)(hx:0<=x/\x<w)(hr:P.rows=rs++[last])(hl:last.length<100000)(ht:P.tch.length<=500000)(hg:P.grd.length<=500000)(x10 x11 x12:Option D) :
  ∃y10 y11 y12,Gn (aE (aZ w h g m) s tm mn M0.length rh k x7 (Z (I row)) (Z (I x)) x10 x11 x12) (aA M0 st P)=O (.nx (aE (aZ w h g m) s tm mn M0.length rh k x7 (Z (I row)) (Z (I x)) y10 y11 y12)) (aA M0 st (layP s w m row x P)):=by
 have sl:=xy (m:=m) (row:=row) ok0 hm;have fl0:(sO P.s0 w row).length=w.toNat:=by unfold sO;rw[length_map,length_range]
 obtain⟨xn,rfl⟩:=Us hx.1;have hxl:xn<(sO P.s0 w row).length:=by omega
 have hf:wa ((sO P.s0 w row).map I) (xn:Int)=Z (I ((sO P.s0 w row).getD xn 0)):=gK (by
  rw[getElem?_map,getElem?_eq_getElem hxl,Wd,getElem?_eq_getElem hxl];rfl)
 have erh:rh=U [U ((sO P.s0 w row).map I),U ((bD P.s0 m row).map Sn.d)]:=by rw[hrh,qG]
 obtain⟨ink,sh,el⟩:=DM (x:=(xn:Int)) (fs:=(sO P.s0 w row).map I) (ss:=bD P.s0 m row) (by omega) (iE h0 ps pp) hf;rw[<-erh] at el;have rng:=sh.rng (Ck ok0 _ (by rw[Wd,getElem?_eq_getElem hxl];exact getElem_mem hxl)) (λq hq=>Gy ok0 q (mem_filter.mp hq).1);obtain⟨kn,rfl⟩:=Us rng.1;have hk:kn<s.pots.length:=by rw[ok.pl];omega
 have eh:hueAt s P.s0 w m row xn=s.pots[kn]:=AL sh (getElem?_eq_getElem hk);have er:P.rows.length=rs.length+1:=by rw[hr,length_append];rfl
 have go:g2 aB (g2 aB (ae 4) (gC (I 0))) (tR (gC (I 1))) (aE (aZ w h g m) s tm mn M0.length rh k x7 (Z (I row)) (Z (I xn)) x10 x11 x12) (aA M0 st P)=O (R (M0.length+4+rs.length)) (aA M0 st P):=
  aT (zY (i:=0) rfl rfl) rfl (Cj (x:=.non) Ic (by
   rw[er];unfold nV;rw[range_succ,map_append];exact CW _ _))
 have gr:P.rows[rs.length]?=Z last:=by rw[hr,getElem?_append_right (Uj _),XZ];rfl
 have vl:g2 aB (g2 aB (ae 1) (gC (I 4))) (ah 2 gq (aa (ae 5) (aa (ae 9) ag))) (aE (aZ w h g m) s tm mn M0.length rh k x7 (Z (I row)) (Z (I xn)) x10 x11 x12) (aA M0 st P)=O (I s.pots[kn]) (aA M0 st P):=
  aT (aT rfl rfl (dj (k:=4) rfl)) (l0 rfl rfl el) (dj (by rw[getElem?_map,getElem?_eq_getElem hk];rfl))
 have a:=yh go (Ba gr) vl (Ba gr) (by rw[length_map];omega);have ea:(aA M0 st P).set (M0.length+4+rs.length) (.lst (last.map I++[I s.pots[kn]]))=aA M0 st {P with rows:=rs++[last++[s.pots[kn]]]}:=by
  have e1:last.map I++[I s.pots[kn]]=(last++[s.pots[kn]]).map I:=by rw[map_append];rfl
  rw[e1];refine(HD (r:=last++[s.pots[kn]])).trans ?_;rw[hr,set_append_right _ _ (Uj _),XZ];rfl
 unfold Gn;rw[aU (b8 a),ea];have pp1:Pc.Pure {P with rows:=rs++[last++[s.pots[kn]]]}:=⟨pp.tch,pp.grd,pp.lost⟩;have cv:=uO (fl:=U ((sO P.s0 w row).map I)) (ss:=bD P.s0 m row) (x:=(xn:Int)) (by omega) (iE h0 ps pp1);rw[<-erh] at cv;have cl:=nH (xn:Int) (bD P.s0 m row);have gi:bE (ah 2 eG (aa (ae 5) (aa (ae 9) ag))) (aE (aZ w h g m) s tm mn M0.length rh k x7 (Z (I row)) (Z (I xn)) x10 x11 x12) (aA M0 st {P with rows:=rs++[last++[s.pots[kn]]]})=O ⟨(eN xn (bD P.s0 m row)).map (nY xn),Y⟩ (aA M0 st {P with rows:=rs++[last++[s.pots[kn]]]}):=by
  unfold bE;rw[l0 rfl rfl cv,az];rfl
 have c:=tP (g:=λb=>I b.n) (ge:=fW) (m:=Y) gi (λb _=>by
  unfold fW;refine aT (x:=I 0) rfl (aT (x:=nY xn b) rfl rfl (dj (k:=1) rfl)) ?_;show bc.ok (I (0-(0-b.n))) _=_;rw[show 0-(0-b.n)=b.n by omega]) (by omega)
 rw[aU (dY c)];generalize hns:(eN (xn:Int) (bD P.s0 m row)).map Sn.n=ns;have en:(eN (xn:Int) (bD P.s0 m row)).map (λb=>I b.n)=ns.map I:=by rw[<-hns,map_map];rfl
 have nl:ns.length<=12:=by rw[<-hns,length_map];omega
 rw[en];show∃y10 y11 y12,gZ _ _ _ (aE (aZ w h g m) s tm mn M0.length rh k x7 (Z (I row)) (Z (I xn)) (Z (.lst (ns.map I))) x11 x12) _=_;obtain⟨z11,z12,e⟩:=Oz (M0:=M0) (st:=st) (fr:=aZ w h g m) (tm:=tm) (mn:=mn) (rh:=rh) (P:={P with rows:=rs++[last++[s.pots[kn]]]}) (s:=s) (k:=k) (x7:=x7) (row:=row) (x:=(xn:Int)) (fl:=(sO P.s0 w row).getD xn 0) nl ht hg (λM x8 x10 x11 x12=>by
  refine aT (x:=U ((sO P.s0 w row).map I)) (aT (x:=rh) rfl rfl (by rw[erh];exact dj (k:=0) rfl)) rfl ?_;unfold aB ba;dsimp only;rw[hf]) x11 x12
 refine⟨Z (.lst (ns.map I)),z11,z12,(mP (Ce (n:=ns.length) (cx (sP (F:=bU) rfl (by
  show bc.ok (I ((ns.map I).length:Int)) _=_;rw[length_map])) kZ) (by omega)) e).trans ?_⟩
 congr 1;unfold layP;rw[eh,hns,hr,dropLast_concat,getLastD_concat];rfl
end
def DP {w g m T t:Int}{p:Int×Dd}{td:List (Int×Dd)}{s:bP}(h:p.1=t)(P:Pc):planP w g m T (p::td) s t P=planP w g m T td (cg s p.2) t P:=by
 rw[planP,h,ab2];rfl
def Dh {w g m T t:Int}{td:List (Int×Dd)}{s:bP}(h:∀p,p∈td->t<p.1)(hT:t<T)(P:Pc):planP w g m T td s t P=planP w g m T td s (t+1) (tickP w g m s t P):=by
 cases td with
 | nil=>
  rw[planP,show(T-t).toNat=(T-(t+1)).toNat+1 by omega];rfl
 | cons p td=>
  have:=h p mem_cons_self;rw[planP,show(p.1-t).toNat=(p.1-(t+1)).toNat+1 by omega];rfl
def Dr {d:D}{xs:List D}{M:ay}(h:ba d M=Z xs):bU [d] M=O (I xs.length) M:=by
 cases d with
 | str x=>cases h
 | _=>
  unfold bU
  simp_all
def FL {d e:D}{xs:List D}{k:Nat}{M:ay}(h:ba d M=Z xs)(hk:xs[k]?=Z e):aB d (I k) M=O e M:=by
 unfold aB;rw[h];dsimp only;rw[gK hk]
section
variable {w h g m mm t T:Int}{td:List (Int×Dd)}{M:ay}{fr tm mn rh:D}{n0:Nat}{x8 x9 x10 x11 x12:Option D}
theorem C0 (hm:mm<=12)(hM:cA M)(htm:ba tm M=Z (kO td))(ord:(td.map (·.1)).Pairwise (·<=·)):∀(n fuel k:Nat) (s:bP),td.length-k=n->n<fuel->a7 mm s->(∀p,p∈td->jP s p.2)->(∀p,p∈td.drop k->t<=p.1)->
  ∃(k':Nat) (s':bP),cJ cN fT fuel (aE fr s tm mn n0 rh k (Z (I t)) x8 x9 x10 x11 x12) M=O (.nx (aE fr s' tm mn n0 rh k' (Z (I t)) x8 x9 x10 x11 x12)) M/\a7 mm s'/\(∀p,p∈td->jP s' p.2)/\(∀p,p∈td.drop k'->t<p.1)/\(∀P,planP w g m T (td.drop k) s t P=planP w g m T (td.drop k') s' t P)/\sY (td.drop k) s=sY (td.drop k') s'/\∀B P,mq w g m mm s t B->yw w g m mm t P B->∃B',mq w g m mm s' t B'/\yw w g m mm t P B'
 | n,0,k,s,_,hf,_,_,_=>by omega
 | n,fuel+1,k,s,hn,hf,ok,dd,hr=>by
  have ln:aJ bU (aa (ae 2) ag) (aE fr s tm mn n0 rh k (Z (I t)) x8 x9 x10 x11 x12) M=O (I td.length) M:=by
   refine sP rfl ((Dr htm).trans ?_);unfold kO;rw[length_map]
  by_cases hk:k<td.length
  ·have gk:td[k]?=Z td[k]:=getElem?_eq_getElem hk;have gd:(kO td)[k]?=Z (U [I td[k].1,td[k].2.d]):=by unfold kO;rw[getElem?_map,gk];rfl
   have ed:td.drop k=td[k]::td.drop (k+1):=drop_eq_getElem_cons hk;have i1:g2 aB (ae 2) (ae 6) (aE fr s tm mn n0 rh k (Z (I t)) x8 x9 x10 x11 x12) M=O (U [I td[k].1,td[k].2.d]) M:=aT rfl rfl (FL htm gd);have t1:cN (aE fr s tm mn n0 rh k (Z (I t)) x8 x9 x10 x11 x12) M=O (decide (td[k].1=t)) M:=by
    unfold cN;refine(xN (x:=true) (dC (aT rfl ln ?_)) λ_=>dC (aT (aT i1 rfl (dj rfl)) rfl (ug td[k].1 t M))).trans ?_
    ·show bc.ok (D.bl (decide ((k:Int)<(td.length:Int)))) M=_;rw[decide_eq_true (by omega)]
    ·rw[abH]
   by_cases e:td[k].1=t
   ·rw[decide_eq_true e] at t1;have dk:=dd td[k] (getElem_mem hk);obtain⟨k',s',e',ok',dd',hr',pl',en',inv'⟩:=C0 hm hM htm ord (n-1) fuel (k+1) (cg s td[k].2) (by omega) (by omega) (p7 ok dk) (λp hp=>wH (dd p hp)) (λp hp=>hr p (by rw[ed];exact mem_cons_of_mem _ hp));refine⟨k',s',(zM t1 ?_).trans e',ok',dd',hr',λP=>by rw[ed,DP e,pl'],by rw[ed];exact en',λB P iv pn=>inv' _ _ (yr iv) (Ab pn)⟩;unfold fT;rw[aU (dY (l0 rfl (aT i1 rfl (dj rfl)) (AV ok (by omega) dk hM)))];exact dY rfl
   ·rw[decide_eq_false e] at t1;refine⟨k,s,oK t1,ok,dd,λp hp=>?_,λ_=>rfl,rfl,λB P iv pn=>⟨B,iv,pn⟩⟩;have h1:=hr td[k] (by rw[ed];exact mem_cons_self);rw[ed] at hp;rcases mem_cons.mp hp with q|q
    ·rw[q];omega
    ·have so:(td.drop k).map (·.1)=(td.map (·.1)).drop k:=map_drop ..;have pw:((td.drop k).map (·.1)).Pairwise (·<=·):=by rw[so];exact ord.sublist (drop_sublist _ _)
     rw[ed,map_cons,pairwise_cons] at pw;have:=pw.1 p.1 (mem_map.mpr ⟨p,q,rfl⟩);omega
  ·have t1:cN (aE fr s tm mn n0 rh k (Z (I t)) x8 x9 x10 x11 x12) M=O false M:=by
    unfold cN;refine IS (dC (aT rfl ln ?_));show bc.ok (D.bl (decide ((k:Int)<(td.length:Int)))) M=_;rw[decide_eq_false (by omega)]
   refine⟨k,s,oK t1,ok,dd,λp hp=>?_,λ_=>rfl,rfl,λB P iv pn=>⟨B,iv,pn⟩⟩;rw[drop_eq_nil_of_le (by omega)] at hp;cases hp
end
section
variable {M0:ay}{st tm mn rh:D}{P:Pc}{s:bP}{k:Nat}{w h g m mm t:Int}{B:Bs}
def xm (iv:mq w g m mm s t B)(pn:yw w g m mm t P B)(hl:∀p,p∈P.lost->aI 28 p=true):P.Pure:=⟨by rw[<-pn.tch];exact iv.p.tch,by rw[<-pn.grd];exact iv.p.grd,hl⟩
def IW (row:Int)(ns:List Int):∀p,p∈iV row ns->aI 28 p=true:=λp hp=>by
 obtain⟨n,_,rfl⟩:=mem_map.mp hp;rfl
def L5 (ok:a7 mm s)(hm:mm<=12)(f:dJ w h g m)(h0:cA M0)(ps:aI 30 st=true)(t0:0<=t)(t1:t<h*(w+g))(iv:mq w g m mm s t B)(pn:yw w g m mm t P B)(hl:∀p,p∈P.lost->aI 28 p=true)(hrh:0<t % (w+g)->t % (w+g)<w->rh=bC P.s0 w m (t / (w+g)))(x8 x9 x10 x11 x12:Option D) :
  ∃rh' y8 y9 y10 y11 y12,Fd (aE (aZ w h g m) s tm mn M0.length rh k (Z (I t)) x8 x9 x10 x11 x12) (aA M0 st P)=O (.nx (aE (aZ w h g m) s tm mn M0.length rh' k (Z (I t)) y8 y9 y10 y11 y12)) (aA M0 st (tickP w g m s t P))/\(∀p,p∈(tickP w g m s t P).lost->aI 28 p=true)/\(0<(t+1) % (w+g)->(t+1) % (w+g)<w->rh'=bC (tickP w g m s t P).s0 w m ((t+1) / (w+g))):=by
 have fw:=f.w;have fg:=f.g;have fh:=f.h;have hp:0<w+g:=by omega
 have tt:t<=2400:=by
  have:h*(w+g)<=40*60:=Yl (by omega) (by omega) (by omega) (by omega);omega
 have b1:=iv.tch;have b2:=iv.grd;have b3:=iv.lost;have b4:=iv.rl;have b5:=iv.rr;rw[pn.tch] at b1;rw[pn.grd] at b2;rw[pn.lost] at b3;rw[pn.rows] at b4 b5;have pp:=xm iv pn hl;have x0:=Vz t (Y5 hp);have sum:∀(x8 x9:Option D) (M:ay),g2 a8 (g2 aB (ae 0) (gC (I 0))) (g2 aB (ae 0) (gC (I 2))) (aE (aZ w h g m) s tm mn M0.length rh k (Z (I t)) x8 x9 x10 x11 x12) M=O (I (w+g)) M:=λ_ _ M=>aT (aT rfl rfl (dj (k:=0) rfl)) (aT rfl rfl (dj (k:=2) rfl)) rfl
 unfold Fd;rw[aU (dY (aT rfl (sum _ _ _) (Ka hp (by omega) _)))];show∃rh' y8 y9 y10 y11 y12,aj _ _ (aE (aZ w h g m) s tm mn M0.length rh k (Z (I t)) (Z (I (t / (w+g)))) x9 x10 x11 x12) _=_/\_;rw[aU (dY (aT rfl (sum _ _ _) (JN hp _)))];show∃rh' y8 y9 y10 y11 y12,aj _ _ (aE (aZ w h g m) s tm mn M0.length rh k (Z (I t)) (Z (I (t / (w+g)))) (Z (I (t % (w+g)))) x10 x11 x12) _=_/\_;have tz:∀(rh:D) (M:ay),aH (g2 (aR false) (ae 9) (gC (I 0))) (aE (aZ w h g m) s tm mn M0.length rh k (Z (I t)) (Z (I (t / (w+g)))) (Z (I (t % (w+g)))) x10 x11 x12) M=O (decide (t % (w+g)=0)) M:=λrh M=>dC (aT rfl rfl (ug _ 0 M))
 have tw:∀(rh:D) (M:ay),aH (g2 pR (ae 9) (g2 aB (ae 0) (gC (I 0)))) (aE (aZ w h g m) s tm mn M0.length rh k (Z (I t)) (Z (I (t / (w+g)))) (Z (I (t % (w+g)))) x10 x11 x12) M=O (decide (t % (w+g)<w)) M:=λrh M=>dC (aT rfl (aT rfl rfl (dj (k:=0) rfl)) rfl)
 have nx:(t+1) % (w+g)≠0->(t+1) / (w+g)=t / (w+g)/\(t+1) % (w+g)=t % (w+g)+1:=λq=>(mD (t:=t) hp).resolve_right q
 by_cases hz:t % (w+g)<w
 ·by_cases hx:t % (w+g)=0
  ·have tk:=Ob (M0:=M0) (st:=st) (tm:=tm) (mn:=mn) (rh:=rh) (P:=P) (s:=s) (k:=k) (x7:=Z (I t)) (row:=t / (w+g)) ok hm f h0 ps pp (by omega) (by omega) (Z (I (t % (w+g)))) x10 x11 x12;have pp1:Pc.Pure (vW s m (t / (w+g)) P):=⟨pp.tch,pp.grd,λp hp'=>(mem_append.mp hp').elim (hl p) (IW _ _ p)⟩;obtain⟨y10,y11,y12,sp⟩:=EI (M0:=M0) (st:=st) (tm:=tm) (mn:=mn) (rh:=bC s w m (t / (w+g))) (P:=vW s m (t / (w+g)) P) (s:=s) (k:=k) (x7:=Z (I t)) (row:=t / (w+g)) (rs:=P.rows) (last:=[]) ok ok hm f h0 ps pp1 rfl ⟨x0,hz⟩ rfl (by decide) (show P.tch.length<=_ by omega) (show P.grd.length<=_ by omega) x10 x11 x12;refine⟨bC s w m (t / (w+g)),Z (I (t / (w+g))),Z (I (t % (w+g))),y10,y11,y12,?_,?_,?_⟩
   ·rw[aU ((vM ((tz rh _).trans (by rw[decide_eq_true hx]))).trans tk)];refine(vM ((tw _ _).trans (by rw[decide_eq_true hz]))).trans (sp.trans ?_);unfold tickP;rw[if_pos hz,if_pos hx]
   ·unfold tickP;rw[if_pos hz,if_pos hx];exact pp1.lost
   ·intro q _;obtain⟨n1,_⟩:=nx (by omega);unfold tickP;rw[if_pos hz,if_pos hx,n1];rfl
  ·obtain⟨ok0,jk,jn⟩:=pn.row (by omega) hz;obtain⟨rs,last,jr⟩:∃rs last,P.rows=rs++[last]:=⟨P.rows.dropLast,P.rows.getLast jn,(dropLast_concat_getLast jn).symm⟩;have ll:=b5 last (by rw[jr];simp);obtain⟨y10,y11,y12,sp⟩:=EI (M0:=M0) (st:=st) (tm:=tm) (mn:=mn) (rh:=rh) (P:=P) (s:=s) (k:=k) (x7:=Z (I t)) (row:=t / (w+g)) ok ok0 hm f h0 ps pp (hrh (by omega) hz) ⟨x0,hz⟩ jr (by omega) (by omega) (by omega) x10 x11 x12;refine⟨rh,Z (I (t / (w+g))),Z (I (t % (w+g))),y10,y11,y12,?_,?_,?_⟩
   ·rw[aU ((nQ ((tz rh _).trans (by rw[decide_eq_false hx]))).trans rfl)];refine(vM ((tw _ _).trans (by rw[decide_eq_true hz]))).trans (sp.trans ?_);unfold tickP;rw[if_pos hz,if_neg hx]
   ·unfold tickP;rw[if_pos hz,if_neg hx];exact hl
   ·intro q _;obtain⟨n1,_⟩:=nx (by omega);unfold tickP;rw[if_pos hz,if_neg hx,n1];exact hrh (by omega) hz
 ·refine⟨rh,Z (I (t / (w+g))),Z (I (t % (w+g))),x10,x11,x12,?_,?_,?_⟩
  ·rw[aU ((nQ ((tz rh _).trans (by rw[decide_eq_false (by omega)]))).trans rfl)];refine(nQ ((tw _ _).trans (by rw[decide_eq_false hz]))).trans ?_;unfold tickP;rw[if_neg hz];rfl
  ·unfold tickP;rw[if_neg hz];exact hl
  ·intro q q2;obtain⟨_,n2⟩:=nx (by omega);omega
end
def LO {ga:GA}{ρ:fE}{M M1:ay}{ds:List D}(h:ga ρ M=O ds M1)(hl:ds.length<=100000:=by exact V3 rfl):fZ ga ρ M=O (R M1.length) (M1++[.lst ds]):=by
 unfold fZ;rw[h,az];unfold eU;rw[if_pos (b9 (by omega))]
def Ik (s:bP):Pc:=⟨s,[],[],[],[]⟩
def Qo {w h g m t:Int}(f:dJ w h g m)(h1:t<h*(w+g)):t<=3000:=by
 have fw:=f.w;have fg:=f.g;have fh:=f.h;have hb:h*(w+g)<=40*60:=Yl (by omega) (by omega) (by omega) (by simp);omega
inductive LW (w h g m mm:Int) (s:bP) (td:List (Int×Dd)) (M0:ay) (tm:D) (Gp:Pc) (j:Nat):fE->ay->Prop
 | mk {k:Nat} {s':bP} {P:Pc} {rh:D} {x7 x8 x9 x10 x11 x12:Option D} {B:Bs} (ok:a7 mm s') (dd:∀q,q∈td->jP s' q.2) (hr:∀q,q∈td.drop k->(j:Int)<=q.1) (pl:planP w g m (h*(w+g)) (td.drop k) s' j P=Gp) (en:sY (td.drop k) s'=sY td s) (iv:mq w g m mm s' j B) (pn:yw w g m mm j P B) (hl:∀q,q∈P.lost->aI 28 q=true) (hrh:0<(j:Int) % (w+g)->(j:Int) % (w+g)<w->rh=bC P.s0 w m ((j:Int) / (w+g))) :
  LW w h g m mm s td M0 tm Gp j (aE (aZ w h g m) s' tm (I (h*(w+g))) M0.length rh k x7 x8 x9 x10 x11 x12) (aA M0 s.d P)
def En {w h g m mm:Int}{s:bP}{td:List (Int×Dd)}{M0:ay}{tm:D}{Gp:Pc}{j:Nat}{ρ:fE}{M:ay}(hm:mm<=12)(f:dJ w h g m)(p:oo (h*(w+g)) s td)(hM:cA M0)(htm:∀E,ba tm (M0++E)=Z (kO td))(jT:(j:Int)<h*(w+g))(hW:LW w h g m mm s td M0 tm Gp j ρ M) :
  ∃ρ1 ρ2 M2,d7 7 (I (0+j)) ρ=Z ρ1/\fH ρ1 M=O (.nx ρ2) M2/\LW w h g m mm s td M0 tm Gp (j+1) ρ2 M2:=by
 cases hW with
 | @mk k s1 P rh x7 x8 x9 x10 x11 x12 B ok1 dd1 hr1 pl1 en1 iv pn hl hrh=>
 obtain⟨k',s2,e2,ok2,dd2,hr2,pl2,en2,inv2⟩:=C0 (w:=w) (g:=g) (m:=m)     (rh:=rh) (n0:=M0.length) (x8:=x8) (x9:=x9) (x10:=x10) (x11:=x11) (x12:=x12) hm (iE (M0:=M0) (st:=s.d) hM (iT s) (xm iv pn hl)) (htm _) p.ord (td.length-k) 5000 k s1 rfl (VH (Nat.sub_le ..) (VH p.len (by decide))) ok1 dd1 hr1;obtain⟨B2,iv2,pn2⟩:=inv2 B P iv pn;obtain⟨rh',y8,y9,y10,y11,y12,e3,hl3,hrh3⟩:=L5 (M0:=M0) (st:=s.d) (tm:=tm)  (k:=k') ok2 hm f hM (iT s) (Ym j) jT iv2 pn2 hl hrh x8 x9 x10 x11 x12;obtain⟨B3,iv3,pn3,_⟩:=zl ok2 hm f (Ym j) jT (Qo f jT) iv2 pn2;refine⟨aE (aZ w h g m) s1 tm (I (h*(w+g))) M0.length rh k (Z (I j)) x8 x9 x10 x11 x12,aE (aZ w h g m) s2 tm (I (h*(w+g))) M0.length rh' k' (Z (I j)) y8 y9 y10 y11 y12,aA M0 s.d (tickP w g m s2 j P),by rw[Y4];rfl,?_,.mk ok2 dd2 (λq hq=>hr2 q hq) ?_ (en2.symm.trans en1) iv3 pn3 hl3 hrh3⟩
 ·rw[Pb];exact(aU e2).trans e3
 ·rw[<-pl1,pl2];exact(Dh hr2 jT P).symm
def AM {w h g m mm:Int}{s:bP}{td:List (Int×Dd)}{M0:ay}{tm:D}(hm:mm<=12)(f:dJ w h g m)(ok:a7 mm s)(p:oo (h*(w+g)) s td)(hM:cA M0)(htm:∀E,ba tm (M0++E)=Z (kO td)) :
  m9 [aZ w h g m,s.d,tm,I (h*(w+g))] M0=O (R (M0.length+3)) (aA M0 (sY td s).d (planP w g m (h*(w+g)) td s 0 (Ik s)))/\cA (aA M0 (sY td s).d (planP w g m (h*(w+g)) td s 0 (Ik s))):=by
 have fw:=f.w;have fg:=f.g;have fh:=f.h;have hp0:0<=h*(w+g):=abB (by omega) (by omega);have hb:h*(w+g)<=40*60:=Yl (by omega) (by omega) (by omega) (by omega);clear fw fg fh;generalize hT:planP w g m (h*(w+g)) td s 0 (Ik s)=Gp;obtain⟨N,hN⟩:=Us hp0;obtain⟨ρ',M',hW,ef⟩:=o5 (ds0:=aY 0 N) (s:=d7 7) (body:=fH) (W:=LW w h g m mm s td M0 tm Gp)
  (aY 0 N) 0 (λj d hd ρ M hW=>by
   obtain⟨hj,rfl⟩:=tW hd;rw[U2] at *;exact En hm f p hM htm (by omega) hW) (aE (aZ w h g m) s tm (I (h*(w+g))) M0.length .non 0 Y Y Y Y Y Y) (aA M0 s.d (Ik s)) (.mk ok p.dd (λq hq=>(p.rng q (mem_of_mem_drop hq)).1) hT rfl (Pd (iT s)) ⟨rfl,rfl,rfl,rfl,λq=>absurd q (by simp)⟩ (λq hq=>(by cases hq)) λq=>absurd q (by simp))
 rw[n5,U2] at hW;cases hW with
 | @mk k s' P rh x7 x8 x9 x10 x11 x12 B' ok' dd' hr' pl' en' iv' pn' hl' _=>
 have dn:td.drop k=[]:=by
  cases hd:td.drop k with
  | nil=>rfl
  | cons q l=>
   have m1:q∈td.drop k:=by rw[hd];exact mem_cons_self
   have a:=hr' q m1;have b:=(p.rng q (mem_of_mem_drop m1)).2;omega
 rw[dn] at en';have en':s'=sY td s:=en';subst en';rw[dn,planP,hN,ab2] at pl';have eP:P=Gp:=pl';subst eP;have lp:=xm iv' pn' hl';refine⟨?_,iE hM (iT _) lp⟩;rw[hN];show bL (js [Z (aZ w h g m),Z s.d,Z tm,Z (I N),Y,Y,Y,Y,Y,Y,Y,Y,Y] M0)=_;unfold js;have mk:fZ (aa (fZ ag) (aa wF (aa wv (aa (jf ag) (aa (ae 1) ag))))) [Z (aZ w h g m),Z s.d,Z tm,Z (I N),Y,Y,Y,Y,Y,Y,Y,Y,Y] M0=O (R (M0.length+3)) (aA M0 s.d (Ik s)):=by
  have i0:=xV (M0:=M0) (L:=[]) (ρ:=[Z (aZ w h g m),Z s.d,Z tm,Z (I N),Y,Y,Y,Y,Y,Y,Y,Y,Y]);have i1:=K0 (M0:=M0) (L:=[.lst []]) (ρ:=[Z (aZ w h g m),Z s.d,Z tm,Z (I N),Y,Y,Y,Y,Y,Y,Y,Y,Y]);have i2:=K1 (M0:=M0) (L:=[.lst [],.dT []]) (ρ:=[Z (aZ w h g m),Z s.d,Z tm,Z (I N),Y,Y,Y,Y,Y,Y,Y,Y,Y]);rw[append_nil] at i0;have a:=cx i0 (cx i1 (cx i2 (cx (Ny kZ) (cx (g:=ae 1) rfl kZ))));refine(LO a).trans ?_;rw[append_assoc,length_append];rfl
 rw[aU (dY mk),aU (dY rfl),aU (dY rfl)];rw[hN] at ef;refine(congrArg bL ((aU (mP (Ce (n:=N) (cx (g:=ae 3) rfl kZ) (by omega)) ef)).trans ((aU (GN (i:=4) JF (show 4<5 by decide) rfl (g:=ae 1) rfl)).trans (fX (g:=ae 4) rfl)))).trans ?_;show bc.ok (D.mr (M0.length+3)) ((aA M0 s.d P).set (M0.length+3) (.lst [R M0.length,R (M0.length+1),R (M0.length+2),.lst P.lost,(sY td s).d]))=_;rw[yV]
def kT (p:List Int×List Int):List bM×D:=(p.1.map UQ,bH p.2)
def kG (p:Int×List Int):bM×D:=(UQ p.1,bH p.2)
def vg (mm:Nat)(a:Int):Prop:=0<=a/\a<mm
structure bW (mm:Nat)(P:Pc):Prop where
 tch:∀p,p∈P.tch->∃a b r x:Int,p=kT ([a,b],[r,x])/\vg mm a/\vg mm b
 tn:(P.tch.map (·.1)).Nodup
 grd:∀p,p∈P.grd->∃a r x:Int,p=kG (a,[r,x])/\vg mm a
 gn:(P.grd.map (·.1)).Nodup
 s0:P.s0.movers.length<=mm
 lo:∀p,p∈P.lost->∃a b:Int,p=U [I a,I b]
def Cv {κ:Type}[DecidableEq κ]{R:κ×D->Prop}{acc:List (κ×D)}{k:κ}{z:D}(h:∀p,p∈acc->R p)(hk:R (k,z)):∀p,p∈tZ acc k z->R p:=by
 unfold tZ;split
 ·omega
 ·intro p hp;rcases mem_append.mp hp with q|q
  ·exact h p q
  ·rwa [mem_singleton.mp q]
def Fm {κ:Type}[DecidableEq κ]{acc:List (κ×D)}{k:κ}{z:D}(h:(acc.map (·.1)).Nodup):((tZ acc k z).map (·.1)).Nodup:=by
 unfold tZ;split
 ·omega
 ·rename_i q;rw[map_append,nodup_append];refine⟨h,by simp,λa ha b hb=>?_⟩;obtain⟨p,hp,rfl⟩:=mem_map.mp ha;rw[mem_singleton.mp (hb)];intro e;unfold fY at q;rw[Option.map_eq_none_iff,find?_eq_none] at q;exact q p hp (decide_eq_true e)
theorem Cd {mm:Nat}{r x:Int}:∀(ns:List Int) (g:List (bM×D)),(∀n,n∈ns->vg mm n)->(∀p,p∈g->∃a r x:Int,p=kG (a,[r,x])/\vg mm a)->(g.map (·.1)).Nodup->
  (∀p,p∈fO ns (U [I r,I x]) g->∃a r x:Int,p=kG (a,[r,x])/\vg mm a)/\((fO ns (U [I r,I x]) g).map (·.1)).Nodup
 | [],g,_,h1,h2=>⟨h1,h2⟩
 | n::ns,g,hn,h1,h2=>Cd ns (tZ g (UQ n) (U [I r,I x])) (λm hm=>hn m (mem_cons_of_mem _ hm)) (Cv h1 ⟨n,r,x,rfl,hn n mem_cons_self⟩) (Fm h2)
theorem Ao {mm:Nat}{n r x:Int}(hk:vg mm n):∀(os:List Int) (g:List (List bM×D)),(∀o,o∈os->vg mm o)->(∀p,p∈g->∃a b r x:Int,p=kT ([a,b],[r,x])/\vg mm a/\vg mm b)->(g.map (·.1)).Nodup->
  (∀p,p∈f6 n os (U [I r,I x]) g->∃a b r x:Int,p=kT ([a,b],[r,x])/\vg mm a/\vg mm b)/\((f6 n os (U [I r,I x]) g).map (·.1)).Nodup
 | [],g,_,h1,h2=>⟨h1,h2⟩
 | o::os,g,hn,h1,h2=>Ao hk os (tZ g [UQ n,UQ o] (U [I r,I x])) (λm hm=>hn m (mem_cons_of_mem _ hm)) (Cv h1 ⟨n,o,r,x,rfl,hk,hn o mem_cons_self⟩) (Fm h2)
theorem za {mm:Nat}{r x:Int}{ns:List Int}{t0:List (List bM×D)}(hn:∀n,n∈ns->vg mm n)(h1:∀p,p∈t0->∃a b r x:Int,p=kT ([a,b],[r,x])/\vg mm a/\vg mm b)(h2:(t0.map (·.1)).Nodup):∀j,
  (∀p,p∈ck ns (U [I r,I x]) t0 j->∃a b r x:Int,p=kT ([a,b],[r,x])/\vg mm a/\vg mm b)/\((ck ns (U [I r,I x]) t0 j).map (·.1)).Nodup
 | 0=>⟨h1,h2⟩
 | j+1=>by
  obtain⟨i1,i2⟩:=za hn h1 h2 j;unfold ck;cases q:ns[j]? with
  | none=>exact⟨i1,i2⟩
  | some n=>exact Ao (hn n (mem_of_getElem? q)) _ _ (λo ho=>hn o (mem_of_mem_drop ho)) i1 i2
def NX {mm:Nat}{s:bP}{m row x:Int}(hs:s.movers.length<=mm):∀n,n∈(eN x (bD s m row)).map Sn.n->vg mm n:=λn hn=>by
 obtain⟨b,hb,rfl⟩:=mem_map.mp hn;obtain⟨k,hk,rfl⟩:=mem_map.mp (mem_filter.mp hb).1;obtain⟨i,rfl,hi,q,gm,_⟩:=ni (zE hk);have e:(sJ s row (i)).n=i:=by
  unfold sJ
  simp_all
 rw[e];exact⟨Ym i,by grind⟩
def bW.take {mm:Nat}{s:bP}{m row:Int}{P:Pc}(k:bW mm P)(hs:s.movers.length<=mm):bW mm (vW s m row P):=⟨k.tch,k.tn,k.grd,k.gn,hs,λp hp=>by
 rcases mem_append.mp hp with q|q
 ·exact k.lo p q
 ·obtain⟨n,_,rfl⟩:=mem_map.mp q;exact⟨_,_,rfl⟩⟩
def bW.lay {mm:Nat}{s:bP}{w m row x:Int}{P:Pc}(k:bW mm P):bW mm (layP s w m row x P):=by
 have sn:=NX (m:=m) (row:=row) (x:=x) k.s0;obtain⟨a1,a2⟩:=za  (x:=x) sn k.tch k.tn ((eN x (bD P.s0 m row)).map Sn.n).length;obtain⟨b1,b2⟩:=Cd   ((eN x (bD P.s0 m row)).map Sn.n) P.grd sn k.grd k.gn;refine⟨a1,a2,?_,?_,k.s0,k.lo⟩
 ·show∀p,p∈(if(sO P.s0 w row).getD x.toNat 0=0 then P.grd else _)->_;split
  ·exact k.grd
  ·exact b1
 ·show((if(sO P.s0 w row).getD x.toNat 0=0 then P.grd else _).map (·.1)).Nodup;split
  ·exact k.gn
  ·exact b2
def bW.tick {mm:Nat}{s:bP}{w g m t:Int}{P:Pc}(k:bW mm P)(hs:s.movers.length<=mm):bW mm (tickP w g m s t P):=by
 unfold tickP;split
 ·split
  ·exact(k.take hs).lay
  ·exact k.lay
 omega
theorem bW.go {mm:Nat}{s:bP}{w g m:Int}(hs:s.movers.length<=mm):∀(n:Nat) (t:Int) (P:Pc),bW mm P->bW mm (goP w g m s n t P)
 | 0,_,_,k=>k
 | n+1,t,P,k=>bW.go hs n (t+1) _ (k.tick hs)
theorem bW.plan {mm:Nat}{w g m T:Int}:∀(td:List (Int×Dd)) (s:bP) (t:Int) (P:Pc),s.movers.length<=mm->bW mm P->bW mm (planP w g m T td s t P)
 | [],s,t,P,hs,k=>bW.go hs _ _ _ k
 | p::td,s,t,P,hs,k=>bW.plan td (cg s p.2) p.1 _ (by rwa [(ue s p.2).1]) (bW.go hs _ _ _ k)
def bW.nil {mm:Nat}{s:bP}(hs:s.movers.length<=mm):bW mm (Ik s):=⟨λ_ h=>(by cases h),.nil,λ_ h=>(by cases h),.nil,hs,λ_ h=>(by cases h)⟩
theorem A1 {α:Type}:∀{l k:List α},l.Nodup->(∀x,x∈l->x∈k)->l.length<=k.length
 | [],k,_,_=>UW _
 | a::l,k,h,hs=>by
  obtain⟨h1,h2⟩:=nodup_cons.mp h;obtain⟨k1,k2,rfl⟩:=append_of_mem (hs a mem_cons_self);have:=A1 (k:=k1++k2) h2 λx hx=>by
   grind
  grind
theorem lE {α β:Type}{f:α->β}:∀{l:List α},(l.map f).Nodup->l.Nodup
 | [],_=>.nil
 | a::l,h=>by
  rw[map_cons,nodup_cons] at h;exact nodup_cons.mpr ⟨λq=>h.1 (mem_map.mpr ⟨a,q,rfl⟩),lE h.2⟩
theorem oH {α β:Type}{f:α->β}{R:α->Prop}:∀{l:List β},(∀p,p∈l->∃a,p=f a/\R a)->∃T:List α,l=T.map f/\∀a,a∈T->R a
 | [],_=>⟨[],rfl,λ_ h=>by grind⟩
 | p::l,h=>by
  obtain⟨a,rfl,r⟩:=h p mem_cons_self;obtain⟨T,rfl,q⟩:=oH  λx hx=>h x (mem_cons_of_mem _ hx)
  exact⟨a::T,rfl,λb hb=>by
   rcases mem_cons.mp hb with e|e
   ·rwa [e]
   ·exact q b e⟩
def sA (mm:Nat):List Int:=(UH mm).map Int.ofNat
def rE {mm:Nat}{a:Int}(h:vg mm a):a∈sA mm:=by
 obtain⟨n,rfl⟩:=Us h.1;exact mem_map.mpr ⟨n,mem_range.mpr (by have:=h.2;omega),rfl⟩
structure SR (P:Pc)(T:List (List Int×List Int)):Prop where
 e:P.tch=T.map kT
 two:∀p,p∈T->p.1.length=2/\p.2.length=2
 nd:(T.map (·.1)).Nodup
 few:T.length<64
structure R8 (P:Pc)(G:List (Int×List Int)):Prop where
 e:P.grd=G.map kG
 two:∀p,p∈G->p.2.length=2
 nd:(G.map (·.1)).Nodup
 few:G.length<64
def bW.lists {mm:Nat}{P:Pc}(k:bW mm P)(hm:mm<=5):(∃T,SR P T)/\∃G,R8 P G:=by
 constructor
 ·obtain⟨T,e,q⟩:=oH (R:=λp=>∃a b r x:Int,p=([a,b],[r,x])/\vg mm a/\vg mm b) (l:=P.tch) λp hp=>by
   obtain⟨a,b,r,x,e,h1,h2⟩:=k.tch p hp;exact⟨_,e,a,b,r,x,rfl,h1,h2⟩
  have nd:(T.map (·.1)).Nodup:=by
   have n:=k.tn;rw[e,map_map] at n;have:(T.map λp=>(kT p).1)=(T.map (·.1)).map (List.map (UQ:Int->bM)):=by rw[map_map];rfl
   have n:(T.map λp=>(kT p).1).Nodup:=n;rw[this] at n;exact lE n
  refine⟨T,e,λp hp=>?_,nd,?_⟩
  ·obtain⟨a,b,r,x,rfl,_⟩:=q p hp;exact⟨rfl,rfl⟩
  ·have:=A1 nd λz hz=>by
    obtain⟨p,hp,rfl⟩:=mem_map.mp hz;obtain⟨a,b,r,x,rfl,h1,h2⟩:=q p hp;exact mem_flatMap.mpr ⟨a,rE h1,mem_map.mpr ⟨b,rE h2,rfl⟩⟩
   rw[length_map] at this;have l:((sA mm).flatMap λa=>(sA mm).map λb=>[a,b]).length=mm*mm:=by
    rw[length_flatMap];have:(sA mm).map (λa=>((sA mm).map λb=>[a,b]).length)=UD mm mm:=by
     rw[eq_replicate_iff];refine⟨by unfold sA;rw[length_map,length_map,length_range],λb hb=>?_⟩;obtain⟨a,_,rfl⟩:=mem_map.mp hb;unfold sA;rw[length_map,length_map,length_range]
    rw[this,sum_replicate_nat]
   have:mm*mm<=5*5:=Yk hm hm;omega
 ·obtain⟨G,e,q⟩:=oH (R:=λp=>∃a r x:Int,p=(a,[r,x])/\vg mm a) (l:=P.grd) λp hp=>by
   obtain⟨a,r,x,e,h1⟩:=k.grd p hp;exact⟨_,e,a,r,x,rfl,h1⟩
  have nd:(G.map (·.1)).Nodup:=by
   have n:=k.gn;rw[e,map_map] at n;have:(G.map λp=>(kG p).1)=(G.map (·.1)).map (UQ:Int->bM):=by rw[map_map];rfl
   have n:(G.map λp=>(kG p).1).Nodup:=n;rw[this] at n;exact lE n
  refine⟨G,e,λp hp=>?_,nd,?_⟩
  ·obtain⟨a,r,x,rfl,_⟩:=q p hp;rfl
  ·have:=A1 nd λz hz=>by
    obtain⟨p,hp,rfl⟩:=mem_map.mp hz;obtain⟨a,r,x,rfl,h1⟩:=q p hp;exact rE h1
   unfold sA at this;rw[length_map,length_map,length_range] at this;omega
theorem Ca {u v:List Int}:∀{a b:List Int},a.length=b.length->a≠b->HT.lexLt (a++u) (b++v)=HT.lexLt a b
 | [],[],_,h=>absurd rfl h
 | [],_::_,h,_=>by cases h
 | _::_,[],h,_=>by cases h
 | x::a,y::b,h,n=>by
  rw[cons_append,cons_append,HT.lexLt_cons,HT.lexLt_cons]
  by_cases e:x=y
  ·rw[if_pos e,if_pos e];exact Ca (Nat.succ.inj h) λq=>n (by rw[e,q])
  simp_all
def pZ (T:List (List Int×List Int))(k:List Int):List Int:=((T.find? λp=>decide (p.1=k)).map (·.2)).getD []
def MR {T:List (List Int×List Int)}:(T.map (·.1)).Nodup->∀{p},p∈T->T.find? (λq=>decide (q.1=p.1))=Z p:=by
 induction T with
 | nil=>simp
 | cons q T ih=>
  intro nd p hp;rw[map_cons,nodup_cons] at nd;rcases mem_cons.mp hp with e|e
  ·simp_all
  ·have ne:q.1≠p.1:=λz=>nd.1 (z▸mem_map.mpr ⟨p,e,rfl⟩)
   rw[find?_cons_of_neg (by simpa using ne)];exact ih nd.2 e
def pJ {T:List (List Int×List Int)}(nd:(T.map (·.1)).Nodup){p}(hp:p∈T):pZ T p.1=p.2:=by
 unfold pZ;rw[MR nd hp];rfl
def zR {T:List (List Int×List Int)}{n:Nat}(hl:∀p,p∈T->p.1.length=n)(nd:(T.map (·.1)).Nodup):cB (T.map λp=>p.1++p.2)=(cB (T.map (·.1))).map λk=>k++pZ T k:=by
 have pk:=fq (T.map (·.1));refine lP ?_ (pP _) ?_
 ·refine(fq _).trans (.trans (.of_eq ?_) (pk.symm.map λk=>k++pZ T k));rw[map_map];exact map_congr_left λp hp=>by
   show p.1++p.2=p.1++pZ T p.1;rw[pJ nd hp]
 ·rw[pairwise_map];have u:=pP (T.map (·.1));refine(u.and (pk.symm.nodup nd)).imp_of_mem λ{a b} ha hb h=>?_
  have len:∀k,k∈cB (T.map (·.1))->k.length=n:=λk hk=>by
   obtain⟨p,hp,rfl⟩:=mem_map.mp (pk.subset hk);exact hl p hp
  rw[Ca ((len b hb).trans (len a ha).symm) (Vl h.2)];exact h.1
def DW (ns:List Int):cB (ns.map λn=>[n])=(sortI ns).map λn=>[n]:=by
 refine lP ((fq _).trans ((sortI_perm ns).symm.map _)) (pP _) ?_;rw[pairwise_map];refine(sortI_le ns).imp λ{a b} h=>?_
 rw[HT.lexLt_cons];split
 ·rfl
 simp_all
def gT (G:List (Int×List Int)):List (List Int×List Int):=G.map λp=>([p.1],p.2)
def CF (G:List (Int×List Int)):(gT G).map (·.1)=(G.map (·.1)).map λn=>[n]:=by
 unfold gT;rw[map_map,map_map];rfl
def FE {G:List (Int×List Int)}(nd:(G.map (·.1)).Nodup):((gT G).map (·.1)).Nodup:=by
 rw[CF];exact pairwise_map.mpr (nd.imp λ{a b} h q=>h (head_eq_of_cons_eq q))
def F5 {G:List (Int×List Int)}(nd:(G.map (·.1)).Nodup):cB (G.map λp=>[p.1]++p.2)=(sortI (G.map (·.1))).map λn=>[n]++pZ (gT G) [n]:=by
 have a:=zR   (λp hp=>by obtain⟨q,_,rfl⟩:=mem_map.mp hp;rfl) (FE nd);rw[CF,DW,map_map] at a;have e:(gT G).map (λp=>p.1++p.2)=G.map λp=>[p.1]++p.2:=by
  unfold gT;rw[map_map];rfl
 rwa [e] at a
theorem Cp:∀{a b:List Int},a.map (UQ:Int->bM)=b.map UQ->a=b
 | [],[],_=>rfl
 | [],_::_,h=>by cases h
 | _::_,[],h=>by cases h
 | x::a,y::b,h=>by
  obtain⟨h1,h2⟩:=ZN h;rw[Sum.inl.inj h1,Cp h2]
def NL {T:List (List Int×List Int)}:(T.map (·.1)).Nodup->∀{k},k∈T.map (·.1)->fY (T.map kT) (k.map UQ)=Z (bH (pZ T k)):=by
 intro nd k hk;obtain⟨p,hp,rfl⟩:=mem_map.mp hk;rw[pJ nd hp]
 induction T with
 | nil=>cases hp
 | cons q T ih=>
  rw[map_cons,nodup_cons] at nd;unfold fY;rw[map_cons]
  by_cases e:q.1=p.1
  ·have eq:p=q:=by
    rcases mem_cons.mp hp with z|z
    ·omega
    ·exact absurd (e▸mem_map.mpr ⟨p,z,rfl⟩) nd.1
   rw[find?_cons_of_pos (by rw[eq];exact decide_eq_true rfl),eq];rfl
  ·rw[find?_cons_of_neg (p:=λkv:List bM×D=>decide (kv.1=p.1.map UQ)) (λz=>e (Cp (of_decide_eq_true z)))];rcases mem_cons.mp hp with z|z
   ·exact absurd (by rw[z]) e
   ·exact ih nd.2 z (mem_map.mpr ⟨p,z,rfl⟩)
def Nk {G:List (Int×List Int)}(nd:(G.map (·.1)).Nodup):∀{n},n∈G.map (·.1)->fY (G.map kG) (UQ n)=Z (bH (pZ (gT G) [n])):=by
 intro n hn;obtain⟨p,hp,rfl⟩:=mem_map.mp hn;rw[pJ (FE nd)  (mem_map.mpr ⟨p,hp,rfl⟩)]
 induction G with
 | nil=>cases hp
 | cons q G ih=>
  rw[map_cons,nodup_cons] at nd;unfold fY;rw[map_cons]
  by_cases e:q.1=p.1
  ·have eq:p=q:=by
    rcases mem_cons.mp hp with z|z
    ·omega
    ·exact absurd (e▸mem_map.mpr ⟨p,z,rfl⟩) nd.1
   rw[find?_cons_of_pos (by rw[eq];exact decide_eq_true rfl),eq];rfl
  ·rw[find?_cons_of_neg (by simpa[kG] using e)];rcases mem_cons.mp hp with z|z
   ·exact absurd (by rw[z]) e
   ·exact ih nd.2 z (mem_map.mpr ⟨p,z,rfl⟩)
def sW (Rw:List (List Int)):D:=.lst (Rw.map λr=>.lst (r.map I))
def CL (Rw:List (List Int)):bG 40 (sW Rw)=true:=cu λd hd=>by
 obtain⟨r,_,rfl⟩:=mem_map.mp hd;exact cu λd hd=>by
  obtain⟨i,_,rfl⟩:=mem_map.mp hd;rfl
theorem xQ {α:Type}[DecidableEq α]{f:α->D}(h:∀x y,tK (f x) (f y)=decide (x=y)):∀a b:List α,gY (a.map f) (b.map f)=decide (a=b)
 | [],[]=>rfl
 | [],y::b=>by rfl
 | x::a,[]=>by rfl
 | x::a,y::b=>by
  show(tK (f x) (f y)&&gY (a.map f) (b.map f))=_;rw[h,xQ h a b];simp
def JL (A B:List (List Int)):tK (sW A) (sW B)=decide (A=B):=xQ (f:=λr:List Int=>D.lst (r.map I)) (λx y=>xQ  (λi j=>by
 rfl) x y) A B
def Nr {M0 E:ay}{st:D}{P:Pc}:vf (R M0.length) (aA M0 st P++E)=sW P.rows:=by
 have g0:(aA M0 st P++E)[M0.length]?=Z (.lst (nV M0.length P.rows.length)):=by
  rw[getElem?_append_left (by rw[vc];omega)];exact Ic
 have gr:∀i,i<P.rows.length->now (R (M0.length+4+i)) (aA M0 st P++E)=.lst ((P.rows.getD i []).map I):=λi hi=>by
  have e:(aA M0 st P++E)[M0.length+4+i]?=Z (sG P.rows[i]):=by
   rw[getElem?_append_left (by rw[vc];omega)];exact Ba (getElem?_eq_getElem hi)
  unfold now;dsimp only;rw[e,Wd,getElem?_eq_getElem hi];rfl
 have e1:now (R M0.length) (aA M0 st P++E)=.lst (nV M0.length P.rows.length):=by
  unfold now
  simp_all
 unfold vf;rw[e1];show D.lst ((nV M0.length P.rows.length).map λx=>now x (aA M0 st P++E))=_;unfold sW nV;rw[map_map];congr 1;apply ext_getElem
 ·simp
 simp_all
def J1 {x y:D}{M:ay}{A B:List (List Int)}(hx:vf x M=sW A)(hy:vf y M=sW B):Lb true x y M=O (G (!decide (A=B))) M:=by
 unfold Lb;rw[hx,hy,CL,CL,JL];simp
structure vT (M:ay)(b:Nat)(fr:D)(B:Bs):Prop where
 o:M[b]?=Z (.obj "Beam" (cY fr b B))
 r:M[b+1]?=Z (.lst (kF b B.rows.length))
 t:M[b+2]?=Z (.dT B.tch)
 g:M[b+3]?=Z (.dK B.grd)
 l:M[b+4]?=Z (.lst B.lost)
 row:∀(i:Nat) r,B.rows[i]?=Z r->M[b+5+i]?=Z (sG r)
def nE {M E:ay}{i:Nat}{o:MO}(h:M[i]?=Z o):(M++E)[i]?=Z o:=by
 rwa [getElem?_append_left (Uk.mp h).1]
def Lm {M0 E:ay}{fr:D}{B:Bs}:vT (ao M0 fr B++E) M0.length fr B:=⟨nE fm,nE Kg,nE NQ,nE LG,nE PM,λ_ _ h=>nE (BD h)⟩
section
variable {M:ay}{b:Nat}{fr:D}{B:Bs}{w h g m:Int}
def ER (k:vT M b fr B):bY [R b] M=O (I B.t) M:=by
 show bL (fA [Z (R b)] _)=_;unfold fA;rw[fX (bO rfl k.o yf)];rfl
def J7 (k:vT M b fr B):fU [R b] M=O B.st M:=by
 show bL (h8 [Z (R b)] _)=_;unfold h8;rw[fX (bO rfl k.o BP)];rfl
def N7 (k:vT M b fr B)(hl:B.lost.length<=100000):ji [R b] M=O (.lst B.lost) M:=by
 show bL (jy [Z (R b)] _)=_;unfold jy;rw[fX (sP (bO rfl k.o CD) (by
  unfold nD ba;dsimp only;rw[k.l]))]
 rfl
def Nf (k:vT M b (aZ w h g m) B)(f:dJ w h g m):dO [R b] M=O (G (decide (B.t=h*(w+g)))) M:=by
 show bL (cV [Z (R b)] _)=_;unfold cV;rw[fX (aT (bO rfl k.o yf) (wb (bO rfl k.o m7) (cn f)) (ug _ _ _))];rfl
def Dq (k:vT M b fr B)(hr:B.rows.length<=90000):dR [R b] M=O (sW B.rows) M:=by
 show bL (fN [Z (R b)] _)=_;unfold fN;have gi:bE (cX "Beam" "laid_rows" (ae 0)) [Z (R b)] M=O ⟨(UH B.rows.length).map λi=>D.mr (b+5+i),Z (b+1,kF b B.rows.length)⟩ M:=by
  unfold bE;rw[bO rfl k.o xp,az];unfold GW;dsimp only;rw[k.r];rfl
 have c:=tP (g:=λi=>.lst ((B.rows.getD i []).map I)) (ge:=fc) gi (λi hi=>by
  have hi:=mem_range.mp hi;unfold fc;refine sP rfl ?_;unfold nD ba;dsimp only;rw[k.row i _ (getElem?_eq_getElem hi),Wd,getElem?_eq_getElem hi];rfl) (by rw[length_range];omega) (by
  unfold rN.ok;dsimp only;rw[k.r];exact EL _ _)
 rw[fX c];show bc.ok (D.lst _) M=_;unfold sW;congr 2;apply ext_getElem
 ·simp
 ·intro i h1 h2;simp at h1 h2 ⊢;simp[h2]
end
theorem BR:∀z:List Int,pE (z.map I)=Z z
 | []=>rfl
 | x::z=>by
  show(pE (z.map I)).map (x::·)=_;rw[BR z];rfl
def xj (z:List Int):dG (bH z)=Z z:=BR z
theorem yd:∀{zs:List (List Int)},(∀z,z∈zs->z≠[])->p9 (zs.map bH)=Z zs
 | [],_=>rfl
 | []::_,h=>absurd rfl (h [] mem_cons_self)
 | (x::z)::zs,h=>by
  rw[map_cons];unfold p9;rw[xj,yd λy hy=>h y (mem_cons_of_mem _ hy)]
def C4 {zs:List (List Int)}{M:ay}(h:∀z,z∈zs->z≠[])(hl:zs.length<64):zF [.lst (zs.map bH)] M=O (.lst ((cB zs).map bH)) M:=by
 cases zs with
 | nil=>
  show bc.ok (D.lst ((L2.sortI []).map I)) M=bc.ok (D.lst ((cB []).map bH)) M;rw[(L2.sortI_perm []).eq_nil,(fq []).eq_nil];rfl
 | cons z zs=>
  show(match uT ((z::zs).map bH) with|some ns=>if ns.length<64 then bc.ok (D.lst ((L2.sortI ns).map I)) M else .bad|none=>match p9 ((z::zs).map bH) with|some zs=>if zs.length<64 then O (.lst ((cB zs).map bH)) M else .bad|none=>.bad)=_;rw[(yd h),show uT ((z::zs).map bH)=Y from rfl]
  simp_all
def Fv (k:List Int):(k.map (UQ:Int->bM)).map vS=k.map I:=by
 rw[map_map];rfl
def Kz {T:List (List Int×List Int)}{M:ay}{i:Nat}(hM:M[i]?=Z (.dT (T.map kT)))(h:∀p,p∈T->p.1≠[])(hl:T.length<64):nB [R i] M=O (.lst ((cB (T.map (·.1))).map bH)) M:=by
 have e:((T.map kT).map λp=>D.tup (p.1.map vS))=(T.map (·.1)).map bH:=by
  rw[map_map,map_map];exact map_congr_left λp _=>by
   show D.tup ((p.1.map UQ).map vS)=_;rw[Fv];rfl
 unfold nB;dsimp only;rw[hM];dsimp only;rw[e,yd (λz hz=>by obtain⟨p,hp,rfl⟩:=mem_map.mp hz;exact h p hp)]
 simp_all
theorem B4:∀g:List (Int×List Int),yy (g.map kG)=Z (g.map (·.1))
 | []=>rfl
 | p::g=>by
  show(yy (g.map kG)).map (p.1::·)=_;rw[B4 g];rfl
def Io {G:List (Int×List Int)}{M:ay}{i:Nat}(hM:M[i]?=Z (.dK (G.map kG)))(hl:G.length<64):nB [R i] M=O (.lst ((sortI (G.map (·.1))).map I)) M:=by
 unfold nB;dsimp only;rw[hM];dsimp only;rw[B4]
 simp_all
def zx {α:Type}{n:Nat}{sg:GG}{ge g:GE}{ρ:fE}{M:ay}{d:D}{l:List α}{f:α->D×D}{z1 z2:α->List Int}(hg:g ρ M=O d M)(hp:iL d M=Z (l.map f))(hv:∀a,a∈l->(f a).2=bH (z1 a))
  (he:∀a,a∈l->∃ρ1,sg (iP (f a)) (UD n Y++UD ρ.length Y)=Z ρ1/\ge ρ1 []=O (bH (z2 a)) []) (hl:l.length<=100000):fL n sg ge g ρ M=O (.lst (l.map λa=>bH (z2 a))) M:=by
 have c:aW ⟨(l.map f).map iP,Y⟩ n sg bp ge ((l.map f).map iP) (UD ρ.length Y) []=O (l.map λa=>bH (z2 a)) []:=by
  have gen:∀(ds0:List D) (l:List α),(∀a,a∈l->∃ρ1,sg (iP (f a)) (UD n Y++UD ρ.length Y)=Z ρ1/\ge ρ1 []=O (bH (z2 a)) [])->aW ⟨ds0,Y⟩ n sg bp ge ((l.map f).map iP) (UD ρ.length Y) []=O (l.map λa=>bH (z2 a)) []:=λds0 l=>by
   induction l with
   | nil=>intro _;rfl
   | cons a l ih=>
    intro h;obtain⟨ρ1,e1,e2⟩:=h a mem_cons_self;rw[map_cons,map_cons];unfold aW;rw[mT,if_pos rfl,e1];dsimp only;rw[show bp ρ1 []=O true [] from rfl];dsimp only;rw[e2];dsimp only;rw[ih λb hb=>h b (mem_cons_of_mem _ hb)];rfl
  exact gen _ l he
 unfold fL;rw[hg,az,hp];dsimp only;rw[if_pos (all_eq_true.mpr λp hp=>by
  obtain⟨a,ha,rfl⟩:=mem_map.mp hp;rw[hv a ha,xj];rfl),c]
 dsimp only;rw[if_pos ⟨all_eq_true.mpr λe he=>by
  obtain⟨a,_,rfl⟩:=mem_map.mp he;rw[xj];rfl,b9 (by grind)⟩]
def CJ {a b:List Int}{M:ay}(h:a.length+b.length<=100):a8 (bH a) (bH b) M=O (bH (a++b)) M:=by
 show(if(a.map I).length+(b.map I).length<=sizeLine then bc.ok (D.tup (a.map I++b.map I)) M else .bad)=_;rw[if_pos (b9 (by grind)),<-map_append];rfl
section
variable {M:ay}{b:Nat}{fr:D}{B:Bs}{P:Pc}
def DF {T:List (List Int×List Int)}(k:vT M b fr B)(e:B.tch=T.map kT)(two:∀p,p∈T->p.1.length=2/\p.2.length=2)(hl:T.length<64):fK [R b] M=O (.lst ((cB (T.map λp=>p.1++p.2)).map bH)) M:=by
 show bL (fG [Z (R b)] _)=_;unfold fG;have c:=zx (n:=2) (sg:=bN [0,1]) (ge:=gW) (g:=cX "Beam" "first_touches" (ae 0)) (ρ:=[Z (R b)]) (l:=T) (f:=λp=>(bH p.1,bH p.2)) (z1:=λp=>p.2) (z2:=λp=>p.1++p.2) (bO rfl k.o GH) (by
  unfold iL;dsimp only;rw[k.t];dsimp only;rw[e,map_map];congr 1;exact map_congr_left λp _=>by
   show(D.tup ((p.1.map UQ).map vS),bH p.2)=_;rw[Fv];rfl) (λ_ _=>rfl) (λp hp=>⟨_,rfl,aT (f:=a8) rfl rfl (CJ (by have:=two p hp;omega))⟩) (by omega)
 have em:(T.map λp=>bH (p.1++p.2))=(T.map λp=>p.1++p.2).map bH:=by rw[map_map];rfl
 rw[em] at c;rw[fX (sP c (C4 (λz hz q=>by
  obtain⟨p,hp,rfl⟩:=mem_map.mp hz;have:=(two p hp).1;rw[(append_eq_nil_iff.mp q).1] at this;cases this) (by rw[length_map];exact hl)))]
 rfl
def DZ {G:List (Int×List Int)}(k:vT M b fr B)(e:B.grd=G.map kG)(two:∀p,p∈G->p.2.length=2)(hl:G.length<64):fP [R b] M=O (.lst ((cB (G.map λp=>[p.1]++p.2)).map bH)) M:=by
 show bL (fV [Z (R b)] _)=_;unfold fV;have c:=zx (n:=2) (sg:=bN [0,1]) (ge:=gX) (g:=cX "Beam" "first_grounds" (ae 0)) (ρ:=[Z (R b)]) (l:=G) (f:=λp=>(I p.1,bH p.2)) (z1:=λp=>p.2) (z2:=λp=>[p.1]++p.2) (bO rfl k.o FX) (by
  unfold iL;dsimp only;rw[k.g];dsimp only;rw[e,map_map];rfl) (λ_ _=>rfl) (λp hp=>⟨_,rfl,aT (f:=a8) (kj (cx rfl kZ)) rfl (CJ (a:=[p.1]) (by have:=two p hp;show 1+_<=_;omega))⟩) (by omega)
 have em:(G.map λp=>bH ([p.1]++p.2))=(G.map λp=>[p.1]++p.2).map bH:=by rw[map_map];rfl
 rw[em] at c;rw[fX (sP c (C4 (λz hz q=>by
  obtain⟨p,hp,rfl⟩:=mem_map.mp hz;cases q) (by rw[length_map];exact hl)))]
 rfl
end
theorem Gw:∀z:List Int,yS (z.map I)=Z (z.map UQ)
 | []=>rfl
 | x::z=>by
  rw[map_cons];unfold yS;rw[Gw z];rfl
def MH {T:List (List Int×List Int)}{M:ay}{i:Nat}{k:List Int}(hM:M[i]?=Z (.dT (T.map kT)))(nd:(T.map (·.1)).Nodup)(hk:k∈T.map (·.1)):AF (R i) (bH k) M=O (bH (pZ T k)) M:=by
 unfold AF sB;dsimp only;rw[hM,show ki (bH k)=Z (k.map UQ) from Gw k];dsimp only;rw[NL nd hk]
def MS {G:List (Int×List Int)}{M:ay}{i:Nat}{n:Int}(hM:M[i]?=Z (.dK (G.map kG)))(nd:(G.map (·.1)).Nodup)(hn:n∈G.map (·.1)):wz (R i) (I n) M=O (bH (pZ (gT G) [n])) M:=by
 unfold wz;dsimp only;rw[hM,show ma (I n)=Z (UQ n) from rfl];dsimp only;rw[Nk nd hn]
def JH (A:List (List Int))(M:ay):vf (sW A) M=sW A:=by
 show D.lst ((A.map λr=>D.lst (r.map I)).map λx=>now x M)=_;rw[map_map];rfl
def t4 {d:D}(h:bG 40 d=true)(hm:∀M,now d M=d)(M:ay):aR false d d M=O (G true) M:=by
 unfold aR;rw[hm,h,uS _ 40 h];rfl
def Lg (zs:List (List Int)):bG 40 (.lst (zs.map bH))=true:=cu λd hd=>by
 obtain⟨z,_,rfl⟩:=mem_map.mp hd;exact cu λd hd=>by
  obtain⟨i,_,rfl⟩:=mem_map.mp hd;rfl
def F8 {P:Pc}{mm:Nat}(k:bW mm P):bG 40 (.lst P.lost)=true:=cu λd hd=>by
 obtain⟨a,b,rfl⟩:=k.lo d hd;rfl
section
variable {M0:ay}{w h g m mm T:Int}{B:Bs}{P:Pc}{s:bP}{kk:Nat}
def HF (hc:bG 40 s.d=true)(te:B.t=T)(st:B.st=s.d)(rl:B.rows.length<=90000)(ll:B.lost.length<=100000)(rows:B.rows=P.rows)(tch:B.tch=P.tch)(grd:B.grd=P.grd)(lost:B.lost=P.lost)(ko:bW kk P)(hk:kk<=5) :
  fR [R M0.length,R ((ao M0 (aZ w h g m) B).length+3),I T] (aA (ao M0 (aZ w h g m) B) s.d P)=O (G true) (aA (ao M0 (aZ w h g m) B) s.d P):=by
 obtain⟨⟨Tt,tl⟩,Gg,gl⟩:=ko.lists hk;have k:vT (aA (ao M0 (aZ w h g m) B) s.d P) M0.length (aZ w h g m) B:=Lm;generalize hM1:ao M0 (aZ w h g m) B=M1 at *;have m1:(aA M1 s.d P)[M1.length+1]?=Z (.dT (Tt.map kT)):=by rw[MI,tl.e]
 have m2:(aA M1 s.d P)[M1.length+2]?=Z (.dK (Gg.map kG)):=by rw[LJ,gl.e]
 have pw:vf (R M1.length) (aA M1 s.d P)=sW P.rows:=by
  have:=Nr (M0:=M1) (E:=[]) (st:=s.d) (P:=P);rwa [append_nil] at this
 have sx:∀(i:Int) (n:Nat) {ρ:fE} {q:Nat} {d:D},i=n->ρ[q]?=Z (Z (R (M1.length+3)))->([R M1.length,R (M1.length+1),R (M1.length+2),.lst P.lost,s.d]:List D)[n]?=Z d->g2 aB (ae q) (gC (I i)) ρ (aA M1 s.d P)=O d (aA M1 s.d P):=λi n {ρ q d} hi h1 h2=>by
  subst hi;exact aT (x:=R (M1.length+3)) (by unfold ae;rw[h1]) rfl (Cj (x:=.non) JF (gK h2))
 show bL (dH [Z (R M0.length),Z (R (M1.length+3)),Z (I T),Y,Y] _)=_;unfold dH;have tk:∀z,z∈cB (Tt.map (·.1))->z∈Tt.map (·.1):=λz hz=>(fq _).subset hz
 have c3:=tP (g:=λz=>bH (z++pZ Tt z)) (ge:=dh) (gi:=bE (aJ nB (aa (g2 aB (ae 1) (gC (I 1))) ag))) (ρ:=[Z (R M0.length),Z (R (M1.length+3)),Z (I T),Y,Y]) (m:=Y) (l:=cB (Tt.map (·.1))) (by
  unfold bE;rw[sP (x:=R (M1.length+1)) (sx 1 1 rfl rfl rfl) (Kz m1 (λp hp q=>by have:=(tl.two p hp).1;rw[q] at this;cases this) tl.few),az];rfl) (λz hz=>by
  unfold dh;obtain⟨p,hp,rfl⟩:=mem_map.mp (tk z hz);exact aT (x:=bH p.1) rfl (aT (x:=R (M1.length+1)) (sx 1 1 rfl rfl rfl) rfl (MH m1 tl.nd (tk _ hz))) (CJ (by rw[pJ tl.nd hp];have:=tl.two p hp;omega))) (by
  rw[(fq _).length_eq,length_map];have:=tl.few;omega)
 have e3:(cB (Tt.map (·.1))).map (λz=>bH (z++pZ Tt z))=(cB (Tt.map λp=>p.1++p.2)).map bH:=by
  rw[zR (λp hp=>(tl.two p hp).1) tl.nd,map_map];rfl
 rw[e3] at c3;rw[aU (dY c3)];show bL (aj _ _ [Z (R M0.length),Z (R (M1.length+3)),Z (I T),Z (.lst ((cB (Tt.map λp=>p.1++p.2)).map bH)),Y] _)=_;have gk:∀z,z∈sortI (Gg.map (·.1))->z∈Gg.map (·.1):=λz hz=>(sortI_perm _).subset hz
 have c4:=tP (g:=λn=>bH ([n]++pZ (gT Gg) [n])) (ge:=df) (gi:=bE (aJ nB (aa (g2 aB (ae 1) (gC (I 2))) ag))) (ρ:=[Z (R M0.length),Z (R (M1.length+3)),Z (I T),Z (.lst ((cB (Tt.map λp=>p.1++p.2)).map bH)),Y]) (m:=Y) (l:=sortI (Gg.map (·.1))) (by
  unfold bE;rw[sP (x:=R (M1.length+2)) (sx 2 2 rfl rfl rfl) (Io m2 gl.few),az];rfl) (λz hz=>by
  unfold df;obtain⟨p,hp,rfl⟩:=mem_map.mp (gk z hz);exact aT (x:=bH [p.1]) (kj (cx rfl kZ)) (aT (x:=R (M1.length+2)) (sx 2 2 rfl rfl rfl) rfl (MS m2 gl.nd (gk _ hz))) (CJ (by
   rw[pJ (FE gl.nd) (p:=([p.1],p.2)) (mem_map.mpr ⟨p,hp,rfl⟩)];have q:p.2.length=2:=gl.two p hp;show 1+p.2.length<=100;omega))) (by
  rw[(sortI_perm _).length_eq,length_map];have:=gl.few;omega)
 have e4:(sortI (Gg.map (·.1))).map (λn=>bH ([n]++pZ (gT Gg) [n]))=(cB (Gg.map λp=>[p.1]++p.2)).map bH:=by
  rw[F5 gl.nd,map_map];rfl
 rw[e4] at c4;rw[aU (dY c4)];show bL (aj _ _ [Z (R M0.length),Z (R (M1.length+3)),Z (I T),Z (.lst ((cB (Tt.map λp=>p.1++p.2)).map bH)),Z (.lst ((cB (Gg.map λp=>[p.1]++p.2)).map bH))] _)=_;generalize hρ:([Z (R M0.length),Z (R (M1.length+3)),Z (I T),Z (.lst ((cB (Tt.map λp=>p.1++p.2)).map bH)),Z (.lst ((cB (Gg.map λp=>[p.1]++p.2)).map bH))]:fE)=ρ;have v:∀(M:ay),ae 0 ρ M=O (R M0.length) M/\ae 2 ρ M=O (I T) M/\ae 3 ρ M=O (.lst ((cB (Tt.map λp=>p.1++p.2)).map bH)) M/\ae 4 ρ M=O (.lst ((cB (Gg.map λp=>[p.1]++p.2)).map bH)) M:=λM=>by rw[<-hρ];exact⟨rfl,rfl,rfl,rfl⟩
 have v1:ρ[1]?=Z (Z (R (M1.length+3))):=by rw[<-hρ];rfl
 have me:∀{mt:Str} {F:FD} {r:D},(cY (aZ w h g m) M0.length B).lookup mt=Y->F [R M0.length] (aA M1 s.d P)=O r (aA M1 s.d P)->dQ "Beam" mt 1 F (ae 0) ag ρ (aA M1 s.d P)=O r (aA M1 s.d P):=λhn e=>g9 (go:=ae 0) (ga:=ag) (v _).1 k.o hn (ds:=[]) rfl rfl e
 have t1:aH (g2 (aR true) (dQ "Beam" "tick" 1 bY (ae 0) ag) (ae 2)) ρ (aA M1 s.d P)=O false (aA M1 s.d P):=by
  have:=dC (aT (me (mt:="tick") (F:=bY) rfl (ER k)) (v _).2.1 (z9 B.t T _));rwa [te,decide_eq_true rfl] at this
 have e2:aR true B.st s.d (aA M1 s.d P)=O (G false) (aA M1 s.d P):=by
  rw[st];exact Il hc (uS _ 40 hc) (λ_=>rfl) _
 have t2:aH (g2 (aR true) (dQ "Beam" "stand" 1 fU (ae 0) ag) (g2 aB (ae 1) (gC (I 4)))) ρ (aA M1 s.d P)=O false (aA M1 s.d P):=
  dC (aT (me (mt:="stand") (F:=fU) rfl (J7 k)) (sx 4 4 rfl v1 rfl) e2)
 have t3:aH (g2 (Lb true) (dQ "Beam" "picture" 1 dR (ae 0) ag) (g2 aB (ae 1) (gC (I 0)))) ρ (aA M1 s.d P)=O false (aA M1 s.d P):=by
  have:=dC (aT (me (mt:="picture") (F:=dR) rfl (Dq k rl)) (sx 0 0 rfl v1 rfl) (J1 (JH B.rows _) pw));rwa [rows,decide_eq_true rfl] at this
 rw[aU ((nQ (AJ t1 λ_=>AJ t2 λ_=>t3)).trans rfl)];have bt:=DF k (tch.trans tl.e) tl.two tl.few;have bg:=DZ k (grd.trans gl.e) gl.two gl.few;have bl:=N7 k ll;have a4:=Bu (aT (me (mt:="touches") (F:=fK) rfl bt) (v _).2.2.1 (t4 (Lg _) (λ_=>rfl) _)) λ_=>Bu (aT (me (mt:="grounds") (F:=fP) rfl bg) (v _).2.2.2 (t4 (Lg _) (λ_=>rfl) _)) λ_=>aT (me (mt:="lost") (F:=ji) rfl bl) (sx 3 3 rfl v1 rfl) (by rw[lost];exact t4 (F8 ko) (λ_=>rfl) _)
 rw[fX a4];rfl
end
inductive Ln where
 | wait (r s:Int)|skip (r s:Int)|act (d:Dd)|to (k:Int)
def Ln.d:Ln->D
 | .wait r s=>U [S "wait",I r,I s]
 | .skip r s=>U [S "skip",I r,I s]
 | .act d=>U [S "do",d.d]
 | .to k=>U [S "to",I k]
def qw (s:bP)(n:Int):Ln->Prop
 | .wait r q=>(0<=r/\r<=60)/\(0<=q/\q<=60)
 | .skip r q=>(0<=r/\r<=60)/\(0<=q/\q<=60)
 | .act d=>jP s d
 | .to k=>0<=k/\k<n
def Ln.tk (row tick:Int):Ln->Int
 | .wait r s=>if tick<r*row+s then r*row+s else tick
 | _=>tick
def Ln.later (row here t:Int):Ln->Int
 | .to k=>k
 | .skip r s=>if r*row+s<=t then here+2 else here+1
 | _=>here+1
def Ln.told (t:Int):Ln->List D
 | .act d=>[U [I t,d.d]]
 | _=>[]
def f9 (row tot pace:Int)(ls:List Ln):Nat->Int->Int->List D->List D
 | 0,_,_,acc=>acc
 | n+1,here,tick,acc=>match ls[here.toNat]? with
  | none=>acc
  | some l=>if tot<=l.tk row tick then acc else f9 row tot pace ls n (l.later row here (l.tk row tick)) (l.tk row tick+pace) (acc++l.told (l.tk row tick))
local macro_rules | `(tactic| simp_all_arith!) => `(tactic| with_reducible first | refine bZ jq ?_ | refine bZ (cn (by assumption)) ?_)
def Cg {w h g m r s:Int}{x:Str}{M:ay}{Q:D->ay->Prop}(hr:0<=r/\r<=60)(k:Q (I (r*(w+g)+s)) M):Wp (io [aZ w h g m,U [S x,I r,I s]] M) Q:=by
 refine aN ?_;unfold kW
 simp_all_arith
 exact k
section
variable {w h g m tick here t pace:Int}{s:bP}{n:Int}{l:Ln}{M:ay}{Q:D->ay->Prop}
def Hq (ok:qw s n l)(k:Q (I (l.tk (w+g) tick)) M):Wp (iN [aZ w h g m,l.d,I tick] M) Q:=by
 refine aN ?_;unfold iK;cases l with
 | wait r q=>
  simp_all_arith
  refine Cg ok.1 ?_
  simp_all_arith
  exact k
 | _=>simp_all_arith;exact k
def nS (ok:qw s n l)(k:Q (I (l.later (w+g) here t)) M):Wp (jc [aZ w h g m,l.d,I here,I t] M) Q:=by
 refine aN ?_;unfold iQ Ln.later at *;cases l with
 | skip r q=>
  simp_all_arith
  refine Cg ok.1 ?_;dsimp only at k
  simp_all_arith
  ·rwa [if_pos hc] at k
  ·rwa [if_neg hc] at k
 | _=>simp_all_arith;exact k
end
def zU {row here t n:Int}{l:Ln}{s:bP}(ok:qw s n l)(h:0<=here):0<=l.later row here t:=by
 unfold Ln.later;cases l with
 | to k=>exact ok.1
 | skip r q=>dsimp only;split <;> omega
 | _=>dsimp only;omega
def Gf (row tick:Int)(l:Ln):tick<=l.tk row tick:=by
 unfold Ln.tk;cases l with
 | wait r q=>dsimp only;split <;> omega
 | _=>exact Zs _
def zu (t:Int)(l:Ln):(l.told t).length<=1:=by cases l <;> simp[Ln.told]
section
variable {w h g m pace:Int}{s:bP}{ls:List Ln}{M:ay}{Q:Fl->ay->Prop}
def wx {row tot tick:Int}{n p:Nat}{l:Ln}{acc:List D}(e:ls[p]?=Z l):f9 row tot pace ls (n+1) p tick acc=if tot<=l.tk row tick then acc else f9 row tot pace ls n (l.later row p (l.tk row tick)) (l.tk row tick+pace) (acc++l.told (l.tk row tick)):=by
 rw[f9,UC,e]
def uw {row tot tick:Int}{n p:Nat}{acc:List D}(e:ls[p]?=Y):f9 row tot pace ls (n+1) p tick acc=acc:=by
 rw[f9,UC,e]
theorem Fj {st:Option D}(k:dJ w h g m)(hp:1<=pace)(ok:∀l∈ls,qw s ls.length l):∀(n:Nat) (here tick:Int) (acc:List D) (x7:Option D),0<=here->acc.length+n<=100000->h*(w+g)-tick<n->0<n->
  (∀f,(f=.rt (R M.length)\/∃x5 x6 x7,f=.nx [Z (aZ w h g m),st,Z (.lst (ls.map Ln.d)),Z (I pace),Z (R M.length),x5,x6,x7])->Q f (M++[.lst (f9 (w+g) (h*(w+g)) pace ls n here tick acc)]))->
  Wp (cJ jz jD n [Z (aZ w h g m),st,Z (.lst (ls.map Ln.d)),Z (I pace),Z (R M.length),Z (I here),Z (I tick),x7] (M++[.lst acc])) Q
 | 0,_,_,_,_,_,_,_,hz,_=>absurd hz (by decide)
 | n+1,here,tick,acc,x7,hh,ha,hn,_,hQ=>by
  obtain⟨p,rfl⟩:=Us hh;rw[cJ];refine aw ?_;unfold jz jD
  by_cases hl:p<ls.length
  ·have gl:ls[p]?=Z ls[p]:=getElem?_eq_getElem hl;have okl:=ok _ (getElem_mem hl);rw[wx gl] at hQ;generalize ls[p]=l at *;have gd:(ls.map Ln.d)[p]?=Z l.d:=by rw[getElem?_map,gl];rfl
   have ll:(ls.map Ln.d).length=ls.length:=length_map _
   simp_all_arith
   refine Hq okl ?_;have tg:=Gf (w+g) tick l;have lo:=zU (row:=w+g) (t:=l.tk (w+g) tick) okl hh;generalize l.tk (w+g) tick=t at *;have la:=zu t l
   simp_all_arith
   ·rw[if_pos hc] at hQ;exact hQ _ (.inl rfl)
   ·rw[if_neg hc] at hQ;have fin:=Fj k hp ok n (l.later (w+g) p t) (t+pace) (acc++l.told t) (Z l.d) lo (by rw[length_append];omega) (by omega) (by omega) hQ;cases l with
    | act d=>
     simp_all_arith
     refine nS okl ?_
     simp_all_arith
     exact fin
    | _=>
     simp_all_arith
     refine nS okl ?_
     simp_all_arith
     simp only[Ln.told,append_nil] at fin;exact fin
  ·rw[uw (getElem?_eq_none (by omega))] at hQ;have ll:(ls.map Ln.d).length=ls.length:=length_map _
   simp_all_arith
   exact hQ _ (.inr ⟨_,_,_,rfl⟩)
theorem CV (k:dJ w h g m)(hp:1<=pace)(ok:∀l∈ls,qw s ls.length l):∀(n:Nat) (here tick:Int) (acc:List D) (x7 x8:Option D),0<=here->acc.length+n<=100000->h*(w+g)-tick<n->0<n->
  (∀f,(f=.rt (R M.length)\/∃x5 x6 x7 x8,f=.nx [Z (aZ w h g m),Z (.lst (ls.map Ln.d)),Z (I pace),Z (I (w+g)),Z (R M.length),x5,x6,x7,x8])->Q f (M++[.lst (f9 (w+g) (h*(w+g)) pace ls n here tick acc)]))->
  Wp (cJ ig iD n [Z (aZ w h g m),Z (.lst (ls.map Ln.d)),Z (I pace),Z (I (w+g)),Z (R M.length),Z (I here),Z (I tick),x7,x8] (M++[.lst acc])) Q
 | 0,_,_,_,_,_,_,_,_,hz,_=>absurd hz (by decide)
 | n+1,here,tick,acc,x7,x8,hh,ha,hn,_,hQ=>by
  obtain⟨p,rfl⟩:=Us hh;have kw:=k.w;have kg:=k.g;rw[cJ];refine aw ?_;unfold ig iD
  by_cases hl:p<ls.length
  ·have gl:ls[p]?=Z ls[p]:=getElem?_eq_getElem hl;have okl:=ok _ (getElem_mem hl);rw[wx gl] at hQ;generalize ls[p]=l at *;have gd:(ls.map Ln.d)[p]?=Z l.d:=by rw[getElem?_map,gl];rfl
   have ll:(ls.map Ln.d).length=ls.length:=length_map _;simp_arith;refine aw ?_;simp_arith;have tg:=Gf (w+g) tick l;have lo:=zU (row:=w+g) (t:=l.tk (w+g) tick) okl hh;refine Pa 6 (I (l.tk (w+g) tick)) ?_ ?_
   ·unfold Ln.tk;cases l with
    | wait r q=>
     have:=okl.1
     simp_all_arith
     ·exact⟨by dsimp only;rw[if_pos hc],rfl⟩
     ·exact⟨by dsimp only;rw[if_neg hc];rfl,rfl⟩
    | _=>simp_all_arith;exact⟨rfl,rfl⟩
   generalize l.tk (w+g) tick=t at *;have la:=zu t l;rw[aat h] at hQ hn
   simp_all_arith
   ·rw[if_pos (by omega)] at hQ;exact hQ _ (.inl rfl)
   ·rw[if_neg (by omega)] at hQ;have fin:=λx8=>CV k hp ok n (l.later (w+g) p t) (t+pace) (acc++l.told t) (Z l.d) x8 lo (by rw[length_append];omega) (by rw[aat h];omega) (by omega) (by rwa [aat h])
    cases l with
    | act d=>simp_all_arith;exact fin _
    | to k=>simp_all_arith;simp only[Ln.told,append_nil] at fin;exact fin _
    | skip r q=>
     have:=okl.1;simp only[Ln.told,append_nil,Ln.later] at fin
     simp_all_arith
     ·rw[if_pos hc] at fin;exact fin _
     ·rw[if_neg hc] at fin;exact fin _
    | wait r q=>simp_all_arith;simp only[Ln.told,append_nil] at fin;exact fin _
  ·rw[uw (getElem?_eq_none (by omega))] at hQ;have ll:(ls.map Ln.d).length=ls.length:=length_map _
   simp_all_arith
   exact hQ _ (.inr ⟨_,_,_,_,rfl⟩)
end
section
variable {l:List Int}{rest M:ay}{L:List D}{Q:D->ay->Prop}
def Jc (t:dL l (rest++[.lst L]) M):M[rest.length+1]?=Z (.lst L):=by
 obtain⟨i,c,_,rfl⟩:=t;exact sD rest L
def Hs {d:D}(t:dL l (rest++[.lst L]) M)(hE:L.length<1000000)(k:∀M',dL l (rest++[.lst (L++[d])]) M'->Q .non M'):Wp (vp (rest.length+1) d M) Q:=by
 obtain⟨i,c,hi,rfl⟩:=t;exact E9 (M:=tp l i c::rest) hE (k _ ⟨i,c,hi,rfl⟩)
end
local macro_rules | `(tactic| simp_all_arith!) => `(tactic| with_reducible first | refine xx (by assumption) (by omega) (by omega) fun v M q0 q1 t => ?_ | refine RD.mk (Jc (by assumption)) ?_ | refine Hs (by assumption) (by omega) fun M t => ?_ | refine bZ jq ?_ | refine bZ (cn (by assumption)) ?_)
def zK {l:List Int}{rest M:ay}{w h g m:Int}{s:bP}{mm:Int}{many j:Nat}{L:List D}{x6 x7 x8:Option D}{Q:Fl->ay->Prop}(fk:dJ w h g m)(sk:a7 mm s)(hm:mm<=12)(hj:j<many)(hmany:many<=100)(hE:L.length<=1000)(t:dL l (rest++[.lst L]) M)
  (hQ:∀ln M' y6 y7 y8,qw s many ln->dL l (rest++[.lst (L++[Ln.d ln])]) M'->Q (.nx [Z (R 0),Z (aZ w h g m),Z s.d,Z (I many),Z (R (rest.length+1)),Z (I j),y6,y7,y8]) M') :
  Wp (gG [Z (R 0),Z (aZ w h g m),Z s.d,Z (I many),Z (R (rest.length+1)),Z (I j),x6,x7,x8] M) Q:=by
 have kw:=fk.w;have kh:=fk.h;have kg:=fk.g;unfold gG
 simp_all_arith
 ·refine D7 (more:=[I g,I m]) t sk (by omega) (by omega) (by omega) λdd M hd t=>?_
  simp_all_arith
  exact hQ (.act dd) _ _ _ _ hd t
 ·rename_i p _ p0 p1 _ _;refine qx (λd=>d=S "wait"\/d=S "skip") (by simp;omega) (by simp) λd hd=>?_
  rcases hd with rfl|rfl <;> simp_all_arith
  ·exact hQ (.wait p v) _ _ _ _ ⟨⟨p0,by omega⟩,q0,by omega⟩ t
  ·exact hQ (.skip p v) _ _ _ _ ⟨⟨p0,by omega⟩,q0,by omega⟩ t
 ·rename_i a _ a0 a1 _ b _ b0 b1 _ _ _ c _ c0 c1 _ d _ d0 d1 _;refine qx (λd=>d=S "wait"\/d=S "skip") (by simp;omega) (by simp) λd hd=>?_
  rcases hd with rfl|rfl <;> simp_all_arith <;> refine qx (λd=>∃x y,d=U [I x,I y]/\(0<=x/\x<=60)/\0<=y/\y<=60) (by simp;omega) (by
   simp only[mem_cons,not_mem_nil,or_false,forall_eq_or_imp,forall_eq];exact⟨⟨a,b,rfl,by omega,by omega⟩,c,d,rfl,by omega,by omega⟩) λd hd=>?_
  all_goals
   obtain⟨x,y,rfl,hx,hy⟩:=hd
   simp_all_arith
  ·exact hQ (.wait x y) _ _ _ _ ⟨hx,hy⟩ t
  ·exact hQ (.skip x y) _ _ _ _ ⟨hx,hy⟩ t
 ·refine rp [_,_] 0 (many-1) (by simp;omega) (by simp;omega) λy h0 h1=>?_
  simp_all_arith
  exact hQ (.to y) _ _ _ _ ⟨h0,by omega⟩ t
def yC (d:Dd):aI 28 d.d=true:=by
 cases d with
 | shape i o=>cases o <;> rfl
 | _=>rfl
def Jk (l:Ln):aI 29 l.d=true:=by
 cases l with
 | act d=>
  show(true&&(aI 28 d.d&&true))=true;rw[yC];rfl
 | _=>rfl
def BF (rest:ay):Prop:=rest.all (zN (rest.length+1))=true
def BQ {l:List Int}{i c:Int}{rest:ay}(h:BF rest):cA (tp l i c::rest):=by
 have p:Cq (tp l i c)=true:=by
  show(D.lst (l.map I)::[I i,I c]).all (aI 30)=true;have:=dA 28 l;simp[Dx,this,aI]
 unfold cA;rw[all_cons,nF p];exact h
def IA {l:List Int}{i c:Int}{rest:ay}(h:cA (tp l i c::rest)):BF rest:=by
 unfold cA at h;rw[all_cons] at h;exact(UE.mp h).2
def Ov {l:List Int}{rest M:ay}(t:dL l rest M)(h:BF rest):cA M:=by
 obtain⟨i,c,_,rfl⟩:=t;exact BQ h
def Jj {l:List Int}{rest M:ay}{w h g m:Int}{s:bP}{mm:Int}{Q:D->ay->Prop}(fk:dJ w h g m)(sk:a7 mm s)(hm:mm<=12)(pr:BF rest)(t:dL l rest M)
  (k:∀(ls:List Ln) M',ls.length<=100->(∀x∈ls,qw s ls.length x)->dL l rest M'->Q (.lst (ls.map Ln.d)) M'):Wp (lg [R 0,aZ w h g m,s.d] M) Q:=by
 have lM:M.length=rest.length+1:=by obtain⟨i,c,_,rfl⟩:=t;rfl
 refine nC (aN ?_);unfold iB
 simp_all_arith
 refine rp [_,_,_] 0 100 (by simp;omega) (by simp;omega) λn n0 n1=>?_
 obtain⟨n,rfl⟩:=Us n0
 simp_all_arith
 have lM2:M.length=rest.length+1:=by obtain⟨i,c,_,rfl⟩:=t;rfl
 refine Bp (λj ρ N=>∃(ls:List Ln) (y5 y6 y7 y8:Option D),ls.length=j/\(∀x∈ls,qw s n x)/\dL l (rest++[.lst (ls.map Ln.d)]) N/\ρ=[Z (R 0),Z (aZ w h g m),Z s.d,Z (I n),Z (R (rest.length+1)),y5,y6,y7,y8]) ?_ (λj ρ N hj e=>?_) λρ N e=>?_
 ·obtain⟨i,c,hi,rfl⟩:=t;exact⟨[],Y,Y,Y,Y,rfl,nofun,⟨i,c,hi,rfl⟩,rfl⟩
 ·obtain⟨ls,y5,y6,y7,y8,lj,lk,t,rfl⟩:=e;refine⟨_,rfl,zK fk sk hm hj (by omega) (by rw[length_map];omega) t λln M y6 y7 y8 hl t=>⟨ls++[ln],_,y6,y7,y8,by rw[length_append,lj];rfl,λx hx=>?_,by rw[map_append];exact t,rfl⟩⟩;rcases mem_append.mp hx with q|q
  ·exact lk x q
  ·rwa [mem_singleton.mp q]
 ·obtain⟨ls,y5,y6,y7,y8,lj,lk,t,rfl⟩:=e
  simp_all_arith
  obtain⟨i,c,hi,rfl⟩:=t;rw[lM];exact bZ (jb (M:=tp l i c::rest) (by rw[all_map];exact all_eq_true.mpr λx _=>Jk x) (BQ pr)) (k ls _ (by omega) (by rwa [lj]) ⟨i,c,hi,rfl⟩)
def GZ {s:bP}{n:Nat}{l:Ln}{M:ay}{Q:D->ay->Prop}(ok:qw s n l)(k:Q (G true) M):Wp (qF [s.d,I n,l.d] M) Q:=by
 refine aN ?_;unfold qK oF;cases l with
 | act d=>
  simp_all_arith
  refine bZ (qW ok) ?_
  simp_all_arith
  exact k
 | to i=>
  have:=ok.2
  simp_all_arith
  refine bZ (iW ⟨ok.1,by omega⟩) ?_
  simp_all_arith
  exact k
 | wait r q|skip r q=>
  simp_all_arith
  refine Al.mk (E5 (λ_=>true) ?_)
  simp_all_arith
  refine⟨rfl,V3 rfl,λx (hx:x∈[I r,I q])=>?_,by simp_all_arith;exact k⟩
  simp_all_arith
  simp only[mem_cons,not_mem_nil,or_false] at hx;rcases hx with rfl|rfl
  ·exact bZ (iW ok.1) ⟨rfl,rfl⟩
  ·exact bZ (iW ok.2) ⟨rfl,rfl⟩
def Eh {s:bP}{ls:List Ln}{M:ay}{Q:D->ay->Prop}(ok:∀l∈ls,qw s ls.length l)(hl:ls.length<=100)(k:Q (G true) M):Wp (oR [s.d,.lst (ls.map Ln.d)] M) Q:=by
 have ll:(ls.map Ln.d).length=ls.length:=length_map _;refine aN ?_;unfold oi mW
 simp_all_arith
 refine Al.mk (E5 (λ_=>true) ?_)
 simp_all_arith
 refine⟨rfl,by dsimp only;omega,λx hx=>?_,by rwa [show(ls.map Ln.d).all (λ_=>true)=true by simp]⟩;obtain⟨l,hm,rfl⟩:=mem_map.mp hx
 simp_all_arith
 rw[ll];exact GZ (ok l hm) ⟨rfl,rfl⟩
def OP (w h g pace:Int)(ls:List Ln):List D:=f9 (w+g) (h*(w+g)) pace ls 5000 0 0 []
def xF {w h g m:Int}(k:dJ w h g m):h*(w+g)<=2400:=by
 have h1:=k.h;have h2:=k.w;have h3:=k.g;have a:h*(w+g)<=40*(w+g):=Int.mul_le_mul_of_nonneg_right h1.2 (by omega);omega
def LV (d:D):Prop:=∃t dd,d=U [I t,Dd.d dd]
theorem Cm {row tot pace:Int}{ls:List Ln}:∀(n:Nat) (here tick:Int) (acc:List D),(∀d∈acc,LV d)->∀d∈f9 row tot pace ls n here tick acc,LV d
 | 0,_,_,acc,h=>h
 | n+1,here,tick,acc,h=>by
  unfold f9;split
  ·exact h
  ·rename_i l _;split
   ·exact h
   ·refine Cm n _ _ _ λd hd=>?_
    rcases mem_append.mp hd with q|q
    ·exact h d q
    ·cases l with
     | act dd=>rw[mem_singleton.mp (show d∈[_] from q)];exact⟨_,dd,rfl⟩
     | _=>cases q
def Jo {d:D}(h:LV d):aI 29 d=true:=by
 obtain⟨t,dd,rfl⟩:=h;show([I t,dd.d].all (aI 28))=true;simp[yC]
def yL {w h g pace:Int}{ls:List Ln}:(OP w h g pace ls).all (aI 29)=true:=all_eq_true.mpr λd hd=>Jo (Cm 5000 0 0 [] (λd h=>by cases h) d hd)
section
variable {w h g m pace:Int}{s:bP}{ls:List Ln}{M:ay}{Q:D->ay->Prop}
def MW (k:dJ w h g m)(hp:1<=pace)(ok:∀l∈ls,qw s ls.length l)(pM:cA M)(q:Q (.lst (OP w h g pace ls)) M):Wp (mF [aZ w h g m,.lst (ls.map Ln.d),I pace] M) Q:=by
 have tl:=xF k;have r:=bZ (Q:=Q) (jb (M:=M) (xs:=OP w h g pace ls) yL pM) q;refine nC (aN ?_);unfold jH
 simp_all_arith
 refine CV k hp ok 5000 0 0 [] _ _ (by decide) (by simp) (by omega) (by decide) λf hf=>?_
 rcases hf with rfl|⟨_,_,_,_,rfl⟩
 ·simp_all_arith;exact r
 ·simp_all_arith;exact r
def OR {mm:Int}(k:dJ w h g m)(sk:a7 mm s)(hm:mm<=12)(hp:1<=pace)(ok:∀l∈ls,qw s ls.length l)(hl:ls.length<=100)(pM:cA M)(q:Q (.lst (OP w h g pace ls)) M):Wp (og [aZ w h g m,s.d,.lst (ls.map Ln.d),I pace] M) Q:=by
 have tl:=xF k;have r:=bZ (Q:=Q) (jb (M:=M) (xs:=OP w h g pace ls) yL pM) q;have b:=ve (M:=M) k sk hm;refine nC (aN ?_);unfold lR
 simp_all_arith
 refine Eh ok hl ?_
 simp_all_arith
 refine Fj k hp ok 5000 0 0 [] _ (by decide) (by simp) (by omega) (by decide) λf hf=>?_
 rcases hf with rfl|⟨_,_,_,rfl⟩
 ·simp_all_arith;exact r
 ·simp_all_arith;exact r
end
def zX (n:Nat)(rs:List (List Int)):bG (n+2) (bu rs)=true:=by
 refine cu λd hd=>?_
 obtain⟨r,_,rfl⟩:=mem_map.mp hd;exact mM n r
def Js (s:bP):bG 40 s.d=true:=by
 have p1:=zX 37 s.floor;have p2:bj 38 (s.book.map bu)=true:=cu λd hd=>by
  obtain⟨b,_,rfl⟩:=mem_map.mp hd;exact zX 36 b
 have p3:bj 38 (s.movers.map Mv.d)=true:=cu λd hd=>by
  obtain⟨m,_,rfl⟩:=mem_map.mp hd;rw[z6];have:bG 37 (ym m.shape)=true:=by cases m.shape <;> rfl
  simp_all
 have p4:=mM 38 s.pots;unfold bP.d
 simp_all
def Ln.toldT (t:Int):Ln->List (Int×Dd)
 | .act d=>[(t,d)]
 | _=>[]
def n9 (row tot pace:Int)(ls:List Ln):Nat->Int->Int->List (Int×Dd)
 | 0,_,_=>[]
 | n+1,here,tick=>match ls[here.toNat]? with
  | none=>[]
  | some l=>if tot<=l.tk row tick then [] else l.toldT (l.tk row tick)++n9 row tot pace ls n (l.later row here (l.tk row tick)) (l.tk row tick+pace)
def Oy (t:Int)(l:Ln):l.told t=kO (l.toldT t):=by
 cases l <;> rfl
theorem we {row tot pace:Int}{ls:List Ln}:∀(n:Nat) (here tick:Int) (acc:List D),f9 row tot pace ls n here tick acc=acc++kO (n9 row tot pace ls n here tick)
 | 0,_,_,acc=>(append_nil acc).symm
 | n+1,here,tick,acc=>by
  unfold f9 n9;cases ls[here.toNat]? with
  | none=>exact(append_nil acc).symm
  | some l=>
   dsimp only
   by_cases h:tot<=l.tk row tick
   ·rw[if_pos h,if_pos h];exact(append_nil acc).symm
   ·rw[if_neg h,if_neg h,we n,Oy];unfold kO;simp
theorem Fy {s:bP}{row tot pace:Int}{ls:List Ln}(hp:1<=pace)(ok:∀l∈ls,qw s ls.length l):∀(n:Nat) (here tick:Int),
  (∀p∈n9 row tot pace ls n here tick,(tick<=p.1/\p.1<tot)/\jP s p.2)/\((n9 row tot pace ls n here tick).map (·.1)).Pairwise (·<=·)/\(n9 row tot pace ls n here tick).length<=(tot-tick).toNat
 | 0,_,_=>⟨λp h=>(by cases h),.nil,UW _⟩
 | n+1,here,tick=>by
  have nil:∀{t:Int},(∀p∈([]:List (Int×Dd)),(tick<=p.1/\p.1<tot)/\jP s p.2)/\(([]:List (Int×Dd)).map (·.1)).Pairwise (·<=·)/\([]:List (Int×Dd)).length<=(tot-tick).toNat:=⟨λp h=>(by cases h),.nil,UW _⟩;unfold n9;cases hl:ls[here.toNat]? with
  | none=>exact nil (t:=tick)
  | some l=>
   dsimp only
   by_cases h:tot<=l.tk row tick
   ·rw[if_pos h];exact nil (t:=tick)
   ·rw[if_neg h];obtain⟨a,b,c⟩:=Fy hp ok n (l.later row here (l.tk row tick)) (l.tk row tick+pace);have g:=Gf row tick l;have lk:=ok l (mem_of_getElem? hl);have lift:∀p∈n9 row tot pace ls n (l.later row here (l.tk row tick)) (l.tk row tick+pace),(tick<=p.1/\p.1<tot)/\jP s p.2:=λp hp=>by
     obtain⟨⟨q1,q2⟩,q3⟩:=a p hp;exact⟨⟨by omega,q2⟩,q3⟩
    cases l with
    | act d=>
     refine⟨λp hp=>?_,?_,?_⟩
     ·rcases mem_cons.mp hp with rfl|q
      ·exact⟨⟨g,by show Ln.tk row tick (.act d)<tot;omega⟩,lk⟩
      ·exact lift p q
     ·refine pairwise_cons.mpr ⟨λx hx=>?_,b⟩;obtain⟨p,hp,rfl⟩:=mem_map.mp hx;have:=(a p hp).1.1;show Ln.tk row tick (.act d)<=p.1;omega
     ·show(n9 row tot pace ls n _ _).length+1<=_;omega
    | _=>exact⟨lift,b,by show(n9 row tot pace ls n _ _).length<=_;omega⟩
def G3 {w h g m pace:Int}{s:bP}{ls:List Ln}(k:dJ w h g m)(hp:1<=pace)(ok:∀l∈ls,qw s ls.length l):∃td,OP w h g pace ls=kO td/\oo (h*(w+g)) s td:=by
 obtain⟨a,b,c⟩:=Fy   hp ok 5000 0 0;have tl:=xF k;exact⟨_,(we 5000 0 0 []).trans (nil_append _),⟨λp hp=>(a p hp).1,b,λp hp=>(a p hp).2,by omega⟩⟩
local macro_rules | `(tactic| simp_all_arith!) => `(tactic| with_reducible refine xx (by assumption) (by omega) (by omega) fun v M q0 q1 t => ?_)
def Mh {ns:List Int}{rest M:ay}{x0 x2 x3 x4 x5 x6 x7 x8 x9:Option D}{Q:Fl->ay->Prop}(t:dL ns rest M)(pr:BF rest)
  (hQ:∀y3 y4 y5 y6 y7 y8 y9 rest' M',dL ns rest' M'->BF rest'->Q (.nx [x0,Z (R 0),x2,y3,y4,y5,y6,y7,y8,y9]) M'):Wp (xX [x0,Z (R 0),x2,x3,x4,x5,x6,x7,x8,x9] M) Q:=by
 unfold xX
 simp_all_arith
 refine IE t (by decide) (by decide) λw h g m M kw kh kg km t=>?_
 have fk:dJ w h g m:=⟨⟨kw.1,by omega⟩,⟨kh.1,by omega⟩,kg,km⟩
 simp_all_arith
 refine HL (mm:=4) t (by omega) (by omega) (by decide) λs M sk t=>?_
 simp_all_arith
 refine Jj fk sk (by decide) pr t λls M ll lk t=>?_
 have tl:=xF fk
 simp_all_arith
 have hp:1<=1+v:=by omega
 obtain⟨td,hd,pk⟩:=G3 (pace:=1+v) fk hp lk;have s4:=Ov t pr;obtain⟨B,iv,pn,eL⟩:=Hb (by decide) fk sk pk;refine aN ?_;unfold ui
 simp_all_arith
 refine OR fk sk (by decide) hp lk ll s4 ?_;rw[hd]
 simp_all_arith
 refine bZ (eL _ s4) ?_;have s8:cA (ao M (aZ w h g m) B):=nJ s4 (show aI 30 (aZ w h g m)=true from rfl) iv.p;have k:vT (ao M (aZ w h g m) B) M.length (aZ w h g m) B:=by
  have:=Lm (M0:=M) (fr:=aZ w h g m) (B:=B) (E:=[]);rwa [append_nil] at this
 have ko:=k.o;have bo:=Nf k fk;have bt:=ER k;rw[iv.te,decide_eq_true rfl] at bo;rw[iv.te] at bt
 simp_all_arith
 refine MW fk hp lk s8 ?_;rw[hd]
 simp_all_arith
 obtain⟨e9,s9⟩:=AM (M0:=ao M (aZ w h g m) B) (tm:=.lst (kO td)) (by decide) fk sk pk s8 λ_=>rfl
 refine bZ e9 ?_;have tn:(h*(w+g)).toNat<=2400:=by omega
 have m4:s.movers.length<=4:=by have:=sk.ml;omega
 have rt:=HF (kk:=4) (P:=planP w g m (h*(w+g)) td s 0 (Ik s)) (M0:=M) (w:=w) (h:=h) (g:=g) (m:=m) (Js (sY td s)) iv.te iv.st (UK iv.rl (by omega)) (UK iv.lost (by omega)) pn.rows pn.tch pn.grd pn.lost (bW.plan (w:=w) (g:=g) (m:=m) (T:=h*(w+g)) td s 0 (Ik s) m4 (.nil m4)) (by decide)
 simp_all_arith
 obtain⟨i,c,hi,rfl⟩:=t;exact hQ _ _ _ _ _ _ _ ((rest++uu (aZ w h g m) (tp ns i c::rest).length B)++rW (ao (tp ns i c::rest) (aZ w h g m) B).length (sY td s).d (planP w g m (h*(w+g)) td s 0 (Ik s))) _ ⟨i,c,hi,rfl⟩ (IA (l:=ns) (i:=i) (c:=c) s9)
def law_true (ns:List Int)(hl:ns.length<=63):∃M',zz [.ro (ns.map I)] []=O (G true) M':=by
 suffices h:Wp (zz [.ro (ns.map I)] []) λd _=>d=G true by
  obtain⟨a,M,e,rfl⟩:=h.eq;exact⟨M,e⟩
 refine aN ?_;unfold E7
 simp_all_arith
 refine Bp (n:=3) (λ_ ρ N=>∃x2 x3 x4 x5 x6 x7 x8 x9 rest,ρ=[Z (.ro (ns.map I)),Z (R 0),x2,x3,x4,x5,x6,x7,x8,x9]/\dL ns rest N/\BF rest) ⟨_,_,_,_,_,_,_,_,[],rfl,⟨0,0,by decide,rfl⟩,rfl⟩ (λj ρ N _ e=>?_) λρ N e=>?_
 ·obtain⟨x2,x3,x4,x5,x6,x7,x8,x9,rest,rfl,t,p⟩:=e;exact⟨_,rfl,Mh t p λy3 y4 y5 y6 y7 y8 y9 rest' M' t p=>⟨_,y3,y4,y5,y6,y7,y8,y9,rest',rfl,t,p⟩⟩
 ·obtain⟨x2,x3,x4,x5,x6,x7,x8,x9,rest,rfl,t,p⟩:=e
  simp_all_arith
  rfl
end K27
theorem PySem.Challenge.cw_glowrow_k27_whole_scores_played_holds : PySem.Challenge.rw_glowrow_k27_whole_scores_played.Holds :=
 K27.pre K27.law_true
