import PyProof.Rows.All
import Wide.All
import KE.KNestM
import OpenK.KOwn
import OpenK.KRaise
import KE.KIsAll
import KE.KTypeName
import Wide.FinOn
import Lean
import PyProof.EqAt
import PyProof.EqKinds
import PyProof.TupleCall
import PyProof.Draws
import PyProof.EnumMake
import KE.KLam
import KE.KMinKey
import PyProof.StrCalls2
import PyProof.Rows.StrIndexOr
import PyProof.CollectIter
import PyProof.ListStr
import KE.KDictLaws
import PyProof.P3Eq
import KE.KSortTup
import KE.KDictList
import PyProof.DictItems
import PyProof.ZipIter
import PyProof.Rows.ZipGen
import PySem.Challenge.RW_glowrow_k13_whole_two_beams
set_option compiler.extract_closed false
set_option Elab.async false
set_option linter.all false
set_option maxRecDepth 100000
set_option maxHeartbeats 4000000
open Option renaming some → Z,none → Y
open PySem renaming wpAny_bind->Ta,wpAny_pure->Tb,Value->Td,Shared->Tg,Addr->Th,wpAny->Tn,sizeLine->To,mainGlobals->Tq,model->TF,Program->TR,wpAny_holding->TV,World->TY,starEach->T2,wpAny_newObj_type->T7,compareOp->T8,Expr->T9,wpAny_call_entry->Ud,wpAny_callSpecial?_slot->Uh,foldedSetIterable->Um,sizeLine_eq->Uo,attributeBase->Uw,Around->Ux,eval->Uy,wpAny_truthy_bool->Uz,sysModules->UA,Heap->UG,wpAny_field->UJ,bootBuiltins->UL,assignEach->UQ,wpAny_seqItems->UR,wpAny_tryCatch->US,wpAny_typeNameOfWhole_itemiter->UX,FuncData->UZ,wpAny_typeNameOfWhole_keyiter->U0,holding->U1,wpAny_dictEntries->U2,codeAny_builtin->U3,binaryOp->U4,wpAny_pyNext_list_item->U5,keywordEach->Va,plainId_quiet->Vb,wpAny_mono->Vc,wpAny_typeNameOf_itemiter->Vj,importedModules->Vk,wpAny_passesOwn->Vm,wpAny_loadPart'->Vn,wpAny_updateSeq->Vo,wpAny_letGo->Vp,wpAny_typeNameOf_keyiter->Vt,backTo->Vu,wpAny_Call_Name_kw->VB,wpAny_setField_rec->VF,Stmt->VI,wpAny_dictEpoch->VL,pyNext->VR,rawInt->VT,sliceBounds->VX,wpAny_of_eq->VY,firstArgMember->VZ,IsItemIter->V1,swapsWith->V4,DictEntry->V5,swappedStores->V9,behindInMarks->Wa,backToKw->Wb,OsState->Wd,codeAny_mono->Wq,wpAny_setField->Ws,wpAny_isOneOf_itemiter->Wv,wpAny_pyNext_list_end->Wz,wpAny_notOrdered_dict->WB,tupleKind->WE,getMethod->WG,Builtin->WH,standAt->WJ,wpAny_attempt->WK,wpAny_newList->WL,wpAny_execs_nil->WT,BindsTo->WY,Keyword->W0,call_meetsIn->W3,treeTable->W4,seqItems?->W5,builtinsNs->W6,wpAny_rule->W9,wpAny_newFunctionEnv_cells->Xe,tupleKind_room_in1->Xg,wpAny_fieldsOf->Xi,wpAny_pyIter_slot->Xu,swapsWithSole->Xw,cLine->XE,wpAny_Call_method0_late->XH,atKey->XI,wpAny_isInstance->XJ,codeAmong->XM,richCompare_meets_room->XW,IsPart->XX,getItem->XY,wpAny_typeOf->XZ,valueAt->X3,Scope->X8,letOwnedTupleGo->X9,wpAny_isOneOf_keyiter->Yh,bindArgs->Yl,callWith->Ym,richCompare->Yo,wpAny_listPart->Yp,isSubtype_stop->Yr,dictSetDefault->Ys,setItem->Yw,codeAny->Yx,updateSeq->Yz,callerA->YA,wpAny_Assign_stores->YC,kt_meets_setdefault->YF,bltViewBooted->YI,wpAny_standAt->YK,wpAny_handled->YN,evalPart_some->YO,IsItemIterOut->YS,Params->YT,assign->YW,pyIter->YX,wpAny_pyIter_tuple->Y4,wpAny_sequenceKey->Zd,seqIndex_neg->Ze,slot_list_getitem->Zf,slot_list_setitem->Zg,wpAny_pyIter_enum->Zj,wpAny_pyIter_list->Zl,wpAny_eqBool_int->Zp,wpAny_execs_cons->Zr,PassesOwn->Zs,lastMarks->Zt,cellsFrom->Zv,wpAny_forIn_list->Zy,noFill_tuple_add->Zz,wpAny_Dict_empty->ZA,wpAny_Slice->ZJ,seqIndex_of->ZK,subscripted->ZL,wpAny_throw->ZM,storedH_new->ZN,wpAny_specialOf->ZU,entryOfKey->aad,wpAny_Name->aae,wpAny_load->aaf,wpAny_call->aah,NameKind->aai,typeLookup->aam,call_meets->aan,DefRec->aao,newExc->aaq,setField->aar,inplaceOp->aaF,bindL->aaG,bindC->aaH,Arguments->aaI,TriplesOk->aaJ,Result->aaO,storedH->aaS
open PySem.Heap renaming get?_push_of_some->Tc,get?_push_size->Tj,lt_size->Tr,get?_update_other->Ut,SameBut->UD,get?_update_self->VN,size_push->Wo,get?_push_ne->Wt,ExtBut->Xs,size_update->XN,get?_update_ne->YG,FlyingW->Zh,MadeExcOf->aap
open Nat renaming le_refl->Te,lt_of_lt_of_le->Tu,ne_of_lt->TB,le_trans->TL,zero_le->Uc,zero_add->Uq,lt_of_le_of_lt->UW,lt_of_lt_of_eq->UY,sub_self->U6,lt_irrefl->U9,lt_succ_self->Vv,le_add_right->Vw,le_succ->Vz,ne_of_gt->VA,le_of_ble_eq_true->VO,le_of_lt->V3,lt_succ_of_lt->Wu,add_assoc->WM,le_of_eq->WX,mul_le_mul->Xj,add_sub_cancel_left->XO,add_comm->X4,add_le_add_left->YD,le_succ_of_le->Zn,log2_lt->ZP,min_le_left->ZV,zero_lt_one->ZX,min_eq_left->ZZ
open List renaming getElem?_eq_some_iff->Tf,all_eq_true->Ti,range->Tw,length_map->TC,replicate->TH,mem_cons_self->TN,mem_cons_of_mem->T6,length_cons->Ug,getElem?_eq_getElem->Ui,size_toArray->Uk,mem_cons->Ur,getElem?_map->Us,toArray->Uu,mem_append_right->Uv,mem_of_getElem?->UT,mem_singleton->UU,getD->Vx,length_range->VD,length_nil->VG,length_append->VM,map_cons->V2,getElem?_zip_eq_some->V7,all_cons->V8,zip_cons_cons->We,mem_iff_getElem->Wf,find?_cons->Wi,getElem_mem->Wk,not_mem_nil->Wm,getElem?_append_right->WA,lookup->WO,getElem?_append_left->WQ,length_take->WZ,append_nil->Xc,mem_append->Xp,zip_nil_left->Xq,pairwise_cons->XB,getElem?_range->XR,mem_range->XT,zip_nil_right->Yc,getD_eq_getElem?_getD->Yg,filterMap_cons->Yj,mem_filterMap->YL,nodup_cons->YY,of_mem_zip->YZ,getElem?_replicate->Y0,length_drop->Y2,length_eq_zero_iff->Y6,pairwise_mergeSort->Y7,getElem?_set_self->Y9,mem_map->Zk,length_replicate->Zw,getElem?_eq_none->ZD,countP_mono_left->ZE,map_fst_zip->ZG,mem_append_left->ZQ,getElem?_set_ne->ZR,drop_eq_nil_iff->ZW,nodup_append->Z2,map_map->Z4,take_left->aas,map_append->aaL
open PySem.W renaming Frag->Tp,findIn->Vd,nsIn->Vh,boot_heap->Vl,tabIn->Vr,keepIn->VU,kas_rev_size->V6,OpenLaw->WD,emptyDict->WN,fnOf->WU,hideAll_get->Xv,instObj->XC,cellsFrom_some->XF,mroIn->XQ,plainGet->XU,hasDictIn->Yk,codeIn->Yn,mg_of->YB,fencedOpening->YH,plainGet_of->YM,callWith_K->Zc,hideAll->Zq,makesIn->Zu,plainOver->ZI,methodCall_KW->ZS,SharedT->Z0,absHeap->Z1,kas_rev->Z3,namesBound->Z6,boot_drawn->Z7,looseW->Z8,lookIn->aag,staticsOk->aaA,boot_toks->aaB,takerIn->aaE,kla_obj->aaK,excIn->aaT,typeIn->aaX
open Int renaming eq_ofNat_of_zero_le->Ts,toNat_natCast->TK,emod_nonneg->UO,emod_lt_of_pos->UP,mul_le_mul->Wx,mul_le_mul_of_nonneg_left->WS,fmod_eq_emod_of_nonneg->Xa,fdiv_eq_ediv_of_nonneg->Xh,natCast_nonneg->Xk,zero_add->X5,ne_of_gt->X6,sub_self->X7,emod_add_mul_ediv->Yi,le_refl->Yu,le_trans->aaR
open Bool renaming false_ne_true->Tv,and_eq_true->Tz,and_eq_true_iff->TJ,false_eq_true->UB,not_eq_true'->Xr,bne_false->Yq,decide_or->aat,true_and->aaz,true_or->aaP
open PyProof.Rows renaming slot_tuple_getitem->TQ,seqObj->Ub,IntsAre->UE,callWith_type1->VP,envOfC->VW,get?_update_seq->Wg,Keyed->Wn,assignInOrder_cons->W8,kindOf->Xd,AllBare->Xo,recsOf->XS,subscriptTail_builtinR->X1,lt_int->Yb,mirror_perm->Yv,listUpdate_at->YQ,Subscript_->Y3,size_push'->Y5,assignInOrder_nil->Za,callWith_builtin1->Zx,IsTup->ZH,seqEpoch_at->ZO,entry_list_sort->ZY,expectedOf->Z9,plainGoodE->aaa,plainGoodD->aab,gt_int->aaD,drecsOf->aaM,SortSt->aaU,iadd_int->aaV
open PySem.Value renaming ref->TU,none->Ue,int->Zo,isStrOf->aav,isInt->aaW,bool->aaZ,type->aa0,str->aa3
open Option renaming map_eq_some_iff->TZ,isSome_iff_exists->Xx,getD_none->XG,getD_some->ZF
open Sum renaming inl->T1,inr->WI
open PySem.Obj renaming mapSeq->T3,data_mapFields->Wj,isFreed_of_fields->Yd,data_mapDictKeys->Yt,cls_mapFields->Zi,mapFields->aax
open Option.some renaming inj->T4,injEq->Vq
open Array renaming getElem?_eq_getElem->Ua,length_toList->UH,getElem?_toList->UK,getElem?_eq_none->U8,getD_eq_getD_getElem?->VQ,perm_iff_toList_perm->V0,toList_append->YE,mk->Y8
open Ne renaming symm->Uj
open ForInStep renaming yield->Ul
open PySem.Around renaming under_plainId->UC
open PySem.Heap.SameBut renaming update->UI
open PySem.Str renaming ofString->UM,empty->Yy
open PySem.Builtin.Dict_items renaming ownsTuple->UN,ownedTupleIsFree->Wc,pairFromOwner->Ww,ownedTupleFields->YR
open False renaming elim->UV
open PySem.Builtin.Builtins renaming bindParams->U7
open True renaming intro->Ve
open PySem.F renaming slot_tuple_iterator_next->Vf,args_tuple_iterator_next_1->WW,entry_tuple_iterator_next->W2,slot_enumerate_next->Ye
open PySem.Builtin.Slice renaming slicePlaces->Vg,sliceAdjust->Xl,slicePartIndex->ZT,sliceApplied->aak
open PySem.Builtin.SmallTypes renaming nextOf->Vi
open PySem.Builtin.Tuple renaming tupleExact->Vs,tupleCompareSizes->Wy,tupleItemsOf->aal
open Prod.mk renaming inj->Vy,injEq->aau
open PySem.Calls renaming callWith_builtin->VC,evalArgs_plain->WR,Name_function_global->W7,spliced_cons->Xb,call_function_entry->Xn,spliced_nil->Zb
open PySem.PyData renaming strOk->VE
open Prod renaming ext->VH
open Array.Perm renaming refl->VJ
open PySem.W.KasT renaming kasWp_bind->Wh
open PySem.W.OpenLaw renaming row->Wl
open PySem.Builtin.Dict renaming showsAll->WC
open Or renaming inr->WV,inl->X2
open PySem.Builtin.List renaming listSubscript?->W1,listAllItems->Xm,listSameRef->Xz,listExtendWith->Z5,listTooLong->aaw,listItems->aaQ
open PySem.Heap.IsSliceOf renaming new->Xf
open PySem.AutoSeq1 renaming sub_tuple_tuple->Xy
open PyProof renaming noPylong_of_log2->XA
open PyProof.Rows.IsTup renaming new->XD
open List.cons renaming inj->YJ
open PySem.SeqAt.EqAt renaming int_str->YU,str_int->YV,int_int->Y1
open PySem.PassesOwn renaming leaving->Zm
open List.Perm renaming nil_eq->ZC
open PySem.W.OpenRow renaming toRowW->aac
open PySem.SeqAt renaming EqAt->aaj
open PySem.Shared renaming TypeIs->aay
open PySem.Builtin.Range renaming rangeSize->aaC
open PySem.W.RowW renaming records->aaN
open PySem.Heap.IsTupleIter renaming «at»->aaY
open PySem.Heap.IsListIter renaming «at»->aa1
open List.Pairwise renaming nil->aa2
open PySem.W.WData renaming int->aa4
open PySem.Heap.DictOf renaming new->aa5
noncomputable section
namespace Hd
open PySem PySem.W PySem.Calls PyProof.Rows
def topRunT (tb:String->Option WH)(p:TR)(w:TY)(n0:Nat)(ann:Option Td):Nat->Z0->Thread->Option Z0
 | 0,_,_=>Y
 | n+1,s,t=>match through t with
  | true=>Z s
  | false=>match stepOk n0 ann t with
   | false=>Y
   | true=>match stepT (denote tb) p w s t with
    | some (s',t')=>topRunT tb p w n0 ann n s' t'
    | none=>Y
theorem vB:∀{n:Nat} {s s':Z0} {t:Thread},topRunT tb p w n0 ann n s t=Z s'->topRun tb p w n0 ann n s.abs t=Z s'.abs
 | 0,_,_,_,h=>by cases h
 | n+1,s,s',t,h=>by
  unfold topRunT at h;unfold topRun;cases he:through t with
  | true=>simp_all
  | false=>
   rw[he] at h;cases hk:stepOk n0 ann t with
   | false=>simp_all
   | true=>
    rw[hk] at h;cases hs:stepT (denote tb) p w s t with
    | none=>simp_all
    | some r=>rw[hs] at h;rw[stepT_spec hs];exact vB h
def grow:List Obj->BT->Nat->BT
 | [],t,_=>t
 | o::r,t,n=>grow r (t.ins n o) (n+1)
def Kd:List Obj->BT->Nat->Bool
 | [],_,_=>true
 | o::r,t,n=>((t.ins n o).get n).isSome&&Kd r (t.ins n o) (n+1)
theorem zw (life:Life):∀(l:List Obj) (t:BT) (n:Nat),Kd l t n=true->Z1 (grow l t n) (n+l.length) life=⟨(Z1 t n life).objs++l.toArray,life⟩
 | [],t,n,_=>by rfl
 | o::r,t,n,h=>by
  obtain⟨h1,h2⟩:=TJ.mp h;show Z1 (grow r (t.ins n o) (n+1)) (n+(r.length+1)) life=_;rw[show n+(r.length+1)=n+1+r.length by omega,(zw life r (t.ins n o) (n+1) h2),(absHeap_ins h1)];simp[Heap.push]
def AU {Yf:Tg->A}{Ya:TY->A}{H:YT->UG}{k:Nat}{T:YT->BT}
  (open_:∀w:TY,(YH W4 p w N).map (λs=>(s.heap,s.gens,s.drawn,s.toks))=Z (H w.params,gs,d,k))
  (size:∀w:TY,((H w.params).isNs Tq&&gs.size==0,(H w.params).objs.size,(H w.params).nsMap Tq "__annotations__")=(true,m,ann))
  (tree:∀P,H P=Z1 (T P) m lf)
  (run:∀(w:TY) (os:Wd),(topRunT W4 p w m ann N ⟨T w.params,m,lf,gs,d,k,os⟩ (topStub p)).map (λs=>
    ((aaA (Vk p.main.body) (H w.params) s.abs.heap&&Z6 p s.abs.heap&&gensDone s.abs&&laidKept (H w.params) s.abs.heap),
    openSeen q loose (Vk p.main.body) Xt g0 s.abs,Yf s.abs))=Z (true,openGood q loose,Ya w)):LeftO p q loose Xt Yf Ya N g0:=λw=>by
 obtain⟨⟨h,gs',d',k',os⟩,e,e'⟩:=TZ.mp (open_ w);obtain⟨rfl,rfl,rfl,rfl⟩:h=H w.params/\gs'=gs/\d'=d/\k'=k:=by simpa using e'
 obtain⟨z1,z2,z3⟩:_/\_/\_:=by simpa only[aau] using size w
 obtain⟨s,r1,r2⟩:=TZ.mp (run w os);obtain⟨l1,l2,l3⟩:_/\_/\_:=by simpa only[aau] using r2
 have r:=vB r1;have ea:SharedT.abs ⟨T w.params,m,lf,gs',d',k',os⟩=⟨H w.params,gs',d',k',os⟩:=by rw[tree];rfl
 rw[ea] at r;have t:topFrom W4 p w N ⟨H w.params,gs',d',k',os⟩=Z s.abs:=by
  unfold topFrom;rw[z1,z2,z3,r];show(match aaA (Vk p.main.body) (H w.params) s.abs.heap&&Z6 p s.abs.heap&&gensDone s.abs&&laidKept (H w.params) s.abs.heap with|true=>_|false=>_)=_;rw[l1]
 unfold openEnds;rw[e];show(topFrom W4 p w N _).map _=_;rw[t];exact congrArg Z (VH l2 l3)
noncomputable def bootT (P:YT):BT:=grow (Vl P).objs.toList .nil 0
lay_quick Hd.topRunT W.topStub
def Dk (P:YT):Vl P=Z1 (bootT P) 11 {}:=(zw {} (Vl P).objs.toList .nil 0 (by kernel_rfl)).symm
noncomputable def RT (p:TR) (w:TY) (N:Nat) (os:Wd):Option Z0:=topRunT W4 p w 11 (Z (TU 6)) N ⟨bootT w.params,11,{},Y8 [],Z7,aaB,os⟩ (topStub p)
noncomputable def pA (p:TR) (P:YT) (s:Tg):Bool:=aaA (Vk p.main.body) (Vl P) s.heap&&Z6 p s.heap&&gensDone s&&laidKept (Vl P) s.heap
def pB (q:TR)(mods:List Str)(Xt:Tg->Bool)(s:Tg):Bool:=(s.heap.keysOk (Z8 q []) ((XS q).map (·.name)) ((litsOf q).map (·.1)) ((clssOf q (Z8 q [])).map (·.name))&&s.heap.accountedOkI mods&&s.heap.isNs Tq&&s.heap.isNs W6&&tablesOk q s.heap&&Xt s&&(if true then s.gens.size==0 else !leftWithCleanup s.gens))&&tabsOk q s
def pC (q:TR)(s:Tg):=(seen ((XS q).map (·.name)) (ownsOf q) [] {s with gens:=#[]},s.heap.bltView,wideSeen q s)
def pD (q:TR)(s:Tg):=(pinSeenD q (aaM q) s,plainSeenE q (Z8 q []) s,plainSeenD q [] s,clsSeenW q [] s)
lay_quick Hd.pB
lay_quick Hd.pC
lay_quick Hd.pD
def xy {x:Option α}{f:α->A}{g:α->B}{a:A}{b:B}(h1:x.map f=Z a)(h2:x.map g=Z b):x.map (λs=>(f s,g s))=Z (a,b):=by
 cases x with
 | none=>cases h1
 | some s=>simp_all
def AC {Yf:Tg->A}{Ya:TY->A}
  (open_:∀w:TY,(YH W4 p w N).map (λs=>(s.heap,s.gens,s.drawn,s.toks))=Z (Vl w.params,Y8 [],Z7,aaB))
  (size:∀w:TY,((Vl w.params).isNs Tq&&(Y8 ([]:List GenState)).size==0,(Vl w.params).objs.size,(Vl w.params).nsMap Tq "__annotations__")=(true,11,Z (TU 6)))
  (r1:∀(w:TY) (os:Wd),(RT p w N os).map (λs=>pA p w.params s.abs&&pB q (Vk p.main.body) Xt s.abs)=Z true)
  (r2:∀(w:TY) (os:Wd),(RT p w N os).map (λs=>pC q s.abs)=Z (Z9 q,YI,wideGood q))
  (r3:∀(w:TY) (os:Wd),(RT p w N os).map (λs=>pD q s.abs)=Z (pinGoodD (aaM q),aaa q (Z8 q []),aab q [],clsGoodW q []))
  (r4:∀(w:TY) (os:Wd),(RT p w N os).map (λs=>Yf s.abs)=Z (Ya w)):LeftO p q [] Xt Yf Ya N true:=
 AU open_ size Dk λw os=>by
  show(RT p w N os).map _=_;have h:=xy (xy (r1 w os) (r2 w os)) (xy (r3 w os) (r4 w os));cases e:RT p w N os with
  | none=>simp_all
  | some s=>
   rw[e] at h;obtain⟨h1,h2⟩:=Vy (T4 h);obtain⟨h1,h3⟩:=Vy h1;obtain⟨h4,h5⟩:=Vy h2;obtain⟨a,b⟩:=TJ.mp h1;obtain⟨b,c⟩:=TJ.mp b;obtain⟨c1,c2⟩:=Vy h3;obtain⟨c2,c3⟩:=Vy c2;obtain⟨d1,d2⟩:=Vy h4;obtain⟨d2,d3⟩:=Vy d2;obtain⟨d3,d4⟩:=Vy d3;exact congrArg Z (VH a (VH (VH c1 (VH c2 (VH b (VH c (VH d1 (VH d2 (VH d3 (VH c3 d4)))))))) h5))
def lk (s:Z0)(a:Nat):Option Obj:=match Nat.blt a s.n with
 | true=>(match s.tree.get a with
  | some o=>alive o
  | none=>Y)
 | false=>Y
def P7 {a:Nat}(h:lk s a=Z o):s.abs.heap.get? a=Z o:=by
 unfold lk at h;cases b:Nat.blt a s.n with
 | false=>simp_all
 | true=>
  rw[b] at h;cases g:s.tree.get a with
  | none=>simp_all
  | some x=>rw[g] at h;exact(abs_get (Nat.blt_eq.mp b) g).trans h
theorem AL {f:β->Obj}:∀{as:List Nat} {l:List β},as.map (lk s)=l.map (λp=>Z (f p))->as.map s.abs.heap.get?=l.map (λp=>Z (f p))
 | [],[],_=>rfl
 | [],_::_,h=>by cases h
 | _::_,[],h=>by cases h
 | a::as,p::l,h=>by
  obtain⟨x,y⟩:=YJ h;show s.abs.heap.get? a::as.map s.abs.heap.get?=_;rw[P7 x,AL y];rfl
def left_km {K:YT->Tp}{as:List Th}{e:∀P,as=(K P).map (·.1)}
  (open_:∀w:TY,(YH W4 p w N).map (λs=>(s.heap,s.gens,s.drawn,s.toks))=Z (Vl w.params,Y8 [],Z7,aaB))
  (size:∀w:TY,((Vl w.params).isNs Tq&&(Y8 ([]:List GenState)).size==0,(Vl w.params).objs.size,(Vl w.params).nsMap Tq "__annotations__")=(true,11,Z (TU 6)))
  (r1:∀(w:TY) (os:Wd),(RT p w N os).map (λs=>pA p w.params s.abs&&pB q (Vk p.main.body) Xt s.abs)=Z true)
  (r2:∀(w:TY) (os:Wd),(RT p w N os).map (λs=>pC q s.abs)=Z (Z9 q,YI,wideGood q))
  (r3:∀(w:TY) (os:Wd),(RT p w N os).map (λs=>pD q s.abs)=Z (pinGoodD (aaM q),aaa q (Z8 q []),aab q [],clsGoodW q []))
  (r4:∀(w:TY) (os:Wd),(RT p w N os).map (λs=>(as.map (lk s),ts.map (lk s)))=Z ((K w.params).map (λp=>Z p.2),ts.map λ_=>Z (tabObj #[]))) :
  LeftO p q [] Xt (kmHook K as e ts).obs (kmHook K as e ts).val N true:=
 AC open_ size r1 r2 r3 λw os=>by
  obtain⟨s,h1,h2⟩:=TZ.mp (r4 w os);obtain⟨a,b⟩:=Vy h2;rw[h1];exact congrArg Z (VH (AL a) (AL b))
abbrev Bw:=WD->Bool
abbrev Cu (t:Bw):={p:Bw×Bw×Bw×Bw×Bw×Bw×Bw×Bw×Bw×Bw×Bw×Bw×Bw //∀l,t l=(p.1 l&&p.2.1 l&&p.2.2.1 l&&p.2.2.2.1 l&&p.2.2.2.2.1 l&&p.2.2.2.2.2.1 l&&p.2.2.2.2.2.2.1 l&&p.2.2.2.2.2.2.2.1 l&&p.2.2.2.2.2.2.2.2.1 l&&p.2.2.2.2.2.2.2.2.2.1 l&&p.2.2.2.2.2.2.2.2.2.2.1 l&&p.2.2.2.2.2.2.2.2.2.2.2.1 l&&p.2.2.2.2.2.2.2.2.2.2.2.2 l)}
noncomputable abbrev Cu.a {t:Bw} (c:Cu t):Bw:=c.1.1
noncomputable def Cu.r {t:Bw} (c:Cu t) (l:WD):Bool:=c.1.2.1 l&&c.1.2.2.1 l&&c.1.2.2.2.1 l&&c.1.2.2.2.2.1 l&&c.1.2.2.2.2.2.1 l&&c.1.2.2.2.2.2.2.1 l&&c.1.2.2.2.2.2.2.2.1 l&&c.1.2.2.2.2.2.2.2.2.1 l&&c.1.2.2.2.2.2.2.2.2.2.1 l&&c.1.2.2.2.2.2.2.2.2.2.2.1 l&&c.1.2.2.2.2.2.2.2.2.2.2.2.1 l&&c.1.2.2.2.2.2.2.2.2.2.2.2.2 l
def Cu.ok {t:Bw}{l:WD}(c:Cu t)(x:c.a l=true)(y:c.r l=true):t l=true:=by
 rw[c.2];simp_all [Cu.r]
noncomputable def c0:Cu W.Fast.tw9446332074065402090:=⟨(_,_,_,_,_,_,_,_,_,_,_,_,_),λl=>rfl⟩
noncomputable def c1:Cu c0.a:=⟨(_,_,_,_,_,_,_,_,_,_,_,_,_),λl=>rfl⟩
noncomputable def c2:Cu c1.a:=⟨(_,_,_,_,_,_,_,_,_,_,_,_,_),λl=>rfl⟩
def said_of {l:WD}(h1:c0.r l=true)(h2:c1.r l=true)(h3:c2.r l=true)(h4:c2.a l=true):l.wellSaid=true:=by
 rw[W.Fast.te9446332074065402090];exact c0.ok (c1.ok (c2.ok h4 h3) h2) h1
end Hd
section
open PySem PySem.W PyProof.Rows
noncomputable abbrev K13.VV:TR:=(view PySem.Challenge.pw_glowrow_k13_whole_two_beams [1,2,3,4,5,6,8,9,11,12,13,14,16,17,18,19,20,21,23,24,25,26,27,28,29,30,32,33,34,35,36,37,38,39,40,41,42,43,44,45,47,48,50,51,52,53,54,55,56,57,58,59,60,61,62,63,64,65,66,67])
set_option maxHeartbeats 0 in
def K13.s1:Hd.c0.r PySem.Challenge.rw_glowrow_k13_whole_two_beams=true:=by kernel_rfl
set_option maxHeartbeats 0 in
def K13.s2:Hd.c1.r PySem.Challenge.rw_glowrow_k13_whole_two_beams=true:=by kernel_rfl
set_option maxHeartbeats 0 in
def K13.s3:Hd.c2.r PySem.Challenge.rw_glowrow_k13_whole_two_beams=true:=by kernel_rfl
set_option maxHeartbeats 0 in
def K13.s4:Hd.c2.a PySem.Challenge.rw_glowrow_k13_whole_two_beams=true:=by kernel_rfl
set_option maxHeartbeats 0 in
def K13.h1:∀(w:TY) (os:Wd),(Hd.RT (Wl PySem.Challenge.rw_glowrow_k13_whole_two_beams).prog w 7376 os).map (λs=>Hd.pA (Wl PySem.Challenge.rw_glowrow_k13_whole_two_beams).prog w.params s.abs&&Hd.pB K13.VV (Vk (Wl PySem.Challenge.rw_glowrow_k13_whole_two_beams).prog.main.body) (λs=>xlAt K13.VV [] s&&recOk (aaN (aac (Wl PySem.Challenge.rw_glowrow_k13_whole_two_beams))) s) s.abs)=Z true:=by
 intro w os;unfold Hd.RT;rw[W.Fast.te15732481512506401174,W.Fast.te2530740449226627131,W.Fast.te13930993214811372802];kernel_rfl
set_option maxHeartbeats 0 in
def K13.h2:∀(w:TY) (os:Wd),(Hd.RT (Wl PySem.Challenge.rw_glowrow_k13_whole_two_beams).prog w 7376 os).map (λs=>Hd.pC K13.VV s.abs)=Z (Z9 K13.VV,YI,wideGood K13.VV):=by
 intro w os;unfold Hd.RT;rw[W.Fast.te15732481512506401174,W.Fast.te2530740449226627131,W.Fast.te7338995916957470747];kernel_rfl
set_option maxHeartbeats 0 in
def K13.h3:∀(w:TY) (os:Wd),(Hd.RT (Wl PySem.Challenge.rw_glowrow_k13_whole_two_beams).prog w 7376 os).map (λs=>Hd.pD K13.VV s.abs)=Z (pinGoodD (aaM K13.VV),aaa K13.VV (Z8 K13.VV []),aab K13.VV [],clsGoodW K13.VV []):=by
 intro w os;unfold Hd.RT;rw[W.Fast.te15732481512506401174,W.Fast.te2530740449226627131,W.Fast.te4913325751328045840];kernel_rfl
end
namespace L2
open PySem PySem.Spec PyProof.Rows List
abbrev bN:=Sum Int Str
def tW:bN->Td->Bool
 | .inl k,v=>aaW k v
 | .inr x,v=>aav x v
def Sz (w:TY):bN->Int
 | .inl k=>hashInt k
 | .inr x=>hashStr w x
theorem bU:∀{k:bN} {v:Td},tW k v=true->(∃i t,k=T1 i/\v=Zo i t)\/(∃x t,k=WI x/\v=aa3 x t)
 | .inl i,v,h=>by
  obtain⟨t,e⟩:=Value.isInt_shape   h;exact .inl ⟨i,t,rfl,e⟩
 | .inr x,v,h=>by
  obtain⟨t,e⟩:=Value.isStrOf_shape   h;exact .inr ⟨x,t,rfl,e⟩
def Cs (i:Int)(t:Tok):tW (.inl i) (.int i t)=true:=by simp[tW,aaW]
def Di (x:Str)(t:Tok):tW (.inr x) (.str x t)=true:=by simp[tW,aav]
def Nr (a b:Int):decide ((T1 a:bN)=T1 b)=(a==b):=by
 grind
def Nx (a b:Str):decide ((WI a:bN)=WI b)=decide (a=b):=by
 simp
def Lr (a:Int)(b:Str):decide ((T1 a:bN)=WI b)=false:=decide_eq_false (λq=>nomatch q)
def LB (a:Str)(b:Int):decide ((WI a:bN)=T1 b)=false:=decide_eq_false (λq=>nomatch q)
def bC (prog:TR)(w:TY):PySem.KeyKind prog w bN where
 is:=tW
 hash:=Sz w
 inj:=λv a b ha hb=>by
  rcases bU ha with⟨i,t,rfl,rfl⟩|⟨x,t,rfl,rfl⟩
  ·rcases bU hb with⟨j,u,rfl,e⟩|⟨y,u,rfl,e⟩
   ·injection e with e1 _;rw[e1]
   ·exact nomatch e
  ·rcases bU hb with⟨j,u,rfl,e⟩|⟨y,u,rfl,e⟩
   ·exact nomatch e
   ·injection e with e1 _;rw[e1]
 byValue:=λk v h=>by
  rcases bU h with⟨i,t,rfl,rfl⟩|⟨x,t,rfl,rfl⟩ <;> rfl
 pyHash:=λhv h=>by
  rcases bU hv with⟨i,t,rfl,rfl⟩|⟨x,t,rfl,rfl⟩
  ·exact wpAny_pyHash_int h
  ·exact wpAny_pyHash_str h
 eqBool:=λhu hv h=>by
  rcases bU hu with⟨i,t,rfl,rfl⟩|⟨x,t,rfl,rfl⟩
  ·rcases bU hv with⟨j,u,rfl,rfl⟩|⟨y,u,rfl,rfl⟩
   ·rw[Nr] at h;exact Zp h
   ·rw[Lr] at h;exact YU i t y u _ _ _ _ h
  ·rcases bU hv with⟨j,u,rfl,rfl⟩|⟨y,u,rfl,rfl⟩
   ·rw[LB] at h;exact YV x t j u _ _ _ _ h
   ·rw[Nx] at h;exact wpAny_eqBool_str h
 «strs»:=λk x t v h=>by
  rcases bU h with⟨i,u,rfl,e⟩|⟨y,u,rfl,e⟩
  ·exact nomatch e
  ·injection e with e1 _
   subst e1;cases v <;> rfl
def xJ (prog:TR)(w:TY)(i:Int)(t:Tok):(bC prog w).is (.inl i) (.int i t)=true:=Cs i t
def yk (prog:TR)(w:TY)(x:Str)(t:Tok):(bC prog w).is (.inr x) (.str x t)=true:=Di x t
inductive V where
 | non|bl (b:Bool)|int (i:Int)|str (x:Str)|byt (b:Array UInt8)|flt (b:UInt64)|ref (a:Th)|ty (n:String)
 deriving DecidableEq
def aO:V->Td->Prop
 | .non,u=>u=Ue
 | .bl b,u=>u=aaZ b
 | .int i,u=>∃t,u=Zo i t
 | .str x,u=>∃t,u=aa3 x t
 | .byt b,u=>∃t,u=Value.bytes b t
 | .flt b,u=>∃t,u=Value.float b t
 | .ref a,u=>u=TU a
 | .ty n,u=>u=aa0 n
abbrev aS:List V->List Td->Prop:=Paired aO
def aS.length (r:aS xs us):xs.length=us.length:=Paired.length r
theorem aS.get:∀{xs:List V} {us:List Td} {i:Nat} {x:V},aS xs us->xs[i]?=Z x->∃u,us[i]?=Z u/\aO x u
 | _,_,_,_,.nil,e=>by simp_all
 | _,_,0,_,.cons r _,e=>by simp at e;subst e;exact⟨_,rfl,r⟩
 | _,_,i+1,x,.cons _ t,e=>by
  obtain⟨u,h1,h2⟩:=aS.get   t (by assumption);exact⟨u,by assumption,h2⟩
theorem aS.set (r:aO x u):∀{xs:List V} {us:List Td} (i:Nat),aS xs us->aS (xs.set i x) (us.set i u)
 | _,_,_,.nil=>.nil
 | _,_,0,.cons _ t=>.cons r t
 | _,_,i+1,.cons q t=>.cons q (aS.set r i t)
theorem aS.append:∀{xs ys:List V} {us ws:List Td},aS xs us->aS ys ws->aS (xs++ys) (us++ws)
 | _,_,_,_,.nil,s=>s
 | _,_,_,_,.cons r t,s=>.cons r (aS.append t s)
theorem aS.take:∀{xs:List V} {us:List Td} (n:Nat),aS xs us->aS (xs.take n) (us.take n)
 | _,_,0,_=>.nil
 | _,_,_+1,.nil=>.nil
 | _,_,n+1,.cons r t=>.cons r (aS.take n t)
theorem aS.drop:∀{xs:List V} {us:List Td} (n:Nat),aS xs us->aS (xs.drop n) (us.drop n)
 | _,_,0,r=>r
 | _,_,_+1,.nil=>.nil
 | _,_,n+1,.cons _ t=>aS.drop n t
def lE:Option V->Option Td->Prop
 | some v,Z u=>aO v u
 | none,Y=>True
 | _,_=>False
def KV {κ:Type}:List (κ×V)->List (κ×Td)->Prop:=Paired λ(p:κ×V) (q:κ×Td)=>p.1=q.1/\aO p.2 q.2
def kV:bN->V
 | .inl i=>.int i
 | .inr x=>.str x
inductive HO where
 | lst (xs:List V)
 | tup (xs:List V)
 | dK (kvs:List (bN×V))|dT (kvs:List (List bN×V))
 | set (S:Int->Bool) (n:Nat)
 | ins (C dx:Th) (fs:List (Str×V))
 | own (x:Th)
 | xd (fs:List (Str×V))
 | met (f x:Th)
 | rng (lo hi:Int)
 | frz (o:Obj) (u:HO)
 | tbl (ps:Array Td)
 | ext (φ:UG->Prop)
abbrev Hp:=Th->Option HO
def bj (H:Hp)(a:Th)(o:HO):Hp:=λb=>if b=a then Z o else H b
def aV {a:Th}:bj H a o a=Z o:=by unfold bj;simp
def ao {a:Th}(h:b≠a):bj H a o b=H b:=by unfold bj;rw[if_neg h]
def HD {a:Th}:bj (bj H a o) a u=bj H a u:=by
 unfold bj;simp_all
def xQ {H:Hp}{a:Th}(h:H a=Z o)(h':H b=Z u)(d:o≠u):a≠b:=by
 intro e;simp_all
def bF {H:Hp}{a:Th}(h:H a=Z o)(h':H b=Y):a≠b:=by
 grind
section
variable (P:TR)(w:TY)
def bM (H:Hp)(h:UG)(a:Th):HO->Prop
 | .lst xs=>xs.length<=To/\∃(its:List Td) (n:Nat),aS xs its/\h.get? a=Z {cls:=.type "list",data:=.seq its.toArray n}
 | .tup xs=>xs.length<=To/\∃its:List Td,aS xs its/\ZH h a its.toArray
 | .dK kvs=>kvs.length<=To/\(a==UA)=false/\∃vs,KV kvs vs/\h.DictOf (bC P w) a vs
 | .dT kvs=>kvs.length<=To/\(a==UA)=false/\∃xs:List (List bN×Th×Td),
   Paired (λ(p:List bN×V) (q:List bN×Th×Td)=>p.1=q.1/\H q.2.1=Z (.tup (p.1.map kV))/\aO p.2 q.2.2) kvs xs/\
   ∃o es ep,h.get? a=Z o/\o.ExactDict/\o.data=.dict es ep/\es.toList=xs.map (aad (WE (bC P w)))/\(xs.map (·.1)).Nodup
 | .set S n=>h.SetOf (intKind P w) a S n
 | .ins C dx fs=>H dx=Z (.own a)/\fs.length<=1000/\dx≠a/\h.get? a=Z (XC C dx)/\
   ∃mA,h.Ns1 dx mA/\(∀f,lE (fs.lookup f) (mA f))/\PySem.Within mA (fs.map (·.1))
 | .own _=>∃o,h.get? a=Z o
 | .xd fs=>∃mA,h.Ns1 a mA/\∀f,lE (fs.lookup f) (mA f)
 | .rng lo hi=>∃t u v,h.get? a=Z {cls:=.type "range",data:=.fields #[.int lo t,.int hi u,.int 1 v]}
 | .frz o u=>h.get? a=Z o/\bM H h a u
 | .tbl ps=>h.get? a=Z {cls:=.none,data:=.fields ps}
 | .met f x=>h.get? a=Z (W.methodObj (.ref f) (.ref x))
 | .ext φ=>φ h/\(∃o,h.get? a=Z o)/\∀h1 h2:UG,φ h1->(∀o,h1.get? a=Z o->h2.get? a=Z o)->φ h2
def md (H:Hp)(h:UG):Prop:=∀a o,H a=Z o->bM P w H h a o
end
section
variable {P:TR}{w:TY}{H H':Hp}{h h':UG}{a:Th}{o:HO}
def bM.lt (x:bM P w H h a o):a<h.objs.size:=by
 cases o with
 | lst xs=>obtain⟨_,_,_,_,e⟩:=x;exact Tr e
 | tup xs=>obtain⟨_,_,_,p⟩:=x;exact p.lt
 | dK kvs=>obtain⟨_,_,_,_,o,_,_,e,_⟩:=x;exact Tr e
 | dT kvs=>obtain⟨_,_,_,_,o,_,_,e,_⟩:=x;exact Tr e
 | set S n=>obtain⟨o,_,_,_,e,_⟩:=x;exact Tr e
 | ins C dx fs=>obtain⟨_,_,_,e,_⟩:=x;exact Tr e
 | own y=>obtain⟨_,e⟩:=x;exact Tr e
 | xd fs=>obtain⟨_,⟨_,_,_,e,_⟩,_⟩:=x;exact Tr e
 | rng lo hi=>obtain⟨_,_,_,e⟩:=x;exact Tr e
 | frz ob u=>obtain⟨e,_⟩:=x;exact Tr e
 | tbl ps=>exact Tr (x)
 | met f y=>exact Tr (x)
 | ext φ=>obtain⟨_,⟨_,e⟩,_⟩:=x;exact Tr e
theorem Paired.mapP {F G:α->β->Prop}:∀{l₁:List α} {l₂:List β},Paired F l₁ l₂->(∀a b,F a b->G a b)->Paired G l₁ l₂
 | _,_,.nil,_=>.nil
 | _,_,.cons r t,f=>.cons (f _ _ r) (Paired.mapP t f)
def bM.stay (x:bM P w H h a o)(k:∀b u,(b=a\/H b=Z (.own a))->h.get? b=Z u->h'.get? b=Z u)
  (ho:∀b,H b=Z (.own a)->H' b=Z (.own a)) (ht:∀b xs,H b=Z (.tup xs)->H' b=Z (.tup xs)):bM P w H' h' a o:=by
 induction o with
 | lst xs=>obtain⟨z,its,n,r,e⟩:=x;exact⟨z,its,n,r,k _ _ (.inl rfl) e⟩
 | tup xs=>obtain⟨z,its,r,ob,e,c⟩:=x;exact⟨z,its,r,ob,k _ _ (.inl rfl) e,c⟩
 | dK kvs=>obtain⟨z,y,vs,r,ob,es,ep,e,c⟩:=x;exact⟨z,y,vs,r,ob,es,ep,k _ _ (.inl rfl) e,c⟩
 | dT kvs=>
  obtain⟨z,y,xs,r,ob,es,ep,e,c⟩:=x;exact⟨z,y,xs,Paired.mapP r λp q z=>⟨z.1,ht _ _ z.2.1,z.2.2⟩,ob,es,ep,k _ _ (.inl rfl) e,c⟩
 | set S n=>obtain⟨ob,es,ep,t,e,c⟩:=x;exact⟨ob,es,ep,t,k _ _ (.inl rfl) e,c⟩
 | ins C dx fs=>
  obtain⟨d,z,ne,e,mA,⟨od,es,ep,e2,c⟩,r⟩:=x;exact⟨ho _ d,z,ne,k _ _ (.inl rfl) e,mA,⟨od,es,ep,k _ _ (.inr d) e2,c⟩,r⟩
 | own y=>obtain⟨ob,e⟩:=x;exact⟨ob,k _ _ (.inl rfl) e⟩
 | xd fs=>obtain⟨mA,⟨od,es,ep,e,c⟩,r⟩:=x;exact⟨mA,⟨od,es,ep,k _ _ (.inl rfl) e,c⟩,r⟩
 | rng lo hi=>obtain⟨t,u,v,e⟩:=x;exact⟨t,u,v,k _ _ (.inl rfl) e⟩
 | frz ob u ih=>obtain⟨e,q⟩:=x;exact⟨k _ _ (.inl rfl) e,ih q⟩
 | tbl ps=>
  have e:h.get? a=Z {cls:=.none,data:=.fields ps}:=x;exact k a _ (.inl rfl) e
 | met f y=>
  exact k a _ (.inl rfl) x
 | ext φ=>obtain⟨p,⟨o,e⟩,st⟩:=x;exact⟨st _ _ p λo q=>k _ _ (.inl rfl) q,⟨o,k _ _ (.inl rfl) e⟩,st⟩
def md.lt (x:md P w H h)(e:H a=Z o):a<h.objs.size:=(x a o e).lt
def md.fresh (x:md P w H h)(e:h.objs.size<=a):H a=Y:=by
 cases q:H a with
 | none=>rfl
 | some u=>exact absurd (Tu (x.lt q) e) (U9 _)
def md.kept (x:md P w H h)(k:∀b u,h.get? b=Z u->h'.get? b=Z u):md P w H h':=λa o e=>
 (x a o e).stay (λb u _ q=>k b u q) (λ_ q=>q) λ_ _ q=>q
def md.laid (x:md P w H h)(k:∀b u,h.get? b=Z u->h'.get? b=Z u)(hp:h.objs.size<=a)(new:bM P w (bj H a o) h' a o):md P w (bj H a o) h':=λb u e=>by
 have hn:=x.fresh hp
 by_cases hb:b=a
 ·subst hb;rw[aV] at e;grind
 ·rw[ao hb] at e;exact(x b u e).stay (λc v _ q=>k c v q) (λc q=>by rwa [ao (bF q hn)]) λc xs q=>by rwa [ao (bF q hn)]
end
def Rd (H:Hp)(a:Th)(u:HO):Prop:=H a=Z u\/∃o,H a=Z (.frz o u)
def Rd.ok {a:Th}(r:Rd H a u)(x:md P w H h):bM P w H h a u:=by
 rcases r with r|⟨o,r⟩
 ·exact x a u r
 ·obtain⟨_,q⟩:=x a _ r;omega
def OP:Option HO->Prop
 | some (.lst _)=>True
 | some (.dK _)=>True
 | some (.dT _)=>True
 | some (.set _ _)=>True
 | some (.ins _ _ _)=>True
 | some (.ext _)=>True
 | _=>False
section
variable {P:TR}{w:TY}{H:Hp}{h h':UG}{x e:Th}{o':HO}
def md.write (ok:md P w H h)(mu:OP (H x))(he:e=x\/H e=Z (.own x))(k:∀b u,b≠e->h.get? b=Z u->h'.get? b=Z u)(heo:∃u,h'.get? e=Z u)
  (new:bM P w (bj H x o') h' x o'):md P w (bj H x o') h':=λb u q=>by
 have nown:∀c y,H c=Z (.own y)->c≠x:=λc y r z=>by subst z;rwa [r] at mu
 by_cases hb:b=x
 ·subst hb;rw[aV] at q;cases q;exact new
 ·rw[ao hb] at q
  by_cases hbe:b=e
  ·have q':H b=Z (.own x):=by
    simp_all
   rw[q] at q';cases q';obtain⟨v,hv⟩:=heo;exact⟨v,by rwa [hbe]⟩
  ·refine(ok b u q).stay (λc v hc r=>k c v ?_ r) (λc r=>by rw[ao (nown c b r)];exact r) λc xs r=>by rw[ao ((λc xs r z=>by subst z;rw[r] at mu;exact mu) c xs r)];exact r
   grind
end
structure Un (fs ex:List Th)(H H':Hp)(h h':UG):Prop where
 keep:∀b o,h.get? b=Z o->H b=Y->b∉fs->b∉ex->h'.get? b=Z o
 slot:∀b o,h.get? b=Z o->H b=Y->b∈fs->b∉ex->∃sl,h'.get? b=Z {o with slots:=sl}
 free:∀b o,h.get? b=Z o->H b=Y->b∉ex->H' b=Y
 there:∀b o,h.get? b=Z o->b∉ex->∃o',h'.get? b=Z o'
 tups:∀b xs,H b=Z (.tup xs)->H' b=Z (.tup xs)
 frzs:∀b o u,H b=Z (.frz o u)->H' b=Z (.frz o u)
 tbls:∀b ps,H b=Z (.tbl ps)->∃more,H' b=Z (.tbl (ps++more))
section
variable {fs fs' ex ex':List Th}{H H1 H2:Hp}{h h1 h2 h':UG}{a x e:Th}{o:HO}
def Un.any (u:Un fs ex H H1 h h1)(q:h.get? b=Z ob)(n:H b=Y)(hx:b∉ex):∃sl,h1.get? b=Z {ob with slots:=sl}:=by
 by_cases hb:b∈fs
 ·exact u.slot b ob q n hb hx
 ·exact⟨ob.slots,u.keep b ob q n hb hx⟩
def Un.kept (k:∀b u,h.get? b=Z u->h'.get? b=Z u):Un fs ex H H h h':=
 ⟨λb ob q _ _ _=>k b ob q,λb ob q _ _ _=>⟨ob.slots,k b ob q⟩,λ_ _ _ n _=>n,λb ob q _=>⟨ob,k b ob q⟩,λ_ _ q=>q,λ_ _ _ q=>q,λ_ ps q=>⟨#[],by simp_all⟩⟩
def Un.refl:Un fs ex H H h h:=Un.kept λ_ _ q=>q
def Un.laid (k:∀b u,h.get? b=Z u->h'.get? b=Z u)(hp:h.objs.size<=a)(hn:H a=Y):Un fs ex H (bj H a o) h h' where
 keep:=λb u q _ _ _=>k b u q
 slot:=λb u q _ _ _=>⟨u.slots,k b u q⟩
 free:=λb u q n _=>by rwa [ao (TB (Tu (Tr q) hp))]
 there:=λb u q _=>⟨u,k b u q⟩
 tups:=λb xs q=>by rwa [ao (bF q hn)]
 frzs:=λb u xs q=>by rwa [ao (bF q hn)]
 tbls:=λb ps q=>⟨#[],by rw[ao (bF q hn),q];rfl⟩
def Un.write (mu:OP (H x))(he:e=x\/H e=Z (.own x))(k:∀b u,b≠e->h.get? b=Z u->h'.get? b=Z u)(heo:∃u,h'.get? e=Z u):Un fs ex H (bj H x o) h h':=by
 have hx:∀b,H b=Y->b≠x:=λb n z=>by subst z;rwa [n] at mu
 have hb:∀b,H b=Y->b≠e:=λb n z=>by
  grind
 have hm:∀b u,H b=Z u->¬OP (Z u)->b≠x:=λb u q nm z=>by simp_all
 refine⟨λb u q n _ _=>k b u (hb b n) q,λb u q n _ _=>⟨u.slots,k b u (hb b n) q⟩,λb u q n _=>by rw[ao (hx b n)];exact n,λb u q _=>?_,
  λb xs q=>by rw[ao (hm b _ q λz=>z)];exact q,λb u xs q=>by rwa [ao (hm b _ q λz=>z)],λb ps q=>⟨#[],by rw[ao (hm b _ q λz=>z),q];simp⟩⟩
 by_cases hbe:b=e
 ·simp_all
 ·exact⟨u,k b u hbe q⟩
end
def trk (h:UG)(H:Hp):List Th:=(Tw h.objs.size).filter λa=>(H a).isSome
def wO (h:UG)(H:Hp):UG:=Zq h (trk h H)
def Ce (h:UG)(H:Hp):(wO h H).objs.size=h.objs.size:=W.hideAll_size _ _
def E8 (e:h.get? b=Z o)(n:H b=Y):(wO h H).get? b=Z o:=
 Xv _ e λhm=>by
  have q:=(mem_filter.mp hm).2
  simp_all
def JO (e:(wO h H).get? b=Z o):h.get? b=Z o/\H b=Y:=by
 have e':=W.of_hideAll (trk h H) e;refine⟨e',?_⟩;cases q:H b with
 | none=>rfl
 | some x=>
  have z:(wO h H).get? b=Y:=W.hideAll_none (trk h H) (mem_filter.mpr ⟨XT.mpr (Tr e'),by simp[q]⟩)
  grind
def IK (g h:UG)(L:Th):List (Th×Obj):=(Tw h.objs.size).filterMap λa=>if a=L\/(g.get? a).isSome=true then Y else(h.get? a).map λo=>(a,o)
def rest (g h:UG)(L d:Th):List (Th×Obj):=(IK g h L).filter λp=>decide (p.1≠d)
structure Mod (K:Tp)(mg:Str->Option Td)(base:UG):Prop where
 kin:K.In base
 glob:base.Ns Tq mg
 blt:∃mb,base.Ns W6 mb/\∀x:Str,x≠"__name__"->mb x=UL x
 nolimit:base.NoLimit
structure Cx where
 prog:TR
 w:TY
 K:Tp
 mg:Str->Option Td
 base:UG
 A:Ux
 N:List Str
 s₀:Tg
 H₀:Hp
 env:Env
 outer:List Env
 stack:List Env
 ex:List Th
 fn:Str->Bool
 calm:Bool
 pn:List (Th×Obj)
 xe:Td->Tg->Prop
def uI (l:List Env):List Th:=l.filterMap (·.frame)
abbrev Cx.fs (X:Cx):List Th:=uI X.outer
def NJ (sc:X8)(x:Str):Prop:=sc.names.lookup x=Z .local\/sc.names.lookup x=Z .cell\/sc.names.lookup x=Z .free
def G3 (sc:X8)(x:Str):Prop:=sc.names.lookup x=Z .local\/sc.names.lookup x=Z .cell
def RG (env:Env)(h:UG)(m:Str->Option Td)(x:Str)(u:Td):Prop:=
 (env.kindOf x=Z .local/\m x=Z u)\/((env.kindOf x=Z .cell\/env.kindOf x=Z .free)/\∃c,env.cells.lookup x=Z c/\h.IsCell c (Z u))
structure Cx.Ok (X:Cx):Prop where
 mod:Mod X.K X.mg X.base
 kind:X.env.scope.kind=.function
 glob:X.env.globals=Tq
 blt:X.env.builtins=W6
 above:X.s₀.heap.objs.size<=X.env.locals
 inj:∀x y c,X.env.cells.lookup x=Z c->X.env.cells.lookup y=Z c->x=y
 has:∀x,(X.env.kindOf x=Z .cell\/X.env.kindOf x=Z .free)->∃c,X.env.cells.lookup x=Z c
 cab:∀x c,X.fn x=true->X.env.cells.lookup x=Z c->X.s₀.heap.objs.size<=c
 hd:X.calm=true->X.A.handled=Y
 frames:X.A.frames=Z X.stack
 stk:X.stack=X.outer\/(X.stack=X.env::X.outer/\X.env.frame=Z X.env.locals)
 exf:∀b∈X.ex,b≠X.env.locals/\∀x c,X.env.cells.lookup x=Z c->c≠b
 bs:∀b o,X.base.get? b=Z o->X.s₀.heap.get? b=Z o/\X.H₀ b=Y
 bsz:X.base.objs.size<=X.s₀.heap.objs.size
 noex:∀b o,X.base.get? b=Z o->b∉X.ex
 exfs:∀b∈X.ex,b∉X.fs
 funs:X.s₀.heap.FunFrames X.base X.outer
 frf:∀b∈X.fs,X.H₀ b=Y
structure Inv (X:Cx)(af:List (Th×Obj))(σ:List (Option V))(H:Hp)(s:Tg):Prop where
 ok:X.Ok
 os:s.os=X.s₀.os
 bare:Xo s.gens
 base:Un X.fs X.ex X.H₀ H X.s₀.heap s.heap
 loc:∃m,s.heap.Ns X.env.locals m/\∀(i:Nat) (x:Str) (v:V),X.N[i]?=Z x->σ[i]?=Z (Z v)->NJ X.env.scope x->∃u,aO v u/\RG X.env s.heap m x u
 cell:∀x c,X.env.cells.lookup x=Z c->∃v,s.heap.IsCell c v
 free:H X.env.locals=Y
 freeC:∀x c,X.env.cells.lookup x=Z c->H c=Y
 pin:∀p∈X.pn++af,s.heap.get? p.1=Z p.2/\H p.1=Y/\p.1≠X.env.locals/\p.1∉X.fs/\∀v,p.2.data≠.cell v
 hok:md X.prog X.w H s.heap
 len:σ.length=X.N.length
section
variable {X:Cx}{af:List (Th×Obj)}{σ:List (Option V)}{H H':Hp}{s:Tg}{h':UG}
def Cx.Ok.nofr (ok:X.Ok)(e:X.base.get? b=Z o):b∉X.fs:=λhb=>by
 have:=(ok.funs.mem hb).1
 grind
def Inv.bs (I:Inv X af σ H s):∀b o,X.base.get? b=Z o->s.heap.get? b=Z o/\H b=Y:=λb o e=>
 ⟨I.base.keep b o (I.ok.bs b o e).1 (I.ok.bs b o e).2 (I.ok.nofr e) (I.ok.noex b o e),I.base.free b o (I.ok.bs b o e).1 (I.ok.bs b o e).2 (I.ok.noex b o e)⟩
def Inv.bk (I:Inv X af σ H s):∀b o,X.base.get? b=Z o->s.heap.get? b=Z o:=λb o e=>(I.bs b o e).1
def Inv.mod (I:Inv X af σ H s):Mod X.K X.mg X.base:=I.ok.mod
def Inv.kIn (I:Inv X af σ H s):X.K.In s.heap:=I.ok.mod.kin.keeps I.bk
def Inv.lt (I:Inv X af σ H s):X.env.locals<s.heap.objs.size:=let ⟨_,hn,_⟩:=I.loc;hn.lt
def Inv.sz (I:Inv X af σ H s):X.s₀.heap.objs.size<=s.heap.objs.size:=TL I.ok.above (V3 I.lt)
def Inv.nofs (I:Inv X af σ H s){a:Th}(h:s.heap.objs.size<=a):a∉X.fs:=λhb=>by
 obtain⟨_,o,ho,_⟩:=I.ok.funs.mem hb;exact absurd (Tu (Tr ho) (TL I.sz h)) (U9 _)
def Inv.cne (I:Inv X af σ H s):∀x c,X.env.cells.lookup x=Z c->c≠X.env.locals:=λx c e z=>by
 obtain⟨v,o,ho,hd⟩:=I.cell x c e;obtain⟨m,⟨o',es,ep,ho',hd',_⟩,_⟩:=I.loc
 grind
def Inv.funs (I:Inv X af σ H s):s.heap.FunFrames X.base X.outer:=by
 have all:∀(l:List Env),(∀b∈uI l,b∈X.fs)->X.s₀.heap.FunFrames X.base l->s.heap.FunFrames X.base l:=by
  intro l
  induction l with
  | nil=>intro _ _;trivial
  | cons env r ih=>
   intro hs hl;obtain⟨hk,⟨L,o,hf,hn,ho,hd⟩,hr⟩:=hl;have hL:=hs L (by unfold uI;rw[Yj,hf];exact TN);obtain⟨sl,e⟩:=I.base.slot L o ho (I.ok.frf L hL) hL λz=>I.ok.exfs L z hL
   exact⟨hk,⟨L,_,hf,hn,e,hd⟩,ih (λb hb=>hs b (by unfold uI;rw[Yj,hf];exact T6 _ hb)) hr⟩
 exact all X.outer (λ_ hb=>hb) I.ok.funs
def Inv.stack (I:Inv X af σ H s):s.heap.FunFrames X.base X.stack:=by
 rcases I.ok.stk with e|⟨e,hf⟩
 ·rw[e];exact I.funs
 ·rw[e];obtain⟨m,hn,_⟩:=I.loc;refine .cons (by rw[I.ok.kind];decide) hf hn ?_ I.funs;exact Heap.get?_none_of_le (TL I.ok.bsz I.ok.above)
def Inv.stkSub (I:Inv X af σ H s):∀b∈uI X.stack,b∈X.env.locals::X.fs:=λb hb=>by
 rcases I.ok.stk with e|⟨e,hf⟩
 ·simp_all
 ·rw[e] at hb;unfold uI at hb;rwa [Yj,hf] at hb
def Inv.stkFree (I:Inv X af σ H s):∀b∈uI X.stack,H b=Y:=λb hb=>by
 rcases Ur.mp (I.stkSub b hb) with e|hb
 ·rw[e];exact I.free
 ·obtain⟨_,o,ho,_⟩:=I.ok.funs.mem hb;exact I.base.free b o ho (I.ok.frf b hb) λz=>I.ok.exfs b z hb
theorem Inv.step {ch:List Th}(I:Inv X af σ H s)
  (hch:∀b∈ch,(b∈X.ex\/X.s₀.heap.objs.size<=b)/\b≠X.env.locals/\(∀x c,X.env.cells.lookup x=Z c->c≠b)/\∀p∈X.pn++af,p.1≠b)
  (keep:∀b o,b≠X.env.locals->b∉X.fs->b∉ch->s.heap.get? b=Z o->H b=Y->h'.get? b=Z o)
  (slot:∀b o,b≠X.env.locals->b∈X.fs->b∉ch->s.heap.get? b=Z o->H b=Y->∃sl,h'.get? b=Z {o with slots:=sl}) (free:∀b o,b∉ch->s.heap.get? b=Z o->H b=Y->H' b=Y)
  (there:∀b o,b∉ch->s.heap.get? b=Z o->∃o',h'.get? b=Z o')
  (tups:∀b xs,H b=Z (.tup xs)->H' b=Z (.tup xs)) (frzs:∀b o u,H b=Z (.frz o u)->H' b=Z (.frz o u)) (tbls:∀b ps,H b=Z (.tbl ps)->∃more,H' b=Z (.tbl (ps++more)))
  (ns:∀m,s.heap.Ns X.env.locals m->h'.Ns X.env.locals m) (hok:md X.prog X.w H' h') (hg:Xo g') :
  Inv X af σ H' {s with heap:=h',gens:=g',drawn:=d',toks:=t'}:=by
 have neL:∀b o,X.s₀.heap.get? b=Z o->b≠X.env.locals:=λb o e=>TB (Tu (Tr e) I.ok.above)
 have neC:∀b o,X.s₀.heap.get? b=Z o->b∉X.ex->b∉ch:=λb o e hx hb=>by
  rcases(hch b hb).1 with z|z
  ·exact hx z
  ·exact absurd (Tu (Tr e) z) (U9 _)
 have cellK:∀x c,X.env.cells.lookup x=Z c->∀v,s.heap.IsCell c v->h'.IsCell c v:=λx c e v hxx=>by
  obtain⟨o,ho,hd⟩:=hxx;have nch:c∉ch:=λz=>(hch c z).2.2.1 x c e rfl
  by_cases hc:c∈X.fs
  ·obtain⟨sl,q⟩:=slot c o (I.cne x c e) hc nch ho (I.freeC x c e);exact⟨_,q,hd⟩
  ·exact⟨o,keep c o (I.cne x c e) hc nch ho (I.freeC x c e),hd⟩
 refine⟨I.ok,I.os,hg,⟨λb o e n hb hx=>?_,λb o e n hb hx=>?_,λb o e n hx=>?_,λb o e hx=>?_,λb xs e=>tups b xs (I.base.tups b xs e),λb o xs e=>frzs b o xs (I.base.frzs b o xs e),λb ps e=>?_⟩,?_,λx c e=>?_,?_,λx c e=>?_,λp hp=>?_,hok,I.len⟩
 ·exact keep b o (neL b o e) hb (neC b o e hx) (I.base.keep b o e n hb hx) (I.base.free b o e n hx)
 ·obtain⟨sl,e1⟩:=I.base.slot b o e n hb hx;obtain⟨sl',e2⟩:=slot b _ (neL b o e) hb (neC b o e hx) e1 (I.base.free b o e n hx);exact⟨sl',e2⟩
 ·obtain⟨o',e1⟩:=I.base.there b o e hx;exact free b o' (neC b o e hx) e1 (I.base.free b o e n hx)
 ·obtain⟨o',e1⟩:=I.base.there b o e hx;exact there b o' (neC b o e hx) e1
 ·obtain⟨m1,e1⟩:=I.base.tbls b ps e;obtain⟨m2,e2⟩:=tbls b _ e1;exact⟨m1++m2,by rw[e2,Array.append_assoc]⟩
 ·obtain⟨m,hn,hl⟩:=I.loc;refine⟨m,ns m hn,λi x v e1 e2 e3=>?_⟩;obtain⟨u,r,l⟩:=hl i x v e1 e2 e3;refine⟨u,r,?_⟩;rcases l with l|⟨k,c,e,z⟩
  ·exact .inl l
  ·exact .inr ⟨k,c,e,cellK x c e _ z⟩
 ·obtain⟨v,z⟩:=I.cell x c e;exact⟨v,cellK x c e v z⟩
 ·obtain⟨m,⟨o,_,_,ho,_⟩,_⟩:=I.loc;exact free _ o (λz=>(hch _ z).2.1 rfl) ho I.free
 ·obtain⟨v,o,ho,hd⟩:=I.cell x c e;exact free c o (λz=>(hch c z).2.2.1 x c e rfl) ho (I.freeC x c e)
 ·obtain⟨e,n,ne,nf,d⟩:=I.pin p hp;have nch:p.1∉ch:=λz=>(hch p.1 z).2.2.2 p hp rfl
  exact⟨keep p.1 p.2 ne nf nch e n,free p.1 p.2 nch e n,ne,nf,d⟩
def Inv.un (I:Inv X af σ H s)(u:Un X.fs [] H H' s.heap h')(hok:md X.prog X.w H' h'):Inv X af σ H' {s with heap:=h',toks:=t'}:=by
 obtain⟨m,⟨o,es,ep,ho,r⟩,_⟩:=id I.loc;obtain⟨sl,hL⟩:=u.any ho I.free (by simp);exact I.step   (ch:=[]) (λ_ z=>nomatch z) (λb o _ hb _ e n=>u.keep b o e n hb (by simp)) (λb o _ hb _ e n=>u.slot b o e n hb (by simp)) (λb o _ e n=>u.free b o e n (by simp)) (λb o _ e=>u.there b o e (by simp)) u.tups u.frzs u.tbls (λm' hm=>by
  obtain⟨o',es',ep',ho',r'⟩:=hm;rw[ho] at ho';cases ho';exact⟨_,es',ep',hL,r'⟩) hok I.bare
def Inv.call (I:Inv X af σ H s)(u:Un (uI X.stack) ch H H' s.heap h')(hok:md X.prog X.w H' h')(hg:Xo g')
  (hch:∀b∈ch,(b∈X.ex\/X.s₀.heap.objs.size<=b)/\b≠X.env.locals/\(∀x c,X.env.cells.lookup x=Z c->c≠b)/\∀p∈X.pn++af,p.1≠b) :
  Inv X af σ H' {s with heap:=h',gens:=g',drawn:=d',toks:=t'}:=by
 obtain⟨m,⟨o,es,ep,ho,r⟩,_⟩:=id I.loc;obtain⟨sl,hL⟩:=u.any ho I.free λz=>(hch _ z).2.1 rfl
 exact I.step  hch (λb o hL hb hc e n=>u.keep b o e n (λz=>(Ur.mp (I.stkSub b z)).elim hL hb) hc) (λb o _ _ hc e n=>u.any e n hc) (λb o hc e n=>u.free b o e n hc) (λb o hc e=>u.there b o e hc) u.tups u.frzs u.tbls (λm' hm=>by
  obtain⟨o',es',ep',ho',r'⟩:=hm;rw[ho] at ho';cases ho';exact⟨_,es',ep',hL,r'⟩) hok hg
def Inv.turned (I:Inv X af σ H s)(k:∀b o,b≠it->s.heap.get? b=Z o->h'.get? b=Z o)(hn:H it=Y)(hL:it≠X.env.locals)
  (h1:it∈X.ex\/X.s₀.heap.objs.size<=it) (h2:∀x c,X.env.cells.lookup x=Z c->c≠it) (h3:∀p∈X.pn++af,p.1≠it):Inv X af σ H {s with heap:=h',toks:=t'}:=by
 have nit:∀b u,H b=Z u->b≠it:=λb u e z=>by grind
 refine I.step   (ch:=[it]) (λb hb=>?_) (λb o _ _ hc e _=>k b o (λz=>hc (by simp[z])) e) (λb o _ _ hc e _=>⟨o.slots,k b o (λz=>hc (by simp[z])) e⟩) (λ_ _ _ _ n=>n)
  (λb o hc e=>⟨o,k b o (λz=>hc (by simp[z])) e⟩) (λ_ _ e=>e) (λ_ _ _ e=>e) (λb ps e=>⟨#[],by rw[e];simp⟩) (λm hm=>?_) (λb u e=>?_) I.bare
 ·have e:b=it:=by simpa using hb
  subst e;exact⟨h1,hL,h2,h3⟩
 ·obtain⟨o,es,ep,ho,r⟩:=hm;exact⟨o,es,ep,k _ o (Uj hL) ho,r⟩
 ·refine(I.hok b u e).stay (λc v hc q=>k c v ?_ q) (λ_ q=>q) λ_ _ q=>q
  rcases hc with z|z
  ·rw[z];exact nit b u e
  ·exact nit c _ z
def Inv.tok (I:Inv X af σ H s)(t:Nat):Inv X af σ H {s with toks:=t}:=I.un   Un.refl I.hok
def Inv.kept (I:Inv X af σ H s)(k:∀b u,s.heap.get? b=Z u->h'.get? b=Z u):Inv X af σ H {s with heap:=h',toks:=t'}:=I.un (Un.kept k) (I.hok.kept k)
def Inv.laid {a:Th}(I:Inv X af σ H s)(k:∀b u,s.heap.get? b=Z u->h'.get? b=Z u)(hp:s.heap.objs.size<=a)(new:bM X.prog X.w (bj H a o) h' a o) :
  Inv X af σ (bj H a o) {s with heap:=h',toks:=t'}:=I.un (Un.laid k hp (I.hok.fresh hp)) (I.hok.laid k hp new)
def Inv.write (I:Inv X af σ H s)(mu:OP (H x))(he:e=x\/H e=Z (.own x))(k:∀b u,b≠e->s.heap.get? b=Z u->h'.get? b=Z u)(heo:∃u,h'.get? e=Z u)
  (new:bM X.prog X.w (bj H x o) h' x o):Inv X af σ (bj H x o) {s with heap:=h',toks:=t'}:=I.un (Un.write mu he k heo) (I.hok.write mu he k heo new)
def Inv.pins_of (I:Inv X af σ H s)(h:∀p∈pins',s.heap.get? p.1=Z p.2/\H p.1=Y/\p.1≠X.env.locals/\p.1∉X.fs/\∀v,p.2.data≠.cell v):Inv X pins' σ H s:=
 ⟨I.ok,I.os,I.bare,I.base,I.loc,I.cell,I.free,I.freeC,λp hp=>(Xp.mp hp).elim (λz=>I.pin p (ZQ _ z)) (h p),I.hok,I.len⟩
def xV {N:List Str}(hN:N.Nodup){i j:Nat}(a:N[i]?=Z x)(b:N[j]?=Z x):i=j:=by
 obtain⟨h1,e1⟩:=Tf.mp a;obtain⟨h2,e2⟩:=Tf.mp b;exact(getElem_inj hN).mp (e1.trans e2.symm)
def vQ (I:Inv X af σ H s)(hN:X.N.Nodup)(hi:X.N[i]?=Z x)(hx:G3 X.env.scope x)(r:aO v u)
  (h:∀s',Inv X af (σ.set i (Z v)) H s'->(∃a,UD a s.heap s'.heap/\(a=X.env.locals\/X.env.cells.lookup x=Z a))->Q () s') (hf:X.fn x=true\/X.env.scope.names.lookup x=Z .local:=by first|exact .inl rfl|exact .inr rfl|assumption):Tn M A (storeName X.env x u) Q E s:=by
 obtain⟨m,hn,hl⟩:=id I.loc;have hcls:(X.env.scope.kind==.class||(X.env.scope.kind==.module&&X.env.locals != X.env.globals))=false:=by rw[I.ok.kind];rfl
 have hiσ:i<σ.length:=by rw[I.len];exact(Tf.mp hi).1
 have cne:=I.cne;have tracked:∀{a:Th} {h':UG},(∃o,s.heap.get? a=Z o/\H a=Y)->UD a s.heap h'->md X.prog X.w H h':=λ{a h'} ha hs b ob e=>by
  obtain⟨_,_,hfree⟩:=ha;refine(I.hok b ob e).stay (λc w' hc q=>(hs.2 c ?_).trans q) (λ_ q=>q) λ_ _ q=>q
  rintro rfl;rcases hc with rfl|hc
  ·rw[hfree] at e;cases e
  ·rw[hfree] at hc;cases hc
 rcases hx with hk|hk
 ·refine wpAny_storeName_local hk hn (λh' hn' hs=>?_) hcls;obtain⟨oL,_,_,hoL,_⟩:=id hn;refine h _ ⟨I.ok,I.os,I.bare,⟨λb o e n hb hx=>?_,λb o e n hb hx=>?_,I.base.free,λb o e hx=>?_,I.base.tups,I.base.frzs,I.base.tbls⟩,⟨_,hn',λj y v' e1 e2 e3=>?_⟩,λy c e=>?_,I.free,I.freeC,λp hp=>?_,tracked ⟨oL,hoL,I.free⟩ hs,by simpa using I.len⟩ ⟨_,hs,.inl rfl⟩
  ·exact(hs.2 b (TB (Tu (Tr e) I.ok.above))).trans (I.base.keep b o e n hb hx)
  ·obtain⟨sl,e1⟩:=I.base.slot b o e n hb hx;exact⟨sl,(hs.2 b (TB (Tu (Tr e) I.ok.above))).trans e1⟩
  ·obtain⟨o',e1⟩:=I.base.there b o e hx;exact⟨o',(hs.2 b (TB (Tu (Tr e) I.ok.above))).trans e1⟩
  ·by_cases hj:j=i
   ·subst hj;rw[hi] at e1;cases e1;rw[Y9 hiσ] at e2;cases e2;exact⟨u,r,.inl ⟨hk,by simp⟩⟩
   ·rw[ZR (Uj hj)] at e2;obtain⟨u',r',q⟩:=hl j y v' e1 e2 e3;refine⟨u',r',?_⟩;rcases q with⟨k,e⟩|⟨k,c,e,z⟩
    ·refine .inl ⟨k,?_⟩;have:y≠x:=λe=>hj (xV hN e1 (e▸hi))
     simp[this,e]
    ·exact .inr ⟨k,c,e,z.sameBut hs (cne y c e)⟩
  ·obtain⟨w',z⟩:=I.cell y c e;exact⟨w',z.sameBut hs (cne y c e)⟩
  ·obtain⟨e,n,ne,nf,d⟩:=I.pin p hp;exact⟨(hs.2 p.1 ne).trans e,n,ne,nf,d⟩
 ·have hfn:X.fn x=true:=by
   rcases hf with z|z
   ·exact z
   ·rw[z] at hk;cases hk
  obtain⟨c,hc⟩:=I.ok.has x (.inl hk);obtain⟨w',z⟩:=I.cell x c hc;refine wpAny_storeName_cell I.ok.kind hk hc z (λh' hc' hs=>?_);obtain⟨oc,hoc,hocd⟩:=id z;refine h {s with heap:=h'} ⟨I.ok,I.os,I.bare,⟨λb o e n hb hx=>?_,λb o e n hb hx=>?_,I.base.free,λb o e hx=>?_,I.base.tups,I.base.frzs,I.base.tbls⟩,⟨m,hn.sameBut hs (Uj (cne x c hc)),λj y v' e1 e2 e3=>?_⟩,λy c' e=>?_,I.free,I.freeC,λp hp=>?_,tracked ⟨oc,hoc,I.freeC x c hc⟩ hs,by simpa using I.len⟩ ⟨c,hs,.inr hc⟩
  ·exact(hs.2 b (TB (Tu (Tr e) (I.ok.cab x c hfn hc)))).trans (I.base.keep b o e n hb hx)
  ·obtain⟨sl,e1⟩:=I.base.slot b o e n hb hx;exact⟨sl,(hs.2 b (TB (Tu (Tr e) (I.ok.cab x c hfn hc)))).trans e1⟩
  ·obtain⟨o',e1⟩:=I.base.there b o e hx;exact⟨o',(hs.2 b (TB (Tu (Tr e) (I.ok.cab x c hfn hc)))).trans e1⟩
  ·by_cases hj:j=i
   ·subst hj;rw[hi] at e1;cases e1;rw[Y9 hiσ] at e2;cases e2;exact⟨u,r,.inr ⟨.inl hk,c,hc,hc'⟩⟩
   ·rw[ZR (Uj hj)] at e2;obtain⟨u',r',q⟩:=hl j y v' e1 e2 e3;refine⟨u',r',?_⟩;rcases q with q|⟨k,c',e,z'⟩
    ·exact .inl q
    ·refine .inr ⟨k,c',e,z'.sameBut hs ?_⟩;rintro rfl;exact hj (xV hN e1 (I.ok.inj _ _ _ e hc▸hi))
  ·by_cases hcc:c'=c
   ·subst hcc;exact⟨_,hc'⟩
   ·obtain⟨w2,z2⟩:=I.cell y c' e;exact⟨w2,z2.sameBut hs hcc⟩
  ·obtain⟨e,n,ne,nf,d⟩:=I.pin p hp;refine⟨(hs.2 p.1 ?_).trans e,n,ne,nf,d⟩;intro q;rw[q,hoc] at e;have q':oc=p.2:=T4 e;exact d w' (by rw[<-q'];exact hocd)
def o5 (I:Inv X af σ H s)(hN:X.N.Nodup)(hi:X.N[i]?=Z x)(hx:G3 X.env.scope x)(r:aO v u)
  (h:∀s',Inv X af (σ.set i (Z v)) H s'->Q () s') (hf:X.fn x=true\/X.env.scope.names.lookup x=Z .local:=by first|exact .inl rfl|exact .inr rfl|assumption):Tn M A (storeName X.env x u) Q E s:=
 vQ I hN hi hx r (λs' I' _=>h s' I') hf
def Inv.call' (I:Inv X af σ H s)(ho:s'.os=s.os)(u:Un (uI X.stack) ch H H' s.heap s'.heap)(hok:md X.prog X.w H' s'.heap)(hg:Xo s'.gens)
  (hch:∀b∈ch,(b∈X.ex\/X.s₀.heap.objs.size<=b)/\b≠X.env.locals/\(∀x c,X.env.cells.lookup x=Z c->c≠b)/\∀p∈X.pn++af,p.1≠b):Inv X af σ H' s':=by
 obtain⟨h',g',d',t',o'⟩:=s';subst ho;exact I.call    u hok hg hch
end
abbrev XK:=Td->Option Th->Hp->Prop
abbrev St:=List (Option V)
abbrev VK:=V->Hp->Prop
abbrev TE:=St->Hp->VK->Prop
abbrev TT:=St->Hp->(Bool->Hp->Prop)->Prop
abbrev TA:=St->Hp->(List V->Hp->Prop)->Prop
structure CW where
 nx:St->Hp->Prop
 rt:VK
 bk:St->Hp->Prop:=λ_ _=>False
 ct:St->Hp->Prop:=λ_ _=>False
abbrev TS:=CW->St->Hp->Prop
def EP (X:Cx)(af:List (Th×Obj))(σ:St)(Q:VK)(u:Td)(s':Tg):Prop:=∃v H',Inv X af σ H' s'/\aO v u/\Q v H'
def TP (X:Cx)(af:List (Th×Obj))(σ:St)(Q:Bool->Hp->Prop)(b:Bool)(s':Tg):Prop:=∃H',Inv X af σ H' s'/\Q b H'
def AP (X:Cx)(af:List (Th×Obj))(σ:St)(Q:List V->Hp->Prop)(us:List Td)(s':Tg):Prop:=∃vs H',Inv X af σ H' s'/\aS vs us/\Q vs H'
def SP (X:Cx)(af:List (Th×Obj))(D:CW)(f:Flow)(s':Tg):Prop:=
 match f with
 | .next=>∃σ' H',Inv X af σ' H' s'/\D.nx σ' H'
 | .brk=>∃σ' H',Inv X af σ' H' s'/\D.bk σ' H'
 | .cont=>∃σ' H',Inv X af σ' H' s'/\D.ct σ' H'
 | .ret u=>∃v σ' H',Inv X af σ' H' s'/\aO v u/\D.rt v H'
def PE (X:Cx)(e:T9)(t:TE):Prop:=
 ∀(af:List (Th×Obj)) (s:Tg) (σ:St) (H:Hp) (Q:VK),Inv X af σ H s->t σ H Q->Tn (TF X.prog X.w) X.A (Uy e X.env) (EP X af σ Q) X.xe s
def PT (X:Cx)(e:T9)(t:TT):Prop:=
 ∀(af:List (Th×Obj)) (s:Tg) (σ:St) (H:Hp) (Q:Bool->Hp->Prop),Inv X af σ H s->t σ H Q->Tn (TF X.prog X.w) X.A (isTrue e X.env (Uy e X.env)) (TP X af σ Q) X.xe s
def PW (X:Cx)(e:T9)(t:TT):Prop:=
 ∀(whole:Sem Td) (af:List (Th×Obj)) (s:Tg) (σ:St) (H:Hp) (Q:Bool->Hp->Prop),Inv X af σ H s->t σ H Q->Tn (TF X.prog X.w) X.A (isTrue e X.env whole) (TP X af σ Q) X.xe s
def PW.pt {t:TT}(h:PW X e t):PT X e t:=h _
def PA (X:Cx)(es:List T9)(t:TA):Prop:=
 ∀(pos:Pos) (af:List (Th×Obj)) (s:Tg) (σ:St) (H:Hp) (Q:List V->Hp->Prop),Inv X af σ H s->t σ H Q->Tn (TF X.prog X.w) X.A (spliced (Vu pos (T2 es X.env))) (AP X af σ Q) X.xe s
def PS (X:Cx)(st:VI)(t:TS):Prop:=
 ∀(af:List (Th×Obj)) (s:Tg) (σ:St) (H:Hp) (D:CW),Inv X af σ H s->t D σ H->Tn (TF X.prog X.w) X.A (exec st X.env) (SP X af D) X.xe s
def PSs (X:Cx)(st:List VI)(t:TS):Prop:=
 ∀(af:List (Th×Obj)) (s:Tg) (σ:St) (H:Hp) (D:CW),Inv X af σ H s->t D σ H->Tn (TF X.prog X.w) X.A (execs st X.env) (SP X af D) X.xe s
def bQ {t:Sem α}{Q Q':α->Tg->Prop}(h:Tn M A t Q E s)(hQ:∀a s,Q a s->Q' a s):Tn M A t Q' E s:=Vc h hQ λ_ _ x=>x
section
variable {X:Cx}
def Nl (i:Nat):TE:=λσ H Q=>∃v,σ[i]?=Z (Z v)/\Q v H
def tC (v:V):TE:=λ_ H Q=>Q v H
def ET (hN:X.N[i]?=Z x)(hv:NJ X.env.scope x)(hd:(x==("__debug__":Str))=false:=by decide)(hcd:(x==("__classdict__":Str))=false:=by decide):PE X (.Name x pos) (Nl i):=by
 intro af s σ H Q I h;obtain⟨v,e,h⟩:=h;obtain⟨m,hn,hl⟩:=I.loc;obtain⟨u,r,l⟩:=hl i x v hN e hv;have fin:EP X af σ Q u s:=⟨v,H,I,r,h⟩;rcases l with⟨hk,hm⟩|⟨hk,c,hc,hcell⟩
 ·exact aae (wpAny_loadName_local I.ok.kind hk hn hm fin) hd
 ·rcases hk with hk|hk
  ·exact aae (wpAny_loadName_cell I.ok.kind hk hc hcell fin) hd
  ·exact aae (wpAny_loadName_free I.ok.kind hk hc hcell fin hcd) hd
def AN {i j pos}:PE X (.Constant (.int i) j pos) (tC (.int i)):=λ_ _ _ H _ I h=>wpAny_Constant_int ⟨.int i,H,I.tok _,⟨_,rfl⟩,h⟩
def Pk {b j pos}:PE X (.Constant (.bool b) j pos) (tC (.bl b)):=λ_ _ _ H _ I h=>Constant_bool ⟨.bl b,H,I,rfl,h⟩
def MD {j pos}:PE X (.Constant .none j pos) (tC .non):=λ_ _ _ H _ I h=>Constant_none ⟨.non,H,I,rfl,h⟩
def Ff {x j pos}:PE X (.Constant (.str x) j pos) (tC (.str x)):=λ_ _ _ H _ I h=>Calls.Constant_str ⟨.str x,H,I.tok _,⟨_,rfl⟩,h⟩
def Gl (X:Cx)(x:Str):Prop:=X.env.kindOf x=Z .globalImplicit
def xE (I:Inv X af σ H s)(hg:Gl X x)(hm:X.mg x=Z u)(h:Q u s)
  (hd:(x==("__debug__":Str))=false:=by decide):Tn (TF X.prog X.w) X.A (Uy (.Name x pos) X.env) Q E s:=
 W7 I.ok.kind hg (Calls.loadGlobal_global (by rw[I.ok.glob];exact I.mod.glob.keeps I.bk) hm h) hd
def qD (I:Inv X af σ H s)(hg:Gl X x)(hm:X.mg x=Y)(hv:UL x=Z u)(h:Q u s)
  (hn:x≠"__name__":=by decide) (hd:(x==("__debug__":Str))=false:=by decide):Tn (TF X.prog X.w) X.A (Uy (.Name x pos) X.env) Q E s:=by
 obtain⟨mb,h1,h2⟩:=I.mod.blt;exact W7 I.ok.kind hg (Calls.loadGlobal_builtin (by rw[I.ok.glob];exact I.mod.glob.keeps I.bk) hm (by rw[I.ok.blt];exact h1.keeps I.bk) ((h2 x hn).trans hv) h) hd
def Ij (hg:Gl X x)(hm:X.mg x=Y)(hv:UL x=Z u)(r:aO v u)(hn:x≠"__name__":=by decide)(hd:(x==("__debug__":Str))=false:=by decide):PE X (.Name x pos) (tC v):=
 λ_ _ _ H _ I h=>qD I hg hm hv ⟨v,H,I,r,h⟩ hn hd
variable {a b:T9}{ta tb:TE}{pos:Pos}
variable {tA tB':TT}{rest:List T9}
def QX (t u:TT):TT:=λσ H Q=>t σ H λc H1=>if c=true then u σ H1 Q else Q false H1
def SQ (t u:TT):TT:=λσ H Q=>t σ H λc H1=>if c=true then Q true H1 else u σ H1 Q
def Sq (t:TT):TT:=λσ H Q=>t σ H λc H1=>Q (!c) H1
def IF (ha:PT X a tA):PW X (.BoolOp .And [a] pos) tA:=by
 intro wh af s σ H Q I h;refine isTrue_and (bQ (ha af s σ H Q I h) λc s1 e=>?_);cases c with
 | true=>exact isTrue_and_nil e
 | false=>exact e
def L4 (ha:PT X a tA):PW X (.BoolOp .Or [a] pos) tA:=by
 intro wh af s σ H Q I h;refine isTrue_or (bQ (ha af s σ H Q I h) λc s1 e=>?_);cases c with
 | false=>exact isTrue_or_nil e
 | true=>exact e
def LY (ha:PT X a tA)(hb:PW X (.BoolOp .And (b::rest) pos) tB'):PW X (.BoolOp .And (a::b::rest) pos) (QX tA tB'):=by
 intro wh af s σ H Q I h;refine isTrue_and (bQ (ha af s σ H _ I h) λc s1 hxx=>?_);obtain⟨H1,I1,q1⟩:=hxx;cases c with
 | true=>exact hb wh af s1 σ H1 Q I1 q1
 | false=>exact⟨H1,I1,q1⟩
def Po (ha:PT X a tA)(hb:PW X (.BoolOp .Or (b::rest) pos) tB'):PW X (.BoolOp .Or (a::b::rest) pos) (SQ tA tB'):=by
 intro wh af s σ H Q I h;refine isTrue_or (bQ (ha af s σ H _ I h) λc s1 hxx=>?_);obtain⟨H1,I1,q1⟩:=hxx;cases c with
 | true=>exact⟨H1,I1,q1⟩
 | false=>exact hb wh af s1 σ H1 Q I1 q1
def Ll (ha:PT X a tA):PT X (.UnaryOp .Not a pos) (Sq tA):=by
 intro af s σ H Q I h;exact isTrue_not (ha af s σ H (λc H1=>Q (!c) H1) I h)
def Oh (ta tb:TE):TE:=λσ H Q=>ta σ H λx H1=>∃c,x=.bl c/\if c=true then tb σ H1 Q else Q (.bl false) H1
def R3 (ta tb:TE):TE:=λσ H Q=>ta σ H λx H1=>∃c,x=.bl c/\if c=true then Q (.bl true) H1 else tb σ H1 Q
def O8 (ta:TE):TE:=λσ H Q=>ta σ H λx H1=>∃c,x=.bl c/\Q (.bl (!c)) H1
def LJ {op}{t:TE}(h:PE X a t):PE X (.BoolOp op [a] pos) t:=λaf s σ H Q I hw=>BoolOp_one (h af s σ H Q I hw)
def KD (ha:PE X a ta)(hb:PE X (.BoolOp .And (b::rest) pos) tb):PE X (.BoolOp .And (a::b::rest) pos) (Oh ta tb):=by
 intro af s σ H Q I h;refine BoolOp_and (bQ (ha af s σ H _ I h) λv s1 hxx=>?_);obtain⟨x,H1,I1,r1,q1⟩:=hxx;obtain⟨c,rfl,q1⟩:=q1;cases r1;refine Uz ?_;cases c with
 | true=>exact hb af s1 σ H1 Q I1 q1
 | false=>exact⟨.bl false,H1,I1,rfl,q1⟩
def Pr (ha:PE X a ta)(hb:PE X (.BoolOp .Or (b::rest) pos) tb):PE X (.BoolOp .Or (a::b::rest) pos) (R3 ta tb):=by
 intro af s σ H Q I h;refine BoolOp_or (bQ (ha af s σ H _ I h) λv s1 hxx=>?_);obtain⟨x,H1,I1,r1,q1⟩:=hxx;obtain⟨c,rfl,q1⟩:=q1;cases r1;refine Uz ?_;cases c with
 | false=>exact hb af s1 σ H1 Q I1 q1
 | true=>exact⟨.bl true,H1,I1,rfl,q1⟩
def Nh (ha:PE X a ta):PE X (.UnaryOp .Not a pos) (O8 ta):=by
 intro af s σ H Q I h;refine UnaryOp_ (bQ (ha af s σ H _ I h) λv s1 hxx=>?_);obtain⟨x,H1,I1,r1,q1⟩:=hxx;obtain⟨c,rfl,q1⟩:=q1;cases r1;exact not_of (Uz ⟨.bl (!c),H1,I1,rfl,q1⟩)
def SX (t:TT)(ta tb:TE):TE:=λσ H Q=>t σ H λc H1=>if c=true then ta σ H1 Q else tb σ H1 Q
def E5 (hc:PT X c tA)(ha:PE X a ta)(hb:PE X b tb):PE X (.IfExp c a b pos) (SX tA ta tb):=by
 intro af s σ H Q I h;refine wpAny_IfExp (bQ (hc af s σ H _ I h) λd s1 hxx=>?_);obtain⟨H1,I1,q1⟩:=hxx;cases d with
 | true=>exact ha af s1 σ H1 Q I1 q1
 | false=>exact hb af s1 σ H1 Q I1 q1
end
def oy (K:Tp)(H:Hp)(a:Th)(xs:List V):Prop:=
 Rd H a (.lst xs)\/
  ∃(o:Obj) (its:Array Td) (n:Nat),K.lookup a=Z o/\o.cls=.type "list"/\o.dict=Y/\o.data=.seq its n/\its.size<=To/\aS xs its.toList
def rQ (K:Tp)(H:Hp)(a:Th)(xs:List V):Prop:=
 Rd H a (.tup xs)\/
  ∃(o:Obj) (its:Array Td) (n:Nat),K.lookup a=Z o/\o.cls=.type "tuple"/\o.data=.seq its n/\its.size<=To/\aS xs its.toList
def SG:Td->Option V
 | .none=>Z .non
 | .bool b=>Z (.bl b)
 | .int i _=>Z (.int i)
 | .str x _=>Z (.str x)
 | .bytes b _=>Z (.byt b)
 | .float b _=>Z (.flt b)
 | .ref a=>Z (.ref a)
 | .type n=>Z (.ty n)
 | _=>Y
def aO.abs (r:aO x u):SG u=Z x:=by
 cases x with
 | non=>cases r;rfl
 | bl _=>cases r;rfl
 | int _=>obtain⟨t,rfl⟩:=r;rfl
 | str _=>obtain⟨t,rfl⟩:=r;rfl
 | byt _=>obtain⟨t,rfl⟩:=r;rfl
 | flt _=>obtain⟨t,rfl⟩:=r;rfl
 | ref _=>cases r;rfl
 | ty _=>cases r;rfl
def aO.inj {y:V}(r:aO x u)(q:aO y u):x=y:=T4 (r.abs.symm.trans q.abs)
theorem aS.inj:∀{xs ys:List V} {us:List Td},aS xs us->aS ys us->xs=ys
 | _,_,_,.nil,.nil=>rfl
 | _,_,_,.cons r t,.cons r' t'=>by rw[r.inj r',aS.inj t t']
section
variable {X:Cx}{af:List (Th×Obj)}{σ:St}{H:Hp}{s:Tg}{a:Th}{xs ys:List V}
def Inv.list (I:Inv X af σ H s)(h:oy X.K H a xs):∃its:List Td,aS xs its/\PlainL s.heap a its.toArray/\xs.length<=To:=by
 rcases h with h|⟨o,its,n,hk,hc,hd,hs,hz,r⟩
 ·obtain⟨z,its,n,r,e⟩:=h.ok I.hok;exact⟨its,r,⟨_,n,e,rfl,rfl,rfl⟩,z⟩
 ·refine⟨its.toList,r,⟨o,n,I.kIn a o hk,hc,hd,by omega⟩,?_⟩;have e:=r.length
  grind
def Inv.tuple (I:Inv X af σ H s)(h:rQ X.K H a xs):∃its:List Td,aS xs its/\ZH s.heap a its.toArray/\xs.length<=To:=by
 rcases h with h|⟨o,its,n,hk,hc,hs,hz,r⟩
 ·obtain⟨z,its,r,p⟩:=h.ok I.hok;exact⟨its,r,p,z⟩
 ·refine⟨its.toList,r,⟨o,I.kIn a o hk,hc,n,by omega⟩,?_⟩;have e:=r.length
  simp_all
def Inv.list_inj (I:Inv X af σ H s)(h:oy X.K H a xs)(h':oy X.K H a ys):xs=ys:=by
 obtain⟨its,r,⟨o,n,e,_,_,d⟩,_⟩:=I.list h;obtain⟨its',r',⟨o',n',e',_,_,d'⟩,_⟩:=I.list h';have:its=its':=by simp_all
 subst this;exact r.inj r'
def Inv.tuple_inj (I:Inv X af σ H s)(h:rQ X.K H a xs)(h':rQ X.K H a ys):xs=ys:=by
 obtain⟨its,r,⟨o,e,_,n,d⟩,_⟩:=I.tuple h;obtain⟨its',r',⟨o',e',_,n',d'⟩,_⟩:=I.tuple h';have:its=its':=by simp_all
 subst this;exact r.inj r'
end
section
variable {X:Cx}{st:VI}{rest:List VI}{t u:TS}{e:T9}{te:TE}{pos:Pos}
def OL:TS:=λD σ H=>D.nx σ H
def Ri (t u:TS):TS:=λD σ H=>t {D with nx:=u D} σ H
def Ho:PSs X [] OL:=λ_ _ σ H _ I h=>WT ⟨σ,H,I,h⟩
def DN (h1:PS X st t)(h2:PSs X rest u):PSs X (st::rest) (Ri t u):=by
 intro af s σ H D I h;refine Zr (bQ (h1 af s σ H {D with nx:=u D} I h) λf s1 q=>?_);cases f with
 | next=>
  obtain⟨σ',H',I',q⟩:=q;exact h2 af s1 σ' H' D I' q
 | ret v=>exact q
 | brk=>exact q
 | cont=>exact q
def Hn (h1:PS X st t):PSs X [st] t:=by
 intro af s σ H D I h;refine Zr (bQ (h1 af s σ H D I h) λf s1 q=>?_);cases f with
 | next=>exact WT q
 | ret v=>omega
 | brk=>omega
 | cont=>omega
def Inv.quiet (I:Inv X af σ H s):interactive X.env=false:=by simp[interactive,I.ok.kind]
def Pd (te:TE):TS:=λD σ H=>te σ H λ_ H1=>D.nx σ H1
def IC (he:PE X e te)(hs:V4 e Y pos.line X.env=pure false:=by rfl):PS X (.Expr e pos) (Pd te):=by
 intro af s σ H D I h;exact wpAny_Expr_any (bQ (he af s σ H _ I h) λv s1 ⟨x,H1,I1,r1,q1⟩=>⟨σ,H1,I1,q1⟩) I.quiet hs
def RI (te:TE):TS:=λD σ H=>te σ H D.rt
def Ln (he:PE X e te):PS X (.Return (Z e) pos) (RI te):=by
 intro af s σ H D I h;exact wpAny_Return_some (bQ (he af s σ H _ I h) λv s1 ⟨x,H1,I1,r1,q1⟩=>⟨x,σ,H1,I1,r1,q1⟩)
def Ss (c:TT)(t u:TS):TS:=λD σ H=>c σ H λb H1=>if b=true then t D σ H1 else u D σ H1
def Qe {a:List VI}(hc:PT X c tc)(ha:PSs X a t)(hb:PSs X b u):PS X (.If c a b pos) (Ss tc t u):=by
 intro af s σ H D I h;refine wpAny_If (bQ (hc af s σ H _ I h) λd s1 hxx=>?_);obtain⟨H1,I1,q1⟩:=hxx;cases d with
 | true=>exact ha af s1 σ H1 D I1 q1
 | false=>exact hb af s1 σ H1 D I1 q1
end
abbrev TG:=V->St->Hp->(St->Hp->Prop)->Prop
abbrev Kl:=List V->St->Hp->(St->Hp->Prop)->Prop
def PG (X:Cx)(target:T9)(t:TG):Prop:=
 ∀(af:List (Th×Obj)) (s:Tg) (σ:St) (H:Hp) (v:V) (u:Td) (Q:St->Hp->Prop),Inv X af σ H s->aO v u->t v σ H Q->
  Tn (TF X.prog X.w) X.A (YW target X.env u) (λ_ s'=>∃σ' H',Inv X af σ' H' s'/\Q σ' H') X.xe s
def Lf (X:Cx)(ts:List T9)(t:Kl):Prop:=
 ∀(af:List (Th×Obj)) (s:Tg) (σ:St) (H:Hp) (vs:List V) (us:List Td) (Q:St->Hp->Prop),Inv X af σ H s->aS vs us->t vs σ H Q->
  Tn (TF X.prog X.w) X.A (assignInOrder ((UQ ts X.env).map (·.2)) us) (λ_ s'=>∃σ' H',Inv X af σ' H' s'/\Q σ' H') X.xe s
abbrev MM:=V->V->V->Hp->(Hp->Prop)->Prop
def PR (X:Cx)(t:MM):Prop:=
 ∀(af:List (Th×Obj)) (s:Tg) (σ:St) (H:Hp) (o i v:V) (ov iv u:Td) (Q:Hp->Prop),Inv X af σ H s->aO o ov->aO i iv->aO v u->t o i v H Q->
  Tn (TF X.prog X.w) X.A (Yw ov iv u) (λ_ s'=>∃H',Inv X af σ H' s'/\Q H') X.xe s
section
variable {X:Cx}{pos:Pos}
def JT (i:Nat):TG:=λv σ H Q=>Q (σ.set i (Z v)) H
def JN (hN:X.N.Nodup)(hi:X.N[i]?=Z x)(hx:G3 X.env.scope x)(hf:X.fn x=true\/X.env.scope.names.lookup x=Z .local:=by first|exact .inl rfl|exact .inr rfl|assumption):PG X (.Name x pos) (JT i):=by
 intro af s σ H v u Q I r h;exact wpAny_assign_Name (o5 I hN hi hx r (λs' I'=>⟨_,H,I',h⟩) hf)
def Rn:Kl:=λvs σ H Q=>vs=[]/\Q σ H
def O4 (t:TG)(u:Kl):Kl:=λvs σ H Q=>∃v r,vs=v::r/\t v σ H λσ' H'=>u r σ' H' Q
def BK:Lf X [] Rn:=by
 intro af s σ H vs us Q I r h;obtain⟨e,h⟩:=h;exact Za ⟨σ,H,I,h⟩
def zp {t:TG}(h1:PG X e t)(h2:Lf X es u)
  (hs:(UQ (e::es) X.env).map (·.2)=YW e X.env::(UQ es X.env).map (·.2):=by rfl):Lf X (e::es) (O4 t u):=by
 intro af s σ H vs us Q I r h;obtain⟨v,vr,e1,h⟩:=h;subst e1;cases r with
 | cons r rr=>
  rw[hs];refine W8 (bQ (h1 af s σ H _ _ _ I r h) λ_ s1 hxx=>?_);obtain⟨σ1,H1,I1,q1⟩:=hxx;exact h2 af s1 σ1 H1 _ _ Q I1 rr q1
def R9 (K:Tp)(n:Nat)(t:Kl):TG:=λv σ H Q=>∃a xs,v=.ref a/\rQ K H a xs/\xs.length=n/\t xs σ H Q
def F3 {k:Nat}{t:Kl}{n:Nat}(hc:X.calm=true)(h:Lf X es t)
  (hn:(UQ es X.env).length=n:=by rfl) (hst:(UQ es X.env).findIdx? (·.1)=Y:=by rfl):PG X (.Tuple es k pos) (R9 X.K n t):=by
 intro af s σ H v u Q I r hw;obtain⟨a,xs,e1,hq,hl,hw⟩:=hw;subst e1;cases r;obtain⟨its,rv,ht,hz⟩:=I.tuple hq;refine assign_Tuple_tuple (I.ok.hd hc) ht (by simp[hn,<-hl,rv.length]) hst λh' hx=>?_
 exact h af _ σ H xs _ Q (I.kept  λb o e=>hx b o (TB (Tr e)) e) (by omega) hw
def Sh (to ti:TE)(t:MM):TG:=λv σ H Q=>to σ H λo H1=>ti σ H1 λi H2=>t o i v H2 λH3=>Q σ H3
def Kv {t:MM}(ho:PE X o to)(hi:PE X i ti)(hs:PR X t)
  (ha:∀v,YW (.Subscript o i pos) X.env v=(do
   let ov <-U1 [v] (Uy o X.env)
   let iv <-U1 [v,ov] (Uy i X.env)
   WJ pos
   U1 [v,ov,iv] (Yw ov iv v)
   release [v,ov,iv] []):=by intro _;rfl):PG X (.Subscript o i pos) (Sh to ti t):=by
 intro af s σ H v u Q I r h;rw[ha];refine Ta (TV (bQ (ho af s σ H _ I h) λov s1 hxx=>?_));obtain⟨x,H1,I1,r1,q1⟩:=hxx;refine Ta (TV (bQ (hi af s1 σ H1 _ I1 q1) λiv s2 hxx=>?_));obtain⟨y,H2,I2,r2,q2⟩:=hxx;refine Ta (YK (Ta (TV (bQ (hs af s2 σ H2 x y v ov iv u _ I2 r1 r2 r q2) λ_ s3 hxx=>?_))));obtain⟨H3,I3,q3⟩:=hxx;exact wpAny_release ⟨σ,H3,I3,q3⟩
def Og (te:TE)(g:TG):TS:=λD σ H=>te σ H λx H1=>g x σ H1 D.nx
def E4 (he:PE X e te)(hg:PG X tg g)(hs:Xw [tg] e pos.line X.env=pure false:=by rfl)(hw:V9 [tg] e X.env=pure Y:=by rfl)
  (h1:(UQ [tg] X.env).map (·.2)=[YW tg X.env]:=by rfl):PS X (.Assign [tg] e pos) (Og te g):=by
 intro af s σ H D I h;refine YC (bQ (he af s σ H _ I h) λv s1 hxx=>?_) hs hw;obtain⟨x,H1,I1,r1,q1⟩:=hxx;rw[h1];exact bQ (hg af s1 σ H1 x v _ I1 r1 q1) λ_ s2 q=>q
def Nv (hN:X.N.Nodup)(hi:X.N[i]?=Z x)(hx:G3 X.env.scope x)(he:PE X e te)(hs:V4 e (Z (.Name x pos')) pos.line X.env=pure false:=by rfl)(hf:X.fn x=true\/X.env.scope.names.lookup x=Z .local:=by first|exact .inl rfl|exact .inr rfl|assumption) :
  PS X (.Assign [.Name x pos'] e pos) (Og te (JT i)):=by
 intro af s σ H D I h;refine wpAny_Assign_Name (bQ (he af s σ H _ I h) λv s1 hxx=>?_) hs;obtain⟨y,H1,I1,r1,q1⟩:=hxx;exact o5 I1 hN hi hx r1 (λs2 I2=>⟨_,H1,I2,q1⟩) hf
def Rj (i j:Nat)(ta:TA):TS:=λD σ H=>ta σ H λvs H1=>∃v w,vs=[v,w]/\D.nx ((σ.set i (Z v)).set j (Z w)) H1
def L7 {y:Str}{a:T9}{pt:Pos}{kt k2 pt2}(hc:X.calm=true)(hN:X.N.Nodup)(hi:X.N[i]?=Z x)(hj:X.N[j]?=Z y)(hij:i≠j)
  (hx:X.env.scope.names.lookup x=Z .local) (hy:X.env.scope.names.lookup y=Z .local) (ha:PA X [a,b] ta)
  (hw:V9 [.Tuple [.Name x px,.Name y py] kt pt] (.Tuple [a,b] k2 pt2) X.env=pure (Z [x,y]))
  (hs:Xw [.Tuple [.Name x px,.Name y py] kt pt] (.Tuple [a,b] k2 pt2) pos.line X.env=pure false:=by rfl) :
  PS X (.Assign [.Tuple [.Name x px,.Name y py] kt pt] (.Tuple [a,b] k2 pt2) pos) (Rj i j ta):=by
 intro af s σ H D I h;rw[exec_Assign_arm];refine Ta (YK ?_);rw[hs];refine Ta (Tb ?_);rw[if_neg (by decide)];refine Ta (Tuple_ (bQ (ha _ af s σ H _ I h) λus s1 hxx=>?_));obtain⟨vs,H1,I1,r1,q1⟩:=hxx;obtain⟨v,w,e1,q1⟩:=q1;subst e1;obtain⟨u1,u2,rfl,rv,rw'⟩:∃u1 u2,us=[u1,u2]/\aO v u1/\aO w u2:=by
  cases r1 with
  | cons p q=>
   cases q with
   | cons p' q'=>
    cases q';exact⟨_,_,rfl,p,p'⟩
 refine T7 ?_ (by show 2<=To;decide);have I2:Inv X af σ H1 {s1 with heap:=s1.heap.push {cls:=.type "tuple",data:=.seq [u1,u2].toArray}}:=I1.kept (t':=s1.toks) λb o e=>Tc _ e
 rw[hw];refine Ta (Tb ?_);refine Ta (W9 (Ta (unpackItems_tuple (items:=#[u1,u2]) (I.ok.hd hc) (XD s1.heap _) λh' hx'=>?_)));have I3:=I2.kept (h':=h') (t':=s1.toks) λb o e=>hx' b o (TB (Tr e)) e
 refine Ta (W8 (wpAny_bindName (o5 I3 hN hj (.inl hy) rw' (λs2 I4=>?_) (.inr hy))));refine W8 (wpAny_bindName (o5 I4 hN hi (.inl hx) rv (λs3 I5=>Za (Tb ?_)) (.inr hx)));rw[set_comm _ _ (Uj hij)] at I5;exact⟨_,H1,I5,q1⟩
end
section
variable {X:Cx}{pos:Pos}
def Lz (c:TT)(tb:TS):TS:=λD σ H=>∃W:Nat->St->Hp->Prop,(∃m,W m σ H)/\∀m σ H,W m σ H->
 c σ H λb H1=>if b=true then∃N:St->Hp->Prop,(∀σ' H',N σ' H'->∃m',m'<m/\W m' σ' H')/\tb {D with nx:=N,ct:=N,bk:=D.nx} σ H1 else D.nx σ H1
def Gj (hp:Zs (TF X.prog X.w) X.A X.env X.xe)(hc:PT X c tc)(hb:PSs X body tb):PS X (.While c body [] pos) (Lz tc tb):=by
 intro af s σ H D I h;obtain⟨W,⟨m0,w0⟩,turn⟩:=h;refine wpAny_While (codeAny_whileLoop (λn s'=>∃σ' H',Inv X af σ' H' s'/\W n σ' H') ?_ m0 ⟨σ,H,I,w0⟩);rintro n s1 ⟨σ1,H1,I1,w1⟩;refine Vm hp (bQ (hc af s1 σ1 H1 _ I1 (turn n σ1 H1 w1)) λb s2 hxx=>?_);obtain⟨H2,I2,q2⟩:=hxx;cases b with
 | true=>
  obtain⟨N,hN,q2⟩:=q2;refine Vm hp (bQ (hb af s2 σ1 H2 _ I2 q2) λf s3 q3=>?_);cases f with
  | next=>
   obtain⟨σ3,H3,I3,n3⟩:=q3;obtain⟨m',hm,w3⟩:=hN σ3 H3 n3;exact⟨m',hm,σ3,H3,I3,w3⟩
  | cont=>
   obtain⟨σ3,H3,I3,n3⟩:=q3;obtain⟨m',hm,w3⟩:=hN σ3 H3 n3;exact⟨m',hm,σ3,H3,I3,w3⟩
  | brk=>exact q3
  | ret v=>exact q3
 | false=>
  exact WT ⟨σ1,H2,I2,q2⟩
end
structure It where
 go:Nat->Hp->Prop
 yld:Nat->Hp->V->Hp->Prop
 stop:Nat->Hp->Prop
def hX (X:Cx)(af:List (Th×Obj))(H:Hp)(b:Th):Prop:=
 H b=Y/\b≠X.env.locals/\b∉X.fs/\(b∈X.ex\/X.s₀.heap.objs.size<=b)/\(∀x c,X.env.cells.lookup x=Z c->c≠b)/\∀p∈X.pn++af,p.1≠b
def Inv.fpOk (I:Inv X af σ H s)(hb:s.heap.objs.size<=b)(hn:H' b=Y):hX X af H' b:=by
 refine⟨hn,VA (Tu I.lt hb),I.nofs hb,.inr (TL I.sz hb),λx c e z=>?_,λp hp z=>?_⟩
 ·obtain⟨v,q⟩:=I.cell x c e;exact absurd (Tu q.lt (by rwa [z])) (U9 _)
 ·exact absurd (Tu (Tr (I.pin p hp).1) (by rwa [z])) (U9 _)
structure TurnF (P:TR)(w:TY)(K:Tp)(tg:T9)(J:It)(fp:List Th)(it:Th)(tn:Nat->UG->Prop):Prop where
 mem:it∈fp
 obj:∀i h,tn i h->∀b∈fp,∃o,h.get? b=Z o/\∀v,o.data≠.cell v
 keep:∀i h h',tn i h->(∀b∈fp,∀o,h.get? b=Z o->h'.get? b=Z o)->tn i h'
 item:∀(X:Cx),X.prog=P->X.w=w->X.K=K->X.calm=true->∀(i:Nat) (af:List (Th×Obj)) (s:Tg) (σ:St) (H:Hp) (E:Td->Tg->Prop),Inv X af σ H s->(∀b∈fp,hX X af H b)->tn i s.heap->J.go i H->
  Tn (TF P w) X.A (VR (.ref it)) (λr s1=>∃u,r=Z u/\
   Tn (TF P w) X.A (X9 tg (.ref it) u) (λ_ s2=>∃x H',Inv X af σ H' s2/\aO x u/\J.yld i H x H'/\tn (i+1) s2.heap/\∀b∈fp,H' b=Y) E s1) E s
 done:∀(X:Cx),X.prog=P->X.w=w->X.K=K->X.calm=true->∀(i:Nat) (af:List (Th×Obj)) (s:Tg) (σ:St) (H:Hp) (E:Td->Tg->Prop),Inv X af σ H s->(∀b∈fp,hX X af H b)->tn i s.heap->J.stop i H->
  Tn (TF P w) X.A (VR (.ref it)) (λr s1=>r=Y/\Inv X af σ H s1) E s
structure Ag (P:TR)(w:TY)(K:Tp)(tg:T9)(J:It)(fp:List Th)(it:Th)(tn:Nat->UG->Prop):Prop extends TurnF P w K tg J fp it tn where
 self:∀(A:Ux) (i:Nat) (s:Tg) (Q:Td->Tg->Prop) (E:Td->Tg->Prop),tn i s.heap->Q (.ref it) s->Tn (TF P w) A (YX (.ref it)) Q E s
abbrev TI:=St->Hp->(It->Hp->Prop)->Prop
def Q7 (X:Cx)(af:List (Th×Obj))(σ:St)(tg:T9)(R:It->Hp->Prop)(itv:Td)(s2:Tg):Prop:=
 ∃(it:Th) (fp:List Th) (tn:Nat->UG->Prop) (J:It) (H':Hp),itv=.ref it/\Inv X af σ H' s2/\Ag X.prog X.w X.K tg J fp it tn/\tn 0 s2.heap/\(∀b∈fp,hX X af H' b)/\R J H'
def PI (X:Cx)(tg iter:T9)(wi:TI):Prop:=
 ∀(af:List (Th×Obj)) (s:Tg) (σ:St) (H:Hp) (R:It->Hp->Prop),Inv X af σ H s->wi σ H R->
  Tn (TF X.prog X.w) X.A (Uy iter X.env) (λv s1=>Tn (TF X.prog X.w) X.A (YX v) (Q7 X af σ tg R) X.xe s1) X.xe s
def R6 (X:Cx)(af:List (Th×Obj))(σ:St)(tg:T9)(R:It->Hp->Prop)(itv:Td)(s2:Tg):Prop:=
 ∃(it:Th) (fp:List Th) (tn:Nat->UG->Prop) (J:It) (H':Hp),itv=.ref it/\Inv X af σ H' s2/\TurnF X.prog X.w X.K tg J fp it tn/\tn 0 s2.heap/\(∀b∈fp,hX X af H' b)/\R J H'
def Rm (X:Cx)(tg iter:T9)(wi:TI):Prop:=
 ∀(af:List (Th×Obj)) (s:Tg) (σ:St) (H:Hp) (R:It->Hp->Prop),Inv X af σ H s->wi σ H R->
  Tn (TF X.prog X.w) X.A (Uy iter X.env) (λv s1=>Tn (TF X.prog X.w) X.A (YX v) (R6 X af σ tg R) X.xe s1) X.xe s
def PI.toF {iter:T9}(h:PI X tg iter wi):Rm X tg iter wi:=λaf s σ H R I q=>bQ (h af s σ H R I q) λv s1 h1=>bQ h1 λitv s2 h2=>by
 obtain⟨it,fp,tn,J,H2,e,I2,T,r⟩:=h2;exact⟨it,fp,tn,J,H2,e,I2,T.toTurnF,r⟩
def DW {n:String}(ho:s.heap.get? it=Z o)(hc:o.cls=.type n)(hd:o.data=.fields vs)
  (hn:["enumerate","zip","dict_itemiterator","dict_reverseitemiterator","odict_iterator","itertools.zip_longest","itertools.pairwise"].contains n=false) (hQ:Q () s):Tn M A (X9 tg (.ref it) u) Q E s:=by
 cases tg <;> first
  | exact Tb hQ
  | (cases u <;> first
    | exact Tb hQ
    | (refine Ta (aaf ho ?_)
       rw[hc,hd];show Tn M A (if(["enumerate","zip","dict_itemiterator","dict_reverseitemiterator","odict_iterator","itertools.zip_longest","itertools.pairwise"].contains n&&vs[0]?==Z (VT _))=true then _ else _) Q E s;rw[if_neg (by intro h;rw[hn,Bool.false_and] at h;cases h)];exact Tb hQ))
def Qu (K:Tp)(a:Th):It:=
 ⟨λi H=>∃xs x,oy K H a xs/\xs[i]?=Z x,λi H x H'=>H'=H/\∀xs,oy K H a xs->xs[i]?=Z x,λi H=>∃xs,oy K H a xs/\xs.length<=i⟩
def RZ (K:Tp)(a:Th):It:=
 ⟨λi H=>∃xs x,rQ K H a xs/\xs[i]?=Z x,λi H x H'=>H'=H/\∀xs,rQ K H a xs->xs[i]?=Z x,λi H=>∃xs,rQ K H a xs/\xs.length<=i⟩
def QK (lo:Int)(n:Nat):It:=⟨λi _=>i<n,λi H x H'=>H'=H/\x=.int (lo+i),λi _=>n<=i⟩
def CZ {P:TR}{w:TY}{K:Tp}{tg:T9}(a it:Th):Ag P w K tg (Qu K a) [it] it (λi h=>h.IsListIter it a i) where
 mem:=by simp
 obj:=λi h st b hb=>by
  have e:b=it:=by simpa using hb
  subst e;obtain⟨o,e,c,d⟩:=st;exact⟨o,e,λv z=>by rw[d] at z;cases z⟩
 keep:=λi h h' st k=>st.at λo e=>k it (by simp) o e
 item:=by
  intro X hP hw hK hc i af s σ H E I hf st hg;subst hP hw hK;obtain⟨xs,x,hq,hx⟩:=hg;obtain⟨its,rv,p,hz⟩:=I.list hq;obtain⟨u,hu,ru⟩:=rv.get hx;obtain⟨f0,f1,f2,f3,f4,f5⟩:=hf it (by simp);refine U5 st p.isList (x:=u) (by simpa using hu) λh' st' sb=>?_
  have I1:Inv X af σ H {s with heap:=h'}:=I.turned (t':=s.toks) (λb o hb e=>(sb.2 b hb).trans e) f0 f1 f3 f4 f5;obtain⟨o,e,c,d⟩:=id st';exact⟨u,rfl,DW (s:={s with heap:=h'}) e c d (by decide) ⟨x,H,I1,ru,⟨rfl,λys hy=>by rw[I.list_inj hy hq];exact hx⟩,st',λb hb=>(hf b hb).1⟩⟩
 done:=by
  intro X hP hw hK hc i af s σ H E I hf st hg;subst hP hw hK;obtain⟨xs,hq,hx⟩:=hg;obtain⟨its,rv,p,hz⟩:=I.list hq;obtain⟨f0,f1,f2,f3,f4,f5⟩:=hf it (by simp);have hl:=rv.length;exact Wz (I.ok.hd hc) st p.isList (by simp;omega) λh' eb=>⟨rfl,I.turned (t':=s.toks) (λb o hb e=>eb b o hb e) f0 f1 f3 f4 f5⟩
 self:=λ_ _ _ _ _ st h=>wpAny_pyIter_listiter st h
def AG {P:TR}{w:TY}{K:Tp}{tg:T9}(a it:Th):Ag P w K tg (RZ K a) [it] it (λi h=>h.IsTupleIter it a i) where
 mem:=by simp
 obj:=λi h st b hb=>by
  have e:b=it:=by simpa using hb
  subst e;obtain⟨o,e,c,d⟩:=st;exact⟨o,e,λv z=>by rw[d] at z;cases z⟩
 keep:=λi h h' st k=>st.at λo e=>k it (by simp) o e
 item:=by
  intro X hP hw hK hc i af s σ H E I hf st hg;subst hP hw hK;obtain⟨xs,x,hq,hx⟩:=hg;obtain⟨its,rv,p,hz⟩:=I.tuple hq;obtain⟨u,hu,ru⟩:=rv.get hx;obtain⟨f0,f1,f2,f3,f4,f5⟩:=hf it (by simp);refine wpAny_pyNext_tuple_item st (show s.heap.IsTuple a its.toArray from p) (x:=u) (by simpa using hu) λh' st' sb=>?_
  have I1:Inv X af σ H {s with heap:=h'}:=I.turned (t':=s.toks) (λb o hb e=>(sb.2 b hb).trans e) f0 f1 f3 f4 f5;obtain⟨o,e,c,d⟩:=id st';exact⟨u,rfl,DW (s:={s with heap:=h'}) e c d (by decide) ⟨x,H,I1,ru,⟨rfl,λys hy=>by rw[I.tuple_inj hy hq];exact hx⟩,st',λb hb=>(hf b hb).1⟩⟩
 done:=by
  intro X hP hw hK hc i af s σ H E I hf st hg;subst hP hw hK;obtain⟨xs,hq,hx⟩:=hg;obtain⟨its,rv,p,hz⟩:=I.tuple hq;obtain⟨f0,f1,f2,f3,f4,f5⟩:=hf it (by simp);have hl:=rv.length;exact wpAny_pyNext_tuple_end (I.ok.hd hc) st (show s.heap.IsTuple a its.toArray from p) (by simp;omega) λh' eb=>⟨rfl,I.turned (t':=s.toks) (λb o hb e=>eb b o hb e) f0 f1 f3 f4 f5⟩
 self:=λ_ _ _ _ _ st h=>wpAny_pyIter_tupleiter st h
def Ah {P:TR}{w:TY}{K:Tp}{tg:T9}(it:Th)(lo:Int)(n:Nat):Ag P w K tg (QK lo n) [it] it (λi h=>IsRangeIter h it (lo+(i:Nat)*1) ((n:Int)-(i:Nat)) 1) where
 mem:=by simp
 obj:=λi h st b hb=>by
  simp_all
 keep:=λi h h' st k=>k it (by simp) _ st
 item:=by
  intro X hP hw hK hc i af s σ H E I hf st hg;subst hP hw hK;obtain⟨f0,f1,f2,f3,f4,f5⟩:=hf it (by simp);have W:=Walks.range (prog:=X.prog) (w:=X.w) (I.ok.hd hc) it lo 1 n;refine W.item i s _ _ hg st λv h' tk hv st' kk=>?_
  obtain⟨t,rfl⟩:=hv;have I1:Inv X af σ H {s with heap:=h',toks:=tk}:=I.turned (λb o hb e=>kk b o (by simpa using hb) e) f0 f1 f3 f4 f5;refine⟨_,rfl,DW (s:={s with heap:=h',toks:=tk}) (n:="range_iterator") st' rfl rfl (by decide) ⟨.int (lo+i),H,I1,⟨t,?_⟩,⟨rfl,rfl⟩,st',λb hb=>(hf b hb).1⟩⟩;rw[Int.mul_one]
 done:=by
  intro X hP hw hK hc i af s σ H E I hf st hg;subst hP hw hK;obtain⟨f0,f1,f2,f3,f4,f5⟩:=hf it (by simp);exact wpAny_pyNext_range_end (I.ok.hd hc) st (by have:n<=i:=hg;omega) λh' eb=>⟨rfl,I.turned (t':=s.toks) (λb o hb e=>eb b o hb e) f0 f1 f3 f4 f5⟩
 self:=λ_ _ _ _ _ st h=>wpAny_pyIter_rangeiter st h
section
variable {X:Cx}{tg:T9}
def DO {R:It->Hp->Prop}{lo hi:Int}{t:Tok}(I:Inv X af σ H s)(h1:-(2 ^ 62)<=lo)(h2:lo<2 ^ 62)(h3:-(2 ^ 62)<=hi)(h4:hi<2 ^ 62)
  (q:R (QK lo (hi-lo).toNat) H):Tn (TF X.prog X.w) X.A (YX (.ref s.heap.objs.size)) (Q7 X af σ tg R) E {s with heap:=s.heap.push {cls:=.type "range",data:=.fields #[.int lo t,.int hi u,.int 1 v]},toks:=tk}:=by
 refine wpAny_pyIter_range (IsRange.new ..) (small_one h1 h2 h3 h4) ?_;have I1:Inv X af σ H {s with heap:=s.heap.push {cls:=.type "range",data:=.fields #[.int lo t,.int hi u,.int 1 v]},toks:=tk}:=I.kept λb o e=>Tc _ e
 refine⟨(s.heap.push {cls:=.type "range",data:=.fields #[.int lo t,.int hi u,.int 1 v]}).objs.size,[(s.heap.push {cls:=.type "range",data:=.fields #[.int lo t,.int hi u,.int 1 v]}).objs.size],_,_,H,rfl,
  I1.kept  λb o e=>Tc _ e,Ah _ lo (hi-lo).toNat,?_,λb hb=>?_,q⟩
 ·have e1:lo+((0:Nat):Int)*1=lo:=by simp
  have e2:(((hi-lo).toNat:Nat):Int)-((0:Nat):Int)=aaC lo hi 1:=by rw[rangeSize_one];omega
  rw[e1,e2];exact Tj _ rfl
 ·have e:b=(s.heap.push {cls:=.type "range",data:=.fields #[.int lo t,.int hi u,.int 1 v]}).objs.size:=by simpa using hb
  subst e;exact I1.fpOk (Te _) (I1.hok.fresh (Te _))
def N3 (ta:TA):TI:=λσ H R=>ta σ H λvs H1=>∃j:Int,vs=[.int j]/\-(2 ^ 62)<=j/\j<2 ^ 62/\R (QK 0 j.toNat) H1
def Dw {a:T9}(hg:Gl X "range")(hm:X.mg "range"=Y)(ha:PA X [a] ta)(hs:T2 [a] X.env=[(false,Uy a X.env)]:=by rfl):PI X tg (.Call (.Name "range" p) [a] [] pos) (N3 ta):=by
 intro af s σ H R I h;refine Call_ (qD I hg hm boot_range (VP (bQ (ha pos af s σ H _ I h) λus s1 hxx=>?_) hs rfl));obtain⟨vs,H1,I1,r1,q1⟩:=hxx;obtain⟨j,e,q1,q2,q⟩:=q1;subst e;cases r1 with
 | cons r rr=>
  cases rr;obtain⟨t,rfl⟩:=r;exact call_range_1 (DO I1 (by simp) (by simp) q1 q2 (by simp_all))
def Sf (wi:TI)(g:TG)(tb:TS):TS:=λD σ H=>wi σ H λJ H1=>∃W:Nat->Nat->St->Hp->Prop,(∃m,W 0 m σ H1)/\∀i m σ H,W i m σ H->
 (J.stop i H/\D.nx σ H)\/(J.go i H/\∃N:St->Hp->Prop,(∀σ' H',N σ' H'->∃m',m'<m/\W (i+1) m' σ' H')/\∀x H',J.yld i H x H'->g x σ H' λσ2 H2=>tb {D with nx:=N,ct:=N,bk:=D.nx} σ2 H2)
def ue (fp:List Th)(h:UG):List (Th×Obj):=fp.filterMap λb=>(h.get? b).map λo=>(b,o)
def k8 (hb:b∈fp)(e:h.get? b=Z o):(b,o)∈ue fp h:=YL.mpr ⟨b,hb,by simp_all⟩
def CS (hp:p∈ue fp h):p.1∈fp/\h.get? p.1=Z p.2:=by
 obtain⟨b,hb,e⟩:=YL.mp hp;cases q:h.get? b with
 | none=>simp_all
 | some o=>
  rw[q] at e;have e':=T4 e;subst e';exact⟨hb,q⟩
def Inv.pinned (I:Inv X af σ H s)(hf:∀b∈fp,hX X af H b)(ho:∀b∈fp,∃o,s.heap.get? b=Z o/\∀v,o.data≠.cell v):Inv X (af++ue fp s.heap) σ H s:=
 I.pins_of λp hp=>(Xp.mp hp).elim (λz=>I.pin p (Uv _ z)) λz=>by
  obtain⟨hb,e⟩:=CS z;obtain⟨f0,f1,f2,_⟩:=hf p.1 hb;obtain⟨o,e',d⟩:=ho p.1 hb
  simp_all
def Inv.unpinned (I:Inv X (af++pl) σ H s):Inv X af σ H s:=I.pins_of λp hp=>I.pin p (Uv _ (ZQ _ hp))
def Mg {iter:T9}(hp:Zs (TF X.prog X.w) X.A X.env X.xe)(hc:X.calm=true)(hi:Rm X tg iter wi)(hg:PG X tg g)(hb:PSs X body tb)
  (hs:∀x,Um iter X.env x=pure x:=by intro _;rfl):PS X (.For tg iter body [] pos) (Sf wi g tb):=by
 intro af s σ H D I h;refine wpAny_For (bQ (hi af s σ H _ I h) λv s1 h1=>bQ h1 λitv s2 h2=>?_) hs;obtain⟨it,fp,tn,J,H2,e,I2,T,st2,f2,W,⟨m0,w0⟩,turn⟩:=h2;subst e;have stat:∀{H':Hp},(∀b∈fp,H' b=Y)->∀b∈fp,hX X af H' b:=λhn b hb=>⟨hn b hb,(f2 b hb).2⟩
 refine codeAny_forLoop_any (λn s'=>∃i σ' H',Inv X af σ' H' s'/\tn i s'.heap/\(∀b∈fp,H' b=Y)/\W i n σ' H') ?_ m0 ⟨0,σ,H2,I2,st2,λb hb=>(f2 b hb).1,w0⟩;rintro n s3 ⟨i,σ3,H3,I3,st3,fr3,w3⟩;rcases turn i n σ3 H3 w3 with⟨stop,qn⟩|⟨go,N,hN,step⟩
 ·refine Vm hp (bQ (T.done X rfl rfl rfl hc i af s3 σ3 H3 X.xe I3 (stat fr3) st3 stop) λr s4 hxx=>?_);obtain⟨hr,I4⟩:=hxx;subst hr;exact WT ⟨σ3,H3,I4,qn⟩
 ·refine Vm hp (bQ (T.item X rfl rfl rfl hc i af s3 σ3 H3 X.xe I3 (stat fr3) st3 go) λr s4 hxx=>?_);obtain⟨u,hr,h4⟩:=hxx;subst hr;refine Vm hp (bQ h4 λ_ s5 hxx=>?_);obtain⟨x,H5,I5,r5,y5,st5,fr5⟩:=hxx;have I5':=I5.pinned (stat fr5) (T.obj _ _ st5);refine Vm hp (bQ (hg _ s5 σ3 H5 x u _ I5' r5 (step x H5 y5)) λ_ s6 hxx=>?_);obtain⟨σ6,H6,I6,q6⟩:=hxx;refine Vm hp (bQ (hb _ s6 σ6 H6 _ I6 q6) λf s7 q7=>?_);have again:∀{σ7:St} {H7:Hp},Inv X (af++ue fp s5.heap) σ7 H7 s7->N σ7 H7->∃m,m<n/\∃i σ' H',Inv X af σ' H' s7/\tn i s7.heap/\(∀b∈fp,H' b=Y)/\W i m σ' H':=λ{σ7 H7} I7 n7=>by
   obtain⟨m',hm,w7⟩:=hN σ7 H7 n7;refine⟨m',hm,i+1,σ7,H7,I7.unpinned,T.keep _ _ _ st5 λb hb o e=>(I7.pin (b,o) (Uv _ (Uv _ (k8 hb e)))).1,λb hb=>?_,w7⟩;obtain⟨o,e,d⟩:=T.obj _ _ st5 b hb;exact(I7.pin (b,o) (Uv _ (Uv _ (k8 hb e)))).2.1
  cases f with
  | next=>obtain⟨σ7,H7,I7,n7⟩:=q7;exact again I7 n7
  | cont=>obtain⟨σ7,H7,I7,n7⟩:=q7;exact again I7 n7
  | brk=>obtain⟨σ7,H7,I7,q7⟩:=q7;exact⟨σ7,H7,I7.unpinned,q7⟩
  | ret v=>obtain⟨x7,σ7,H7,I7,r7,q7⟩:=q7;exact⟨x7,σ7,H7,I7.unpinned,r7,q7⟩
end
abbrev R2:=V->V->Hp->VK->Prop
def oz (X:Cx)(f:Td->Td->Sem Td)(r:R2):Prop:=
 ∀(af:List (Th×Obj)) (s:Tg) (σ:St) (H:Hp) (x y:V) (v u:Td) (Q:VK),Inv X af σ H s->aO x v->aO y u->r x y H Q->
  Tn (TF X.prog X.w) X.A (f v u) (EP X af σ Q) X.xe s
def SE (X:Cx)(f:Td->Sem Td)(r:V->Hp->VK->Prop):Prop:=
 ∀(af:List (Th×Obj)) (s:Tg) (σ:St) (H:Hp) (x:V) (v:Td) (Q:VK),Inv X af σ H s->aO x v->r x H Q->
  Tn (TF X.prog X.w) X.A (f v) (EP X af σ Q) X.xe s
def fz (X:Cx)(f:Td)(r:List V->Hp->VK->Prop):Prop:=
 ∀(af:List (Th×Obj)) (s:Tg) (σ:St) (H:Hp) (xs:List V) (us:List Td) (Q:VK),Inv X af σ H s->aS xs us->r xs H Q->
  Tn (TF X.prog X.w) X.A (call f us) (EP X af σ Q) X.xe s
def Sr (X:Cx)(r:V->Hp->(Bool->Hp->Prop)->Prop):Prop:=
 ∀(af:List (Th×Obj)) (s:Tg) (σ:St) (H:Hp) (x:V) (v:Td) (Q:Bool->Hp->Prop),Inv X af σ H s->aO x v->r x H Q->
  Tn (TF X.prog X.w) X.A (truthy v) (TP X af σ Q) X.xe s
def Oc (r:R2)(ta tb:TE):TE:=λσ H Q=>ta σ H λx H1=>tb σ H1 λy H2=>r x y H2 Q
def S1 (r:V->Hp->VK->Prop)(ta:TE):TE:=λσ H Q=>ta σ H λx H1=>r x H1 Q
def rI (C:Int->Int->Prop)(g:Int->Int->V):R2:=λx y H Q=>∃i j,x=.int i/\y=.int j/\C i j/\Q (g i j) H
def JU (g:Int->Int->V):R2:=λx y H Q=>∃i j,x=.int i/\y=.int j/\Q (g i j) H
def rU (g:Int->V):V->Hp->VK->Prop:=λx H Q=>∃i,x=.int i/\Q (g i) H
section
variable {X:Cx}{a b c:T9}{ta tb tc:TE}{pos:Pos}
def Nm (ha:PE X a ta)(hb:PE X b tb){R:V->V->Hp->Prop}(I:Inv X af σ H s)
  (h:ta σ H λx H1=>tb σ H1 λy H2=>R x y H2) {f:Td->Td->Sem Td}
  (hf:∀v u s2 x y H2,Inv X af σ H2 s2->aO x v->aO y u->R x y H2->Tn (TF X.prog X.w) X.A (f v u) Q X.xe s2) :
  Tn (TF X.prog X.w) X.A (Uy a X.env) (λv s₁=>Tn (TF X.prog X.w) X.A (Uy b X.env) (λu s₂=>Tn (TF X.prog X.w) X.A (f v u) Q X.xe s₂) X.xe s₁) X.xe s:=by
 refine bQ (ha af s σ H _ I h) λv s1 hxx=>?_
 obtain⟨x,H1,I1,r1,q1⟩:=hxx;refine bQ (hb af s1 σ H1 _ I1 q1) λu s2 hxx=>?_
 obtain⟨y,H2,I2,r2,q2⟩:=hxx;exact hf v u s2 x y H2 I2 r1 r2 q2
def NR (ho:oz X (U4 op) r)(ha:PE X a ta)(hb:PE X b tb):PE X (.BinOp a op b pos) (Oc r ta tb):=by
 intro af s σ H Q I h;exact wpAny_BinOp (Nm ha hb I h λv u s2 x y H2 I2 rx ry q=>ho af s2 σ H2 x y v u Q I2 rx ry q)
def Kr (ho:SE X (unaryOp op) r)(ha:PE X a ta):PE X (.UnaryOp op a pos) (S1 r ta):=by
 intro af s σ H Q I h;exact UnaryOp_ (bQ (ha af s σ H _ I h) λv s1 ⟨x,H1,I1,r1,q1⟩=>ho af s1 σ H1 x v Q I1 r1 q1)
def R0 {g:Int->Int->Int}
  (rule:∀(i j:Int) (t u:Tok) (s:Tg) (Q:Td->Tg->Prop) (E:Td->Tg->Prop),C i j->Q (.int (g i j) s.toks) {s with toks:=s.toks+1}->Tn (TF X.prog X.w) X.A (f (.int i t) (.int j u)) Q E s) :
  oz X f (rI C λi j=>.int (g i j)):=by
 intro af s σ H x y v u Q I rx ry h;obtain⟨i,j,rfl,rfl,hc,q⟩:=h;obtain⟨t,rfl⟩:=rx;obtain⟨t',rfl⟩:=ry;exact rule i j t t' s _ _ hc ⟨.int (g i j),H,I.tok _,⟨_,rfl⟩,q⟩
def O9 {g:Int->Int->Int}
  (rule:∀(i j:Int) (t u:Tok) (s:Tg) (Q:Td->Tg->Prop) (E:Td->Tg->Prop),Q (.int (g i j) s.toks) {s with toks:=s.toks+1}->Tn (TF X.prog X.w) X.A (f (.int i t) (.int j u)) Q E s) :
  oz X f (JU λi j=>.int (g i j)):=by
 intro af s σ H x y v u Q I rx ry h;obtain⟨i,j,rfl,rfl,q⟩:=h;obtain⟨t,rfl⟩:=rx;obtain⟨t',rfl⟩:=ry;exact rule i j t t' s _ _ ⟨.int (g i j),H,I.tok _,⟨_,rfl⟩,q⟩
def JP {g:Int->Int->Bool}
  (rule:∀(i j:Int) (t u:Tok) (s:Tg) (Q:Td->Tg->Prop) (E:Td->Tg->Prop),Q (.bool (g i j)) s->Tn (TF X.prog X.w) X.A (f (.int i t) (.int j u)) Q E s) :
  oz X f (JU λi j=>.bl (g i j)):=by
 intro af s σ H x y v u Q I rx ry h;obtain⟨i,j,rfl,rfl,q⟩:=h;obtain⟨t,rfl⟩:=rx;obtain⟨t',rfl⟩:=ry;exact rule i j t t' s _ _ ⟨.bl (g i j),H,I,rfl,q⟩
def Ro (i j:Int):Prop:=0<=j/\j<=1000000/\i.natAbs<2 ^ 64
def ME (i j:Int):Prop:=(-(2 ^ 64)<i/\i<2 ^ 64)\/(-(2 ^ 64)<j/\j<2 ^ 64)
def ME.ok (h:ME i j):IntMulOk i j:=by
 rcases h with⟨h1,h2⟩|⟨h1,h2⟩
 ·exact .of_left (intBits_le_64 h1 h2)
 ·exact .of_right (intBits_le_64 h1 h2)
def L9:oz X (U4 .Add) (JU λi j=>.int (i+j)):=O9 λ_ _ _ _ _ _ _ q=>add_int q
def KZ:oz X (U4 .Sub) (JU λi j=>.int (i-j)):=O9 λ_ _ _ _ _ _ _ q=>sub_int q
def KI:oz X (U4 .Mult) (rI ME λi j=>.int (i*j)):=R0 λ_ _ _ _ _ _ _ hc q=>mul_int q hc.ok
def Lc:oz X (U4 .Mod) (rI (λ_ j=>0<j) λi j=>.int (i % j)):=R0 λi j _ _ _ _ _ hc q=>mod_int' (by omega) (by rwa [Xa i (by omega)])
def Na:oz X (U4 .Pow) (rI Ro λi j=>.int (i ^ j.toNat)):=R0 λ_ _ _ _ _ _ _ hc q=>pow_int_small hc.1 hc.2.1 hc.2.2 q
def SN {g:Int->Int}
  (rule:∀(i:Int) (t:Tok) (s:Tg) (Q:Td->Tg->Prop) (E:Td->Tg->Prop),Q (.int (g i) s.toks) {s with toks:=s.toks+1}->Tn (TF X.prog X.w) X.A (f (.int i t)) Q E s) :
  SE X f (rU λi=>.int (g i)):=by
 intro af s σ H x v Q I rx h;obtain⟨i,rfl,q⟩:=h;obtain⟨t,rfl⟩:=rx;exact rule i t s _ _ ⟨.int (g i),H,I.tok _,⟨_,rfl⟩,q⟩
def EL:SE X (unaryOp .USub) (rU λi=>.int (-i)):=SN λ_ _ _ _ _ q=>neg_int q
end
section
variable {X:Cx}{a b c:T9}{ta tb tc:TE}{pos:Pos}
def PZ:oz X (T8 .Lt) (JU λi j=>.bl (decide (i<j))):=JP λ_ _ _ _ _ _ _ q=>Yb q
def NT:oz X (T8 .LtE) (JU λi j=>.bl (decide (i<=j))):=JP λ_ _ _ _ _ _ _ q=>le_int q
def OR:oz X (T8 .Gt) (JU λi j=>.bl (decide (j<i))):=JP λ_ _ _ _ _ _ _ q=>aaD q
def O7:oz X (T8 .GtE) (JU λi j=>.bl (decide (j<=i))):=JP λ_ _ _ _ _ _ _ q=>ge_int q
def Qq:HO->Bool
 | .lst _=>true
 | .ins _ _ _=>true
 | _=>false
def NI {a:Th}(I:Inv X af σ H s)(h:H a=Z o)(p:Qq o=true):∃ob,s.heap.get? a=Z ob/\ob.cls≠.type "tuple":=by
 cases o with
 | lst xs=>
  obtain⟨_,its,n,_,e⟩:xs.length<=To/\∃(its:List Td) (n:Nat),aS xs its/\s.heap.get? a=Z {cls:=.type "list",data:=.seq its.toArray n}:=I.hok a _ h
  simp_all
 | ins C dx fs=>
  obtain⟨_,_,_,e,_⟩:=(I.hok a _ h)
  simp_all
 | _=>exact absurd (show false=true from p) Tv
def Np (b:T9)(h:op≠.In:=by decide)(h2:op≠.NotIn:=by decide):Wa op b=false:=by
 have e1:(op==CmpOp.In)=false:=by grind
 have e2:(op==CmpOp.NotIn)=false:=by grind
 cases b <;> simp[Wa,e1,e2]
def IZ (ho:oz X (T8 op) r)(ha:PE X a ta)(hb:PE X b tb)(hm:Wa op b=false):PE X (.Compare a [op] [b] pos) (Oc r ta tb):=by
 intro af s σ H Q I h;exact wpAny_Compare1 (Nm ha hb I h λv u s2 x y H2 I2 rx ry q=>ho af s2 σ H2 x y v u Q I2 rx ry q) hm
def J9 (t:TE):TT:=λσ H Q=>t σ H λx H'=>∃k,x=.bl k/\Q k H'
def HU (ho:oz X (T8 op) r)(ha:PE X a ta)(hb:PE X b tb)(hm:Wa op b=false):PT X (.Compare a [op] [b] pos) (J9 (Oc r ta tb)):=by
 intro af s σ H Q I h;refine wpAny_isTrue_Compare1 (bQ (ha af s σ H _ I h) λv s1 ⟨x,H1,I1,r1,q1⟩=>bQ (hb af s1 σ H1 _ I1 q1) λu s2 ⟨y,H2,I2,r2,q2⟩=>
  bQ (ho af s2 σ H2 x y v u _ I2 r1 r2 q2) λc s3 hxx=>?_) hm
 obtain⟨z,H3,I3,r3,k,e,q3⟩:=hxx;subst e;cases r3;exact Uz ⟨H3,I3,q3⟩
def zY (r r':R2)(ta tb tc:TE):TE:=λσ H Q=>ta σ H λx H1=>tb σ H1 λy H2=>r x y H2 λz H3=>∃k,z=.bl k/\
 (if k=true then tc σ H3 λw' H4=>r' y w' H4 Q else Q (.bl false) H3)
def FH (ho:oz X (T8 op) r)(ho':oz X (T8 op') r')(ha:PE X a ta)(hb:PE X b tb)(hc:PE X c tc)
  (hm:Zt [op,op'] [b,c]=false:=by with_unfolding_all rfl):PE X (.Compare a [op,op'] [b,c] pos) (zY r r' ta tb tc):=by
 intro af s σ H Q I h;refine Compare_chain (bQ (ha af s σ H _ I h) λv s1 ⟨x,H1,I1,r1,q1⟩=>chain_link (bQ (hb af s1 σ H1 _ I1 q1) λu s2 ⟨y,H2,I2,r2,q2⟩=>
  bQ (ho af s2 σ H2 x y v u _ I2 r1 r2 q2) λd s3 hxx=>?_)) hm
 obtain⟨z,H3,I3,r3,k,e,q3⟩:=hxx;subst e;cases r3;refine Uz ?_;cases k with
 | false=>exact ite_ff ⟨.bl false,H3,I3,rfl,q3⟩
 | true=>exact ite_tt (chain_last (bQ (hc af s3 σ H3 _ I3 q3) λw' s4 ⟨z',H4,I4,r4,q4⟩=>ho' af s4 σ H4 y z' u w' Q I4 r2 r4 q4))
def FQ (ho:oz X (T8 op) r)(ho':oz X (T8 op') r')(ha:PE X a ta)(hb:PE X b tb)(hc:PE X c tc)
  (hm:Zt [op,op'] [b,c]=false:=by with_unfolding_all rfl):PT X (.Compare a [op,op'] [b,c] pos) (J9 (zY r r' ta tb tc)):=by
 intro af s σ H Q I h;refine isTrue_chain (bQ (ha af s σ H _ I h) λv s1 ⟨x,H1,I1,r1,q1⟩=>test_link (bQ (hb af s1 σ H1 _ I1 q1) λu s2 ⟨y,H2,I2,r2,q2⟩=>
  bQ (ho af s2 σ H2 x y v u _ I2 r1 r2 q2) λd s3 hxx=>?_)) hm
 obtain⟨z,H3,I3,r3,k,e,q3⟩:=hxx;subst e;cases r3;refine Uz ?_;cases k with
 | false=>
  obtain⟨k',e',q'⟩:=q3;cases e';exact ite_ff ⟨H3,I3,q'⟩
 | true=>
  refine ite_tt (test_last (bQ (hc af s3 σ H3 _ I3 q3) λw' s4 ⟨z',H4,I4,r4,q4⟩=>bQ (ho' af s4 σ H4 y z' u w' _ I4 r2 r4 q4) λd' s5 hxx=>?_));obtain⟨z2,H5,I5,r5,k2,e2,q5⟩:=hxx;subst e2;cases r5;exact Uz ⟨H5,I5,q5⟩
def P0 (K:Tp)(x:V)(H:Hp)(k:Bool):Prop:=
 match x with
 | .non=>k=false
 | .bl b=>k=b
 | .int i=>k=(i != 0)
 | .str y=>y.length<=To/\k=((y.length:Int) != 0)
 | .byt y=>y.size<=To/\k=((y.size:Int) != 0)
 | .ref p=>(∃xs,oy K H p xs/\k=!xs.isEmpty)\/(∃xs,rQ K H p xs/\k=!xs.isEmpty)\/∃kvs,H p=Z (.dK kvs)/\k=!kvs.isEmpty
 | _=>False
def AE {kvs:List (κ×V)}{vs:List (κ×Td)}(r:KV kvs vs):(!vs.isEmpty)=!kvs.isEmpty:=by
 cases r <;> rfl
def si (r:aS xs its):(!its.toArray.isEmpty)=!xs.isEmpty:=by
 cases r <;> simp
def p8:(To:Nat)<2 ^ 63:=by decide
def LM:Sr X (λx H Q=>∃k,P0 X.K x H k/\Q k H):=by
 intro af s σ H x v Q I rx h;obtain⟨k,e,q⟩:=h;have hl:=p8;have hs:To=16777216:=Uo;cases x with
 | non=>
  cases rx;have e':k=false:=e;subst e';exact truthy_none ⟨H,I,q⟩
 | bl b=>
  cases rx;have e':k=b:=e;subst e';exact Uz ⟨H,I,q⟩
 | int i=>
  obtain⟨t,rfl⟩:=rx;have e':k=(i != 0):=e;subst e';exact PySem.P.truthy_int ⟨H,I,q⟩
 | str y=>
  obtain⟨t,rfl⟩:=rx;obtain⟨hy,e'⟩:y.length<=To/\k=((y.length:Int) != 0):=e;subst e';exact PySem.P.truthy_str (by omega) ⟨H,I.tok _,q⟩
 | byt y=>
  obtain⟨t,rfl⟩:=rx;obtain⟨hy,e'⟩:y.size<=To/\k=((y.size:Int) != 0):=e;subst e';exact W.truthy_bytes (by omega) ⟨H,I.tok _,q⟩
 | ref p=>
  cases rx;have e':(∃xs,oy X.K H p xs/\k=!xs.isEmpty)\/(∃xs,rQ X.K H p xs/\k=!xs.isEmpty)\/∃kvs,H p=Z (.dK kvs)/\k=!kvs.isEmpty:=e;rcases e' with⟨xs,hx,e'⟩|⟨xs,hx,e'⟩|⟨kvs,hx,e'⟩
  ·subst e';obtain⟨its,r,pl,hz⟩:=I.list hx;have hlen:=r.length;exact wpAny_truthy_list pl.isList (by simp only[Uk];omega) ⟨H,I.tok _,by rw[si r];exact q⟩
  ·subst e';obtain⟨its,r,pl,hz⟩:=I.tuple hx;have hlen:=r.length;exact truthy_tuple pl (by simp only[Uk];omega) ⟨H,I.tok _,by rw[si r];exact q⟩
  ·subst e';obtain⟨hz,hS,vs,r,m⟩:kvs.length<=To/\(p==UA)=false/\∃vs,KV kvs vs/\s.heap.DictOf (bC X.prog X.w) p vs:=I.hok p _ hx;have hlen:kvs.length=vs.length:=Paired.length r;exact wpAny_truthy_dict hS m (by omega) ⟨H,I.tok _,by rw[AE r];exact q⟩
 | _=>exact(show False from e).elim
def EQ (ha:PE X a ta)(he:∀whole,isTrue a X.env whole=(do let v <-whole;WJ a.pos;U1 [v] (truthy v))) :
  PT X a (λσ H Q=>ta σ H λx H'=>∃k,P0 X.K x H' k/\Q k H'):=by
 intro af s σ H Q I h;exact isTrue_plain (bQ (ha af s σ H _ I h) λv s1 ⟨x,H1,I1,r1,q1⟩=>LM af s1 σ H1 x v Q I1 r1 q1) (he _)
def z8:oz X (U4 .Add) (λx y H Q=>∃i j,x=.str i/\y=.str j/\i.length+j.length<=To/\Q (.str (i++j)) H):=by
 intro af s σ H x y v u Q I rx ry h;obtain⟨i,j,rfl,rfl,hz,q⟩:=h;obtain⟨t,rfl⟩:=rx;obtain⟨t',rfl⟩:=ry;exact add_str (λt' tk=>⟨.str (i++j),H,I.tok _,⟨_,rfl⟩,q⟩) hz
def j9 (r:aS [x] us):∃u,us=[u]/\aO x u:=by
 cases r with
 | cons r1 r2=>cases r2;exact⟨_,rfl,r1⟩
def Bc {y:V}(r:aS [x,y] us):∃u w',us=[u,w']/\aO x u/\aO y w':=by
 cases r with
 | cons r1 r2=>
  cases r2 with
  | cons r3 r4=>cases r4;exact⟨_,_,rfl,r1,r3⟩
def C0 (hc:X.calm=true):fz X (.builtin "max") (λxs H Q=>∃i j,xs=[.int i,.int j]/\Q (.int (if j>i then j else i)) H):=by
 intro af s σ H xs us Q I r h;obtain⟨i,j,rfl,q⟩:=h;obtain⟨u,w',rfl,⟨t,rfl⟩,⟨t',rfl⟩⟩:=Bc r;refine max_two_ints (I.ok.hd hc) λh' tk k=>⟨_,H,I.kept k,?_,q⟩
 by_cases hj:j>i
 ·rw[if_pos hj,if_pos hj];exact⟨_,rfl⟩
 ·rw[if_neg hj,if_neg hj];exact⟨_,rfl⟩
def Cp (hc:X.calm=true):fz X (.builtin "min") (λxs H Q=>∃i j,xs=[.int i,.int j]/\Q (.int (if j<i then j else i)) H):=by
 intro af s σ H xs us Q I r h;obtain⟨i,j,rfl,q⟩:=h;obtain⟨u,w',rfl,⟨t,rfl⟩,⟨t',rfl⟩⟩:=Bc r;refine min_two_ints (I.ok.hd hc) λh' tk k=>⟨_,H,I.kept k,?_,q⟩
 by_cases hj:j<i
 ·rw[if_pos hj,if_pos hj];exact⟨_,rfl⟩
 ·rw[if_neg hj,if_neg hj];exact⟨_,rfl⟩
def vK:fz X (.type "int") (λxs H Q=>(∃i,xs=[.int i]/\Q (.int i) H)\/∃k,xs=[.bl k]/\Q (.int (if k then 1 else 0)) H):=by
 intro af s σ H xs us Q I r h;rcases h with⟨i,rfl,q⟩|⟨k,rfl,q⟩
 ·obtain⟨u,rfl,t,rfl⟩:=j9 r;exact call_int_int ⟨.int i,H,I,⟨_,rfl⟩,q⟩
 ·obtain⟨u,rfl,r1⟩:=j9 r;cases r1;exact call_int_bool ⟨.int (if k then 1 else 0),H,I.tok _,⟨_,rfl⟩,q⟩
end
structure AQ (h:UG)(x dx C:Th)(mA:Str->Option Td):Prop where
 obj:h.get? x=Z (XC C dx)
 ns:h.Ns1 dx mA
 ne:dx≠x
def Dj {h:UG}(n:h.Ns1 dx mA):∃od,h.get? dx=Z od/\∀name,aag name od=Z (mA name):=by
 obtain⟨o,es,ep,ho,hd,hk,_,hm⟩:=n;refine⟨o,ho,λname=>?_⟩;have e:=hm name;unfold nsFind findBy at e;rw[<-Array.find?_toList] at e;unfold aag;rw[hd];dsimp only;split
 ·simp_all
 ·rename_i q;rw[q] at e;have a:es.toList.any (·.refKey)=false:=by
   rw[any_eq_false];intro y hy;obtain⟨z,t,hkey⟩:=hk y (Array.mem_toList_iff.mp hy);simp[DictEntry.refKey,hkey]
  rw[if_neg (by rw[a];simp)];exact congrArg Z e
def AQ.look (I:AQ h x dx C mA):∃od,W.InstAt h x (XC C dx) C (Z od)/\∀name,aag name od=Z (mA name):=
 let ⟨od,ho,hl⟩:=Dj I.ns
 ⟨od,⟨I.obj,rfl,rfl,ho⟩,hl⟩
section
variable {prog:TR}{w:TY}{A:Ux}{E:Td->Tg->Prop}{s:Tg}{K:Tp}{x dx C f:Th}{mA:Str->Option Td}{name:Str}{v:Td}
def Hu (X:K.In s.heap)(I:AQ s.heap x dx C mA)(hg:XU K C name=true)(hh:Yk K C=true)
  (ha:Vd K (.ref C) name=Z Y) (hv:mA name=Z v) (hv':W.handedIn v=true) (h:Q v {s with toks:=s.toks+1}) :
  Tn (TF prog w) A (getAttr (.ref x) name expr) Q E s:=by
 obtain⟨od,J,hl⟩:=I.look;exact W.get_value X J (YM hg).1 (W.findObj_own hh ha rfl (by simp_all)) hv' h
def EN (X:K.In s.heap)(I:AQ s.heap x dx C mA)(hg:XU K C name=true)
  (hf:Vd K (.ref C) name=Z (Z (.ref f))) (ht:W.isFn K (.ref f)=true) (hv:mA name=Y) (h:Q (.ref f,[.ref x]) s) :
  Tn (TF prog w) A (WG (.ref x) name pl) Q E s:=by
 obtain⟨od,J,hl⟩:=I.look;exact W.method_fn X J (YM hg).1 (YM hg).2 hf (beq_iff_eq.mp ht) (by show(aag name od).map (·.isSome)=Z false;simp_all) h
def IE (X:K.In s.heap)(I:AQ s.heap x dx C mA)
  (hs:Vd K (.ref C) "__setattr__"=Z (Z (.builtin "object.__setattr__"))) (hp:ZI K C=true) (ht:aaE K C name=Z Y) (hh:Yk K C=true)
  (hw:PySem.Within mA ns) (hsz:ns.length<=To)
  (h:∀h',AQ h' x dx C (λy=>if y=name then Z v else mA y)->UD dx s.heap h'->Q () {s with heap:=h',toks:=s.toks+2}) :
  Tn (TF prog w) A (setAttr (.ref x) name v) Q E s:=by
 obtain⟨od,J,hl⟩:=I.look;refine W.set_plain X J hs (W.osa_open  (r:=Y) X J hp ht λb=>?_);obtain⟨cd,hc,hd'⟩:=W.any_some hh;refine Ta (Tb (Ta (Ta (wpAny_loadPart I.obj (Ta (W.Looks.here  (W.looks_clsIn X hc) ?_))))));rw[hd'];refine Tb (a:=Z dx) (Ta (Tb (Ta ?_)));refine wpAny_nsSet1 (s:={s with toks:=s.toks+1}) I.ns λh' hn2 hs2=>?_
 obtain⟨oD,esD,epD,hoD,hdD,hcD⟩:=hn2.count (PySem.Within.cons name v hw);refine Ta (wpAny_lookBehind hoD (by rw[hdD];exact pastItsLine_dict (TL hcD (by rw[Ug];omega))) ?_);exact Tb (h _ ⟨(hs2.2 _ (Uj I.ne)).trans I.obj,hn2,I.ne⟩ hs2)
def Gr {R:aaO->Tg->Prop}(X:K.In s.heap)(hm:Zu K C=true)
  (hi:Vd K (.ref C) "__init__"=Z (Z (.ref f))) (hf:aaX K (.ref f)=Z (.type "function"))
  (h:Yx (TF prog w) (A.under (.builtin "type.__call__" ⟨.ref C::vs,kw⟩)) (.call (.ref f) ⟨.ref (s.heap.objs.size+1)::vs,kw⟩) (W.InitBack (s.heap.objs.size+1) R)
   {s with heap:=(s.heap.push WN).push (XC C s.heap.objs.size)}) :
  Yx (TF prog w) A (.call (.ref C) ⟨vs,kw⟩) R s:=W.make_core (W.makes_of X hm) (W.looks_findIn X hi) (λself=>W.bind_fn X self hf) (.inl rfl) h
end
def kO (f:Str)(v:V):List (Str×V)->List (Str×V)
 | []=>[(f,v)]
 | (g,x)::r=>if g=f then(g,v)::r else(g,x)::kO f v r
theorem qK (f g:Str)(v:V):∀fs:List (Str×V),(kO f v fs).lookup g=if g=f then Z v else fs.lookup g
 | []=>by
  show WO g [(f,v)]=_
  by_cases h:g=f
  ·simp_all
  simp_all
 | (k,x)::r=>by
  have ih:=qK f g v r;rw[show kO f v ((k,x)::r)=(if k=f then(k,v)::r else(k,x)::kO f v r) from rfl]
  by_cases hk:k=f
  ·rw[if_pos hk]
   by_cases h:g=k
   ·simp_all
   ·simp only[WO,(beq_eq_false_iff_ne.mpr h),if_neg (λe:g=f=>h (e.trans hk.symm))]
  ·rw[if_neg hk]
   by_cases h:g=k
   ·simp_all
   ·simp only[WO,(beq_eq_false_iff_ne.mpr h)];exact ih
theorem pW (f:Str)(v:V):∀fs:List (Str×V),f∈(kO f v fs).map (·.1)/\∀g,g∈fs.map (·.1)->g∈(kO f v fs).map (·.1)
 | []=>⟨by simp[kO],λg h=>by simp_all⟩
 | (k,x)::r=>by
  obtain⟨i1,i2⟩:=pW f v r;rw[show kO f v ((k,x)::r)=(if k=f then(k,v)::r else(k,x)::kO f v r) from rfl]
  grind
theorem qW (f:Str)(v:V):∀fs:List (Str×V),(kO f v fs).length<=fs.length+1
 | []=>by simp[kO]
 | (k,x)::r=>by
  have ih:=qW f v r;rw[show kO f v ((k,x)::r)=(if k=f then(k,v)::r else(k,x)::kO f v r) from rfl]
  grind
def lE.some_of (r:lE (Z v) o):∃u,o=Z u/\aO v u:=by
 cases o with
 | none=>exact(r).elim
 | some u=>exact⟨u,rfl,r⟩
def lE.none_of (r:lE Y o):o=Y:=by
 cases o with
 | none=>rfl
 | some u=>exact(r).elim
def Du (r:aO v u):W.handedIn u=true:=by
 cases v with
 | non=>cases (r);rfl
 | bl b=>cases (r);rfl
 | int i=>obtain⟨t,e⟩:=(r);cases e;rfl
 | str x=>obtain⟨t,e⟩:=(r);cases e;rfl
 | byt b=>obtain⟨t,e⟩:=(r);cases e;rfl
 | flt b=>obtain⟨t,e⟩:=(r);cases e;rfl
 | ref a=>cases (r);rfl
 | ty n=>cases (r);rfl
section
variable {P:TR}{w:TY}{H H':Hp}{h h':UG}{a C dx:Th}{fs fs':List (Str×V)}
def wV (hok:md P w H h)(e:H a=Z (.ins C dx fs)):∃mA,AQ h a dx C mA/\(∀f,lE (fs.lookup f) (mA f))/\PySem.Within mA (fs.map (·.1))/\fs.length<=1000/\H dx=Z (.own a):=by
 obtain⟨d,z,ne,ob,mA,n,r,q⟩:=(hok a _ e);exact⟨mA,⟨ob,n,ne⟩,r,q,z,d⟩
end
structure Fv (K:Tp)(C:Th):Prop where
 pg:XU K C Yy=true
 hd:Yk K C=true
 po:ZI K C=true
 sa:Vd K (.ref C) "__setattr__"=Z (Z (.builtin "object.__setattr__"))
def Fv.get {K:Tp}(c:Fv K C)(f:Str):XU K C f=true:=c.pg
def hU (K:Tp)(C:Th)(f:Str):Prop:=Vd K (.ref C) f=Z Y
def hU.taker {K:Tp}(n:hU K C f):aaE K C f=Z Y:=by
 unfold aaE;rw[n];rfl
structure zH (K:Tp)(C:Th)(m:Str)(f:Th):Prop where
 at_:Vd K (.ref C) m=Z (Z (.ref f))
 fn:W.isFn K (.ref f)=true
 kp:VU K (.ref f)=true
section
variable {X:Cx}{af:List (Th×Obj)}{σ:St}{H:Hp}{s:Tg}{a C dx:Th}{fs:List (Str×V)}{f:Str}{v:V}{A:Ux}{E:Td->Tg->Prop}
def uf (I:Inv X af σ H s)(e:H a=Z (.ins C dx fs))(c:Fv X.K C)(n:hU X.K C f)(l:fs.lookup f=Z v)
  (h:∀u s',Inv X af σ H s'->aO v u->Q u s'):Tn (TF X.prog X.w) A (getAttr (.ref a) f b) Q E s:=by
 obtain⟨mA,O,r,_,_,_⟩:=wV I.hok e;obtain⟨u,hu,ru⟩:=lE.some_of   (by rw[<-l];exact r f);exact Hu I.kIn O (c.get f) c.hd n hu (Du ru) (h u _ (I.tok _) ru)
def sI (I:Inv X af σ H s)(e:H a=Z (.ins C dx fs))(c:Fv X.K C)(k:zH X.K C m g)(l:fs.lookup m=Y)
  (h:Q (.ref g,[.ref a]) s):Tn (TF X.prog X.w) A (WG (.ref a) m pl) Q E s:=by
 obtain⟨mA,O,r,_,_,_⟩:=wV I.hok e;exact EN I.kIn O (c.get m) k.at_ k.fn (lE.none_of (by rw[<-l];exact r m)) h
def t5 {y:V}(I:Inv X af σ H s)(e:H a=Z (.ins C dx fs))(c:Fv X.K C)(n:hU X.K C f)(hl:fs.length<1000)(ry:aO y u)
  (h:∀s',Inv X af σ (bj H a (.ins C dx (kO f y fs))) s'->Q () s'):Tn (TF X.prog X.w) A (setAttr (.ref a) f u) Q E s:=by
 obtain⟨mA,O,r,wi,_,ho⟩:=wV I.hok e;refine IE I.kIn O c.sa c.po n.taker c.hd wi (by rw[TC,Uo];omega) λh' O' sb=>h _ ?_
 refine I.write (x:=a) (e:=dx) (by rw[e];exact Ve) (.inr ho) (λb q hb z=>(sb.2 b hb).trans z) (let ⟨o,_,_,e',_⟩:=O'.ns;⟨o,e'⟩) ?_;refine⟨by rw[ao O.ne];exact ho,?_,O.ne,O'.obj,_,O'.ns,λg=>?_,λg hg=>?_⟩
 ·have:=qW f y fs;omega
 ·rw[qK]
  by_cases q:g=f
  ·rw[if_pos q,if_pos q];exact ry
  ·rw[if_neg q,if_neg q];exact r g
 ·by_cases q:g=f
  ·rw[q];exact(pW f y fs).1
  ·refine(pW f y fs).2 g (wi g λz=>hg ?_)
   simp_all
def Inv.made (I:Inv X af σ H s):Inv X af σ (bj (bj H s.heap.objs.size (.own (s.heap.objs.size+1))) (s.heap.objs.size+1) (.ins C s.heap.objs.size []))
  {s with heap:=(s.heap.push WN).push (XC C s.heap.objs.size)}:=by
 have e1:(s.heap.push WN).get? s.heap.objs.size=Z WN:=Tj s.heap rfl;refine(I.laid  (o:=.own (s.heap.objs.size+1))  (t':=s.toks) (λb u q=>Tc _ q) (Te _) ⟨_,e1⟩).laid    (λb u q=>Tc _ q) (WX (Wo _ _)) ?_;have ne:s.heap.objs.size≠s.heap.objs.size+1:=TB (Vv _);refine⟨by rw[ao ne,aV],Uc _,ne,(by
  have:=Tj (s.heap.push WN) (o:=XC C s.heap.objs.size) rfl;rwa [Wo] at this),λ_=>Y,(Heap.Ns1.of_empty (⟨WN,#[],_,e1,rfl,(λe he=>absurd he (by simp)),λ_=>rfl⟩)).at λo q=>Tc _ q,λ_=>Ve,λy hy=>absurd rfl hy⟩
def Jn {f:Str}{s:Tg}(hb:Uw e f env (Uy e env)=Uy e env)
  (h:Tn (TF prog w) A (Uy e env) (λo s₁=>Tn (TF prog w) A (getAttr o f true) Q E s₁) E s):Tn (TF prog w) A (Uy (.Attribute e f pos) env) Q E s:=
 Attribute_any_ h (by rw[arm_eval_Attribute,hb])
end
def Q3 (K:Tp)(ta:TE)(f:Str):TE:=λσ H Q=>ta σ H λx H1=>∃a C dx fs v,x=.ref a/\H1 a=Z (.ins C dx fs)/\Fv K C/\hU K C f/\fs.lookup f=Z v/\Q v H1
def Rb (K:Tp)(ta tv:TE)(f:Str):TS:=λD σ H=>tv σ H λy H1=>ta σ H1 λx H2=>∃a C dx fs,x=.ref a/\H2 a=Z (.ins C dx fs)/\Fv K C/\hU K C f/\fs.length<1000/\
 D.nx σ (bj H2 a (.ins C dx (kO f y fs)))
def HN (X:Cx)(op:Operator)(rd:V->V->Hp->VK->Prop):Prop:=
 ∀(af:List (Th×Obj)) (s:Tg) (σ:St) (H:Hp) (x y:V) (u v:Td) (Q:VK),Inv X af σ H s->aO x u->aO y v->rd x y H Q->Tn (TF X.prog X.w) X.A (aaF op u v) (EP X af σ Q) X.xe s
def IN (K:Tp)(ta tv:TE)(rd:V->V->Hp->VK->Prop)(f:Str):TS:=λD σ H=>ta σ H λx H1=>∃a C dx fs v,x=.ref a/\H1 a=Z (.ins C dx fs)/\Fv K C/\hU K C f/\fs.lookup f=Z v/\
 tv σ H1 λy H2=>rd v y H2 λz H3=>∃dx' fs',H3 a=Z (.ins C dx' fs')/\fs'.length<1000/\D.nx σ (bj H3 a (.ins C dx' (kO f z fs')))
section
variable {X:Cx}{o e value:T9}{f:Str}{pos pos' tpos:Pos}{ta tv:TE}
def MA (he:PE X e ta)(hb:Uw e f X.env (Uy e X.env)=Uy e X.env):PE X (.Attribute e f pos) (Q3 X.K ta f):=by
 intro af s σ H Q I h;refine Jn hb (bQ (he af s σ H _ I h) λu s1 hxx=>?_);obtain⟨x,H1,I1,rx,a,C,dx,fs,v,ex,ea,c,n,l,q⟩:=hxx;subst ex;obtain rfl:u=TU a:=rx;exact uf I1 ea c n l λu' s2 I2 ru=>⟨v,H1,I2,ru,q⟩
def K8 (ha:PE X o ta)(hv:PE X value tv)(hs:V4 value (Z (.Attribute o f pos')) pos.line X.env=pure false):PS X (.Assign [.Attribute o f pos'] value pos) (Rb X.K ta tv f):=by
 intro af s σ H D I h;refine plainObj_wpAny_Assign_Attribute (bQ (hv af s σ H _ I h) λu s1 ⟨y,H1,I1,ry,q⟩=>bQ (ha af s1 σ H1 _ I1 q) λov s2 hxx=>?_) hs;obtain⟨x,H2,I2,rx,a,C,dx,fs,ex,ea,c,n,l,q2⟩:=hxx;subst ex;obtain rfl:ov=TU a:=rx;exact t5 I2 ea c n l ry λs3 I3=>⟨σ,_,I3,q2⟩
def Do (ha:PE X o ta)(hv:PE X value tv)(hop:HN X op rd):PS X (.AugAssign (.Attribute o f tpos) op value pos) (IN X.K ta tv rd f):=by
 intro af s σ H D I h;refine wpAny_AugAssign_AttributeAny (bQ (ha af s σ H _ I h) λov s1 hxx=>?_);obtain⟨x,H1,I1,rx,a,C,dx,fs,v,ex,ea,c,n,l,q⟩:=hxx;subst ex;obtain rfl:ov=TU a:=rx;refine uf I1 ea c n l λu s2 I2 ru=>bQ (hv af s2 σ H1 _ I2 q) λw3 s3 ⟨y,H2,I3,ry,q3⟩=>bQ (hop af s3 σ H2 v y u w3 _ I3 ru ry q3) λw4 s4 hxx=>?_
 obtain⟨z,H3,I4,rz,dx',fs',ea',l',q4⟩:=hxx;exact t5 I4 ea' c n l' rz λs5 I5=>⟨σ,_,I5,q4⟩
def RO:V->V->Hp->VK->Prop:=λx y H Q=>∃i j,x=.int i/\y=.int j/\Q (.int (i+j)) H
def Ld:HN X .Add RO:=by
 rintro af s σ H x y u v Q I rx ry ⟨i,j,rfl,rfl,q⟩;obtain⟨t,rfl⟩:=(rx);obtain⟨t',rfl⟩:=(ry);exact aaV ⟨.int (i+j),H,I.tok _,⟨_,rfl⟩,q⟩
end
structure bo (k:Nat)(A:Ux):Prop where
 hd:A.handled=Y
 dp:A.depth+3*k+5<recursionLimit
 un:A.units+16*k+200<XE
def bo.mono {k:Nat}(r:bo k A)(h:j<=k):bo j A:=⟨r.hd,by have:=r.dp;omega,by have:=r.un;omega⟩
def bo.deeper {k:Nat}(r:bo (k+1) A)(env:Env):bo k (A.deeper env):=
 ⟨r.hd,by have:=r.dp;show A.depth+1+3*k+5<_;omega,by have:=r.un;show A.units+3+16*k+200<_;omega⟩
def bo.in1 {k:Nat}(r:bo (k+1) A):bo k A.in1:=
 ⟨r.hd,by have:=r.dp;grind,by have:=r.un;grind⟩
def AS {A:Ux}:(A.under (.builtin "type.__call__" ⟨.ref C::us,kw⟩)).depth=A.depth+1:=by
 rfl
def AJ {A:Ux}:(A.under (.builtin "type.__call__" ⟨.ref C::us,kw⟩)).units=A.units+1:=by
 rfl
def bo.make {k:Nat}(r:bo (k+1) A)(C:Th)(us:List Td)(kw:List (Str×Td)):bo k (A.under (.builtin "type.__call__" ⟨.ref C::us,kw⟩)):=
 ⟨r.hd,by have:=r.dp;rw[AS];omega,by have:=r.un;rw[AJ];omega⟩
def bo.depth {k:Nat}(r:bo k A):A.depth<recursionLimit:=by have:=r.dp;omega
def bo.units {k:Nat}(r:bo k A):A.units+64<XE:=by have:=r.un;omega
def bo.units0 {k:Nat}(r:bo k A):A.units<XE:=by have:=r.un;omega
def LK:TA:=λ_ H Q=>Q [] H
def J2 (ta:TE)(tr:TA):TA:=λσ H Q=>ta σ H λx H1=>tr σ H1 λxs H2=>Q (x::xs) H2
section
variable {X:Cx}{e:T9}{es:List T9}{te:TE}{t:TA}{pos:Pos}
def tK:PA X [] LK:=λ_ _ _ _ H Q I h=>Zb ⟨[],H,I,.nil,h⟩
def mU (ha:PE X e te)(hr:PA X es t)(hs:T2 (e::es) X.env=(false,Uy e X.env)::T2 es X.env:=by rfl):PA X (e::es) (J2 te t):=by
 intro pos af s σ H Q I h;rw[hs];refine Xb (bQ (ha af s σ H _ I h) λu s1 hxx=>?_);obtain⟨x,H1,I1,r1,q1⟩:=hxx;exact bQ (hr pos af s1 σ H1 _ I1 q1) λus s2 ⟨xs,H2,I2,r2,q2⟩=>⟨x::xs,H2,I2,.cons r1 r2,q2⟩
def RK (t:TA):TE:=λσ H Q=>t σ H λxs H1=>xs.length<=To/\∀p,H1 p=Y->Q (.ref p) (bj H1 p (.tup xs))
def Q4 (t:TA):TE:=λσ H Q=>t σ H λxs H1=>xs.length<=To/\∀p,H1 p=Y->Q (.ref p) (bj H1 p (.lst xs))
def Lj {x1}(h:PA X es t):PE X (.Tuple es x1 pos) (RK t):=by
 intro af s σ H Q I hq;refine wpAny_Tuple_spliced (bQ (h pos af s σ H _ I hq) λus s1 ⟨xs,H1,I1,r,z,q⟩=>⟨by rwa [<-r.length],?_⟩);refine⟨.ref s1.heap.objs.size,bj H1 s1.heap.objs.size (.tup xs),I1.laid  (λb u e=>Tc _ e) (Te _) ?_,rfl,q _ (I1.hok.fresh (Te _))⟩;exact⟨z,us,r,⟨_,Tj _ rfl,rfl,_,rfl⟩⟩
def Gu (h:PA X es t):PE X (.List es pos) (Q4 t):=by
 intro af s σ H Q I hq;refine wpAny_List_spliced (bQ (h pos af s σ H _ I hq) λus s1 ⟨xs,H1,I1,r,z,q⟩=>⟨by rwa [<-r.length],?_⟩);refine⟨.ref s1.heap.objs.size,bj H1 s1.heap.objs.size (.lst xs),I1.laid  (λb u e=>Tc _ e) (Te _) ?_,rfl,q _ (I1.hok.fresh (Te _))⟩;exact⟨z,us,0,r,Tj _ rfl⟩
end
abbrev Sp:=List V->Hp->VK->XK->Prop
abbrev K2:=List Env->Hp->Tg->XK->Td->Tg->Prop
structure uJ (P:TR)(w:TY)(K:Tp)(mg:Str->Option Td)(base:UG)(A:Ux)(outer:List Env)(s:Tg)(H:Hp):Prop where
 frames:A.frames=Z outer
 mod:Mod K mg base
 bs:∀b o,base.get? b=Z o->s.heap.get? b=Z o/\H b=Y
 bsz:base.objs.size<=s.heap.objs.size
 funs:s.heap.FunFrames base outer
 frf:∀b∈uI outer,H b=Y
 hok:md P w H s.heap
 bare:Xo s.gens
def CE (outer:List Env)(P:TR)(w:TY)(H:Hp)(s:Tg)(Q:VK)(u:Td)(s':Tg):Prop:=
 ∃v H',s'.os=s.os/\Xo s'.gens/\Un (uI outer) [] H H' s.heap s'.heap/\md P w H' s'.heap/\aO v u/\Q v H'
def CR (CX:K2)(outer:List Env)(P:TR)(w:TY)(H:Hp)(s:Tg)(Q:VK)(E:XK)(r:aaO)(s':Tg):Prop:=
 match r with
 | .ok (.ret u)=>CE outer P w H s Q u s'
 | .ok _=>False
 | .error e=>CX outer H s E e s'
structure eM (P:TR)(w:TY)(K:Tp)(mg:Str->Option Td)(base:UG)(CX:K2)(k:Nat)(f:Th)(fd:UZ)(ps:List Str)(sp:Sp):Prop where
 len:∀vs H Q E,sp vs H Q E->vs.length=ps.length
 run:∀(A:Ux) (outer:List Env) (s:Tg) (H:Hp) (args:Args) (us:List Td) (vs:List V) (Q:VK) (E:XK),bo k A->uJ P w K mg base A outer s H->WY s fd args (ps.zip us)->aS vs us->sp vs H Q E->
  Yx (TF P w) A (.call (.ref f) args) (CR CX outer P w H s Q E) s
def eM.imp {K:Tp}{k:Nat}(F:eM P w K mg base CX k f fd ps sp)
  (h:∀vs H Q E,sp' vs H Q E->sp vs H Q E):eM P w K mg base CX k f fd ps sp':=
 ⟨λvs H Q E q=>F.len vs H Q E (h _ _ _ _ q),λA outer s H args us vs Q E hr he hb hv hs=>F.run A outer s H args us vs Q E hr he hb hv (h _ _ _ _ hs)⟩
def uJ.make {K:Tp}(e:uJ P w K mg base A outer s H)(C:Th)(us:List Td)(kw:List (Str×Td)) :
  uJ P w K mg base (A.under (.builtin "type.__call__" ⟨.ref C::us,kw⟩)) outer s H:=⟨by first|exact e.frames|rfl,e.mod,e.bs,e.bsz,e.funs,e.frf,e.hok,e.bare⟩
def uJ.in1 {K:Tp}(e:uJ P w K mg base A outer s H) :
  uJ P w K mg base A.in1 outer s H:=⟨e.frames,e.mod,e.bs,e.bsz,e.funs,e.frf,e.hok,e.bare⟩
section
variable {X:Cx}{af:List (Th×Obj)}{σ:St}{H:Hp}{s s':Tg}
def Inv.env0 (I:Inv X af σ H s):uJ X.prog X.w X.K X.mg X.base X.A X.stack s H:=
 ⟨I.ok.frames,I.ok.mod,I.bs,TL I.ok.bsz I.sz,I.stack,I.stkFree,I.hok,I.bare⟩
def Inv.after (I:Inv X af σ H s)(h:CE X.stack X.prog X.w H s Q u s'):EP X af σ Q u s':=by
 obtain⟨v,H',os,bare,un,hok,r,q⟩:=h;obtain⟨hh,g,d,t,os'⟩:=s';obtain rfl:os'=s.os:=os;exact⟨v,H',I.call      un hok bare (λb z=>absurd z (by simp)),r,q⟩
end
def Oo (sp:Sp)(dvs:List V)(E:XK)(t:TA):TE:=λσ H Q=>t σ H λvs H1=>sp (vs++dvs) H1 Q E
def EM (C:Th)(m:Str)(sp:Sp)(dvs:List V)(E:XK)(ta:TE)(t:TA):TE:=λσ H Q=>ta σ H λx H1=>∃a dx fs,x=.ref a/\H1 a=Z (.ins C dx fs)/\fs.lookup m=Y/\
 t σ H1 λvs H2=>sp (x::(vs++dvs)) H2 Q E
def Kk (C:Th)(sp:Sp)(dvs:List V)(E:XK)(t:TA):TE:=λσ H Q=>t σ H λvs H1=>∀x dx,H1 x=Y->H1 dx=Y->dx≠x->
 sp (.ref x::(vs++dvs)) (bj (bj H1 dx (.own x)) x (.ins C dx [])) (λv H2=>v=.non/\Q (.ref x) H2) E
def f6 (K:Tp)(fd:UZ)(ps:List Str)(ds:List Td):Prop:=
 ∀(s:Tg) (us:List Td),K.In s.heap->(us++ds).length=ps.length->WY s fd ⟨us,[]⟩ (ps.zip (us++ds))
def f6.all {K:Tp}(h:∀us:List Td,us.length=ps.length->Yl fd ⟨us,[]⟩=pure (ps.zip us)):f6 K fd ps []:=λs us _ hl=>by
 rw[Xc] at hl ⊢;exact .of_eq (h us hl)
def nX (CX:K2)(X:Cx)(E:XK):Prop:=∀(af:List (Th×Obj)) (σ:St) (H:Hp) (s:Tg) (e:Td) (s':Tg),Inv X af σ H s->CX X.stack H s E e s'->X.xe e s'
section
variable {X:Cx}{CX:K2}{k:Nat}{f C:Th}{fd:UZ}{ps:List Str}{sp:Sp}{dvs:List V}{ds:List Td}{E:XK}{x m:Str}{p pos apos:Pos}{e o:T9}{es:List T9}{ta:TE}{t:TA}
def AW (F:eM X.prog X.w X.K X.mg X.base CX k f fd ps sp)(hr:bo k X.A)(hb:f6 X.K fd ps ds)(hd:aS dvs ds)(hx:nX CX X E)
  (I:Inv X af σ H s) (r:aS vs us) (h:sp (vs++dvs) H Q E):Tn (TF X.prog X.w) X.A (call (.ref f) us) (EP X af σ Q) X.xe s:=by
 have r2:=r.append hd;refine aah (Wq (F.run X.A X.stack s H ⟨us,[]⟩ (us++ds) (vs++dvs) Q E hr I.env0 (hb s us I.kIn (by rw[<-r2.length];exact F.len _ _ _ _ h)) r2 h) λr s' hq=>?_);cases r with
 | error e=>exact hx af σ H s e s' I hq
 | ok fl=>
  cases fl with
  | ret u=>exact I.after hq
  | next=>assumption
  | brk=>assumption
  | cont=>assumption
def HL (F:eM X.prog X.w X.K X.mg X.base CX k f fd ps sp)(hr:bo k X.A)(hg:Gl X x)(hm:X.mg x=Z (.ref f))(hk:VU X.K (.ref f)=true)(hb:f6 X.K fd ps ds)(hd:aS dvs ds)(hx:nX CX X E)
  (ha:PA X (e::es) t) (hdb:(x==("__debug__":Str))=false:=by decide) (he:T2 (e::es) X.env=(false,Uy e X.env)::T2 es X.env:=by rfl) (hpl:(Vu pos (T2 es X.env)).any (·.1)=false:=by rfl) :
  PE X (.Call (.Name x p) (e::es) [] pos) (Oo sp dvs E t):=by
 intro af s σ H Q I h;refine VB (xE I hg hm ?_ hdb);refine Zc  I.ok.mod.kin hk (bQ (ha pos af s σ H _ I h) λus s1 ⟨vs,H1,I1,r,q⟩=>⟨I1.kIn,?_⟩) he hpl;exact AW F hr hb hd hx I1 r q
def HK (he:PE X o ta)(c:Fv X.K C)(hm:zH X.K C m f)(F:eM X.prog X.w X.K X.mg X.base CX k f fd ps sp)(hr:bo k X.A)(hb:f6 X.K fd ps ds)(hd:aS dvs ds)(hx:nX CX X E)(ha:PA X (e::es) t)
  (hst:T2 (e::es) X.env=(false,Uy e X.env)::T2 es X.env:=by rfl) (hpl:(Vu pos (T2 es X.env)).any (·.1)=false:=by rfl)
  (ht:Uy (.Call (.Attribute o m apos) (e::es) [] pos) X.env=(do
   let ov <-Uy o X.env
   WJ apos.atName
   let (f,first) <-U1 [ov] (WG ov m pl)
   Ym pos f first (Vu pos (T2 (e::es) X.env)) (Wb pos (Va [] X.env))):=by rfl) :
  PE X (.Call (.Attribute o m apos) (e::es) [] pos) (EM C m sp dvs E ta t):=by
 intro af s σ H Q I h;refine ZS  (bQ (he af s σ H _ I h) λu s1 hxx=>?_) ht;obtain⟨x,H1,I1,rx,a,dx,fs,ex,ea,l,q⟩:=hxx;subst ex;obtain rfl:u=TU a:=rx;refine sI I1 ea c hm l ?_;refine Zc   I.ok.mod.kin hm.kp (bQ (ha pos af s1 σ H1 _ I1 q) λus s2 ⟨vs,H2,I2,r,q2⟩=>⟨I2.kIn,?_⟩) hst hpl;exact AW  (vs:=.ref a::vs) F hr hb hd hx I2 (.cons rfl r) q2
def Ef (he:PE X o ta)(c:Fv X.K C)(hm:zH X.K C m f)(F:eM X.prog X.w X.K X.mg X.base CX k f fd ps sp)(hr:bo k X.A)(hb:f6 X.K fd ps ds)(hd:aS dvs ds)(hx:nX CX X E)
  (ht:Uy (.Call (.Attribute o m apos) [] [] pos) X.env=(do
   let ov <-Uy o X.env
   WJ apos.atName
   let (f,first) <-U1 [ov] (WG ov m pl)
   Ym pos f first (Vu pos (T2 [] X.env)) (Wb pos (Va [] X.env))):=by rfl) :
  PE X (.Call (.Attribute o m apos) [] [] pos) (EM C m sp dvs E ta LK):=by
 intro af s σ H Q I h;refine ZS  (bQ (he af s σ H _ I h) λu s1 hxx=>?_) ht;obtain⟨x,H1,I1,rx,a,dx,fs,ex,ea,l,q⟩:=hxx;subst ex;obtain rfl:u=TU a:=rx;refine sI I1 ea c hm l ?_;exact W.callWith_K0  I1.kIn hm.kp (AW  (vs:=[.ref a]) F hr hb hd hx I1 (.cons rfl .nil) q)
structure Mk (K:Tp)(C f:Th):Prop where
 makes:Zu K C=true
 init:Vd K (.ref C) "__init__"=Z (Z (.ref f))
 fn:W.isFn K (.ref f)=true
 kp:VU K (.ref C)=true
def DT (M:Mk X.K C f)(F:eM X.prog X.w X.K X.mg X.base CX k f fd ps sp)(hr:bo (k+1) X.A)(hb:f6 X.K fd ps ds)(hd:aS dvs ds)
  (hx:nX CX X E) (I:Inv X af σ H s) (r:aS vs us)
  (h:∀x dx,H x=Y->H dx=Y->dx≠x->sp (.ref x::(vs++dvs)) (bj (bj H dx (.own x)) x (.ins C dx [])) (λv H2=>v=.non/\Q (.ref x) H2) E) :
  Tn (TF X.prog X.w) X.A (call (.ref C) us) (EP X af σ Q) X.xe s:=by
 have hq:=h (s.heap.objs.size+1) s.heap.objs.size (I.hok.fresh (Vz _)) (I.hok.fresh (Te _)) (TB (Vv _));have I2:=Inv.made (C:=C) I;have r2:aS (V.ref (s.heap.objs.size+1)::(vs++dvs)) (TU (s.heap.objs.size+1)::(us++ds)):=.cons rfl (r.append hd);refine aah (Gr  I.kIn M.makes M.init (beq_iff_eq.mp M.fn) (Wq (F.run _ X.stack _ _ ⟨TU (s.heap.objs.size+1)::us,[]⟩ (TU (s.heap.objs.size+1)::(us++ds)) _ _ E (hr.make C us [])
  (I2.env0.make C us []) (hb _ (TU (s.heap.objs.size+1)::us) I2.kIn (by
  have e:=r2.length;rw[F.len _ _ _ _ hq] at e;exact e.symm)) r2 hq) λr s' hq'=>?_))
 cases r with
 | error e=>exact hx af σ _ _ e s' I2 hq'
 | ok fl=>
  cases fl with
  | ret u=>
   obtain⟨v,H',I3,rv,ev,q3⟩:=I2.after hq';subst ev;exact⟨rv,⟨V.ref (s.heap.objs.size+1),H',I3,rfl,q3⟩⟩
  | next=>assumption
  | brk=>exact UV hq'
  | cont=>assumption
def Ip (M:Mk X.K C f)(F:eM X.prog X.w X.K X.mg X.base CX k f fd ps sp)(hr:bo (k+1) X.A)(hg:Gl X x)(hm:X.mg x=Z (.ref C))(hb:f6 X.K fd ps ds)(hd:aS dvs ds)(hx:nX CX X E)
  (ha:PA X (e::es) t) (hdb:(x==("__debug__":Str))=false:=by decide) (he:T2 (e::es) X.env=(false,Uy e X.env)::T2 es X.env:=by rfl) (hpl:(Vu pos (T2 es X.env)).any (·.1)=false:=by rfl) :
  PE X (.Call (.Name x p) (e::es) [] pos) (Kk C sp dvs E t):=by
 intro af s σ H Q I h;refine VB (xE I hg hm ?_ hdb);refine Zc  I.ok.mod.kin M.kp (bQ (ha pos af s σ H _ I h) λus s1 ⟨vs,H1,I1,r,q⟩=>⟨I1.kIn,?_⟩) he hpl;exact DT M F hr hb hd hx I1 r q
end
structure eY (N P:List Str)(sc:X8):Prop where
 kind:sc.kind=.function
 co:sc.isCoroutine=false
 gen:sc.isGenerator=false
 nd:N.Nodup
 pre:N.take P.length=P
 par:∀x∈P,sc.names.lookup x=Z .local\/sc.names.lookup x=Z .cell
 nofree:∀y∈sc.names,y.2≠.free
theorem vJ {Xd:Str->Option aai}:∀{binds:List (Str×Td)} {m:Str->Option Td},(∀v,(x,v)∉binds)->aaG Xd binds m x=m x
 | [],_,_=>rfl
 | (n,v)::r,m,h=>by
  unfold aaG;rw[vJ λw hw=>h w (T6 _ hw)];split
  ·have:x≠n:=by rintro rfl;exact h v TN
   simp[this]
  rfl
theorem v8 {Xd:Str->Option aai}:∀{binds:List (Str×Td)} {m:Str->Option Td},(∀v,(x,v)∉binds)->aaH Xd binds m x=m x
 | [],_,_=>rfl
 | (n,v)::r,m,h=>by
  unfold aaH;rw[v8 λw hw=>h w (T6 _ hw)];split
  ·rfl
  ·have:x≠n:=by rintro rfl;exact h v TN
   simp[this]
theorem vj {Xd:Str->Option aai}:∀{P:List Str} {vs:List Td} {i:Nat} {m:Str->Option Td},P.Nodup->P[i]?=Z x->vs[i]?=Z v->Xd x=Z .local->
  aaG Xd (P.zip vs) m x=Z v
 | [],_,_,_,_,h,_,_=>by simp_all
 | _::_,[],_,_,_,_,h,_=>by simp_all
 | p::P,w::vs,0,m,nd,h1,h2,hk=>by
  simp at h1 h2;subst h1;subst h2;show aaG Xd ((p,w)::P.zip vs) m p=_;unfold aaG;rw[vJ λv hv=>(YY.mp nd).1 (YZ hv).1,if_pos hk];simp
 | p::P,w::vs,i+1,m,nd,h1,h2,hk=>by
  unfold aaG;exact vj  (YY.mp nd).2 (by assumption) (by assumption) hk
theorem v6 {Xd:Str->Option aai}:∀{P:List Str} {vs:List Td} {i:Nat} {m:Str->Option Td},P.Nodup->P[i]?=Z x->vs[i]?=Z v->Xd x≠Z .local->
  aaH Xd (P.zip vs) m x=Z v
 | [],_,_,_,_,h,_,_=>by simp_all
 | _::_,[],_,_,_,_,h,_=>by simp at h
 | p::P,w::vs,0,m,nd,h1,h2,hk=>by
  simp at h1 h2;subst h1;subst h2;show aaH Xd ((p,w)::P.zip vs) m p=_;unfold aaH;rw[v8 λv hv=>(YY.mp nd).1 (YZ hv).1,if_neg hk];simp
 | p::P,w::vs,i+1,m,nd,h1,h2,hk=>by
  unfold aaH;exact v6  (YY.mp nd).2 (by assumption) (by assumption) hk
def start (N:List Str)(vs:List V):St:=vs.map Z++TH (N.length-vs.length) Y
def iK (CX:K2)(P:TR)(w:TY)(K:Tp)(mg:Str->Option Td)(base:UG)(N:List Str)(qual:Str)(scope:X8)(f:Th)(cd:Td)(A:Ux)(outer:List Env)(s:Tg)(H:Hp)(E:XK):Cx where
 prog:=P
 w:=w
 K:=K
 mg:=mg
 base:=base
 A:=A.deeper (VW qual scope s.heap.objs.size f cd)
 N:=N
 s₀:=s
 H₀:=H
 env:=VW qual scope s.heap.objs.size f cd
 outer:=outer
 stack:=VW qual scope s.heap.objs.size f cd::outer
 ex:=[]
 calm:=true
 fn:=λ_=>true
 pn:=[]
 xe:=λe s'=>Tn (TF P w) (A.deeper (VW qual scope s.heap.objs.size f cd)) (leaving (VW qual scope s.heap.objs.size f cd) e) (λ_ s''=>CX outer H s E e s'') (λe' s''=>CX outer H s E e' s'') s'
def yc {sc:X8}{n:Nat}(h:sc.names.lookup x=Z .cell):∃c,(Zv n sc.names []).lookup x=Z c:=Xx.mp (XF sc.names n [] (.inl h))
def vH {K:Tp}
  (S:eY N ps scope) (hd:A.handled=Y) (e0:uJ P w K mg base A outer s H) (hl:vs.length=ps.length) (r:aS vs us)
  (x:InCallC s s.heap.objs.size (aaG (VW qual scope s.heap.objs.size f cd).kindOf (ps.zip us) λ_=>Y) (Zv (s.heap.objs.size+1) scope.names []) (aaH (VW qual scope s.heap.objs.size f cd).kindOf (ps.zip us) λ_=>Y) s1) :
  Inv (iK CX P w K mg base N qual scope f cd A outer s H E) [] (start N vs) H s1:=by
 have hpl:ps.length<=N.length:=by have:=congrArg List.length S.pre;rw[WZ] at this;omega
 obtain⟨h1,tk,rfl,hk⟩:=x.done;have noA:∀b:Th,b∉(iK CX P w K mg base N qual scope f cd A outer s H E).ex:=λb z=>absurd (show b∈([]:List Th) from z) (by simp)
 refine⟨⟨e0.mod,S.kind,rfl,rfl,Te _,λy z c h1 h2=>?_,λy hy=>?_,λy c _ h=>?_,λ_=>hd,Around.frames_deeper e0.frames,.inr ⟨rfl,rfl⟩,λb z=>absurd z (noA b),e0.bs,e0.bsz,λb _ _=>noA b,λb z=>absurd z (noA b),e0.funs,e0.frf⟩,
  rfl,e0.bare,Un.kept hk,⟨_,x.toInCall.ns,λi y v h1 h2 h3=>?_⟩,λy c h=>⟨_,x.cell y c h⟩,e0.hok.fresh (Te _),λy c h=>?_,λp hp=>absurd (show p∈([]:List (Th×Obj)) from hp) (by simp),e0.hok.kept hk,?_⟩
 ·exact name_of_addr x.apart (PySem.mem_of_lookup h1) (PySem.mem_of_lookup h2)
 ·have hy:scope.names.lookup y=Z .cell\/scope.names.lookup y=Z .free:=hy;rcases hy with hy|hy
  ·exact yc hy
  ·exact absurd rfl (S.nofree _ (PySem.mem_of_lookup hy))
 ·exact V3 (x.above y c (PySem.mem_of_lookup h))
 ·have hi:i<vs.length:=by
   unfold start at h2
   by_cases hi:i<vs.length
   ·exact hi
   ·rw[WA (by simpa using hi)] at h2;rw[Y0] at h2;split at h2 <;> cases h2
  have ha:vs[i]?=Z v:=by
   unfold start at h2;rw[WQ (by simpa using hi),Us] at h2;cases e:vs[i]? with
   | none=>rw[e] at h2;cases h2
   | some a=>rw[e] at h2;cases h2;rfl
  obtain⟨u,hu,rv⟩:=r.get ha;have hp:ps[i]?=Z y:=by
   rw[<-S.pre,getElem?_take_of_lt (by omega)];exact h1
  have ndP:ps.Nodup:=by rw[<-S.pre];exact S.nd.sublist (take_sublist _ _)
  refine⟨u,rv,?_⟩;rcases S.par y (UT hp) with k|k
  ·exact .inl ⟨k,vj ndP hp hu k⟩
  ·obtain⟨c,e⟩:=yc (n:=s.heap.objs.size+1) k;refine .inr ⟨.inl k,c,e,?_⟩;have q:=x.cell y c e;rw[v6 ndP hp hu (by show scope.names.lookup y≠_;rw[k];decide)] at q;exact q
 ·exact e0.hok.fresh (V3 (x.above y c (PySem.mem_of_lookup h)))
 ·unfold start;show _=N.length;rw[VM,TC,Zw];omega
def JS {K:Tp}{k:Nat}{kV:Td}
 (lk:K.lookup f=Z ⟨oc,od,.func (WU name qual params body scope dV kV doc pm an cdv ct),osl⟩) (hcd:Yn K cdv qual=true) (S:eY N ps scope)
  (len:∀vs H Q E,sp vs H Q E->vs.length=ps.length)
  (hbody:∀(A:Ux) (outer:List Env) (s:Tg) (H:Hp) (vs:List V) (Q:VK) (E:XK),bo k (A.deeper (VW qual scope s.heap.objs.size f cdv))->sp vs H Q E->
   ∃t,PSs (iK CX P w K mg base N qual scope f cdv A outer s H E) body t/\t {nx:=λ_ H'=>Q .non H',rt:=Q} (start N vs) H) :
  eM P w K mg base CX (k+1) f (WU name qual params body scope dV kV doc pm an cdv ct) ps sp:=by
 refine⟨len,λA outer s H args us vs Q E hr e0 hb r hsp=>?_⟩;have hl:=len _ _ _ _ hsp;have KX:K.In s.heap:=e0.mod.kin.keeps λb o e=>(e0.bs b o e).1
 have lim:s.heap.NoLimit:=e0.mod.nolimit.keeps λb o e=>(e0.bs b o e).1
 have hkind:∀y∈ps.zip us,scope.names.lookup y.1=Z .local\/(scope.names.lookup y.1=Z .cell/\((Zv (s.heap.objs.size+1) scope.names []).lookup y.1).isSome=true):=λ⟨n,v⟩ hy=>by
  rcases S.par n (YZ hy).1 with q|q
  ·exact .inl q
  ·exact .inr ⟨q,XF _ _ _ (.inl q)⟩
 refine codeAny_call_function hr.depth (KX _ _ lk) rfl S.co S.gen rfl (W.codeRec_of KX hcd) (hb _ _ _ _ ?_);refine Xe S.kind hkind λenv he s1 x=>?_
 subst he;refine⟨lim.keeps x.toInCall.keep,codeAny_func ?_⟩;obtain⟨t,ht,hq⟩:=hbody A outer s H vs Q E (hr.deeper _) hsp;have I:Inv (iK CX P w K mg base N qual scope f cdv A outer s H E) [] (start N vs) H s1:=vH S hr.hd e0 hl r x;refine Vc (ht [] s1 (start N vs) H _ I hq) (λfl s' hs=>?_) λe s' hs=>hs
 have fin:∀{σ':St} {H':Hp} {v:V} {u:Td},Inv (iK CX P w K mg base N qual scope f cdv A outer s H E) [] σ' H' s'->aO v u->Q v H'->CE outer P w H s Q u s':=
  λ{σ' H' v u} J rv q=>⟨v,H',J.os,J.bare,J.base,J.hok,rv,q⟩
 cases fl with
 | ret u=>
  obtain⟨v,σ',H',J,rv,q⟩:=hs;exact fin J rv q
 | next=>
  obtain⟨σ',H',J,q⟩:=hs;exact fin (v:=V.non) (u:=Ue) J rfl q
 | brk=>
  obtain⟨_,_,_,q⟩:=hs;exact UV q
 | cont=>
  obtain⟨_,_,_,q⟩:=hs;exact UV q
section
variable {X:Cx}{x:Str}{p pos:Pos}{e:T9}{es:List T9}{t:TA}{id T:String}{r:List V->Hp->VK->Prop}
def Se (r:List V->Hp->VK->Prop)(t:TA):TE:=λσ H Q=>t σ H λvs H1=>r vs H1 Q
def zj (hc:fz X (.builtin id) r)(hg:Gl X x)(hm:X.mg x=Y)(hv:UL x=Z (.builtin id))(ha:PA X (e::es) t)(hn:x≠"__name__":=by decide)(hdb:(x==("__debug__":Str))=false:=by decide)
  (he:T2 (e::es) X.env=(false,Uy e X.env)::T2 es X.env:=by rfl) (hpl:(Vu pos (T2 es X.env)).any (·.1)=false:=by rfl):PE X (.Call (.Name x p) (e::es) [] pos) (Se r t):=by
 intro af s σ H Q I h;refine VB (qD I hg hm hv ?_ hn hdb);exact Zx (bQ (ha pos af s σ H _ I h) λus s1 ⟨vs,H1,I1,r1,q1⟩=>hc af s1 σ H1 vs us Q I1 r1 q1) he hpl
def Dl (hc:fz X (.type T) r)(hg:Gl X x)(hm:X.mg x=Y)(hv:UL x=Z (.type T))(ha:PA X (e::es) t)(hn:x≠"__name__":=by decide)(hdb:(x==("__debug__":Str))=false:=by decide)
  (he:T2 (e::es) X.env=(false,Uy e X.env)::T2 es X.env:=by rfl) (hpl:(Vu pos (T2 es X.env)).any (·.1)=false:=by rfl):PE X (.Call (.Name x p) (e::es) [] pos) (Se r t):=by
 intro af s σ H Q I h;refine VB (qD I hg hm hv ?_ hn hdb);exact VP (bQ (ha pos af s σ H _ I h) λus s1 ⟨vs,H1,I1,r1,q1⟩=>hc af s1 σ H1 vs us Q I1 r1 q1) he hpl
end
end L2
namespace HT
open PySem PyProof.Rows
def lexLt:List Int->List Int->Bool
 | [],[]=>false
 | [],_::_=>true
 | _::_,[]=>false
 | x::xs,y::ys=>if x=y then lexLt xs ys else decide (x<y)
theorem lexLt_cons (x y:Int)(xs ys:List Int):lexLt (x::xs) (y::ys)=if x=y then lexLt xs ys else decide (x<y):=rfl
theorem lexLt_nil_nil:lexLt [] []=false:=rfl
theorem lexLt_nil_cons (y:Int)(ys:List Int):lexLt [] (y::ys)=true:=rfl
theorem lexLt_cons_nil (x:Int)(xs:List Int):lexLt (x::xs) []=false:=rfl
def eqAt_int (A:Ux)(s:Tg)(a:Int)(t:Tok)(c:Int)(u:Tok):∃e,aaj A s (.int a t) (.int c u) e/\(e=true↔a=c):=
 ⟨(a==c),Y1 a t c u,by simp⟩
def DE (A:Ux)(s:Tg)(a:Int)(t:Tok)(c:Int)(u:Tok)(prog:TR)(w:TY)(E:Td->Tg->Prop)(Q:Td->Tg->Prop)(h:Q (.bool (decide (a<c))) s) :
  Tn (TF prog w) A (Yo .Lt (.int a t) (.int c u)) Q E s:=
 (Yb h)
section
open PySem.SeqAt
open PySem.AutoSeq1 (wpAny_loadPart')
open PySem.MeetsSeq PySem.MeetsSeq2 PySem.MeetsSeq3
def uY (l b:Th)(items items2:Array Td)(n n2:Nat)(dd dd2:Option Th)(sl sl2:Array (Option Td))(ns ms:List Int)(hi:UE items.toList ns)(hj:UE items2.toList ms) :
  Meets (WH.«tuple.__lt__» ⟨[.ref l,.ref b],[]⟩)
   (λ_ R s=>s.heap.get? l=Z {cls:=.type "tuple",dict:=dd,data:=.seq items n,slots:=sl}/\s.heap.get? b=Z {cls:=.type "tuple",dict:=dd2,data:=.seq items2 n2,slots:=sl2}/\
    R (.ok (.ret (.bool (lexLt ns ms)))) s):=
 .of_wp λprog w A R s h=>by
  obtain⟨hp,g,d,tk,os⟩:=s;obtain⟨hl,hb,h⟩:=h;have f2:=Xy;have z1:items.size=ns.length:=by rw[<-hi.length];simp
  have z2:items2.size=ms.length:=by rw[<-hj.length];simp
  wp_walk using Vn hl,Vn hb,Zy _ (λrest b s'=>b.1=Y/\s'=⟨hp,g,d,tk,os⟩/\∃(vs ws:List Td) (ns' ms':List Int),rest=vs.zip ws/\
   UE vs ns'/\UE ws ms'/\ns'.length+items2.size=ms'.length+items.size/\R (.ok (.ret (.bool (lexLt ns' ms')))) ⟨hp,g,d,tk,os⟩) _
  case turn=>
   rintro ⟨y,x⟩ rest b s' ⟨hb',rfl,vs,ws,ns',ms',hz,hvi,hwi,hlen,hR⟩;cases hvi with
   | nil=>rw[Xq] at hz;cases hz
   | cons a t hvi'=>
    cases hwi with
    | nil=>rw[Yc] at hz;cases hz
    | cons c u hwi'=>
     rw[We] at hz;injection hz with hyx hrest
     injection hyx with hy hx
     subst hy hx;rw[lexLt_cons] at hR;simp only[Ug] at hlen;obtain⟨e,he,hiff⟩:=eqAt_int A.in1 ⟨hp,g,d,tk,os⟩ a t c u;refine Ta (he prog w _ _ ?_);cases e with
     | true=>
      rw[if_pos (hiff.mp rfl)] at hR
      wp_walk
      exact⟨rfl,rfl,_,_,_,_,hrest,hvi',hwi',by omega,hR⟩
     | false=>
      rw[if_neg (λq=>absurd (hiff.mpr q) Tv)] at hR;have hri:=DE A.in1 ⟨hp,g,d,tk,os⟩ a t c u prog w
      wp_walk using hri
      exact⟨_,rfl,by simpa using hR⟩
  case fin=>
   rintro ⟨b1,b2⟩ s' ⟨hb',rfl,vs,ws,ns',ms',hz,hvi,hwi,hlen,hR⟩;simp only at hb';subst hb';have hv:lexLt ns' ms'=decide (items.size<items2.size):=by
    cases hvi with
    | nil=>
     cases hwi with
     | nil=>
      simp only[VG] at hlen;rw[lexLt_nil_nil];exact(decide_eq_false (by omega)).symm
     | cons c u hw=>
      simp only[VG,Ug] at hlen;rw[lexLt_nil_cons];exact(decide_eq_true (by omega)).symm
    | cons a t hv=>
     cases hwi with
     | nil=>
      simp only[VG,Ug] at hlen;rw[lexLt_cons_nil];exact(decide_eq_false (by omega)).symm
     | cons c u hw=>
      rw[We] at hz;cases hz
   rw[hv] at hR
   wp_walk
   exact⟨_,rfl,by simpa[Wy] using hR⟩
  case h=>
   exact⟨rfl,rfl,items.toList,items2.toList,ns,ms,rfl,hi,hj,by omega,h⟩
end
section
variable {prog:TR}{w:TY}{A:Ux}{E:Td->Tg->Prop}{s:Tg}
def lt_tupInts (hl:ZH s.heap l items)(hb:ZH s.heap b items2)(hi:UE items.toList ns)(hj:UE items2.toList ms)
  (hu:A.units<XE) (h:Q (.bool (lexLt ns ms)) s):Tn (TF prog w) A (T8 .Lt (.ref l) (.ref b)) Q E s:=by
 obtain⟨⟨cls,dd,data,sl⟩,ho,hc,n,hd⟩:=id hl;obtain⟨⟨cls2,dd2,data2,sl2⟩,ho2,hc2,n2,hd2⟩:=id hb;subst hc hd hc2 hd2;exact XW (op:=.Lt) ⟨_,ho,rfl⟩ ⟨_,ho2,rfl⟩ PySem.F.slot_tuple_lt PySem.F.entry_tuple_lt (PySem.F.args_tuple_lt_2 _ _) (uY l b items items2 n n2 dd dd2 sl sl2 ns ms hi hj)
  ⟨ho,ho2,⟨(λx=>nomatch x),h⟩⟩ hu
def cat_tup {t:Th}(ht:ZH s.heap t vs.toArray)(hb:ZH s.heap b ws.toArray)(hv:vs≠[])
  (h1:ws=[]->Q (.ref t) s) (h2:ws≠[]->Q (.ref s.heap.objs.size) {s with heap:=s.heap.push {cls:=.type "tuple",data:=.seq (vs++ws).toArray}})
  (hsz:vs.length+ws.length<=To):Tn (TF prog w) A (U4 .Add (.ref t) (.ref b)) Q E s:=by
 obtain⟨⟨cls,dd,data,sl⟩,ho,hc,n,hd⟩:=id ht;obtain⟨⟨cls2,dd2,data2,sl2⟩,ho2,hc2,n2,hd2⟩:=id hb;subst hc hd hc2 hd2;have e:vs.toArray++ws.toArray=(vs++ws).toArray:=by simp
 by_cases hw:ws=[]
 ·exact concat_meets ⟨_,ho,rfl⟩ ⟨_,ho2,rfl⟩ Zz seq_tuple_add PySem.F.slot_tuple_add PySem.F.entry_tuple_add (PySem.F.args_tuple_add_2 _ _)
   (tuple_addW1 t b vs.toArray ws.toArray n n2 dd dd2 sl sl2 (by simpa using hv) (by simp_all)) ⟨ho,ho2,h1 hw⟩
 ·refine concat_meets ⟨_,ho,rfl⟩ ⟨_,ho2,rfl⟩ Zz seq_tuple_add PySem.F.slot_tuple_add PySem.F.entry_tuple_add (PySem.F.args_tuple_add_2 _ _)
   (tuple_addW2 t b vs.toArray ws.toArray n n2 dd dd2 sl sl2 (by simpa using hv) (by simp_all) (by omega)) ⟨ho,ho2,?_⟩
  rw[e];exact h2 hw
def sIx (n d:Nat):Option Int->Nat
 | none=>d
 | some v=>if v<0 then(v+(n:Int)).toNat else min v.toNat n
theorem sIx_none (n d:Nat):sIx n d Y=d:=rfl
def sIx_nat (n d k:Nat):sIx n d (Z (k:Int))=min k n:=by
 rfl
def LX (n d:Nat)(hd:d<=n)(o:Option Int):sIx n d o<=n:=by
 cases o with
 | none=>exact hd
 | some v=>
  show(if v<0 then(v+(n)).toNat else min v.toNat n)<=n
  by_cases hv:v<0
  ·grind
  ·rw[if_neg hv];exact Nat.min_le_right _ _
def A9 (v:Int)(n d:Nat):(if v<0 then max (v+(n:Int)) 0 else min v (n:Int))=((sIx n d (Z v):Nat):Int):=by
 show(if v<0 then max (v+(n)) 0 else min v (n))=(((if v<0 then(v+(n)).toNat else min v.toNat n)))
 grind
def Ad (lo hi:Option Int)(n:Nat):Xl lo hi 1 (n:Int)=(((sIx n 0 lo:Nat):Int),((sIx n n hi:Nat):Int)):=by
 refine VH ?_ ?_
 ·cases lo with
  | none=>rfl
  | some v=>exact A9 v n 0
 ·cases hi with
  | none=>rfl
  | some v=>exact A9 v n n
def Aw (i j:Nat):Vg (i:Int) (j:Int) 1=j-i:=by
 unfold Vg
 grind
def uo (p:XX v o)(h:Q o s):Tn (TF prog w) A (ZT v) Q E s:=by
 cases p with
 | none=>exact slicePart_none h
 | int i t=>exact slicePart_int h
def sliceApplied_gen {sl:Th}{vl vu:Td}{lo hi:Option Int}{n:Nat}{Q:Int×Int×Nat->Tg->Prop}(hs:s.heap.IsSliceOf sl vl vu .none)(pl:XX vl lo)(pu:XX vu hi)
  (h:Q (((sIx n 0 lo:Nat):Int),1,sIx n n hi-sIx n 0 lo) s):Tn (TF prog w) A (aak (.ref sl) (pure (n:Int))) Q E s:=by
 obtain⟨os,hos,hcs,hds⟩:=id hs;refine Ta (Ta (UJ hos hds (x:=vl) rfl (Ta (UJ hos hds (x:=vu) rfl (Ta (UJ hos hds  rfl (Tb ?_)))))));refine Ta (slicePart_none ?_);refine Ta (uo pl (Ta (uo pu (Ta (Tb ?_)))));show Tn _ _ (match Xl lo hi 1 (n:Int) with|(lo,hi)=>pure (lo,(1:Int),Vg lo hi 1)) _ _ s;rw[Ad lo hi n];show Tn _ _ (pure (((sIx n 0 lo:Nat):Int),(1),Vg ((sIx n 0 lo)) ((sIx n n hi)) 1)) _ _ s;rw[Aw];exact Tb h
def Fw (xs:Array Td)(i k:Nat):((Tw k).filterMap λ(m:Nat)=>xs[((i:Int)+(m:Int)*1).toNat]?).toArray=((xs.toList.drop i).take k).toArray:=by
 have e:(λ(m:Nat)=>xs[((i)+(m:Int)*1).toNat]?)=λm=>xs[i+m]?:=by
  funext m;have:((i)+(m:Int)*1).toNat=i+m:=by omega
  rw[this]
 rw[e];have:=pick_run xs i k;have e2:((λx=>xs[x]?) ∘ λx=>i+x)=λm=>xs[i+m]?:=rfl
 simp_all
def getItem_tuple_cut {t:Th}{lo hi:Option Int}(ht:ZH s.heap t items)(hs:s.heap.IsSliceOf sl vl vu .none)(pl:XX vl lo)(pu:XX vu hi)
  (hw:¬(sIx items.size 0 lo=0/\sIx items.size items.size hi=items.size))
  (h:Q (.ref s.heap.objs.size) {s with heap:=s.heap.push {cls:=.type "tuple",data:=.seq ((items.toList.drop (sIx items.size 0 lo)).take (sIx items.size items.size hi-sIx items.size 0 lo)).toArray}})
  (hsz:items.size<=To):Tn (TF prog w) A (XY (.ref t) (.ref sl)) Q E s:=by
 have htake:sizeOk (.seq ((items.toList.drop (sIx items.size 0 lo)).take (sIx items.size items.size hi-sIx items.size 0 lo)).toArray):=by
  show((items.toList.drop (sIx items.size 0 lo)).take (sIx items.size items.size hi-sIx items.size 0 lo)).toArray.size<=To;rw[Uk,WZ,Y2,UH];omega
 have hj:sIx items.size items.size hi<=items.size:=LX _ _ (Te _) hi;obtain⟨os,hos,hcs,hds⟩:=id hs;have hTs:s.TypeIs (.ref sl) "slice":=⟨os,hos,hcs⟩;unfold XY
 try with_reducible refine TV ?_
 first|refine Ta (Tb ?_)|skip
 refine Ta (Zd ht.typeIs (by decide) ?_);refine Ta (Uh (name:=UM "__getitem__") ht.typeIs TQ
  (Ud TQ ht.typeIs entry_tuple_getitem ?_ (args_tuple_getitem _ _)))
 show Tn _ _ (aal (.ref t) >>= _) _ _ s;refine Ta (tupleItemsOf_ ht ?_);refine Ta (XZ hTs ?_);rw[if_pos (by decide)];refine Ta (sliceApplied_gen hs pl pu ?_);have hno:¬((((sIx items.size 0 lo:Nat):Int)==0&&(1:Int)==1&&(sIx items.size items.size hi-sIx items.size 0 lo)==items.size)=true):=by
  grind
 show Tn _ _ (if(((sIx items.size 0 lo:Nat):Int)==0&&(1:Int)==1&&(sIx items.size items.size hi-sIx items.size 0 lo)==items.size)=true then _ else _) _ _ s;rw[if_neg hno,Fw]
 first
  | exact Ta (m:=Vs _) (T7 (Tb ⟨_,rfl,Tb h⟩) htake)
  | exact Ta (m:=Vs _) (T7 (Ta (Tb (Tb ⟨_,rfl,Tb h⟩))) htake)
  | exact Ta (Ta (m:=Vs _) (T7 (Tb (Tb ⟨_,rfl,Tb h⟩)) htake))
  | exact Ta (Ta (m:=Vs _) (T7 (Tb ⟨_,rfl,Tb h⟩) htake))
end
end HT
namespace L2
open PySem PySem.Spec PyProof.Rows List
abbrev TO:=St->Hp->(Option Int->Hp->Prop)->Prop
def PO (X:Cx)(e:Option T9)(t:TO):Prop:=
 ∀(af:List (Th×Obj)) (s:Tg) (σ:St) (H:Hp) (Q:Option Int->Hp->Prop),Inv X af σ H s->t σ H Q->
  Tn (TF X.prog X.w) X.A (evalPart e X.env) (λu s'=>∃o H',Inv X af σ H' s'/\XX u o/\Q o H') X.xe s
def Jl:TO:=λ_ H Q=>Q Y H
def Ow (t:TE):TO:=λσ H Q=>t σ H λx H1=>∃i,x=.int i/\Q (Z i) H1
def iR:∀{us:List Td},aS (ns.map V.int) us->UE us ns:=by
 induction ns with
 | nil=>intro us r;cases r;exact .nil
 | cons n ns ih=>
  intro us r;cases r with
  | cons r1 r2=>
   obtain⟨t,e⟩:=r1;subst e;exact .cons n t (ih r2)
section
variable {X:Cx}{e:T9}{te:TE}{lo hi:Option T9}{tl th:TO}{pos p2:Pos}
def H9:PO X Y Jl:=by
 intro af s σ H Q I h;exact Tb ⟨Y,H,I,.none,h⟩
def ID (h:PE X e te):PO X (Z e) (Ow te):=by
 intro af s σ H Q I hw;refine bQ (h af s σ H _ I hw) λu s1 hxx=>?_
 obtain⟨x,H1,I1,r1,q1⟩:=hxx;obtain⟨i,rfl,q⟩:=q1;obtain⟨t,rfl⟩:=r1;exact⟨Z i,H1,I1,.int i t,q⟩
def Qy (X:Cx)(r:V->Option Int->Option Int->Hp->VK->Prop):Prop:=
 ∀(af:List (Th×Obj)) (s:Tg) (σ:St) (H:Hp) (x:V) (v vl vu:Td) (lo hi:Option Int) (sl:Th) (Q:VK),Inv X af σ H s->aO x v->s.heap.IsSliceOf sl vl vu .none->XX vl lo->XX vu hi->r x lo hi H Q->
  ∃T id,aam (.type T) "__getitem__"=pure (Z (.builtin id))/\s.TypeIs v T/\Tn (TF X.prog X.w) X.A (XY v (.ref sl)) (EP X af σ Q) X.xe s
def S0 (r:V->Option Int->Option Int->Hp->VK->Prop)(te:TE)(tl th:TO):TE:=λσ H Q=>te σ H λx H1=>tl σ H1 λl H2=>th σ H2 λu H3=>r x l u H3 Q
def Fk (hr:Qy X r)(he:PE X e te)(hl:PO X lo tl)(hu:PO X hi th):PE X (.Subscript e (.Slice lo hi Y p2) pos) (S0 r te tl th):=by
 intro af s σ H Q I h;refine Y3 (bQ (he af s σ H _ I h) λv s1 hxx=>?_);obtain⟨x,H1,I1,r1,q1⟩:=hxx;refine ZJ (bQ (hl af s1 σ H1 _ I1 q1) λvl s2 ⟨l,H2,I2,pl,q2⟩=>bQ (hu af s2 σ H2 _ I2 q2) λvu s3 hxx=>?_);obtain⟨u,H3,I3,pu,q3⟩:=hxx;refine Tb ?_;have I4:Inv X af σ H3 {s3 with heap:=s3.heap.push {cls:=.type "slice",data:=.fields #[vl,vu,.none]}}:=I3.kept  λb ob q=>Tc _ q
 obtain⟨T,id,hT,ht,hg⟩:=hr af {s3 with heap:=s3.heap.push {cls:=.type "slice",data:=.fields #[vl,vu,.none]}} σ H3 x v vl vu l u s3.heap.objs.size Q I4 r1 (Xf ..) pl pu q3;exact tail_any  ht hT hg (by rfl)
def Cz (xs:List V)(lo hi:Option Int):List V:=(xs.drop (HT.sIx xs.length 0 lo)).take (HT.sIx xs.length xs.length hi-HT.sIx xs.length 0 lo)
def qM (xs:List V)(lo hi:Option Int):(Cz xs lo hi).length<=xs.length:=by
 unfold Cz;rw[WZ,Y2];omega
def R7 (K:Tp):V->Option Int->Option Int->Hp->VK->Prop:=λx lo hi H Q=>∃a xs,x=.ref a/\rQ K H a xs/\
 ¬(HT.sIx xs.length 0 lo=0/\HT.sIx xs.length xs.length hi=xs.length)/\∀p,H p=Y->Q (.ref p) (bj H p (.tup (Cz xs lo hi)))
def LN:Qy X (R7 X.K):=by
 intro af s σ H x v vl vu lo hi sl Q I rx hs pl pu h;obtain⟨a,xs,rfl,hx,hw,q⟩:=h;cases rx;obtain⟨its,r,ht,hz⟩:=I.tuple hx;have hlen:its.toArray.size=xs.length:=r.length.symm;refine⟨"tuple",_,TQ.lookup,ht.typeIs,?_⟩;refine HT.getItem_tuple_cut ht hs pl pu (by rwa [hlen]) ?_ (by rwa [hlen]);rw[hlen];refine⟨.ref s.heap.objs.size,_,I.laid   (λb ob q=>Tc _ q) (Te _) ?_,rfl,q _ (I.hok.fresh (Te _))⟩;exact⟨TL (qM xs lo hi) hz,_,(r.drop (HT.sIx xs.length 0 lo)).take (HT.sIx xs.length xs.length hi-HT.sIx xs.length 0 lo),XD _ _⟩
def OB (K:Tp):R2:=λx y H Q=>∃a b xs ys,x=.ref a/\y=.ref b/\rQ K H a xs/\rQ K H b ys/\xs≠[]/\xs.length+ys.length<=To/\
 (ys=[]->Q (.ref a) H)/\(ys≠[]->∀p,H p=Y->Q (.ref p) (bj H p (.tup (xs++ys))))
def aS.nil_iff (r:aS xs us):us=[]↔xs=[]:=by
 cases r with
 | nil=>simp
 | cons _ _=>simp
def HR:oz X (U4 .Add) (OB X.K):=by
 intro af s σ H x y v u Q I rx ry h;obtain⟨a,b,xs,ys,rfl,rfl,ha,hb,hx,hz,q1,q2⟩:=h;cases rx;cases ry;obtain⟨its,r1,p1,_⟩:=I.tuple ha;obtain⟨its2,r2,p2,_⟩:=I.tuple hb;refine HT.cat_tup p1 p2 (λz=>hx (r1.nil_iff.mp z)) (λz=>⟨.ref a,H,I,rfl,q1 (r2.nil_iff.mp z)⟩) (λz=>?_) (by rwa [<-r1.length,<-r2.length]);refine⟨.ref s.heap.objs.size,_,I.laid   (λb ob q=>Tc _ q) (Te _) ?_,rfl,q2 (λw=>z (r2.nil_iff.mpr w)) _ (I.hok.fresh (Te _))⟩;exact⟨by simp_all,_,r1.append r2,XD _ _⟩
end
def Bp (n:Nat)(i:Int):Option Nat:=if 0<=i then(if i<n then Z i.toNat else Y) else if -(n:Int)<=i then Z (i+n).toNat else Y
def wx {α:Type}(xs:List α)(i:Int):Option α:=(Bp xs.length i).bind λj=>xs[j]?
def Bk {n:Nat}(h:Bp n i=Z j):seqIndex? i n=Z j/\j<n/\-(n:Int)<=i/\i<n:=by
 unfold Bp at h
 by_cases h0:0<=i
 ·rw[if_pos h0] at h
  by_cases h1:i<n
  ·rw[if_pos h1] at h;have e:=T4 h;exact⟨by rw[ZK h0 h1,e],by omega,by omega,h1⟩
  simp_all
 ·rw[if_neg h0] at h
  by_cases h1:-(n:Int)<=i
  ·rw[if_pos h1] at h;have e:=T4 h;exact⟨by rw[Ze (by omega) h1,e],by omega,h1,by omega⟩
  simp_all
def Bd {xs:List α}{v:α}(h:wx xs i=Z v):∃j,seqIndex? i xs.length=Z j/\xs[j]?=Z v/\j<xs.length/\-(xs.length:Int)<=i/\i<xs.length:=by
 unfold wx at h;cases e:Bp xs.length i with
 | none=>simp_all
 | some j=>
  rw[e] at h;obtain⟨h1,h2,h3,h4⟩:=Bk e;exact⟨j,h1,h,h2,h3,h4⟩
def ce {xs:List α}{j:Nat}{v:α}(h:xs[j]?=Z v):wx xs (j:Int)=Z v:=by
 have hj:=(Tf.mp h).1;have e:Bp xs.length (j)=Z j:=by
  unfold Bp
  simp_all
 unfold wx;rwa [e]
def Bz (b:T9):Prop:=∀o i,ZL b false o i=operate [o,i] (XY o i)
def Qr (X:Cx)(r:R2):Prop:=
 ∀(value slice:T9) (af:List (Th×Obj)) (s:Tg) (σ:St) (H:Hp) (x y:V) (v u:Td) (Q:VK),Inv X af σ H s->aO x v->aO y u->r x y H Q->
  ZL slice false v u=operate [v,u] (XY v u)->Tn (TF X.prog X.w) X.A (subscriptTail value slice v u) (EP X af σ Q) X.xe s
def SM (X:Cx)(id:String)(r:V->List V->Hp->VK->Prop):Prop:=
 ∀(af:List (Th×Obj)) (s:Tg) (σ:St) (H:Hp) (x:V) (xs:List V) (v:Td) (us:List Td) (Q:VK),Inv X af σ H s->aO x v->aS xs us->r x xs H Q->
  Tn (TF X.prog X.w) X.A (call (.builtin id) (v::us)) (EP X af σ Q) X.xe s
section
variable {X:Cx}{a b:T9}{ta tb:TE}{pos:Pos}
def OT (hr:Qr X r)(ha:PE X a ta)(hb:PE X b tb)(hs:Bz b):PE X (.Subscript a b pos) (Oc r ta tb):=by
 intro af s σ H Q I h;exact Y3 (Nm ha hb I h λv u s2 x y H2 I2 rx ry q=>hr a b af s2 σ H2 x y v u Q I2 rx ry q (hs _ _))
def RX (K:Tp):R2:=λx y H Q=>∃p xs i v,x=.ref p/\y=.int i/\oy K H p xs/\wx xs i=Z v/\Q v H
def QZ (K:Tp):R2:=λx y H Q=>∃p xs i v,x=.ref p/\y=.int i/\rQ K H p xs/\wx xs i=Z v/\Q v H
def Ig:Qr X (RX X.K):=by
 intro value slice af s σ H x y v u Q I rx ry h hs;obtain⟨p,xs,i,z,rfl,rfl,hq,he,q⟩:=h;cases rx;obtain⟨t,rfl⟩:=ry;obtain⟨its,r,pl,hz⟩:=I.list hq;obtain⟨j,h1,h2,h3,h4,h5⟩:=Bd he;obtain⟨w,ew,rw'⟩:=r.get h2;have hl:=r.length;have hn:=p8;have fin:EP X af σ Q w s:=⟨z,H,I,rw',q⟩
 by_cases h0:0<=i
 ·have hj:i.toNat=j:=by
   rw[ZK h0 h5] at h1;exact T4 h1
  exact item_listR pl.isList h0 (by omega) (by rw[hj];simpa using ew) fin hs
 ·have hj:(i+(its.toArray.size:Int)).toNat=j:=by
   rw[Ze (by omega) h4] at h1
   simp_all
  exact X1 (x:=w) pl.isList.typeIs Zf.lookup
   (wpAny_getItem_list_neg  pl.isList (by omega) (by rw[Uk] <;> omega) (by omega) (by rw[hj];simpa using ew) ⟨rfl,fin⟩) hs
def Mw:Qr X (QZ X.K):=by
 intro value slice af s σ H x y v u Q I rx ry h hs;obtain⟨p,xs,i,z,rfl,rfl,hq,he,q⟩:=h;cases rx;obtain⟨t,rfl⟩:=ry;obtain⟨its,r,pl,hz⟩:=I.tuple hq;obtain⟨j,h1,h2,h3,h4,h5⟩:=Bd he;obtain⟨w,ew,rw'⟩:=r.get h2;have hl:=r.length;have hn:=p8;exact X1  pl.typeIs TQ.lookup
  (getItem_tuple (j:=j)  pl (by omega) (by omega) (by simp_all) (by simpa using ew) ⟨rfl,(⟨z,H,I,rw',q⟩)⟩) hs
def z5 (its:List Td)(n j:Nat)(u:Td):T3 (·.setIfInBounds j u) {cls:=.type "list",data:=.seq its.toArray n}={cls:=.type "list",data:=.seq (its.set j u).toArray n}:=by
 simp[T3]
def Inv.lst {af:List (Th×Obj)}{σ:St}{H:Hp}{s:Tg}{p:Th}{xs:List V}(I:Inv X af σ H s)(h:H p=Z (.lst xs)) :
  ∃(its:List Td) (n:Nat),aS xs its/\s.heap.get? p=Z {cls:=.type "list",data:=.seq its.toArray n}/\xs.length<=To:=by
 obtain⟨z,its,n,r,e⟩:=I.hok p _ h;exact⟨its,n,r,e,z⟩
def Inv.lstUpd {its its':List Td}{n:Nat}(I:Inv X af σ H s)(h:H p=Z (.lst xs))
  (ho:s.heap.get? p=Z {cls:=.type "list",data:=.seq its.toArray n}) (hf:f {cls:=.type "list",data:=.seq its.toArray n}={cls:=.type "list",data:=.seq its'.toArray n'}) (r:aS ys its') (hz:ys.length<=To) (t:Nat) :
  Inv X af σ (bj H p (.lst ys)) {s with heap:=s.heap.update p f,toks:=t}:=by
 have e:(s.heap.update p f).get? p=Z {cls:=.type "list",data:=.seq its'.toArray n'}:=by
  rw[VN f ho (by rw[hf] <;> rfl),hf]
 refine I.write   (by rw[h];trivial) (.inl rfl) (λb u hb q=>(Ut _ _ (Uj hb)).trans q) ⟨_,e⟩ ?_;exact⟨hz,its',n',r,e⟩
def N7:V->V->V->Hp->(Hp->Prop)->Prop:=λo i v H Q=>∃p xs k j,o=.ref p/\i=.int k/\H p=Z (.lst xs)/\Bp xs.length k=Z j/\Q (bj H p (.lst (xs.set j v)))
def GB:PR X N7:=by
 intro af s σ H o i v ov iv u Q I ro ri rv h;obtain⟨p,xs,k,j,rfl,rfl,hp,hj,q⟩:=h;cases ro;obtain⟨t,rfl⟩:=ri;obtain⟨its,n,r,ho,hz⟩:=I.lst hp;obtain⟨h1,h2,h3,h4⟩:=Bk hj;have hl:=r.length;have hn:=p8;have I':=
  I.lstUpd hp ho (z5 its n j u) (r.set rv j) (by rw[length_set];exact hz) s.toks
 by_cases h0:0<=k
 ·have hk:k.toNat=j:=by
   rw[ZK h0 h4] at h1;exact T4 h1
  exact W.ki_setAt ho h0 (by omega) (by simp_all) (by rw[hk];exact⟨_,I',q⟩)
 ·have hk:(k+(its.toArray.size:Int)).toNat=j:=by
   rw[Ze (by omega) h3] at h1
   simp_all
  exact W.ki_setBack ho (by omega) (by rw[Uk,<-hl];exact h3) (by omega) (by rw[hk];exact⟨_,I',q⟩)
def xf (lo hi:Option Int)(n:Nat):(VX lo hi Y n).1=((HT.sIx n 0 lo:Nat):Int)/\(VX lo hi Y n).2.1=((HT.sIx n n hi:Nat):Int)/\(VX lo hi Y n).2.2=1:=by
 refine⟨?_,?_,rfl⟩
 ·cases lo with
  | none=>rfl
  | some i=>
   simp only[VX,HT.sIx,XG,show(1:Int)>0 by decide,if_true]
   by_cases h:i<0
   ·simp only[h,if_true] <;> omega
   ·simp only[h,if_false] <;> omega
 ·cases hi with
  | none=>simp[VX,HT.sIx]
  | some i=>
   simp only[VX,HT.sIx,XG,show(1:Int)>0 by decide,if_true]
   by_cases h:i<0
   ·simp only[h,if_true] <;> omega
   ·simp only[h,if_false] <;> omega
def uG (its:List Td)(lo hi:Option Int):slicePick its.toArray lo hi Y=((its.drop (HT.sIx its.length 0 lo)).take (HT.sIx its.length its.length hi-HT.sIx its.length 0 lo)).toArray:=by
 obtain⟨h1,h2,h3⟩:=xf lo hi its.toArray.size;unfold slicePick;rw[h1,h2,h3];simp only[sliceRange_one,pick_run,Uk] <;> rfl
def Rx (K:Tp):V->Option Int->Option Int->Hp->VK->Prop:=λx lo hi H Q=>∃a xs,x=.ref a/\oy K H a xs/\∀p,H p=Y->Q (.ref p) (bj H p (.lst (Cz xs lo hi)))
def wm:Qy X (Rx X.K):=by
 intro af s σ H x v vl vu lo hi sl Q I rx hs pl pu h;obtain⟨a,xs,rfl,hx,q⟩:=h;cases rx;obtain⟨its,r,ht,hz⟩:=I.list hx;have hlen:=r.length;refine⟨"list",_,Zf.lookup,ht.isList.typeIs,?_⟩;refine wpAny_getItem_list_slice ht.isList hs pl pu .none (by simp) ?_ (by grind);rw[uG,<-hlen];refine⟨.ref s.heap.objs.size,_,I.laid   (λb ob q=>Tc _ q) (Te _) ?_,rfl,q _ (I.hok.fresh (Te _))⟩;exact⟨TL (qM xs lo hi) hz,_,0,(r.drop (HT.sIx xs.length 0 lo)).take (HT.sIx xs.length xs.length hi-HT.sIx xs.length 0 lo),Tj _ rfl⟩
def ny:V->Bool
 | .non=>true
 | .bl _=>true
 | .int _=>true
 | .str _=>true
 | _=>false
def HF:V->V->Bool
 | .non,.non=>true
 | .bl a,.bl b=>a==b
 | .bl a,.int b=>(if a then 1 else 0)==b
 | .int a,.bl b=>a==(if b then 1 else 0)
 | .int a,.int b=>a==b
 | .str a,.str b=>a==b
 | _,_=>false
def LR {y:V}(ry:aO y u)(rx:aO x v)(fy:ny y=true)(fx:ny x=true):aaj A s u v (HF y x):=by
 cases y with
 | non=>
  cases ry;cases x with
  | non=>cases rx;exact SeqAt.EqAt.same _
  | bl b=>cases rx;exact SeqAt.EqAt.none_bool b
  | int b=>obtain⟨t,rfl⟩:=rx;exact SeqAt.EqAt.none_int b t
  | str b=>obtain⟨t,rfl⟩:=rx;exact SeqAt.EqAt.none_str b t
  | _=>exact absurd (show false=true from fx) Tv
 | bl a=>
  cases ry;cases x with
  | non=>cases rx;exact SeqAt.EqAt.bool_none a
  | bl b=>cases rx;exact SeqAt.EqAt.bool_bool a b
  | int b=>obtain⟨t,rfl⟩:=rx;exact SeqAt.EqAt.bool_int a b t
  | str b=>obtain⟨t,rfl⟩:=rx;exact SeqAt.EqAt.bool_str a b t
  | _=>exact absurd (show false=true from fx) Tv
 | int a=>
  obtain⟨t',rfl⟩:=ry;cases x with
  | non=>cases rx;exact SeqAt.EqAt.int_none a t'
  | bl b=>cases rx;exact SeqAt.EqAt.int_bool a t' b
  | int b=>obtain⟨t,rfl⟩:=rx;exact Y1 a t' b t
  | str b=>obtain⟨t,rfl⟩:=rx;exact YU a t' b t
  | _=>exact absurd (show false=true from fx) Tv
 | str a=>
  obtain⟨t',rfl⟩:=ry;cases x with
  | non=>cases rx;exact SeqAt.EqAt.str_none a t'
  | bl b=>cases rx;exact SeqAt.EqAt.str_bool a t' b
  | int b=>obtain⟨t,rfl⟩:=rx;exact YV a t' b t
  | str b=>obtain⟨t,rfl⟩:=rx;exact SeqAt.EqAt.str_str a t' b t
  | _=>exact absurd (show false=true from fx) Tv
 | _=>exact absurd (show false=true from fy) Tv
def IS (x:V)(u:Td):Bool:=match u with
 | .none=>HF .non x
 | .bool b=>HF (.bl b) x
 | .int i _=>HF (.int i) x
 | .str z _=>HF (.str z) x
 | _=>false
def EA {y:V}(r:aO y u)(f:ny y=true):IS x u=HF y x:=by
 cases y with
 | non=>cases r;rfl
 | bl b=>cases r;rfl
 | int i=>obtain⟨t,rfl⟩:=r;rfl
 | str z=>obtain⟨t,rfl⟩:=r;rfl
 | _=>exact absurd (f) Tv
theorem wQ:∀{xs:List V} {us:List Td},aS xs us->xs.all ny=true->us.any (IS x)=xs.any λy=>HF y x
 | _,_,.nil,_=>rfl
 | y::xs,u::us,.cons r t,f=>by
  rw[V8,Tz] at f;rw[any_cons,any_cons,EA r f.1,wQ t f.2]
theorem sF (rx:aO x v)(fx:ny x=true):∀{xs:List V} {us:List Td},aS xs us->xs.all ny=true->∀u∈us,aaj A s u v (IS x u)
 | _,_,.nil,_=>λu hu=>by cases hu
 | y::xs,u::us,.cons r t,f=>λu' hu=>by
  rw[V8,Tz] at f;rcases Ur.mp hu with rfl|hu
  ·rw[EA r f.1];exact LR r rx f.1 fx
  ·exact sF rx fx t f.2 u' hu
def Qz (x:V)(xs:List V):Bool:=xs.any λy=>HF y x
def SY (K:Tp)(neg:Bool):R2:=λx y H Q=>∃p xs,y=.ref p/\(oy K H p xs\/rQ K H p xs)/\ny x=true/\xs.all ny=true/\Q (.bl (if neg then !Qz x xs else Qz x xs)) H
def Dp:oz X (T8 .In) (SY X.K false):=by
 intro af s σ H x y v u Q I rx ry h;obtain⟨p,xs,rfl,hq,fx,fs,q⟩:=h;cases ry;rcases hq with hq|hq
 ·obtain⟨its,r,pl,hz⟩:=I.list hq;refine SeqAt.in_listAt (IS x) pl.isList (λw hw=>sF rx fx r fs w (by simpa using hw)) ⟨.bl _,H,I,rfl,?_⟩;rwa [show its.toArray.any (IS x)=its.any (IS x) by simp,wQ r fs]
 ·obtain⟨its,r,pl,hz⟩:=I.tuple hq;refine SeqAt.in_tupleAt (IS x) pl (λw hw=>sF rx fx r fs w (by simp_all)) ⟨.bl _,H,I,rfl,?_⟩;rwa [show its.toArray.any (IS x)=its.any (IS x) by simp,wQ r fs]
def wH:fz X (.builtin "len") (λxs H Q=>∃p ys,xs=[.ref p]/\(oy X.K H p ys\/rQ X.K H p ys)/\Q (.int ys.length) H):=by
 intro af s σ H xs us Q I r h;obtain⟨p,ys,rfl,hq,q⟩:=h;obtain⟨u,rfl,rx⟩:=j9 r;cases rx;have hn:=p8;rcases hq with hq|hq
 ·obtain⟨its,r',pl,hz⟩:=I.list hq;have hlen:=r'.length;exact Calls.call_len_list pl.isList (by simp only[Uk] <;> omega) ⟨.int ys.length,H,I.tok _,⟨s.toks+1,by rw[Uk,hlen]⟩,q⟩
 ·obtain⟨its,r',pl,hz⟩:=I.tuple hq;have hlen:=r'.length;exact len_tuple pl (by simp only[Uk] <;> omega) ⟨.int ys.length,H,I.tok _,⟨s.toks+1,by rw[Uk,hlen]⟩,q⟩
def wJ:fz X (.builtin "len") (λxs H Q=>∃z,xs=[.str z]/\z.length<=To/\Q (.int z.length) H):=by
 intro af s σ H xs us Q I r h;obtain⟨z,rfl,hz,q⟩:=h;obtain⟨u,rfl,t,rfl⟩:=j9 r;have hn:=p8;exact len_str (by omega) ⟨.int z.length,H,I.tok _,⟨_,rfl⟩,q⟩
def pI:fz X (.type "list") (λxs H Q=>∃p ys,xs=[.ref p]/\(oy X.K H p ys\/rQ X.K H p ys)/\∀l,H l=Y->Q (.ref l) (bj H l (.lst ys))):=by
 intro af s σ H xs us Q I r h;obtain⟨p,ys,rfl,hq,q⟩:=h;obtain⟨u,rfl,rx⟩:=j9 r;cases rx;have fin:∀(its:List Td),aS ys its->ys.length<=To->∀(h':UG) (c':Nat),(∀b o',s.heap.get? b=Z o'->h'.get? b=Z o')->
   h'.get? s.heap.objs.size=Z {cls:=.type "list",dict:=Y,data:=.seq its.toArray c',slots:=#[]}->EP X af σ Q (.ref s.heap.objs.size) {s with heap:=h'}:=λits r' hz h' c' kp e=>
  ⟨.ref s.heap.objs.size,_,I.laid  kp (Te _) (show bM X.prog X.w _ h' _ (.lst ys) from⟨hz,its,c',r',e⟩),rfl,q _ (I.hok.fresh (Te _))⟩
 rcases hq with hq|hq
 ·obtain⟨its,r',pl,hz⟩:=I.list hq;have hlen:=r'.length;obtain⟨o,ho,hc,n,hd⟩:=pl.isList;exact call_list_seq p (.inl rfl) ho hc hd (λh' c' kp e=>fin its r' hz h' c' kp e) (by simp_all)
 ·obtain⟨its,r',pl,hz⟩:=I.tuple hq;have hlen:=r'.length;obtain⟨o,ho,hc,n,hd⟩:=pl;exact call_list_seq p (.inr rfl) ho hc hd (λh' c' kp e=>fin its r' hz h' c' kp e) (by simp_all)
def gK:fz X (.type "tuple") (λxs H Q=>∃p ys,xs=[.ref p]/\((oy X.K H p ys/\∀l,H l=Y->Q (.ref l) (bj H l (.tup ys)))\/(rQ X.K H p ys/\Q (.ref p) H))):=by
 intro af s σ H xs us Q I r h;obtain⟨p,ys,rfl,h⟩:=h;obtain⟨u,rfl,rx⟩:=j9 r;cases rx;rcases h with⟨hq,q⟩|⟨hq,q⟩
 ·obtain⟨its,r',pl,hz⟩:=I.list hq;have hlen:=r'.length;refine call_tuple_list pl.isList (λh' kp=>?_) (by simp_all);have I1:=I.kept (t':=s.toks) kp;exact⟨.ref h'.objs.size,_,(I1.laid  (λb o e=>Tc _ e) (Te _) (show bM X.prog X.w _ _ _ (.tup ys) from⟨hz,its,r',XD _ _⟩)),rfl,q _ (I1.hok.fresh (Te _))⟩
 ·obtain⟨its,r',pl,hz⟩:=I.tuple hq;exact call_tuple_same pl ⟨.ref p,H,I,rfl,q⟩
def Sx (K:Tp)(T:String)(x:V)(H:Hp):Prop:=match x with
 | .str _=>T="str"
 | .int _=>T="int"
 | .ref p=>(T="list"/\∃xs,oy K H p xs)\/(T="tuple"/\∃o,K.lookup p=Z o/\o.cls=.type "tuple"/\o.dict=Y)\/
   (T="dict"/\((∃kvs,H p=Z (.dK kvs))\/∃kvs,H p=Z (.dT kvs)))\/(T="set"/\∃S n,H p=Z (.set S n))
 | _=>False
def ED (I:Inv X af σ H s)(r:aO x v)(ty:Sx X.K T x H) :
  s.TypeIs v T/\∀a,v=.ref a->∃ob,s.heap.get? a=Z ob/\ob.dict=Y:=by
 cases x with
 | str z=>
  obtain⟨t,rfl⟩:=r;cases (show T="str" from ty);exact⟨typeIs_str s z t,λ_ e=>nomatch e⟩
 | int i=>
  obtain⟨t,rfl⟩:=r;cases (ty);exact⟨typeIs_int s i t,λ_ e=>nomatch e⟩
 | ref p=>
  cases r;rcases ty with⟨rfl,xs,hq⟩|⟨rfl,o,hk,hc,hd⟩|⟨rfl,hk⟩|⟨rfl,S,n,hk⟩
  ·obtain⟨its,_,pl,_⟩:=I.list hq;refine⟨pl.isList.typeIs,λa e=>?_⟩;cases e;obtain⟨o,n,e,c,hd,_⟩:=pl;exact⟨o,e,hd⟩
  ·refine⟨⟨o,I.kIn p o hk,hc⟩,λa e=>?_⟩;cases e;exact⟨o,I.kIn _ o hk,hd⟩
  ·have z:∃o,s.heap.get? p=Z o/\o.ExactDict:=by
    rcases hk with⟨kvs,hk⟩|⟨kvs,hk⟩
    ·obtain⟨_,_,_,_,o,_,_,e,ex,_⟩:=I.hok p _ hk;exact⟨o,e,ex⟩
    ·obtain⟨_,_,_,_,o,_,_,e,ex,_⟩:=I.hok p _ hk;exact⟨o,e,ex⟩
   obtain⟨o,e,ex⟩:=z;refine⟨⟨o,e,ex.1⟩,λa e2=>?_⟩;cases e2;exact⟨o,e,ex.2.1⟩
  ·obtain⟨o,_,_,_,e,ex,_⟩:=I.hok p _ hk;refine⟨⟨o,e,ex.1⟩,λa e2=>?_⟩;cases e2;exact⟨o,e,ex.2.1⟩
 | _=>exact UV ty
def Sb (K:Tp)(T:String)(r:V->List V->Hp->VK->Prop)(to:TE):TE:=λσ H Q=>to σ H λx H1=>Sx K T x H1/\r x [] H1 Q
def SU (K:Tp)(T:String)(r:V->List V->Hp->VK->Prop)(to:TE)(t:TA):TE:=λσ H Q=>to σ H λx H1=>Sx K T x H1/\t σ H1 λxs H2=>r x xs H2 Q
variable {o e:T9}{es:List T9}{to:TE}{t:TA}{name:Str}{apos cpos:Pos}{T id:String}{r:V->List V->Hp->VK->Prop}
def Lx (pa:PlainAttrs T)(slot:Slot T name id)(hty:typeOf (.builtin id)=pure (.type "method_descriptor"))(hm:SM X id r)(ho:PE X o to)
  (hbase:Uw o name X.env (Uy o X.env)=Uy o X.env:=by rfl) (hline:(apos.endLine==cpos.line)=true:=by rfl):PE X (.Call (.Attribute o name apos) [] [] cpos) (Sb X.K T r to):=by
 intro af s σ H Q I h;refine XH hbase hline (bQ (ho af s σ H _ I h) λv s1 hxx=>?_);obtain⟨x,H1,I1,r1,ty,q1⟩:=hxx;obtain⟨h1,h2⟩:=ED I1 r1 ty;exact⟨T,id,pa,slot,hty,h1,h2,VC rfl (PySem.evalArgs_none (hm af s1 σ H1 x [] v [] Q I1 r1 .nil q1))⟩
def P5 (pa:PlainAttrs T)(slot:Slot T name id)(hty:typeOf (.builtin id)=pure (.type "method_descriptor"))(hm:SM X id r)(ho:PE X o to)(ha:PA X (e::es) t)
  (hbase:Uw o name X.env (Uy o X.env)=Uy o X.env:=by rfl)
  (hfew:((Vu cpos (T2 (e::es) X.env)).all (λx=>!x.1)&&(Wb cpos (Va [] X.env)).all (λx=>x.1.isSome)
   && decide ((e::es).length+([]:List W0).length+(if([]:List W0).isEmpty then 0 else 1)<30))=true:=by rfl)
  (hline:(apos.endLine==cpos.line)=true:=by rfl) (hs:T2 (e::es) X.env=(false,Uy e X.env)::T2 es X.env:=by rfl) (hplain:(Vu cpos (T2 es X.env)).any (·.1)=false:=by rfl) :
  PE X (.Call (.Attribute o name apos) (e::es) [] cpos) (SU X.K T r to t):=by
 intro af s σ H Q I h;refine wpAny_Call_method_late hbase hfew hline rfl (bQ (ho af s σ H _ I h) λv s1 hxx=>?_);obtain⟨x,H1,I1,r1,ty,q1⟩:=hxx;obtain⟨h1,h2⟩:=ED I1 r1 ty;refine⟨T,id,pa,slot,hty,h1,h2,?_⟩;have hA:=ha cpos af s1 σ H1 _ I1 q1;rw[hs] at hA ⊢;refine VC (by assumption) (WR ?_);exact bQ hA λus s2 ⟨vs,H2,I2,r2,q2⟩=>hm af s2 σ H2 x vs v us Q I2 r1 r2 q2
end
def SL (X:Cx)(id:String)(r:V->List V->Hp->VK->Prop):Prop:=
 ∀(af:List (Th×Obj)) (s:Tg) (σ:St) (H:Hp) (x:V) (xs:List V) (v:Td) (us:List Td) (Q:VK),Inv X af σ H s->aO x v->aS xs us->r x xs H Q->
  Tn (TF X.prog X.w) X.A (call (.builtin id) (v::us)) (EP X af σ Q) X.xe s
theorem aS.one:∀{x:V} {us:List Td},aS [x] us->∃u,us=[u]/\aO x u
 | _,_,.cons r .nil=>⟨_,rfl,r⟩
theorem aS.zero:∀{us:List Td},aS [] us->us=[]
 | _,.nil=>rfl
def aS.reverse (h:aS xs us):aS xs.reverse us.reverse:=by
 induction h with
 | nil=>exact .nil
 | cons r t ih=>rw[reverse_cons,reverse_cons];exact aS.append ih (.cons r .nil)
section
variable {X:Cx}{af:List (Th×Obj)}{σ:St}{H:Hp}{s:Tg}{l b:Th}{xs ys zs:List V}
def Inv.lset {its its':List Td}{n:Nat}(I:Inv X af σ H s)(hH:H l=Z (.lst xs))
  (e:s.heap.get? l=Z {cls:=.type "list",data:=.seq its.toArray n}) (hf:f its.toArray=its'.toArray) (hv:aS ys its') (hz:ys.length<=To) :
  Inv X af σ (bj H l (.lst ys)) {s with heap:=s.heap.update l (T3 f),toks:=t'}:=by
 have q:=PySem.IsL.update e f;rw[hf] at q;refine I.write   (by rw[hH];exact trivial) (.inl rfl) (λb' u hb hu=>(Ut s.heap (T3 f) (Uj hb)).trans hu) ⟨_,q⟩ ?_;exact⟨hz,its',_,hv,q⟩
def Inv.lnew (I:Inv X af σ H s)(hv:aS ys its)(hz:ys.length<=To) :
  Inv X af σ (bj H s.heap.objs.size (.lst ys)) {s with heap:=s.heap.push {cls:=.type "list",data:=.seq its.toArray},toks:=t'}:=
 I.laid (λ_ _ q=>Tc _ q) (Te _) ⟨hz,its,0,hv,Tj _ rfl⟩
def Inv.fresh (I:Inv X af σ H s):H s.heap.objs.size=Y:=I.hok.fresh (Te _)
def Inv.lstM (I:Inv X af σ H s)(hH:H l=Z (.lst xs)):xs.length<=To/\∃(its:List Td) (n:Nat),aS xs its/\xs.length=its.length/\s.heap.get? l=Z {cls:=.type "list",data:=.seq its.toArray n}:=by
 obtain⟨z,its,n,r,e⟩:=I.hok l _ hH;exact⟨z,its,n,r,r.length,e⟩
def t8 {n:Nat}(h:n<=To):aaw n=false:=decide_eq_false (by omega)
end
section
variable {X:Cx}
def Iz:V->List V->Hp->VK->Prop:=λx vs H Q=>∃l xs y,x=.ref l/\vs=[y]/\H l=Z (.lst xs)/\xs.length<To/\Q .non (bj H l (.lst (xs++[y])))
def C4:SL X "list.append" Iz:=by
 intro af s σ H x vs v us Q I rx rv h;obtain⟨l,xs,y,rfl,rfl,hH,hz,q⟩:=h;cases rx;obtain⟨u,rfl,ru⟩:=rv.one;obtain⟨z,its,n,r,hl,e⟩:=I.lstM hH;refine aan F.slot_list_append ⟨_,e,rfl⟩ F.entry_list_append (F.args_list_append_2 _ _) (PySem.list_append l its.toArray n u (by grind)) ⟨e,?_⟩;refine⟨.non,_,I.lset  hH e (by simp) (r.append (.cons ru .nil)) ?_,rfl,q⟩
 grind
def MI:V->List V->Hp->VK->Prop:=λx vs H Q=>∃l xs,x=.ref l/\vs=[]/\H l=Z (.lst xs)/\Q .non (bj H l (.lst []))
def DK:SL X "list.clear" MI:=by
 intro af s σ H x vs v us Q I rx rv h;obtain⟨l,xs,rfl,rfl,hH,q⟩:=h;cases rx;have hus:=rv.zero;subst hus;obtain⟨z,its,n,r,hl,e⟩:=I.lstM hH;refine aan F.slot_list_clear ⟨_,e,rfl⟩ F.entry_list_clear (F.args_list_clear_1 _) (AutoSeq1.list_clear_list_0 l its.toArray n (by rw[Uk];omega)) ⟨e,?_⟩;exact⟨.non,_,I.lset (its':=[]) (ys:=[]) hH e rfl .nil (Uc _),rfl,q⟩
def R8:R2:=λx y H Q=>∃l b xs zs,x=.ref l/\y=.ref b/\H l=Z (.lst xs)/\H b=Z (.lst zs)/\xs.length+zs.length<=To/\∀p,H p=Y->Q (.ref p) (bj H p (.lst (xs++zs)))
def L8:oz X (U4 .Add) R8:=by
 intro af s σ H x y v u Q I rx ry h;obtain⟨l,b,xs,zs,rfl,rfl,hH,hB,hz,q⟩:=h;cases rx;cases ry;obtain⟨z,its,n,r,hl,e⟩:=I.lstM hH;obtain⟨z2,its2,n2,r2,hl2,e2⟩:=I.lstM hB;refine PySem.P.add_list e e2 ?_ (by simp_all);have ea:its.toArray++its2.toArray=(its++its2).toArray:=by simp
 rw[ea];exact⟨.ref _,_,I.lnew  (r.append r2) (by rw[VM];omega),rfl,q _ I.fresh⟩
end
section
variable {prog:TR}{w:TY}{A:Ux}{E:Td->Tg->Prop}{s:Tg}
def DA (its its2:List Td)(a c:Nat):its.toArray.extract 0 a++its2.toArray++its.toArray.extract c its.toArray.size=(its.take a++its2++its.drop c).toArray:=by
 first
  | rfl
  | simp[take_of_length_le]
  | rfl
def zZ {a c n:Nat}(hac:a<=c)(hc:c<=n):VX (Z (a:Int)) (Z (c:Int)) Y n=((a:Int),(c:Int),1):=by
 simp only[VX,XG]
 grind
set_option maxRecDepth 100000 in
def uX {new:Array Td}{n:Nat}{a c:Nat}
  (e:s.heap.get? l=Z {cls:=.type "list",data:=.seq items n}) (e2:s.heap.get? b=Z {cls:=.type "list",data:=.seq new n2}) (hne:l≠b)
  (hs:s.heap.IsSliceOf sl vl vu .none) (pl:XX vl (Z (a:Int))) (pu:XX vu (Z (c:Int))) (hac:a<=c) (hc:c<=items.size)
  (hsz:items.size+new.size<=To) (h:Q () {s with heap:=s.heap.update l (T3 λxs=>xs.extract 0 a++new++xs.extract c xs.size)}) :
  Tn (TF prog w) A (Yw (.ref l) (.ref sl) (.ref b)) Q E s:=by
 have hl:s.heap.IsList l items:=PySem.IsL.isList e;have hb:s.heap.IsList b new:=PySem.IsL.isList e2;obtain⟨os,hos,hcs,hds⟩:=id hs;have hTs:s.TypeIs (.ref sl) "slice":=⟨os,hos,hcs⟩;have hstep:¬((rawPart Y==VT 0)=true):=Tv;have hsame:Xz (.ref l) (.ref b)=false:=by
  unfold Xz;exact beq_eq_false_iff_ne.mpr hne
 have hmax:(max (a:Int) (c:Int)).toNat=c:=by omega
 have hz':((λxs:Array Td=>xs.extract 0 a++new++xs.extract c xs.size) items).size<=To+1:=by
  simp only[Array.size_append,Array.size_extract];omega
 unfold Yw
 try with_reducible refine TV ?_
 first|refine Ta (Tb ?_)|skip
 refine Ta (Zd hl.typeIs (by decide) ?_);refine Ta (Uh (name:=UM "__setitem__") hl.typeIs Zg
  (Ud Zg hl.typeIs entry_list_setitem ?_ (args_list_setitem _ _ _)))
 show Tn _ _ (W1 (.ref sl) >>= _) _ _ s;refine Ta ?_;unfold W1;refine Ta (ZU hTs slice_no_index ?_);simp only[Option.isNone_none,if_true];refine Tb ?_;show Tn _ _ (typeOf (.ref sl) >>= _) _ _ s;refine Ta (XZ hTs ?_)
 first
  | rw[if_neg (by decide)]
  | refine W.KFB.if_not (by decide) ?_
 rw[listSliceParts_eq];refine Ta (Ta (UJ hos hds (x:=.none) rfl (Ta (Yp .none ?_))));rw[if_neg hstep];refine Ta (UJ hos hds (x:=vl) rfl (Ta (Yp pl ?_)));refine Ta (UJ hos hds (x:=vu) rfl (Ta (Yp pu (Tb ?_))))
 first
  | simp only[hsame,UB,if_false]
  | refine W.KFB.if_not hsame ?_
  | (dsimp only
     rw[if_neg (by rw[hsame];exact Tv)])
 refine Ta (m:=Xm (.ref b) "must assign iterable to extended slice") ?_;unfold Xm;refine Ta (XZ hb.typeIs ?_)
 first
  | refine W.KFB.if_so (by decide) ?_
  | rw[if_pos (by decide)]
  | simp only[beq_self_eq_true,aaP,if_true]
 unfold aaQ;refine Ta (UR e2 rfl (Tb ?_));refine Ta (Ta (UR e rfl (Tb ?_)));refine Ta (VY ((sliceIndices_raw (Z (a:Int)) (Z (c:Int)) Y items.size (by simp)).trans (congrArg (pure:Int×Int×Int->Sem (Int×Int×Int)) (zZ hac hc))) ?_);show Tn _ _ (if((1:Int)==1)=true then _ else _) _ _ s;rw[if_pos (by decide)];refine Ta (W9 ?_)
 first
  | simp only[t8 hsz,UB,if_false]
  | refine W.KFB.if_not (t8 hsz) ?_
 first|refine Ta (Tb ?_)|skip
 show Tn _ _ (Yz l (λxs=>xs.extract 0 ((a:Int)).toNat++new++xs.extract (max (a:Int) (c:Int)).toNat xs.size) >>= _) _ _ s;rw[hmax,TK];refine Ta (Vo (hz:=TL (Vw _ _) hsz) (_hz':=hz') e rfl ?_);refine Ta (Vp ?_)
 first
  | exact Ta (Tb (Tb ⟨.none,rfl,Tb h⟩))
  | exact Tb ⟨.none,rfl,Tb h⟩
end
section
variable {X:Cx}
def CJ {a:Int}(I:Inv X af σ H s)
  (hH:H l=Z (.lst xs)) (hB:H b=Z (.lst ys)) (hne:l≠b) (hs:s.heap.IsSliceOf sl vl vu .none) (ra:aO (.int a) vl) (rc:aO (.int c) vu) (h0:0<=a) (hac:a<=c) (hc:c<=xs.length)
  (hz:xs.length+ys.length<=To) (h:∀s',Inv X af σ (bj H l (.lst (xs.take a.toNat++ys++xs.drop c.toNat))) s'->Q () s') :
  Tn (TF X.prog X.w) X.A (Yw (.ref l) (.ref sl) (.ref b)) Q X.xe s:=by
 obtain⟨ta,rfl⟩:=ra;obtain⟨tc,rfl⟩:=rc;obtain⟨z,its,n,r,hl,e⟩:=I.lstM hH;obtain⟨z2,its2,n2,r2,hl2,e2⟩:=I.lstM hB;obtain⟨a',rfl⟩:=Ts h0;obtain⟨c',rfl⟩:=Ts (aaR h0 hac);simp only[TK] at h;refine uX  (c:=c') e e2 hne hs (.int _ _) (.int _ _) (by omega) (by grind) (by grind) (h _ ?_);refine I.lset   hH e ?_ (aS.append (aS.append (r.take _) r2) (r.drop _)) ?_
 ·exact DA its its2 a' c'
 grind
end
end L2
namespace Att
open PySem PySem.W PySem.Calls PyProof.Rows
def rO:∀(ns:List Int) (vs:List Td),WellAll P h vs (ns.map aa4)->UE vs ns:=by
 intro ns
 induction ns with
 | nil=>
  intro vs w;cases w;exact .nil
 | cons n ns ih=>
  intro vs w;cases w with
  | cons a b=>
   cases a;exact .cons _ _ (ih _ b)
def Dv {l:WD}{n:Nat}(hn:l.most=Z n)
  (hpre:l.row.toRowW.claim.pre args=true) (hwl:WellAll P h vals args) :
  ∃a vs ns,vals=[TU a]/\args=[WData.list (ns.map aa4)]/\h.get? a=Z {cls:=.type "list",data:=.seq vs.toArray}/\UE vs ns/\ns.length<=n:=by
 obtain⟨d,r,rfl,h1,h2⟩:=hasAllW_cons ((pre_splitW hpre).1);obtain rfl:=hasAllW_nil h2;obtain⟨xs,rfl,h3⟩:=hasW_list h1;obtain⟨ns,rfl⟩:=items_int h3;cases hwl with
 | cons w1 w2=>
  cases w2;cases w1 with
  | list ho hall=>exact⟨_,_,ns,rfl,rfl,ho,rO ns _ hall,(by
  have h5:=condW_of (by
   have h4:=(holds_andW ((pre_splitW hpre).2)).1;rwa [hn] at h4) (w_not (w_lt w_lit (w_len_list (w_arg rfl))))
  simp_all)⟩
def C6 (l:WD)(args:List WData):l.row.toRowW.claim.post args (.bool true) args=true:=
 postW_of
  (show WShape.has [] (.bool true) .bool=true by rfl)
  (w_eq_bool (w_res rfl) w_lit) rfl
def attach_call {l:WD}{n:Nat}{d:aao}
  (hn:l.most=Z n) (hdf:d.params.defaults=[])
  (call:∀(w:TY) (s₀ s₁:Tg) (mg mb:Str->Option Td) (fa:Th) (o:Obj) (pm cd doc:Td) (a:Th) (vs:List Td) (ns:List Int),
   Ground q loose [] XP w s₀ mg mb s₁.heap->YP w s₁.heap->
   s₁.heap.get? fa=Z o->o.data=.func (docDef d.name d.params d.body d.scope pm cd doc)->s₁.heap.CodeRec cd d.name->mg d.name=Z (.ref fa)->
   s₁.heap.get? a=Z {cls:=.type "list",data:=.seq vs.toArray}->UE vs ns->ns.length<=n->s₁.gens=#[]->
   Yx (TF l.prog w) YA (.call (.ref fa) ⟨[.ref a],[]⟩) (λr s'=>r=.ok (.ret (.bool true))/\OldK s₁.heap s'.heap/\s'.os=s₁.os/\Xo s'.gens) s₁) :
  WalkO q loose XP YP l.row.toRowW d [] (λf vs=>PySem.call f vs):=by
 intro w s₀ s₁ mg mb G Y fa o pm cd doc dV kV ho hd hcd hD hmg hg args vals as hpre hlay hrd hwl hlo;obtain rfl:dV=.none:=Dflts.none hD hdf;obtain rfl:kV=.none:=Dflts.noKw hD;obtain⟨a,vs,ns,rfl,rfl,hobj,hints,hlen⟩:=Dv hn hpre hwl;refine enter_call (Wq (call w s₀ s₁ mg mb fa o pm cd doc a vs ns G Y ho (fd_plain hd) hcd hmg hobj hints hlen hg) λr s' hq=>?_);obtain⟨rfl,h2,h3,h4⟩:=hq;exact⟨.inl ⟨.bool true,.bool true,[],rfl,λ_=>rfl,.bool true,C6 l _,λ_=>⟨aa2,λ_ hm=>(nomatch hm)⟩⟩,h2,h3,h4⟩
end Att
namespace L2
open PySem PySem.Spec PyProof.Rows List
theorem u9:∀{vs:List Td} {ns:List Int},UE vs ns->aS (ns.map V.int) vs
 | _,_,.nil=>.nil
 | _,_,.cons n t h=>.cons ⟨t,rfl⟩ (u9 h)
def df (s:VI)(j:Nat):VI:=match s with
 | .ClassDef _ _ _ body _ _ _ _ _ _ _=>body.getD j (.Pass ⟨0,0,0,0⟩)
 | _=>.Pass ⟨0,0,0,0⟩
def fQ (s:VI):aaI:=match s with
 | .FunctionDef _ a _ _ _ _ _ _ _ _=>a
 | _=>{posonlyargs:=[],args:=[],vararg:=Y,kwonlyargs:=[],kw_defaults:=[],kwarg:=Y,defaults:=[]}
def cu (s:VI):List VI:=match s with
 | .FunctionDef _ _ b _ _ _ _ _ _ _=>b
 | _=>[]
def aH (s:VI):X8:=match s with
 | .FunctionDef _ _ _ _ _ _ sc _ _ _=>sc
 | _=>{kind:=.function,names:=[],isGenerator:=false,isCoroutine:=false}
structure HP (K:Tp)(x qual:Str)(st:VI)(f:Th)(fd:UZ):Prop where
 ex:∃(oc:Td) (od:Option Th) (kV doc pm:Td) (an:Option Th) (cdv ct:Td) (osl:Array (Option Td)),
  fd=WU x qual (fQ st) (cu st) (aH st) .none kV doc pm an cdv ct/\K.lookup f=Z ⟨oc,od,.func fd,osl⟩/\Yn K cdv qual=true
 kp:VU K (.ref f)=true
section
variable {P:TR}{w:TY}{K:Tp}{mg:Str->Option Td}{base:UG}
def HP.binds {st:VI}(F:HP K x qual st f fd)
  (h:∀(kV doc pm:Td) (an:Option Th) (cdv ct:Td) (us:List Td),us.length=ps.length->Yl (WU x qual (fQ st) (cu st) (aH st) .none kV doc pm an cdv ct) ⟨us,[]⟩=pure (ps.zip us)):f6 K fd ps []:=by
 obtain⟨oc,od,kV,doc,pm,an,cdv,ct,osl,rfl,lk,hcd⟩:=F.ex;exact .all (h kV doc pm an cdv ct)
def qC {st:VI}{kV:Td}(l:K.lookup f=Z ⟨oc,od,.func (WU x qual (fQ st) (cu st) (aH st) .none kV doc pm an cdv ct),osl⟩)
  (c:Yn K cdv qual=true) (k:VU K (.ref f)=true):HP K x qual st f (WU x qual (fQ st) (cu st) (aH st) .none kV doc pm an cdv ct):=⟨⟨oc,od,kV,doc,pm,an,cdv,ct,osl,rfl,l,c⟩,k⟩
end
def Fg {k:Nat}(hr:bo k A):A.units+1<XE:=UW (YD (by simp) _) hr.units
section
variable {X:Cx}
def pv (i:Nat)(hN:X.N[i]?=Z x:=by rfl)(hv:NJ X.env.scope x:=by first|exact X2 rfl|exact WV (X2 rfl)|exact WV (WV rfl))(hd:(x==("__debug__":Str))=false:=by decide)
  (hcd:(x==("__classdict__":Str))=false:=by decide):PE X (.Name x pos) (Nl i):=ET hN hv hd hcd
end
section
variable {κ:Type}[DecidableEq κ]
def jH (kvs:List (κ×V))(k:κ):Option V:=(kvs.find? λkv=>decide (kv.1=k)).map (·.2)
def oe (kvs:List (κ×V))(k:κ)(v:V):List (κ×V):=
 if(kvs.any λkv=>decide (kv.1=k))=true then kvs.map (λkv=>if kv.1=k then(kv.1,v) else kv) else kvs++[(k,v)]
def o9 {k:κ}(e:p.1=k):jH (p::r) k=Z p.2:=by simp[jH,Wi,e]
def oX {k:κ}(e:¬p.1=k):jH (p::r) k=jH r k:=by simp[jH,Wi,e]
theorem sT (k:κ):∀kvs:List (κ×V),(kvs.any λkv=>decide (kv.1=k))=(jH kvs k).isSome
 | []=>rfl
 | p::r=>by
  rw[any_cons]
  by_cases e:p.1=k
  ·simp only[o9 e,decide_eq_true e,aaP,Option.isSome_some]
  ·rw[oX e,decide_eq_false e];exact sT k r
def mJ (kvs:List (κ×V))(k:κ)(v:V):(oe kvs k v).length<=kvs.length+1:=by
 unfold oe
 grind
def yg {k:κ}(v:V)(h:jH kvs k=Y):oe kvs k v=kvs++[(k,v)]:=by
 unfold oe;rw[sT,h];rfl
def lE.isSome_eq (r:lE o u):o.isSome=u.isSome:=by
 cases o with
 | none=>cases u with
  | none=>rfl
  | some _=>exact(r).elim
 | some _=>cases u with
  | none=>exact(r).elim
  | some _=>rfl
def KV.val (r:KV kvs vs)(k:κ):lE (jH kvs k) (X3 vs k):=by
 induction r with
 | nil=>exact Ve
 | @cons p q ps qs h t ih=>
  obtain⟨h1,h2⟩:=h
  by_cases e:p.1=k
  ·have e':=h1.symm.trans e;have b:X3 (q::qs) k=Z q.2:=by simp[X3,Wi,e']
   rwa [o9 e,b]
  ·have e':¬q.1=k:=λz=>e (h1.trans z)
   have b:X3 (q::qs) k=X3 qs k:=by simp[X3,Wi,e']
   rwa [oX e,b]
def KV.any (r:KV kvs vs)(k:κ):(kvs.any λkv=>decide (kv.1=k))=vs.any λkv=>decide (kv.1=k):=by
 induction r with
 | nil=>rfl
 | cons h t ih=>simp_all
def KV.repl (r:KV kvs vs)(k:κ){y:V}(ry:aO y u) :
  KV (kvs.map λkv=>if kv.1=k then(kv.1,y) else kv) (vs.map λkv=>if kv.1=k then(kv.1,u) else kv):=by
 induction r with
 | nil=>exact .nil
 | @cons p q ps qs h t ih=>
  refine .cons ?_ ih
  by_cases e:p.1=k
  ·simp_all
  simp_all
def KV.put (r:KV kvs vs)(k:κ){y:V}(ry:aO y u):KV (oe kvs k y) (stored vs k u):=by
 unfold oe stored;rw[r.any k]
 by_cases e:(vs.any λkv=>decide (kv.1=k))=true
 ·rw[if_pos e,if_pos e];exact r.repl k ry
 ·rw[if_neg e,if_neg e];exact Paired.snoc r ⟨rfl,ry⟩
def KV.keys {kvs:List (κ×V)}{vs:List (κ×Td)}(r:KV kvs vs):kvs.map (·.1)=vs.map (·.1):=by
 induction r with
 | nil=>rfl
 | cons h t ih=>simp_all
def KV.length (r:KV kvs vs):kvs.length=vs.length:=Paired.length r
end
def zu {k:bN}(r:aO (kV k) u):(bC P w).is k u=true:=by
 cases k with
 | inl i=>obtain⟨t,e⟩:=(r);subst e;exact xJ P w i t
 | inr x=>obtain⟨t,e⟩:=(r);subst e;exact yk P w x t
theorem vh:∀{ks:List bN} {us:List Td},aS (ks.map kV) us->ItemsAre (bC P w) ks us
 | [],_,r=>by cases r;exact .nil
 | k::ks,_,r=>by
  cases r with
  | cons h t=>exact .cons (zu h) (vh t)
abbrev KT (H:Hp):List (List bN×V)->List (List bN×Th×Td)->Prop:=Paired λp q=>p.1=q.1/\H q.2.1=Z (.tup (p.1.map kV))/\aO p.2 q.2.2
def KT.val (r:KT H kvs xs)(k:List bN):lE (jH kvs k) ((XI xs k).map (·.2)):=by
 induction r with
 | nil=>exact Ve
 | @cons p q ps qs h t ih=>
  obtain⟨h1,_,h2⟩:=h
  by_cases e:p.1=k
  ·have b:XI (q::qs) k=Z q.2:=by simp[XI,Wi,(h1.symm.trans e)]
   rwa [o9 e,b]
  ·have e':¬q.1=k:=λz=>e (h1.trans z)
   have b:XI (q::qs) k=XI qs k:=by simp[XI,Wi,e']
   rwa [oX e,b]
def KT.repl (r:KT H kvs xs)(k:List bN){y:V}(ry:aO y u) :
  KT H (kvs.map λkv=>if kv.1=k then(kv.1,y) else kv) (xs.map (putAt k u)):=by
 induction r with
 | nil=>exact .nil
 | @cons p q ps qs h t ih=>
  rw[V2];refine .cons ?_ ih;obtain⟨h1,h2,h3⟩:=h;unfold putAt
  by_cases e:p.1=k
  ·rw[if_pos e,if_pos (h1.symm.trans e)];exact⟨h1,h2,ry⟩
  ·rw[if_neg e,if_neg (λz=>e (h1.trans z))];exact⟨h1,h2,h3⟩
def KT.put (r:KT H kvs xs)(k:List bN){y:V}(hb:H b=Z (.tup (k.map kV)))(ry:aO y u) :
  KT H (oe kvs k y) (aaS xs k b u):=by
 have e:(kvs.any λkv=>decide (kv.1=k))=(XI xs k).isSome:=by
  rw[sT,(r.val k).isSome_eq,Option.isSome_map]
 unfold oe aaS;rw[e]
 by_cases q:(XI xs k).isSome=true
 ·rw[if_pos q,if_pos q];exact r.repl k ry
 ·rw[if_neg q,if_neg q];exact Paired.snoc r ⟨rfl,hb,ry⟩
def KT.keeps (r:KT H kvs xs)(ht:∀b ys,H b=Z (.tup ys)->H' b=Z (.tup ys)):KT H' kvs xs:=
 Paired.mapP r λ_ _ z=>⟨z.1,ht _ _ z.2.1,z.2.2⟩
section
variable {P:TR}{w:TY}{H:Hp}{h:UG}{a:Th}
def Ko (ok:md P w H h)(e:Rd H a u):bM P w H h a u:=e.ok ok
def zv (ok:md P w H h)(e:Rd H a (.dK kvs)):kvs.length<=To/\(a==UA)=false/\∃vs,KV kvs vs/\h.DictOf (bC P w) a vs:=
 Ko ok e
def Kj (ok:md P w H h)(e:H a=Z (.dK kvs)):kvs.length<=To/\(a==UA)=false/\∃vs,KV kvs vs/\h.DictOf (bC P w) a vs:=zv ok (.inl e)
def xo (ok:md P w H h)(e:H a=Z (.tup (ks.map kV))):(WE (bC P w)).is h ks a:=by
 obtain⟨_,its,r,o,h1,h2,n,h3⟩:=(ok a _ e);exact⟨o,its.toArray,n,h1,h2,h3,by simpa using vh r⟩
def zg (ok:md P w H h)(e:Rd H a (.dT kvs)):kvs.length<=To/\(a==UA)=false/\
  ∃xs,KT H kvs xs/\h.DictOfH (WE (bC P w)) a xs:=by
 obtain⟨z,y,xs,r,o,es,ep,h1,h2,h3,h4,h5⟩:=(Ko ok e);refine⟨z,y,xs,r,o,es,ep,h1,h2,h3,h4,λx hx=>?_,h5⟩;have all:∀{l:List (List bN×V)} {m:List (List bN×Th×Td)},KT H l m->∀x∈m,(WE (bC P w)).is h x.1 x.2.1:=by
  intro l m q
  induction q with
  | nil=>simp
  | @cons p q ps qs hq t ih=>
   intro x hx;rcases Ur.mp hx with e|hx
   ·exact xo ok (by simp_all)
   ·exact ih x hx
 exact all r x hx
def N4 (ok:md P w H h)(e:H a=Z (.dT kvs)):kvs.length<=To/\(a==UA)=false/\
  ∃xs,KT H kvs xs/\h.DictOfH (WE (bC P w)) a xs:=zg ok (.inl e)
end
def sR (H:Hp)(a:Th)(y:V)(r:Option V):Prop:=
 (∃kvs k,Rd H a (.dK kvs)/\y=kV k/\r=jH kvs k)\/∃kvs k b,Rd H a (.dT kvs)/\y=.ref b/\H b=Z (.tup (k.map kV))/\r=jH kvs k
theorem sR.k {a:Th}{k:bN}(e:H a=Z (.dK kvs)):sR H a (kV k) (jH kvs k):=.inl ⟨kvs,k,.inl e,rfl,rfl⟩
def sR.t {a:Th}{k:List bN}(e:H a=Z (.dT kvs))(eb:H b=Z (.tup (k.map kV))):sR H a (.ref b) (jH kvs k):=.inr ⟨kvs,k,b,.inl e,rfl,eb,rfl⟩
section
variable {X:Cx}{af:List (Th×Obj)}{σ:St}{H:Hp}{s:Tg}{a:Th}{y v:V}{u r:Td}{o:Option V}{A:Ux}{E:Td->Tg->Prop}
def Inv.big (I:Inv X af σ H s):UA<s.heap.objs.size:=Nat.lt_trans (by decide) ((I.mod.glob.keeps I.bk).lt)
def CU (hu:A.units+1<XE)(I:Inv X af σ H s)(g:sR H a y (Z v))(ry:aO y u)(h:∀w' s',Inv X af σ H s'->aO v w'->Q w' s') :
  Tn (TF X.prog X.w) A (XY (.ref a) u) Q E s:=by
 rcases g with⟨kvs,k,e,ey,l⟩|⟨kvs,k,b,e,ey,eb,l⟩
 ·subst ey;obtain⟨z,hd,vs,rel,dd⟩:=zv I.hok e;obtain⟨w',hw,rw'⟩:=lE.some_of   (by rw[l];exact rel.val k);exact wpAny_getItem_of (zu ry) dd.mapOf hw (h w' _ (I.tok _) rw')
 ·subst ey;cases (ry);obtain⟨z,hd,xs,rel,dd⟩:=zg I.hok e;obtain⟨w',hw,rw'⟩:=lE.some_of (v:=v)  (by rw[l];exact rel.val k);obtain⟨p,hp,hp2⟩:=TZ.mp hw;refine wpAny_getItem_heap (Xg hu) (xo I.hok eb) dd hp ?_;rw[hp2];exact h w' _ (I.tok _) rw'
def wg (I:Inv X af σ H s)(mu:OP (H a))(hs:UD a s.heap h')(he:∃q,h'.get? a=Z q)(new:bM X.prog X.w (bj H a ob) h' a ob) :
  Inv X af σ (bj H a ob) {s with heap:=h',toks:=t'}:=
 I.write   mu (.inl rfl) (λb q hb z=>(hs.2 b hb).trans z) he new
def DZ (z:kvs.length<=To)(hd:(a==UA)=false)(rel:KV kvs vs)(dd:h'.DictOf (bC P w) a vs) :
  bM P w H' h' a (.dK kvs):=⟨z,hd,vs,rel,dd⟩
end
def CY (i:T9):Prop:=∀ov iv,ZL i false ov iv=operate [ov,iv] (XY ov iv)
def Jx {id:String}
  (hl:aam (.type T) "__getitem__"=pure (Z (.builtin id))) (hs:CY slice)
  (h:Tn (TF prog w) A (Uy value env) (λo s₁=>Tn (TF prog w) A (Uy slice env) (λi s₂=>s₂.TypeIs o T/\Tn (TF prog w) A (XY o i) Q E s₂) E s₁) E s) :
  Tn (TF prog w) A (Uy (.Subscript value slice pos) env) Q E s:=by
 refine Y3 (Vc h (λo s₁ h₁=>Vc h₁ (λi s₂ h₂=>?_) λ_ _ x=>x) λ_ _ x=>x);obtain⟨hT,h₂⟩:=h₂;refine Ta ?_;refine Ta (ZU hT hl ?_)
 first
  | exact Tb (Ta (by
  rw[hs o i];exact wpAny_operating (Vc h₂ (λr s₃ h₃=>Ta (wpAny_letTemporaryGo (Tb h₃))) λ_ _ x=>x)))
  | rfl
  | rfl
def yy {a:Th}{y:V}(I:Inv X af σ H s)(g:sR H a y o):s.TypeIs (.ref a) "dict":=by
 rcases g with⟨kvs,k,e,_,_⟩|⟨kvs,k,b,e,_,_,_⟩
 ·obtain⟨_,_,vs,_,dd⟩:=zv I.hok e;exact dd.typeIs
 ·obtain⟨_,_,xs,_,dd⟩:=zg I.hok e;exact dd.typeIs
def Ot (td ty:TE):TE:=λσ H Q=>td σ H λx H1=>ty σ H1 λy H2=>∃a v,x=.ref a/\sR H2 a y (Z v)/\Q v H2
section
variable {X:Cx}{o i e value:T9}{pos pos' tpos:Pos}{td ty tv:TE}
def wb (hu:X.A.units+1<XE)(ho:PE X o td)(hi:PE X i ty)(hs:CY i):PE X (.Subscript o i pos) (Ot td ty):=by
 intro af s σ H Q I h;refine Jx PySem.F.slot_dict_getitem.lookup hs (bQ (ho af s σ H _ I h) λu s1 ⟨x,H1,I1,rx,q1⟩=>bQ (hi af s1 σ H1 _ I1 q1) λiv s2 hxx=>?_);obtain⟨y,H2,I2,ry,a,v,ex,g,q2⟩:=hxx;subst ex;obtain rfl:u=TU a:=rx;exact⟨yy I2 g,CU hu I2 g ry λw' s3 I3 rw'=>⟨v,H2,I3,rw',q2⟩⟩
end
def yo (h:UG)(hb:UA<h.objs.size):bM P w H (h.push {cls:=.type "dict",data:=.dict #[]}) h.objs.size (.dK []):=
 ⟨Uc _,beq_eq_false_iff_ne.mpr (Uj (TB hb)),[],.nil,aa5 h⟩
def Fp (h:UG)(hb:UA<h.objs.size):bM P w H (h.push {cls:=.type "dict",data:=.dict #[]}) h.objs.size (.dT []):=
 ⟨Uc _,beq_eq_false_iff_ne.mpr (Uj (TB hb)),[],.nil,_,#[],0,Tj _ rfl,⟨rfl,rfl,rfl⟩,rfl,rfl,nodup_nil⟩
def MH:TE:=λ_ H Q=>∀p,H p=Y->Q (.ref p) (bj H p (.dK []))
def LS:TE:=λ_ H Q=>∀p,H p=Y->Q (.ref p) (bj H p (.dT []))
section
variable {X:Cx}{pos:Pos}
def EE:PE X (.Dict [] [] pos) MH:=λaf s σ H Q I h=>
 ZA ⟨.ref s.heap.objs.size,_,I.laid    (λ_ _ q=>Tc _ q) (Te _) (yo s.heap I.big),rfl,h _ (I.hok.fresh (Te _))⟩
def Gs:PE X (.Dict [] [] pos) LS:=λaf s σ H Q I h=>
 ZA ⟨.ref s.heap.objs.size,_,I.laid    (λ_ _ q=>Tc _ q) (Te _) (Fp s.heap I.big),rfl,h _ (I.hok.fresh (Te _))⟩
end
def wU:List (TE×TE)->St->Hp->(List (V×V)->Hp->Prop)->Prop
 | [],_,H,Q=>Q [] H
 | (tk,tv)::r,σ,H,Q=>tk σ H λx H1=>tv σ H1 λy H2=>wU r σ H2 λps H3=>Q ((x,y)::ps) H3
abbrev VV:List (V×V)->List (Td×Td)->Prop:=Paired λp q=>aO p.1 q.1/\aO p.2 q.2
def PV (X:Cx)(pos:Pos)(keys:List (Option T9))(values:List T9)(trs:List (TE×TE)):Prop:=
 ∀(af:List (Th×Obj)) (s:Tg) (σ:St) (H:Hp) (Q:List (V×V)->Hp->Prop),Inv X af σ H s->wU trs σ H Q->
  Tn (TF X.prog X.w) X.A (evalPairs (pairTrees keys values X.env pos)) (λvs s'=>∃ps H',Inv X af σ H' s'/\VV ps vs/\Q ps H') X.xe s
def Jt:PV X pos [] [] []:=λaf s σ H Q I h=>pairTrees_nil_walk ⟨[],H,I,.nil,h⟩
def Fq {k:T9}(hk:PE X k tk)(hv:PE X v tv)(hr:PV X pos ks vs trs) :
  PV X pos (Z k::ks) (v::vs) ((tk,tv)::trs):=λaf s σ H Q I h=>
 pairTrees_cons_walk (bQ (hk af s σ H _ I h) λu s1 ⟨x,H1,I1,rx,q1⟩=>bQ (hv af s1 σ H1 _ I1 q1) λw2 s2 ⟨y,H2,I2,ry,q2⟩=>
  bQ (hr af s2 σ H2 _ I2 q2) λws s3 ⟨ps,H3,I3,rel,q3⟩=>⟨(x,y)::ps,H3,I3,.cons ⟨rx,ry⟩ rel,q3⟩)
def iU (kvs more:List (bN×V)):List (bN×V):=more.foldl (λacc kv=>oe acc kv.1 kv.2) kvs
def KV.merge:∀{more:List (bN×V)} {rs:List (bN×Td)} {kvs:List (bN×V)} {vs:List (bN×Td)},KV more rs->KV kvs vs->KV (iU kvs more) (merged vs rs):=by
 intro more rs kvs vs r
 induction r generalizing kvs vs with
 | nil=>intro q;exact q
 | @cons p q ps qs h t ih=>
  intro r0;exact ih (by
   have:=r0.put p.1 h.2
   simp_all)
theorem nz:∀(more kvs:List (bN×V)),(iU kvs more).length<=kvs.length+more.length
 | [],kvs=>by show kvs.length<=kvs.length+0;simp
 | p::r,kvs=>by
  have h1:=nz r (oe kvs p.1 p.2);have h2:=mJ kvs p.1 p.2;show(iU (oe kvs p.1 p.2) r).length<=_
  grind
theorem sC:∀{kvs:List (bN×V)} {ws:List (Td×Td)},VV (kvs.map λkv=>(kV kv.1,kv.2)) ws->∃rs,Carries (bC P w) ws rs/\KV kvs rs
 | [],_,r=>by cases r;exact⟨[],Ve,.nil⟩
 | p::kvs,_,r=>by
  cases r with
  | @cons a b as bs h t=>
   obtain⟨rs,c,q⟩:=sC (P:=P) (w:=w) t;obtain⟨b1,b2⟩:=b;exact⟨(p.1,b2)::rs,⟨zu h.1,rfl,c⟩,.cons ⟨rfl,h.2⟩ q⟩
def Qj (trs:List (TE×TE)):TE:=λσ H Q=>∀p,H p=Y->wU trs σ (bj H p (.dK [])) λps H2=>H2 p=Z (.dK [])/\∃kvs:List (bN×V),ps=kvs.map (λkv=>(kV kv.1,kv.2))/\kvs.length<=15/\Q (.ref p) (bj H2 p (.dK (iU [] kvs)))
def Hi {keys:List (Option T9)}(h:PV X pos keys values trs)(hall:keys.all (·.isSome)=true)(hl:keys.length=values.length)(h0:keys≠[])
  (h15:keys.length<=15):PE X (.Dict keys values pos) (Qj trs):=by
 intro af s σ H Q I q;refine wpAny_Dict_walk (knd:=bC X.prog X.w) hall hl h0 h15 (bQ (h af _ σ _ _ (I.laid     (λ_ _ q=>Tc _ q) (Te _) (yo s.heap I.big)) (q _ (I.hok.fresh (Te s.heap.objs.size)))) λws s2 hxx=>?_);obtain⟨ps,H2,I2,rel,e,kvs,ep,lk,q2⟩:=hxx;subst ep;obtain⟨rs,c,rk⟩:=sC (P:=X.prog) (w:=X.w) rel;obtain⟨z,hd,vs0,r0,dd⟩:=Kj I2.hok e;cases r0;refine⟨rs,c,dd,λh' dd' hs=>⟨.ref s.heap.objs.size,_,?_,rfl,q2⟩⟩;exact wg I2 (by rw[e];exact Ve) hs (let ⟨q,_,_,hq,_⟩:=dd';⟨q,hq⟩) (DZ (by
  have h1:=nz kvs [];rw[VG] at h1;rw[Uo];omega) hd (rk.merge .nil) dd')
structure M1 (X:Cx)(o:T9)(m:Str)(apos:Pos)(e:T9)(cpos:Pos):Prop where
 base:Uw o m X.env (Uy o X.env)=Uy o X.env
 few:((Vu cpos (T2 [e] X.env)).all (λx=>!x.1)&&(Wb cpos (Va [] X.env)).all (λx=>x.1.isSome)
  && decide (([e]:List T9).length+([]:List W0).length+(if([]:List W0).isEmpty then 0 else 1)<30))=true
 line:(apos.endLine==cpos.line)=true
 trees:Vu cpos (T2 [e] X.env)=[(false,Uy e X.env)]
structure M2 (X:Cx)(o:T9)(m:Str)(apos:Pos)(e f:T9)(cpos:Pos):Prop where
 base:Uw o m X.env (Uy o X.env)=Uy o X.env
 few:((Vu cpos (T2 [e,f] X.env)).all (λx=>!x.1)&&(Wb cpos (Va [] X.env)).all (λx=>x.1.isSome)
  && decide (([e,f]:List T9).length+([]:List W0).length+(if([]:List W0).isEmpty then 0 else 1)<30))=true
 line:(apos.endLine==cpos.line)=true
 trees:Vu cpos (T2 [e,f] X.env)=[(false,Uy e X.env),(false,Uy f X.env)]
def Rg (H:Hp)(a:Th):Prop:=(∃kvs,Rd H a (.dK kvs))\/∃kvs,Rd H a (.dT kvs)
def My {a:Th}(I:Inv X af σ H s)(d:Rg H a) :
  s.TypeIs (.ref a) "dict"/\(∀b,TU a=.ref b->∃ob,s.heap.get? b=Z ob/\ob.dict=Y)/\(a==UA)=false:=by
 rcases d with⟨kvs,e⟩|⟨kvs,e⟩
 ·obtain⟨_,hd,vs,_,dd⟩:=zv I.hok e;refine⟨dd.typeIs,λb q=>?_,hd⟩;cases q;obtain⟨ob,_,_,h1,h2,_⟩:=dd;exact⟨ob,h1,h2.2.1⟩
 ·obtain⟨_,hd,xs,_,dd⟩:=zg I.hok e;refine⟨dd.typeIs,λb q=>?_,hd⟩;cases q;obtain⟨ob,_,_,h1,h2,_⟩:=dd;exact⟨ob,h1,h2.2.1⟩
end L2
namespace Att
open PySem PySem.W PySem.Calls PyProof.Rows
end Att
namespace L2
open PySem PySem.Spec PyProof.Rows List
end L2
namespace DL
open PySem PySem.Spec PyProof.Rows L2 List
structure OE (X:Cx)(af:List (Th×Obj))(H:Hp)(B:UG):Prop where
 trk:∀b o,H b=Z o->∃o',B.get? b=Z o'
 pin:∀p∈X.pn++af,∃o',B.get? p.1=Z o'
 old:∀b o,X.s₀.heap.get? b=Z o->b∉X.ex->b∉uI X.stack->∃o',B.get? b=Z o'
def RJ (X:Cx)(H:Hp)(a C:Th)(s:Tg):Prop:=∃af σ,
 (∃h vs,L2.Inv X af σ H {s with heap:=h}/\aap h s.heap a (.ref C) vs)\/
 (L2.Inv X af σ H s/\H a=Y/\∃B a0,Zh B X.stack a (.ref C) a0 s.heap/\OE X af H B)\/
 (L2.Inv X af σ H s/\H a=Y/\∃B a0 L,X.env.frame=Z L/\Heap.HeldW B X.stack a (.ref C) a0 L s.heap/\OE X af H B)
def iG (K:Tp)(c:Str)(C:Th):Prop:=Vh K Tq c=Z (Z (.ref C))
def iG.inj {K:Tp}(a:iG K c C)(b:iG K c C'):C=C':=by
 unfold iG at a b
 grind
def ur {a:Th}(x:bM P w H h a o):∃u,h.get? a=Z u:=by
 cases o with
 | lst xs=>obtain⟨_,_,_,_,e⟩:=x;exact⟨_,e⟩
 | tup xs=>obtain⟨_,_,_,o,e,_⟩:=x;exact⟨_,e⟩
 | dK kvs=>obtain⟨_,_,_,_,o,_,_,e,_⟩:=x;exact⟨_,e⟩
 | dT kvs=>obtain⟨_,_,_,_,o,_,_,e,_⟩:=x;exact⟨_,e⟩
 | set S n=>obtain⟨o,_,_,_,e,_⟩:=x;exact⟨_,e⟩
 | ins C dx fs=>obtain⟨_,_,_,e,_⟩:=x;exact⟨_,e⟩
 | own y=>assumption
 | xd fs=>obtain⟨_,⟨_,_,_,e,_⟩,_⟩:=x;exact⟨_,e⟩
 | rng lo hi=>obtain⟨_,_,_,e⟩:=x;exact⟨_,e⟩
 | frz ob u=>obtain⟨e,_⟩:=x;exact⟨_,e⟩
 | tbl ps=>exact⟨_,x⟩
 | met f y=>exact⟨_,x⟩
 | ext φ=>obtain⟨_,⟨_,e⟩,_⟩:=x;exact⟨_,e⟩
section
variable {X:Cx}{af:List (Th×Obj)}{σ:List (Option V)}{H:Hp}{s:Tg}{B h':UG}{a C:Th}
def we (I:L2.Inv X af σ H s)(e:X.s₀.heap.get? b=Z o)(n:b∉X.fs):b∉uI X.stack:=λz=>by
 rcases Ur.mp (I.stkSub b z) with q|q
 ·have h1:=Tr e;rw[q] at h1;exact absurd (Tu h1 I.ok.above) (U9 _)
 ·exact n q
def BZ {h h':UG}(u:h.UpToSlots h')(x:h.IsCell c v):h'.IsCell c v:=by
 obtain⟨o,e,d⟩:=x;obtain⟨sl,e'⟩:=u c o e λvs q=>by grind
 exact⟨_,e',d⟩
def DH (I:L2.Inv X af σ H s)(eP:OE X af H B)(hB:B.StaysIn s.heap)(hB':B.StaysIn h')(up:s.heap.UpToSlots h'):L2.Inv X af σ H {s with heap:=h'}:=by
 have keepB:∀b o o',B.get? b=Z o'->s.heap.get? b=Z o->h'.get? b=Z o:=λb o o' e1 e2=>by
  have:=hB b o' e1;rw[e2] at this;cases this;exact hB' b _ e1
 refine⟨I.ok,I.os,I.bare,⟨λb o e n nf nx=>?_,λb o e n hf nx=>?_,λb o e n nx=>I.base.free b o e n nx,λb o e nx=>?_,I.base.tups,I.base.frzs,I.base.tbls⟩,?_,λx c e=>?_,I.free,I.freeC,λp hp=>?_,λb o e=>?_,I.len⟩
 ·obtain⟨o',e'⟩:=eP.old b o e nx (we I e nf);exact keepB b o o' e' (I.base.keep b o e n nf nx)
 ·obtain⟨sl,e1⟩:=I.base.slot b o e n hf nx;obtain⟨_,ob,e2,nf⟩:=I.funs.mem hf;rw[e1] at e2;cases e2;obtain⟨sl',e3⟩:=up b _ e1 nf;exact⟨sl',e3⟩
 ·by_cases hf:b∈X.fs
  ·obtain⟨_,ob,e2,nf⟩:=I.funs.mem hf;obtain⟨sl',e3⟩:=up b _ e2 nf;exact⟨_,e3⟩
  ·obtain⟨o',e'⟩:=eP.old b o e nx (we I e hf);exact⟨o',hB' b o' e'⟩
 ·obtain⟨m,hn,hl⟩:=I.loc;refine⟨m,up.ns hn,λi x v e1 e2 e3=>?_⟩;obtain⟨u,r,lk⟩:=hl i x v e1 e2 e3;refine⟨u,r,?_⟩;rcases lk with lk|⟨k,c,ec,ic⟩
  ·exact .inl lk
  ·exact .inr ⟨k,c,ec,BZ up ic⟩
 ·obtain⟨v,ic⟩:=I.cell x c e;exact⟨v,BZ up ic⟩
 ·obtain⟨e,n,ne,nf,d⟩:=I.pin p hp;obtain⟨o',e'⟩:=eP.pin p hp;exact⟨keepB p.1 p.2 o' e' e,n,ne,nf,d⟩
 ·refine(I.hok b o e).stay (λc u hc q=>?_) (λ_ q=>q) λ_ _ q=>q
  have:∃o,H c=Z o:=by
   rcases hc with z|z
   ·simp_all
   ·exact⟨_,z⟩
  obtain⟨oc,ec⟩:=this;obtain⟨o',e'⟩:=eP.trk c oc ec;exact keepB c u o' e' q
def E2 (I:L2.Inv X af σ H s):OE X af H (Zq s.heap (uI X.stack)):=by
 refine⟨λb o e=>?_,λp hp=>?_,λb o e nx nf=>?_⟩
 ·obtain⟨u,q⟩:=ur (I.hok b o e);exact⟨u,Xv _ q λz=>by rw[I.stkFree b z] at e;grind⟩
 ·obtain⟨e,n,ne,nf,d⟩:=I.pin p hp;exact⟨p.2,Xv _ e λz=>by
   rcases Ur.mp (I.stkSub _ z) with q|q
   ·exact ne q
   ·exact nf q⟩
 ·obtain⟨o',e'⟩:=I.base.there b o e nx;exact⟨o',Xv _ e' nf⟩
def yq (I:L2.Inv X af σ H s):s.heap.FunFrames (Zq s.heap (uI X.stack)) X.stack:=
 W.funFrames_hide I.stack λenv he b hb=>YL.mpr ⟨env,he,hb⟩
def CQ (I:L2.Inv X af σ H {s with heap:=h})(m:aap h s.heap a (.ref C) vs):H a=Y:=by
 cases q:H a with
 | none=>rfl
 | some o=>
  obtain⟨u,e⟩:=ur (I.hok a o q);rw[m.new] at e;grind
end
def ju (P:TR)(w:TY):K2:=λouter H s E e s'=>∃a C H' B a0,e=.ref a/\s'.os=s.os/\Xo s'.gens/\Un (uI outer) [] H H' s.heap s'.heap/\md P w H' s'.heap/\H' a=Y/\
 Zh B outer a (.ref C) a0 s'.heap/\(∀b o,H' b=Z o->∃o',B.get? b=Z o')/\(∀b o,s.heap.get? b=Z o->b∉uI outer->∃o',B.get? b=Z o')/\E (.ref C) (Z a) H'
def nZ {K:Tp}{a:Th}
  (fl:RJ (iK (ju P w) P w K mg base N qual scope f cdv A outer s H E) H' a C s') (hE:E (.ref C) (Z a) H'):(iK (ju P w) P w K mg base N qual scope f cdv A outer s H E).xe (.ref a) s':=by
 show Tn (TF P w) (A.deeper (VW qual scope s.heap.objs.size f cdv)) (leaving (VW qual scope s.heap.objs.size f cdv) (.ref a)) (λ_ s''=>ju P w outer H s E (.ref a) s'') (λe' s''=>ju P w outer H s E e' s'') s';obtain⟨af,σ,fl⟩:=fl;have key:∀(B:UG) (a0:Td) (h':UG) (I:L2.Inv (iK (ju P w) P w K mg base N qual scope f cdv A outer s H E) af σ H' s'),B.StaysIn s'.heap->OE (iK (ju P w) P w K mg base N qual scope f cdv A outer s H E) af H' B->H' a=Y->
   Zh B outer a (.ref C) a0 h'->s'.heap.UpToSlots h'->ju P w outer H s E (.ref a) {s' with heap:=h'}:=λB a0 h' I hB eP hn fl' up=>by
  have I':=DH I eP hB fl'.1 up;refine⟨a,C,H',B,a0,rfl,I'.os,I'.bare,I'.base,I'.hok,hn,fl',eP.trk,λb o e nf=>?_,hE⟩;exact eP.old b o e (by show b∉([]:List Th);simp) (we I e nf)
 rcases fl with⟨h,vs,I,m⟩|⟨I,hn,B,a0,fl,eP⟩|⟨I,hn,B,a0,L,hL,held,eP⟩
 ·have eP:=E2 I;have hid:∀b o,(Zq h (uI (iK (ju P w) P w K mg base N qual scope f cdv A outer s H E).stack)).get? b=Z o->h.get? b=Z o:=λb o q=>W.of_hideAll _ q
  refine wpAny_leaves_madeW  (outer:=outer) I.ok.frames rfl hid (yq I) m λh' t x1 x2 x3 x4=>?_
  exact key _ _ h' (I.kept (t':=s'.toks) (h':=s'.heap) m.keeps) (λb o q=>m.keeps b o (hid b o q)) eP (CQ I m) x1 x4
 ·refine wpAny_leaves_onW  (outer:=outer) I.ok.frames rfl fl λh' x1 x2=>?_
  exact key B a0 h' I fl.1 eP hn x1 x2
 ·unfold leaving;refine Ta (wpAny_noteFrame_againW hL held.2.2.2 ?_);refine wpAny_landsW held λh' x1 x2=>?_
  obtain⟨k1,k2,⟨_,_,k3⟩,k4⟩:=x1;exact key B a0 h' I held.1 eP hn ⟨k1,k2,k3,k4⟩ x2
def Ct (I:L2.Inv X af σ H s)(h:ju X.prog X.w X.stack H s E e s'):∃a C H',e=.ref a/\RJ X H' a C s'/\E (.ref C) (Z a) H':=by
 obtain⟨a,C,H',B,a0,rfl,os,bare,un,hok,hn,fl,trk,old,hE⟩:=h;refine⟨a,C,H',rfl,⟨af,σ,.inr (.inl ⟨I.call' os un hok bare (λb z=>absurd z (by simp)),hn,B,a0,fl,trk,λp hp=>?_,λb o eb nx nf=>?_⟩)⟩,hE⟩
 ·obtain⟨eb,n,ne,nf,d⟩:=I.pin p hp;exact old p.1 p.2 eb λz=>by
   rcases Ur.mp (I.stkSub _ z) with q|q
   ·exact ne q
   ·exact nf q
 ·obtain⟨o',e'⟩:=I.base.there b o eb nx;exact old b o' e' nf
inductive D where
 | non|bl (b:Bool)|int (i:Int)|str (x:Str)|tup (xs:List D)|lst (xs:List D)|ro (xs:List D)|mr (i:Nat)|exc (c:Str)|any
instance:Inhabited D:=⟨.non⟩
inductive MO where
 | lst (xs:List D)|obj (c:Str) (fs:List (Str×D))|dK (kvs:List (bN×D))|dT (kvs:List (List bN×D))
instance:Inhabited MO:=⟨.lst []⟩
abbrev aq:=List MO
abbrev dY:=List (Option D)
inductive bi (α:Type) where
 | ok (a:α) (M:aq)
 | err (c:Str) (M:aq)
 | bad
noncomputable def bi.bind {α β:Type}(o:bi α)(f:α->aq->bi β):bi β:=
 match o with
 | .ok a M=>f a M
 | .err c M=>.err c M
 | .bad=>.bad
@[simp] theorem az (a:α) (M:aq) (f:α->aq->bi β):(bi.ok a M).bind f=f a M:=by rfl
@[simp] theorem OQ {α β:Type} (c:Str) (M:aq) (f:α->aq->bi β):(bi.err c M:bi α).bind f=.err c M:=by rw[bi.bind]
@[simp] theorem O1 {α β:Type} (f:α->aq->bi β):(bi.bad:bi α).bind f=.bad:=by rw[bi.bind]
def S9 (K:Tp)(a:Th)(xs:List V):Prop:=∃(o:Obj) (its:Array Td) (n:Nat),K.lookup a=Z o/\o.cls=.type "tuple"/\o.data=.seq its n/\its.size<=To/\aS xs its.toList
def KL (K:Tp)(a:Th)(xs:List V):Prop:=∃(o:Obj) (its:Array Td) (n:Nat),K.lookup a=Z o/\o.cls=.type "list"/\o.dict=Y/\o.data=.seq its n/\its.size<=To/\aS xs its.toList
def oA (K:Tp)(θ:List Th)(H:Hp)(a:Th)(xs:List V):Prop:=H a=Z (.tup xs)/\a∉θ
def vq (θ:List Th)(H:Hp)(a:Th)(xs:List V):Prop:=H a=Z (.lst xs)/\a∉θ
def rK (K:Tp)(θ:List Th)(H:Hp)(a:Th)(xs:List V):Prop:=(Rd H a (.lst xs)/\a∉θ)\/KL K a xs
def oA.sq {K:Tp}{a:Th}(h:oA K θ H a xs):rQ K H a xs:=.inl (.inl h.1)
def vq.sq {K:Tp}{a:Th}(h:vq θ H a xs):oy K H a xs:=.inl (.inl h.1)
def rK.sq {K:Tp}{a:Th}(h:rK K θ H a xs):oy K H a xs:=by
 rcases h with⟨h,_⟩|h
 ·exact .inl h
 ·exact .inr h
def Rp (a C:Th):HO:=.ext λh=>∃o,h.get? a=Z o/\o.cls=.ref C
mutual
def cz (K:Tp)(θ:List Th)(H:Hp):D->V->Prop
 | .non,v=>v=.non
 | .bl b,v=>v=.bl b
 | .int i,v=>v=.int i
 | .str x,v=>v=.str x
 | .tup ds,v=>∃a vs,v=.ref a/\oA K θ H a vs/\aY K θ H ds vs
 | .lst ds,v=>∃a vs,v=.ref a/\vq θ H a vs/\aY K θ H ds vs
 | .ro ds,v=>∃a vs,v=.ref a/\rK K θ H a vs/\aY K θ H ds vs
 | .mr i,v=>∃a,v=.ref a/\θ[i]?=Z a
 | .exc c,v=>∃a C,v=.ref a/\iG K c C/\H a=Z (Rp a C)/\a∉θ
 | .any,_=>True
def aY (K:Tp)(θ:List Th)(H:Hp):List D->List V->Prop
 | [],vs=>vs=[]
 | d::ds,vs=>∃v r,vs=v::r/\cz K θ H d v/\aY K θ H ds r
end
def pb (K:W.Frag)(θ:List Addr)(H:Hp):List (Str×D)->List (Str×V)->Prop
 | [],vs=>vs=[]
 | (f,d)::fs,vs=>∃v r,vs=(f,v)::r/\cz K θ H d v/\pb K θ H fs r
def nH {κ:Type}(K:W.Frag)(θ:List Addr)(H:Hp):List (κ×D)->List (κ×V)->Prop
 | [],vs=>vs=[]
 | (k,d)::fs,vs=>∃v r,vs=(k,v)::r/\cz K θ H d v/\nH K θ H fs r
def uP (K:W.Frag)(θ:List Addr)(H:Hp):MO->Addr->Prop
 | .lst ds,a=>∃vs,H a=Z (.lst vs)/\aY K θ H ds vs
 | .obj c fs,a=>∃C dx vs,iG K c C/\H a=Z (.ins C dx vs)/\pb K θ H fs vs
 | .dK kvs,a=>∃vs,H a=Z (.dK vs)/\nH K θ H kvs vs
 | .dT kvs,a=>∃vs,H a=Z (.dT vs)/\nH K θ H kvs vs
def cp:List Str:=["ink_shown","table_within","slots_given","cast_on_slots"]
def dF (x:Str):Str:=x++(".<locals>.<lambda>":Str)
def jq (c:Addr)(q:Str):HO:=.ext λh=>h.CodeRec (.ref c) q
def QJ (ob:Obj):HO:=.frz ob (.ext λ_=>True)
structure m3 (K:W.Frag)(H:Hp):Prop where
 tab:∀x,x∈cp->∀c P,W.tabIn K x=Z (c,P)->∃ps,H P=Z (.tbl ps)/\TriplesOk ps.toList/\∀pos cv,codeAmong pos ps.toList=Z cv->∃c',cv=.ref c'/\H c'=Z (jq c' (dF x))
 bm:∀x,x∈cp->∀c P,W.tabIn K x=Z (c,P)->∃bm ob,W.nsIn K mainGlobals "__builtins__"=Z (Z (.ref bm))/\H bm=Z (QJ ob)/\ob.cls=.type "module"/\ob.dict=Z builtinsNs/\ob.data=.plain/\bm≠builtinsNs/\bm≠mainGlobals
def m3.of {K:W.Frag}(t:m3 K H)(k1:∀b ps,H b=Z (.tbl ps)->H' b=Z (.tbl ps))(k2:∀b φ,H b=Z (.ext φ)->H' b=Z (.ext φ))(k3:∀b o u,H b=Z (.frz o u)->H' b=Z (.frz o u)):m3 K H':=
 ⟨λx hx c P e=>by
  obtain⟨ps,h1,h2,h3⟩:=t.tab x hx c P e;refine⟨ps,k1 _ _ h1,h2,λpos cv q=>?_⟩;obtain⟨c',e1,e2⟩:=h3 pos cv q;exact⟨c',e1,k2 _ _ e2⟩,λx hx c P e=>by
  obtain⟨bm,ob,e1,e2,r⟩:=t.bm x hx c P e;exact⟨bm,ob,e1,k3 _ _ _ e2,r⟩⟩
def m3.new {K:W.Frag}(t:m3 K H)(hp:H p=Y):m3 K (bj H p o):=
 t.of (λb ps e=>by rwa [ao (bF e hp)]) (λb φ e=>by rwa [ao (bF e hp)]) λb o u e=>by rwa [ao (bF e hp)]
def wu:HO->Bool
 | .tbl _=>false
 | .ext _=>false
 | .frz _ _=>false
 | _=>true
def m3.at_ {K:W.Frag}{a:Addr}(t:m3 K H)(ha:H a=Z u)(hu:wu u=true):m3 K (bj H a o):=
 t.of (λb ps e=>by rwa [ao (xQ e ha (by intro z;subst z;cases hu))]) (λb φ e=>by rwa [ao (xQ e ha (by intro z;subst z;cases hu))]) λb o u e=>by rwa [ao (xQ e ha (by intro z;subst z;cases hu))]
structure Wr (K:W.Frag)(θ:List Addr)(H:Hp)(M:aq):Prop where
 len:θ.length=M.length
 nd:θ.Nodup
 at_:∀(i:Nat) a m,θ[i]?=Z a->M[i]?=Z m->uP K θ H m a
 tb:m3 K H
structure lM (K:W.Frag)(θ:List Addr)(H:Hp)(σ:L2.St)(ρ:dY):Prop where
 len:ρ.length=σ.length
 at_:∀(i:Nat) d,ρ[i]?=Z (Z d)->∃v,σ[i]?=Z (Z v)/\cz K θ H d v
structure Grow (θ:List Addr)(H:Hp)(θ':List Addr)(H':Hp):Prop where
 ext:∃more,θ'=θ++more/\∀a∈more,H a=Y
 keep:∀b o,H b=Z o->b∉θ->(∀ps,o≠.tbl ps)->H' b=Z o
 tkeep:∀b ps,H b=Z (.tbl ps)->∃ps',H' b=Z (.tbl ps')
structure Go (K:W.Frag)(θ:List Addr)(H:Hp)(θ':List Addr)(H':Hp)(M':aq):Prop extends Grow θ H θ' H' where
 wr:Wr K θ' H' M'
section
variable {K:W.Frag}{θ θ' θ1 θ2:List Addr}{H H' H1 H2:Hp}{M M' M1 M2:aq}{a p:Addr}{σ:L2.St}{ρ:dY}
def Wr.tracked (w:Wr K θ H M)(h:a∈θ):H a≠Y:=by
 obtain⟨i,hi,e⟩:=mem_iff_getElem.mp h;have h2:i<M.length:=by rwa [<-w.len]
 have h3:=w.at_ i a _ (by simp_all) (getElem?_eq_getElem h2);cases q:M[i] with
 | lst ds=>
  rw[q] at h3;obtain⟨vs,e,_⟩:=h3
  simp_all
 | obj c fs=>
  rw[q] at h3;obtain⟨C,dx,vs,_,e,_⟩:=h3
  simp_all
 | dK kvs=>
  rw[q] at h3;obtain⟨vs,e,_⟩:=h3
  simp_all
 | dT kvs=>
  rw[q] at h3;obtain⟨vs,e,_⟩:=h3
  simp_all
def uP.plain (h:uP K θ H m a):∃o,H a=Z o/\wu o=true:=by
 cases m with
 | lst ds=>obtain⟨vs,e,_⟩:=h;exact⟨_,e,rfl⟩
 | obj c fs=>obtain⟨C,dx,vs,_,e,_⟩:=h;exact⟨_,e,rfl⟩
 | dK kvs=>obtain⟨vs,e,_⟩:=h;exact⟨_,e,rfl⟩
 | dT kvs=>obtain⟨vs,e,_⟩:=h;exact⟨_,e,rfl⟩
def Wr.plain (w:Wr K θ H M){i:Nat}(h:θ[i]?=Z a):∃o,H a=Z o/\wu o=true:=(w.at_ i a _ h (getElem?_eq_getElem (by rw[<-w.len];exact(Tf.mp h).1))).plain
def Wr.fresh (w:Wr K θ H M)(h:H p=Y):p∉θ:=λz=>w.tracked z h
def Grow.refl (θ:List Addr)(H:Hp):Grow θ H θ H:=⟨⟨[],by simp,λ_ z=>by cases z⟩,λ_ _ h _ _=>h,λb ps e=>⟨ps,e⟩⟩
def Go.refl (w:Wr K θ H M):Go K θ H θ H M:=⟨.refl θ H,w⟩
def Go.trans (a:Go K θ H θ1 H1 M1)(b:Go K θ1 H1 θ2 H2 M2):Go K θ H θ2 H2 M2:=by
 obtain⟨m1,e1,f1⟩:=a.ext;obtain⟨m2,e2,f2⟩:=b.ext;refine⟨⟨⟨m1++m2,by rw[e2,e1,append_assoc],λx hx=>?_⟩,λx o hx nx nt=>?_,λx ps e=>?_⟩,b.wr⟩
 ·rcases mem_append.mp hx with z|z
  ·exact f1 x z
  ·cases q:H x with
   | none=>rfl
   | some o=>
    exfalso
    by_cases nt:∃ps,o=.tbl ps
    ·obtain⟨ps,rfl⟩:=nt;obtain⟨ps',e'⟩:=a.tkeep x ps q
     simp_all
    ·have:=a.keep x o q (by
     intro y;have nd:=b.wr.nd;rw[e2] at nd;exact(nodup_append.mp nd).2.2 x (by rw[e1];exact mem_append_left _ y) x z rfl) λps e'=>nt ⟨ps,e'⟩
     simp_all
 ·have h1:=a.keep x o hx nx nt;refine b.keep x o h1 ?_ nt;rw[e1];intro z
  simp_all
 ·obtain⟨ps',e'⟩:=a.tkeep x ps e;exact b.tkeep x ps' e'
def Grow.notin (g:Grow θ H θ' H')(h:H a=Z o)(n:a∉θ):a∉θ':=by
 obtain⟨m,e,f⟩:=g.ext
 grind
def oA.grow (g:Grow θ H θ' H')(h:oA K θ H a xs):oA K θ' H' a xs:=⟨g.keep _ _ h.1 h.2 (by simp),g.notin h.1 h.2⟩
def vq.grow (g:Grow θ H θ' H')(h:vq θ H a xs):vq θ' H' a xs:=⟨g.keep _ _ h.1 h.2 (by simp),g.notin h.1 h.2⟩
def rK.grow (g:Grow θ H θ' H')(h:rK K θ H a xs):rK K θ' H' a xs:=by
 rcases h with⟨h|⟨o,h⟩,n⟩|h
 ·exact .inl ⟨.inl (g.keep _ _ h n (by simp)),g.notin h n⟩
 ·exact .inl ⟨.inr ⟨o,g.keep _ _ h n (by simp)⟩,g.notin h n⟩
 ·exact .inr h
mutual
theorem oH (g:Grow θ H θ' H'):∀(d:D) (v:V),cz K θ H d v->cz K θ' H' d v
 | .non,v,h=>h
 | .bl b,v,h=>h
 | .int i,v,h=>h
 | .str x,v,h=>h
 | .tup ds,v,h=>by
  obtain⟨a,vs,e,t,r⟩:=h;exact⟨a,vs,e,t.grow g,dC g ds vs r⟩
 | .lst ds,v,h=>by
  obtain⟨a,vs,e,t,r⟩:=h;exact⟨a,vs,e,t.grow g,dC g ds vs r⟩
 | .ro ds,v,h=>by
  obtain⟨a,vs,e,t,r⟩:=h;exact⟨a,vs,e,t.grow g,dC g ds vs r⟩
 | .mr i,v,h=>by
  obtain⟨a,e,t⟩:=h;obtain⟨m,em,_⟩:=g.ext;refine⟨a,e,?_⟩;rw[em,getElem?_append_left (Tf.mp t).1];exact t
 | .exc c,v,h=>by
  obtain⟨a,C,e,k,t,n⟩:=h;exact⟨a,C,e,k,g.keep _ _ t n (by intro _ z;cases z),g.notin t n⟩
 | .any,v,h=>h
theorem dC (g:Grow θ H θ' H'):∀(ds:List D) (vs:List V),aY K θ H ds vs->aY K θ' H' ds vs
 | [],vs,h=>h
 | d::ds,vs,h=>by
  obtain⟨v,r,e,h1,h2⟩:=h;exact⟨v,r,e,oH g d v h1,dC g ds r h2⟩
end
def cz.go (h:cz K θ H d v)(g:Go K θ H θ' H' M'):cz K θ' H' d v:=oH g.toGrow d v h
def aY.go (h:aY K θ H ds vs)(g:Go K θ H θ' H' M'):aY K θ' H' ds vs:=dC g.toGrow ds vs h
def lM.go (h:lM K θ H σ ρ)(g:Go K θ H θ' H' M'):lM K θ' H' σ ρ:=⟨h.len,λi d e=>let ⟨v,e1,e2⟩:=h.at_ i d e;⟨v,e1,e2.go g⟩⟩
theorem ar:∀{ds:List D} {vs:List V},aY K θ H ds vs->ds.length=vs.length
 | [],vs,h=>by cases (h);rfl
 | d::ds,vs,h=>by
  obtain⟨v,r,e,_,h2⟩:=h;subst e;rw[length_cons,length_cons,ar h2]
theorem cD:∀{ds es:List D} {vs us:List V},aY K θ H ds vs->aY K θ H es us->aY K θ H (ds++es) (vs++us)
 | [],es,vs,us,h,k=>by cases (h);exact k
 | d::ds,es,vs,us,h,k=>by
  obtain⟨v,r,e,h1,h2⟩:=h;subst e;exact⟨v,r++us,rfl,h1,cD h2 k⟩
theorem dW:∀{ds:List D} {vs:List V} {i:Nat} {d:D},aY K θ H ds vs->ds[i]?=Z d->∃v,vs[i]?=Z v/\cz K θ H d v
 | [],vs,i,d,h,e=>by simp_all
 | x::ds,vs,0,d,h,e=>by
  obtain⟨v,r,e1,h1,h2⟩:=h;subst e1;simp at e;subst e;exact⟨v,rfl,h1⟩
 | x::ds,vs,i+1,d,h,e=>by
  obtain⟨v,r,e1,h1,h2⟩:=h;subst e1;obtain⟨u,e2,h3⟩:=dW  h2 (by assumption);exact⟨u,by assumption,h3⟩
theorem pP:∀{ds:List D} {vs:List V} (n:Nat),aY K θ H ds vs->aY K θ H (ds.take n) (vs.take n)
 | ds,vs,0,h=>by rfl
 | [],vs,n+1,h=>by cases (h);rfl
 | d::ds,vs,n+1,h=>by
  obtain⟨v,r,e,h1,h2⟩:=h;subst e;exact⟨v,r.take n,rfl,h1,pP n h2⟩
theorem pX:∀{ds:List D} {vs:List V} (n:Nat),aY K θ H ds vs->aY K θ H (ds.drop n) (vs.drop n)
 | ds,vs,0,h=>h
 | [],vs,n+1,h=>by cases (h);rfl
 | d::ds,vs,n+1,h=>by
  obtain⟨v,r,e,h1,h2⟩:=h;subst e;exact pX n h2
theorem yC (hd:cz K θ H d v):∀{ds:List D} {vs:List V} (i:Nat),aY K θ H ds vs->aY K θ H (ds.set i d) (vs.set i v)
 | [],vs,i,h=>by cases (h);rfl
 | x::ds,vs,0,h=>by
  obtain⟨u,r,e,h1,h2⟩:=h;subst e;exact⟨v,r,rfl,hd,h2⟩
 | x::ds,vs,i+1,h=>by
  obtain⟨u,r,e,h1,h2⟩:=h;subst e;exact⟨u,r.set i v,rfl,h1,yC hd i h2⟩
def oW (w:Wr K θ H M)(hp:H p=Y):Grow θ H θ (bj H p o):=
 ⟨⟨[],by simp,λ_ z=>by cases z⟩,λb u h _ _=>by rwa [ao (bF h hp)],λb ps h=>⟨ps,by rwa [ao (bF h hp)]⟩⟩
theorem qw (g:Grow θ H θ' H'):∀{fs:List (Str×D)} {vs:List (Str×V)},pb K θ H fs vs->pb K θ' H' fs vs
 | [],vs,h=>h
 | (f,d)::fs,vs,h=>by
  obtain⟨v,r,e,h1,h2⟩:=h;exact⟨v,r,e,oH g d v h1,qw g h2⟩
theorem kx (g:Grow θ H θ' H'):∀{fs:List (κ×D)} {vs:List (κ×V)},nH K θ H fs vs->nH K θ' H' fs vs
 | [],vs,h=>h
 | (f,d)::fs,vs,h=>by
  obtain⟨v,r,e,h1,h2⟩:=h;exact⟨v,r,e,oH g d v h1,kx g h2⟩
def uP.grow (g:Grow θ H θ' H')(hs:H' a=H a)(h:uP K θ H m a):uP K θ' H' m a:=by
 cases m with
 | lst ds=>
  obtain⟨vs,e,r⟩:=h;exact⟨vs,by rwa [hs],dC g ds vs r⟩
 | obj c fs=>
  obtain⟨C,dx,vs,k,e,r⟩:=h;exact⟨C,dx,vs,k,by rwa [hs],qw g r⟩
 | dK kvs=>
  obtain⟨vs,e,r⟩:=h;exact⟨vs,by rwa [hs],kx g r⟩
 | dT kvs=>
  obtain⟨vs,e,r⟩:=h;exact⟨vs,by rwa [hs],kx g r⟩
def cR (w:Wr K θ H M)(hp:H p=Y):Go K θ H θ (bj H p o) M:=
 ⟨oW w hp,w.len,w.nd,λi a m h1 h2=>(w.at_ i a m h1 h2).grow (oW w hp) (ao (λe=>w.fresh hp (by rw[<-e];exact mem_of_getElem? h1))),w.tb.new hp⟩
def gH (w:Wr K θ H M)(hp:H p=Y)(r:aY K θ H ds vs):cz K θ (bj H p (.tup vs)) (.tup ds) (.ref p):=
 ⟨p,vs,rfl,⟨aV,w.fresh hp⟩,dC (oW w hp) ds vs r⟩
def ik (w:Wr K θ H M)(hp:H p=Y)(r:aY K θ H ds vs):cz K θ (bj H p (.lst vs)) (.lst ds) (.ref p):=
 ⟨p,vs,rfl,⟨aV,w.fresh hp⟩,dC (oW w hp) ds vs r⟩
def vN (hp:H p=Y):Grow θ H (θ++[p]) (bj H p o):=
 ⟨⟨[p],rfl,λa ha=>by rwa [mem_singleton.mp ha]⟩,λb u h _ _=>by rwa [ao (bF h hp)],λb ps h=>⟨ps,by rwa [ao (bF h hp)]⟩⟩
def wd (w:Wr K θ H M)(hp:H p=Y)(hm:uP K (θ++[p]) (bj H p o) m p):Go K θ H (θ++[p]) (bj H p o) (M++[m]):=by
 have np:=w.fresh hp;have g:Grow θ H (θ++[p]) (bj H p o):=vN hp;refine⟨g,by rw[length_append,length_append,w.len];rfl,?_,λi a m' h1 h2=>?_,w.tb.new hp⟩
 ·rw[nodup_append];exact⟨w.nd,by simp,λx hx y hy e=>np (by simp_all)⟩
 ·by_cases hi:i<θ.length
  ·rw[getElem?_append_left hi] at h1;rw[getElem?_append_left (by rw[<-w.len];exact hi)] at h2;exact(w.at_ i a m' h1 h2).grow g (ao (λe=>np (by rw[<-e];exact mem_of_getElem? h1)))
  ·have hi':i=θ.length:=by
    have:=(Tf.mp h1).1;rw[length_append,length_singleton] at this;omega
   subst hi';rw[getElem?_append_right (Te _)] at h1;rw[getElem?_append_right (by rw[w.len];exact Te _)] at h2;simp only[U6,w.len,getElem?_cons_zero,Vq] at h1 h2;subst h1;subst h2;exact hm
def GP (w:Wr K θ H M)(hp:H p=Y)(r:aY K θ H ds vs):Go K θ H (θ++[p]) (bj H p (.lst vs)) (M++[.lst ds]):=
 wd w hp ⟨vs,aV,dC (vN hp) ds vs r⟩
def pH {i:Nat}(w:Wr K θ H M)(hi:θ[i]?=Z a):Grow θ H θ (bj H a o):=by
 obtain⟨u,hu,pu⟩:=w.plain hi;exact⟨⟨[],by simp,λ_ z=>by cases z⟩,λb u h n _=>by rwa [ao (λe=>n (by rw[e];exact(mem_of_getElem? hi)))],λb ps h=>⟨ps,by rwa [ao (xQ h hu (by intro z;subst z;cases pu))]⟩⟩
def rV (w:Wr K θ H M)(hi:θ[i]?=Z a)(hm:uP K θ (bj H a o) m a):Go K θ H θ (bj H a o) (M.set i m):=by
 have g:Grow θ H θ (bj H a o):=pH w hi;obtain⟨u,hu,pu⟩:=w.plain hi;refine⟨g,by rw[length_set];exact w.len,w.nd,λj b m' h1 h2=>?_,w.tb.at_ hu pu⟩
 by_cases hj:j=i
 ·subst hj;have hl:j<M.length:=by rw[<-w.len];exact(Tf.mp hi).1
  simp_all
 ·rw[getElem?_set_ne (Uj hj)] at h2;exact(w.at_ j b m' h1 h2).grow g (ao (λe=>by
   subst e;obtain⟨h3,e3⟩:=Tf.mp h1;obtain⟨h4,e4⟩:=Tf.mp hi;exact hj ((getElem_inj w.nd).mp (e3.trans e4.symm))))
def ul {ds:List D}(w:Wr K θ H M)(hi:θ[i]?=Z a)(r:aY K θ H ds' vs'):Go K θ H θ (bj H a (.lst vs')) (M.set i (.lst ds')):=
 rV w hi ⟨vs',aV,dC (pH w hi) ds' vs' r⟩
end
abbrev GE:=dY->aq->bi D
abbrev GT:=dY->aq->bi Bool
abbrev GA:=dY->aq->bi (List D)
inductive Fl where
 | nx (ρ:dY)|rt (d:D)|bk (ρ:dY)|ct (ρ:dY)
abbrev GS:=dY->aq->bi Fl
def eQ (X:Cx)(θ:List Addr)(H:Hp)(c:Str)(M:aq):Prop:=∀C θ' H' a s',iG X.K c C->Go X.K θ H θ' H' M->RJ X H' a C s'->X.xe (.ref a) s'
def aF (X:Cx)(θ:List Addr)(H:Hp)(Q:VK):bi D->Prop
 | .ok d M'=>∀v θ' H',Go X.K θ H θ' H' M'->cz X.K θ' H' d v->Q v H'
 | .err c M'=>eQ X θ H c M'
 | .bad=>False
def pS (X:Cx)(θ:List Addr)(H:Hp)(Q:Bool->Hp->Prop):bi Bool->Prop
 | .ok b M'=>∀θ' H',Go X.K θ H θ' H' M'->Q b H'
 | .err c M'=>eQ X θ H c M'
 | .bad=>False
def Dm (X:Cx)(θ:List Addr)(H:Hp)(Q:List V->Hp->Prop):bi (List D)->Prop
 | .ok ds M'=>∀vs θ' H',Go X.K θ H θ' H' M'->aY X.K θ' H' ds vs->Q vs H'
 | .err c M'=>eQ X θ H c M'
 | .bad=>False
def bR (X:Cx)(θ:List Addr)(H:Hp)(D:CW):bi Fl->Prop
 | .ok (.nx ρ) M'=>∀σ θ' H',Go X.K θ H θ' H' M'->lM X.K θ' H' σ ρ->D.nx σ H'
 | .ok (.bk ρ) M'=>∀σ θ' H',Go X.K θ H θ' H' M'->lM X.K θ' H' σ ρ->D.bk σ H'
 | .ok (.ct ρ) M'=>∀σ θ' H',Go X.K θ H θ' H' M'->lM X.K θ' H' σ ρ->D.ct σ H'
 | .ok (.rt d) M'=>∀v θ' H',Go X.K θ H θ' H' M'->cz X.K θ' H' d v->D.rt v H'
 | .err c M'=>eQ X θ H c M'
 | .bad=>False
def tE (X:Cx)(g:GE):TE:=λσ H Q=>∃ρ θ M,lM X.K θ H σ ρ/\Wr X.K θ H M/\aF X θ H Q (g ρ M)
def tT (X:Cx)(g:GT):TT:=λσ H Q=>∃ρ θ M,lM X.K θ H σ ρ/\Wr X.K θ H M/\pS X θ H Q (g ρ M)
def tA (X:Cx)(g:GA):TA:=λσ H Q=>∃ρ θ M,lM X.K θ H σ ρ/\Wr X.K θ H M/\Dm X θ H Q (g ρ M)
def tS (X:Cx)(g:GS):TS:=λD σ H=>∃ρ θ M,lM X.K θ H σ ρ/\Wr X.K θ H M/\bR X θ H D (g ρ M)
section
variable {X:Cx}{θ θ':List Addr}{H H':Hp}{M':aq}
def eQ.go (g:Go X.K θ H θ' H' M')(h:eQ X θ H c M):eQ X θ' H' c M:=λC θ2 H2 a s' k g2 fl=>h C θ2 H2 a s' k (g.trans g2) fl
def aF.go (g:Go X.K θ H θ' H' M')(h:aF X θ H Q o):aF X θ' H' Q o:=by
 cases o with
 | ok d M=>exact λv θ2 H2 g2=>h v θ2 H2 (g.trans g2)
 | err c M=>exact eQ.go   g h
 | bad=>exact h
def pS.go (g:Go X.K θ H θ' H' M')(h:pS X θ H Q o):pS X θ' H' Q o:=by
 cases o with
 | ok d M=>exact λθ2 H2 g2=>h θ2 H2 (g.trans g2)
 | err c M=>exact eQ.go   g h
 | bad=>exact h
def Dm.go (g:Go X.K θ H θ' H' M')(h:Dm X θ H Q o):Dm X θ' H' Q o:=by
 cases o with
 | ok d M=>exact λv θ2 H2 g2=>h v θ2 H2 (g.trans g2)
 | err c M=>exact eQ.go   g h
 | bad=>exact h
def bR.go {D:CW}(g:Go X.K θ H θ' H' M')(h:bR X θ H D o):bR X θ' H' D o:=by
 cases o with
 | ok f M=>cases f <;> exact λv θ2 H2 g2=>h v θ2 H2 (g.trans g2)
 | err c M=>exact eQ.go   g h
 | bad=>exact h
end
section
variable {X:Cx}{e:Expr}
def _root_.L2.PE.of {t:TE}(h:PE X e t)(w:∀σ H Q,t' σ H Q->t σ H Q):PE X e t':=λaf s σ H Q I q=>h af s σ H Q I (w σ H Q q)
def _root_.L2.PT.of {t:TT}(h:PT X e t)(w:∀σ H Q,t' σ H Q->t σ H Q):PT X e t':=λaf s σ H Q I q=>h af s σ H Q I (w σ H Q q)
def _root_.L2.PW.of {t:TT}(h:PW X e t)(w:∀σ H Q,t' σ H Q->t σ H Q):PW X e t':=λwh af s σ H Q I q=>h wh af s σ H Q I (w σ H Q q)
def _root_.L2.PA.of {t:TA}(h:PA X es t)(w:∀σ H Q,t' σ H Q->t σ H Q):PA X es t':=λpos af s σ H Q I q=>h pos af s σ H Q I (w σ H Q q)
def _root_.L2.PS.of {st:Stmt}{t:TS}(h:PS X st t)(w:∀D σ H,t' D σ H->t D σ H):PS X st t':=λaf s σ H D I q=>h af s σ H D I (w D σ H q)
def _root_.L2.PSs.of {st:List Stmt}{t:TS}(h:PSs X st t)(w:∀D σ H,t' D σ H->t D σ H):PSs X st t':=λaf s σ H D I q=>h af s σ H D I (w D σ H q)
def bf (hd:lM X.K θ H σ ρ)(hw:Wr X.K θ H M)(F:bi α->Prop)(Fe:∀c M',F (.err c M')->eQ X θ H c M')(Fb:F .bad->False)
  {f:D->aq->bi α} (h:F ((g ρ M).bind f))
  (k:∀d M1 v θ1 H1,Go X.K θ H θ1 H1 M1->cz X.K θ1 H1 d v->F (f d M1)->Q v H1):tE X g σ H Q:=by
 refine⟨ρ,θ,M,hd,hw,?_⟩;cases q:g ρ M with
 | ok d M1=>
  rw[q] at h;exact λv θ1 H1 g1 r1=>k d M1 v θ1 H1 g1 r1 h
 | err c M1=>rw[q] at h;exact Fe c M1 h
 | bad=>simp_all
def ae (i:Nat):GE:=λρ M=>match ρ[i]? with
 | some (Z d)=>.ok d M
 | _=>.bad
def gC (d:D):GE:=λ_ M=>.ok d M
def NG (h:PE X e (Nl i)):PE X e (tE X (ae i)):=h.of λσ H Q hxx=>by
 obtain⟨ρ,θ,M,hd,hw,f⟩:=hxx;unfold ae at f;split at f
 ·rename_i d q;obtain⟨v,e1,r⟩:=hd.at_ i d q;exact⟨v,e1,f v θ H (.refl hw) r⟩
 ·exact f.elim
abbrev F2:=D->D->aq->bi D
def g2 (f:F2)(ga gb:GE):GE:=λρ M=>(ga ρ M).bind λx M1=>(gb ρ M1).bind λy M2=>f x y M2
def rD (X:Cx)(f:F2):R2:=λx y H Q=>∃θ M dx dy,Wr X.K θ H M/\cz X.K θ H dx x/\cz X.K θ H dy y/\aF X θ H Q (f dx dy M)
def BJ (h:tE X (g2 f ga gb) σ H Q):Oc (rD X f) (tE X ga) (tE X gb) σ H Q:=by
 obtain⟨ρ,θ,M,hd,hw,h⟩:=h;refine bf hd hw (aF X θ H Q) (λc M' h=>h) (λh=>h) h λdx M1 x θ1 H1 g1 r1 h1=>?_
 refine bf (hd.go g1) g1.wr (aF X θ1 H1 Q) (λc M' h=>h) (λh=>h) (h1.go g1) λdy M2 y θ2 H2 g2 r2 h2=>?_
 exact⟨θ2,M2,dx,dy,g2.wr,r1.go g2,r2,h2.go g2⟩
def Nj {a:Expr}(ho:oz X (compareOp op) (rD X f))(ha:PE X a (tE X ga))(hb:PE X b (tE X gb))(hm:behindInMarks op b=false):PE X (.Compare a [op] [b] pos) (tE X (g2 f ga gb)):=
 (IZ ho ha hb hm).of λ_ _ _ h=>BJ h
def SJ:D->aq->bi Bool
 | .bl b,M=>.ok b M
 | _,_=>.bad
def aJ (g:GE):GT:=λρ M=>(g ρ M).bind SJ
def D7 (h:pS X θ H Q (o.bind SJ)):aF X θ H (λx H'=>∃k,x=.bl k/\Q k H') o:=by
 cases o with
 | ok d M=>
  cases d with
  | bl b=>exact λv θ1 H1 g1 r1=>⟨b,r1,h θ1 H1 g1⟩
  | _=>exact h.elim
 | err c M=>exact h
 | bad=>exact h
def F0 (h:tT X (aJ g) σ H Q):tE X g σ H λx H'=>∃k,x=.bl k/\Q k H':=by
 obtain⟨ρ,θ,M,hd,hw,h⟩:=h;exact⟨ρ,θ,M,hd,hw,D7 h⟩
def Ek {a:Expr}(ho:oz X (compareOp op) (rD X f))(ha:PE X a (tE X ga))(hb:PE X b (tE X gb))(hm:behindInMarks op b=false):PT X (.Compare a [op] [b] pos) (tT X (aJ (g2 f ga gb))):=
 (HU ho ha hb hm).of λσ H Q h=>BJ (F0 h)
def CA (f f':F2)(ga gb gc:GE):GE:=λρ M=>(ga ρ M).bind λx M1=>(gb ρ M1).bind λy M2=>(f x y M2).bind λz M3=>match z with
 | .bl true=>(gc ρ M3).bind λw M4=>f' y w M4
 | .bl false=>.ok (.bl false) M3
 | _=>.bad
def JV (h:tE X (CA f f' ga gb gc) σ H Q):zY (rD X f) (rD X f') (tE X ga) (tE X gb) (tE X gc) σ H Q:=by
 obtain⟨ρ,θ,M,hd,hw,h⟩:=h;refine bf hd hw (aF X θ H Q) (λc M' h=>h) (λh=>h) h λdx M1 x θ1 H1 g1 r1 h1=>?_
 refine bf (hd.go g1) g1.wr (aF X θ1 H1 Q) (λc M' h=>h) (λh=>h) (h1.go g1) λdy M2 y θ2 H2 g2 r2 h2=>?_
 refine⟨θ2,M2,dx,dy,g2.wr,r1.go g2,r2,?_⟩;have h3:=h2.go g2;cases q:f dx dy M2 with
 | ok z M3=>
  rw[q] at h3;intro v θ3 H3 g3 r3;cases z with
  | bl k=>
   refine⟨k,r3,?_⟩;cases k with
   | true=>
    refine bf ((hd.go g1).go (g2.trans g3)) g3.wr (aF X θ3 H3 Q) (λc M' h=>h) (λh=>h) (h3.go g3) λdw M4 w θ4 H4 g4 r4 h4=>?_
    exact⟨θ4,M4,dy,dw,g4.wr,r2.go (g3.trans g4),r4,h4.go g4⟩
   | false=>
    exact h3 _ θ3 H3 g3 rfl
  | _=>exact h3.elim
 | err c M3=>rwa [q] at h3
 | bad=>rwa [q] at h3
def fL (a b:GT):GT:=λρ M=>(a ρ M).bind λc M1=>if c then b ρ M1 else .ok false M1
def jO (a b:GT):GT:=λρ M=>(a ρ M).bind λc M1=>if c then .ok true M1 else b ρ M1
def fE (a:GT):GT:=λρ M=>(a ρ M).bind λc M1=>.ok (!c) M1
def vS (hd:lM X.K θ H σ ρ)(hw:Wr X.K θ H M)(F:bi α->Prop)(Fe:∀c M',F (.err c M')->eQ X θ H c M')(Fb:F .bad->False)
  {f:Bool->aq->bi α} (h:F ((g ρ M).bind f)) (k:∀d M1 θ1 H1,Go X.K θ H θ1 H1 M1->F (f d M1)->Q d H1):tT X g σ H Q:=by
 refine⟨ρ,θ,M,hd,hw,?_⟩;cases q:g ρ M with
 | ok d M1=>
  rw[q] at h;exact λθ1 H1 g1=>k d M1 θ1 H1 g1 h
 | err c M1=>rw[q] at h;exact Fe c M1 h
 | bad=>simp_all
variable {a b:Expr}{pos:Pos}{rest:List Expr}{ta tb:GT}{ga gb:GE}
def fM (a b:GE):GE:=λρ M=>(a ρ M).bind λx M1=>match x with
 | .bl true=>b ρ M1
 | .bl false=>.ok (.bl false) M1
 | _=>.bad
def QM (a b:GE):GE:=λρ M=>(a ρ M).bind λx M1=>match x with
 | .bl true=>.ok (.bl true) M1
 | .bl false=>b ρ M1
 | _=>.bad
def FA (a:GT):GE:=λρ M=>(a ρ M).bind λc M1=>.ok (.bl (!c)) M1
def Em (t:GT)(a b:GE):GE:=λρ M=>(t ρ M).bind λc M1=>if c then a ρ M1 else b ρ M1
def ag:GA:=λ_ M=>.ok [] M
def aa (g:GE)(r:GA):GA:=λρ M=>(g ρ M).bind λd M1=>(r ρ M1).bind λds M2=>.ok (d::ds) M2
def mw (hd:lM X.K θ H σ ρ)(hw:Wr X.K θ H M)(F:bi α->Prop)(Fe:∀c M',F (.err c M')->eQ X θ H c M')(Fb:F .bad->False)
  {f:List D->aq->bi α} (h:F ((g ρ M).bind f)) (k:∀ds M1 vs θ1 H1,Go X.K θ H θ1 H1 M1->aY X.K θ1 H1 ds vs->F (f ds M1)->Q vs H1):tA X g σ H Q:=by
 refine⟨ρ,θ,M,hd,hw,?_⟩;cases q:g ρ M with
 | ok d M1=>
  rw[q] at h;exact λv θ1 H1 g1 r1=>k d M1 v θ1 H1 g1 r1 h
 | err c M1=>rw[q] at h;exact Fe c M1 h
 | bad=>simp_all
def Iq {gr:GA}(ha:PE X e (tE X ga))(hr:PA X es (tA X gr))(hs:starEach (e::es) X.env=(false,eval e X.env)::starEach es X.env:=by rfl):PA X (e::es) (tA X (aa ga gr)):=
 (mU ha hr hs).of λσ H Q hxx=>by
  obtain⟨ρ,θ,M,hd,hw,h⟩:=hxx;refine bf hd hw (Dm X θ H Q) (λc M' h=>h) (λh=>h) h λd M1 v θ1 H1 g1 r1 h1=>?_
  refine mw (hd.go g1) g1.wr (Dm X θ1 H1 Q) (λc M' h=>h) (λh=>h) (h1.go g1) λds M2 vs θ2 H2 g2 r2 h2=>?_
  exact h2 (v::vs) θ2 H2 g2 ⟨v,vs,rfl,r1.go g2,r2⟩
def ve (ds:List D)(M:aq):bi D:=if ds.length<=sizeLine then .ok (.tup ds) M else .bad
def aR (ds:List D)(M:aq):bi D:=if ds.length<=sizeLine then .ok (.lst ds) M else .bad
def dQ (ds:List D)(M:aq):bi D:=if ds.length<=sizeLine then .ok (.mr M.length) (M++[.lst ds]) else .bad
def aP (g:GA):GE:=λρ M=>(g ρ M).bind ve
def kH (g:GA):GE:=λρ M=>(g ρ M).bind aR
def ft (g:GA):GE:=λρ M=>(g ρ M).bind dQ
def aF.tup (h:aF X θ H Q (ve ds M))(hw:Wr X.K θ H M)(r:aY X.K θ H ds vs):vs.length<=sizeLine/\∀p,H p=Y->Q (.ref p) (bj H p (.tup vs)):=by
 unfold ve at h
 by_cases hl:ds.length<=sizeLine
 ·rw[if_pos hl] at h;exact⟨by rwa [<-ar r],λp hp=>h _ θ _ (cR hw hp) (gH hw hp r)⟩
 ·rw[if_neg hl] at h;exact h.elim
def aF.lst (h:aF X θ H Q (aR ds M))(hw:Wr X.K θ H M)(r:aY X.K θ H ds vs):vs.length<=sizeLine/\∀p,H p=Y->Q (.ref p) (bj H p (.lst vs)):=by
 unfold aR at h
 by_cases hl:ds.length<=sizeLine
 ·rw[if_pos hl] at h;exact⟨by rwa [<-ar r],λp hp=>h _ θ _ (cR hw hp) (ik hw hp r)⟩
 ·rw[if_neg hl] at h;exact h.elim
def aF.mut (h:aF X θ H Q (dQ ds M))(hw:Wr X.K θ H M)(r:aY X.K θ H ds vs):vs.length<=sizeLine/\∀p,H p=Y->Q (.ref p) (bj H p (.lst vs)):=by
 unfold dQ at h
 by_cases hl:ds.length<=sizeLine
 ·rw[if_pos hl] at h;refine⟨by rwa [<-ar r],λp hp=>h _ (θ++[p]) _ (GP hw hp r) ⟨p,rfl,?_⟩⟩;rw[<-hw.len,getElem?_append_right (Te _)];simp
 ·rw[if_neg hl] at h;exact h.elim
def Lp {x1}(h:PA X es (tA X g)):PE X (.Tuple es x1 pos) (tE X (aP g)):=(Lj h).of λσ H Q ⟨ρ,θ,M,hd,hw,h⟩=>
 mw hd hw (aF X θ H Q) (λc M' h=>h) (λh=>h) h λds M1 vs θ1 H1 g1 r1 h1=>aF.tup (aF.go g1 h1) g1.wr r1
def MV (h:PA X es (tA X g)):PE X (.List es pos) (tE X (kH g)):=(Gu h).of λσ H Q ⟨ρ,θ,M,hd,hw,h⟩=>
 mw hd hw (aF X θ H Q) (λc M' h=>h) (λh=>h) h λds M1 vs θ1 H1 g1 r1 h1=>aF.lst (aF.go g1 h1) g1.wr r1
def MX (h:PA X es (tA X g)):PE X (.List es pos) (tE X (ft g)):=(Gu h).of λσ H Q ⟨ρ,θ,M,hd,hw,h⟩=>
 mw hd hw (aF X θ H Q) (λc M' h=>h) (λh=>h) h λds M1 vs θ1 H1 g1 r1 h1=>aF.mut (aF.go g1 h1) g1.wr r1
end
section
variable {K:W.Frag}{θ:List Addr}{H:Hp}{σ:L2.St}{ρ:dY}
def lM.set (h:lM K θ H σ ρ)(r:cz K θ H d v)(i:Nat):lM K θ H (σ.set i (Z v)) (ρ.set i (Z d)):=by
 refine⟨by rw[length_set,length_set];exact h.len,λj d' e=>?_⟩
 by_cases hj:j=i
 ·subst hj;have hl:j<ρ.length:=by
   have:=(Tf.mp e).1
   simp_all
  rw[getElem?_set_self hl] at e;have e':=by simpa using e
  subst e';exact⟨v,getElem?_set_self (by rwa [<-h.len]),r⟩
 ·rw[getElem?_set_ne (Uj hj)] at e;obtain⟨u,e1,r1⟩:=h.at_ j d' e;exact⟨u,by rwa [getElem?_set_ne (Uj hj)],r1⟩
end
def aL:GS:=λρ M=>.ok (.nx ρ) M
def aj (a b:GS):GS:=λρ M=>(a ρ M).bind λf M1=>match f with
 | .nx ρ1=>b ρ1 M1
 | .rt d=>.ok (.rt d) M1
 | .bk ρ1=>.ok (.bk ρ1) M1
 | .ct ρ1=>.ok (.ct ρ1) M1
def aQ (i:Nat)(g:GE):GS:=λρ M=>(g ρ M).bind λd M1=>.ok (.nx (ρ.set i (Z d))) M1
def aK (g:GE):GS:=λρ M=>(g ρ M).bind λd M1=>.ok (.rt d) M1
def bK (g:GE):GS:=λρ M=>(g ρ M).bind λ_ M1=>.ok (.nx ρ) M1
def dD (t:GT)(a b:GS):GS:=λρ M=>(t ρ M).bind λc M1=>if c then a ρ M1 else b ρ M1
section
variable {X:Cx}{st:Stmt}{rest:List Stmt}{e:Expr}{g:GE}{t u:GS}{pos:Pos}
def Li (hN:X.N.Nodup)(hi:X.N[i]?=Z x)(hx:G3 X.env.scope x)(he:PE X e (tE X g))(hs:swapsWith e (Z (.Name x pos')) pos.line X.env=pure false:=by rfl)(hf:X.fn x=true\/X.env.scope.names.lookup x=Z .local:=by first|exact .inl rfl|exact .inr rfl|assumption) :
  PS X (.Assign [.Name x pos'] e pos) (tS X (aQ i g)):=(Nv hN hi hx he hs hf).of λD σ H ⟨ρ,θ,M,hd,hw,h⟩=>
 bf hd hw (bR X θ H D) (λc M' h=>h) (λh=>h) h λd M1 v θ1 H1 g1 r1 h1=>h1 _ θ1 H1 g1 ((hd.go g1).set r1 i)
abbrev GG:=D->dY->Option dY
def tG (X:Cx)(s:GG):TG:=λv σ H Q=>∃ρ θ M d,lM X.K θ H σ ρ/\Wr X.K θ H M/\cz X.K θ H d v/\∃ρ',s d ρ=Z ρ'/\∀σ',lM X.K θ H σ' ρ'->Q σ' H
def dL (i:Nat):GG:=λd ρ=>Z (ρ.set i (Z d))
def BX:List Nat->List D->dY->Option dY
 | [],[],ρ=>Z ρ
 | i::is,d::ds,ρ=>BX is ds (ρ.set i (Z d))
 | _,_,_=>Y
def b8 (is:List Nat):GG:=λd ρ=>match d with
 | .tup ds=>BX is ds ρ
 | _=>Y
def xi (hN:X.N.Nodup)(hi:X.N[i]?=Z x)(hx:G3 X.env.scope x)(hf:X.fn x=true\/X.env.scope.names.lookup x=Z .local:=by first|exact .inl rfl|exact .inr rfl|assumption):PG X (.Name x pos) (tG X (dL i)):=by
 intro af s σ H v u Q I r h;obtain⟨ρ,θ,M,d,hd,hw,rd,ρ',e,h⟩:=h;cases e;exact JN hN hi hx hf af s σ H v u Q I r (h _ (hd.set rd i))
def SK (X:Cx)(is:List Nat):Kl:=λvs σ H Q=>∃ρ θ M ds,lM X.K θ H σ ρ/\Wr X.K θ H M/\aY X.K θ H ds vs/\∃ρ',BX is ds ρ=Z ρ'/\∀σ',lM X.K θ H σ' ρ'->Q σ' H
def Ms {k:Nat}(hc:X.calm=true)(h:Lf X es (SK X is))(hl:is.length=n:=by rfl)
  (hn:(assignEach es X.env).length=n:=by rfl) (hst:(assignEach es X.env).findIdx? (·.1)=Y:=by rfl):PG X (.Tuple es k pos) (tG X (b8 is)):=by
 intro af s σ H v u Q I r hw;obtain⟨ρ,θ,M,d,hd,hwr,rd,ρ',e1,hw⟩:=hw;cases d with
 | tup ds=>
  obtain⟨a,vs,e2,ta,rs⟩:=rd;have hlen:ds.length=is.length:=by
   have e1:=e1;clear hw hd hwr rs hn hst h hl
   induction is generalizing ds ρ with
   | nil=>
    cases ds with
    | nil=>rfl
    | cons _ _=>cases e1
   | cons i is ih=>
    cases ds with
    | nil=>cases e1
    | cons d ds=>rw[length_cons,length_cons,ih _ ds e1 e1]
  refine F3  hc h hn hst af s σ H v u Q I r ⟨a,vs,e2,ta.sq,by rw[<-ar rs,hlen,hl],?_⟩;exact⟨ρ,θ,M,ds,hd,hwr,rs,ρ',e1,hw⟩
 | _=>cases e1
def u7:List GG->List D->dY->Option dY
 | [],[],ρ=>Z ρ
 | s::ss,d::ds,ρ=>match s d ρ with
  | some ρ1=>u7 ss ds ρ1
  | none=>Y
 | _,_,_=>Y
def MG (ss:List GG):GG:=λd ρ=>match d with
 | .tup ds=>u7 ss ds ρ
 | _=>Y
theorem vG:∀{ss:List GG} {ds:List D} {ρ ρ':dY},u7 ss ds ρ=Z ρ'->ds.length=ss.length
 | [],[],_,_,_=>rfl
 | [],_::_,_,_,h=>by cases h
 | _::_,[],_,_,h=>by cases h
 | s::ss,d::ds,ρ,ρ',h=>by
  unfold u7 at h;split at h
  ·rw[length_cons,length_cons,vG h]
  simp_all
def RD (X:Cx)(ss:List GG):Kl:=λvs σ H Q=>∃ρ θ M ds,lM X.K θ H σ ρ/\Wr X.K θ H M/\aY X.K θ H ds vs/\∃ρ',u7 ss ds ρ=Z ρ'/\∀σ',lM X.K θ H σ' ρ'->Q σ' H
def dR (s:GG)(g:GE):GS:=λρ M=>(g ρ M).bind λd M1=>match s d ρ with
 | some ρ1=>.ok (.nx ρ1) M1
 | none=>.bad
def u4 (o i x:D)(M:aq):bi Unit:=match o,i with
 | .mr k,.int j=>match M[k]? with
  | some (.lst xs)=>match Bp xs.length j with
   | some n=>.ok () (M.set k (.lst (xs.set n x)))
   | none=>.bad
  | _=>.bad
 | _,_=>.bad
def ki (go gi g:GE):GS:=λρ M=>(g ρ M).bind λx M1=>(go ρ M1).bind λo M2=>(gi ρ M2).bind λi M3=>(u4 o i x M3).bind λ_ M4=>.ok (.nx ρ) M4
end
mutual
def HS:D->D->Bool
 | .non,.non=>true
 | .bl a,.bl b=>a==b
 | .int a,.int b=>a==b
 | .str a,.str b=>a==b
 | .tup a,.tup b=>oS a b
 | .lst a,.lst b=>oS a b
 | .ro a,.ro b=>oS a b
 | .mr a,.mr b=>a==b
 | .exc a,.exc b=>a==b
 | .any,.any=>true
 | _,_=>false
def oS:List D->List D->Bool
 | [],[]=>true
 | a::as,b::bs=>HS a b&&oS as bs
 | _,_=>false
end
def ff {P:Prop}(h:false=true):P:=absurd h Tv
mutual
theorem IA:∀(a b:D),HS a b=true->a=b
 | .non,b,h=>by
  cases b with
  | non=>rfl
  | _=>exact ff h
 | .bl x,b,h=>by
  cases b with
  | bl y=>rw[eq_of_beq (show(x==y)=true from h)]
  | _=>exact ff h
 | .int x,b,h=>by
  cases b with
  | int y=>rw[eq_of_beq (show(x==y)=true from h)]
  | _=>exact ff h
 | .str x,b,h=>by
  cases b with
  | str y=>rw[eq_of_beq (show(x==y)=true from h)]
  | _=>exact ff h
 | .tup x,b,h=>by
  cases b with
  | tup y=>rw[lZ x y h]
  | _=>exact ff h
 | .lst x,b,h=>by
  cases b with
  | lst y=>rw[lZ x y h]
  | _=>exact ff h
 | .ro x,b,h=>by
  cases b with
  | ro y=>rw[lZ x y h]
  | _=>exact ff h
 | .mr x,b,h=>by
  cases b with
  | mr y=>rw[eq_of_beq (show(x==y)=true from h)]
  | _=>exact ff h
 | .exc x,b,h=>by
  cases b with
  | exc y=>rw[eq_of_beq (show(x==y)=true from h)]
  | _=>exact ff h
 | .any,b,h=>by
  cases b with
  | any=>rfl
  | _=>exact ff h
theorem lZ:∀(a b:List D),oS a b=true->a=b
 | [],b,h=>by
  cases b with
  | nil=>rfl
  | cons _ _=>exact ff h
 | x::xs,b,h=>by
  cases b with
  | nil=>exact ff h
  | cons y ys=>
   have h:=TJ.mp (show(HS x y&&oS xs ys)=true from h);rw[IA x y h.1,lZ xs ys h.2]
end
mutual
theorem CB:∀(a:D),HS a a=true
 | .non=>rfl
 | .bl x=>beq_self_eq_true x
 | .int x=>beq_self_eq_true x
 | .str x=>beq_self_eq_true x
 | .tup x=>gE x
 | .lst x=>gE x
 | .ro x=>gE x
 | .mr x=>beq_self_eq_true x
 | .exc x=>beq_self_eq_true x
 | .any=>rfl
theorem gE:∀(a:List D),oS a a=true
 | []=>rfl
 | x::xs=>TJ.mpr ⟨CB x,gE xs⟩
end
structure mY where
 ds:List D
 m:Option (Nat×List D)
def mY.ok (t:mY)(M:aq):Bool:=match t.m with
 | none=>true
 | some i=>match M[i.1]? with
  | some (.lst xs)=>oS xs i.2
  | _=>false
abbrev GI:=dY->aq->bi mY
def G4 (K:W.Frag)(J:It)(θ:List Addr)(H:Hp)(t:mY):Prop:=∀θ1 H1 M1,Go K θ H θ1 H1 M1->t.ok M1=true->∀i:Nat,
 (∀d,t.ds[i]?=Z d->J.go i H1/\∀x H2,J.yld i H1 x H2->Go K θ1 H1 θ1 H2 M1/\cz K θ1 H2 d x)/\(t.ds.length<=i->J.stop i H1)
def EZ (X:Cx)(θ:List Addr)(H:Hp)(R:It->Hp->Prop):bi mY->Prop
 | .ok t M'=>∀J θ' H',Go X.K θ H θ' H' M'->G4 X.K J θ' H' t->R J H'
 | .err c M'=>eQ X θ H c M'
 | .bad=>False
def tI (X:Cx)(g:GI):TI:=λσ H R=>∃ρ θ M,lM X.K θ H σ ρ/\Wr X.K θ H M/\EZ X θ H R (g ρ M)
def F1 (d:D)(M:aq):bi mY:=match d with
 | .lst ds=>.ok ⟨ds,Y⟩ M
 | .ro ds=>.ok ⟨ds,Y⟩ M
 | .tup ds=>.ok ⟨ds,Y⟩ M
 | .mr k=>match M[k]? with
  | some (.lst ds)=>.ok ⟨ds,Z (k,ds)⟩ M
  | _=>.bad
 | _=>.bad
def bW (g:GE):GI:=λρ M=>(g ρ M).bind F1
section
variable {X:Cx}{tg:Expr}
def Oe (hl:PE X l tl):PI X tg l (λσ H R=>tl σ H λx H1=>∃a,x=.ref a/\(((∃xs,oy X.K H1 a xs)/\R (Qu X.K a) H1)\/((∃xs,rQ X.K H1 a xs)/\R (RZ X.K a) H1))):=by
 intro af s σ H R I h;refine bQ (hl af s σ H _ I h) λv s1 hxx=>?_
 obtain⟨x,H1,I1,r1,q1⟩:=hxx;obtain⟨a,e,q1⟩:=q1;subst e;cases r1;rcases q1 with⟨⟨xs,hq⟩,q⟩|⟨⟨xs,hq⟩,q⟩
 ·obtain⟨its,rv,p,hz⟩:=I1.list hq;refine wpAny_pyIter_list p.isList ?_;refine⟨s1.heap.objs.size,[s1.heap.objs.size],_,_,H1,rfl,I1.kept  λb o e=>Heap.get?_push_of_some _ e,CZ a _,⟨_,Heap.get?_push_size _ rfl,rfl,rfl⟩,λb hb=>?_,q⟩;have e:=by simpa using hb
  subst e;exact I1.fpOk (Te _) (I1.hok.fresh (Te _))
 ·obtain⟨its,rv,p,hz⟩:=I1.tuple hq;refine wpAny_pyIter_tuple (p) ?_;refine⟨s1.heap.objs.size,[s1.heap.objs.size],_,_,H1,rfl,I1.kept  λb o e=>Heap.get?_push_of_some _ e,AG a _,⟨_,Heap.get?_push_size _ rfl,rfl,rfl⟩,λb hb=>?_,q⟩;have e:=by simpa using hb
  subst e;exact I1.fpOk (Te _) (I1.hok.fresh (Te _))
def A3 {K:W.Frag}{a:Addr}(ta:rK K θ H a vs)(r:aY K θ H ds vs):G4 K (Qu K a) θ H ⟨ds,Y⟩:=by
 intro θ1 H1 M1 g _ i;have t1:=(ta.grow g.toGrow).sq;have r1:=r.go g;refine⟨λd e=>?_,λhl=>⟨vs,t1,by rwa [<-ar r1]⟩⟩;obtain⟨v,e1,rv⟩:=dW r1 e;refine⟨⟨vs,v,t1,e1⟩,λx H2 y=>?_⟩;obtain⟨eH,y⟩:=y;subst eH;have e2:=y vs t1;rw[e1] at e2;cases e2;exact⟨.refl g.wr,rv⟩
def Ha {K:W.Frag}{a:Addr}(ta:oA K θ H a vs)(r:aY K θ H ds vs):G4 K (RZ K a) θ H ⟨ds,Y⟩:=by
 intro θ1 H1 M1 g _ i;have t1:=(ta.grow g.toGrow).sq;have r1:=r.go g;refine⟨λd e=>?_,λhl=>⟨vs,t1,by rwa [<-ar r1]⟩⟩;obtain⟨v,e1,rv⟩:=dW r1 e;refine⟨⟨vs,v,t1,e1⟩,λx H2 y=>?_⟩;obtain⟨eH,y⟩:=y;subst eH;have e2:=y vs t1;rw[e1] at e2;cases e2;exact⟨.refl g.wr,rv⟩
def HZ {K:W.Frag}{a:Addr}{k:Nat}(ta:θ[k]?=Z a):G4 K (Qu K a) θ H ⟨ds,Z (k,ds)⟩:=by
 intro θ1 H1 M1 g hok i;have hok':(match M1[k]? with|some (.lst xs)=>oS xs ds|_=>false)=true:=hok;cases q:M1[k]? with
 | none=>simp_all
 | some m=>
  cases m with
  | lst xs=>
   rw[q] at hok';have e:xs=ds:=lZ xs ds hok';subst e;obtain⟨vs,hv,r1⟩:=g.wr.at_ k a _ (by
  obtain⟨m,em,_⟩:=g.ext;rw[em,getElem?_append_left (Tf.mp ta).1];exact ta) q
   have s1:oy K H1 a vs:=.inl (.inl hv);refine⟨λd e=>?_,λhl=>⟨vs,s1,by rw[<-ar r1];exact hl⟩⟩;obtain⟨v,e1,rv⟩:=dW r1 e;refine⟨⟨vs,v,s1,e1⟩,λx H2 y=>?_⟩;obtain⟨eH,y⟩:=y;subst eH;have e2:=y vs s1;rw[e1] at e2;cases e2;exact⟨.refl g.wr,rv⟩
  | _=>simp_all
def NB (hl:PE X l (tE X g)):PI X tg l (tI X (bW g)):=by
 intro af s σ H R I h;refine Oe hl af s σ H R I ?_;obtain⟨ρ,θ,M,hd,hw,h⟩:=h;refine bf hd hw (EZ X θ H R) (λc M' h=>h) (λh=>h) h λd M1 v θ1 H1 g1 r1 h1=>?_
 cases d with
 | lst ds=>
  obtain⟨a,vs,e,ta,r⟩:=r1;exact⟨a,e,.inl ⟨⟨vs,ta.sq⟩,h1 _ θ1 H1 g1 (A3 (.inl ⟨.inl ta.1,ta.2⟩) r)⟩⟩
 | ro ds=>
  obtain⟨a,vs,e,ta,r⟩:=r1;exact⟨a,e,.inl ⟨⟨vs,ta.sq⟩,h1 _ θ1 H1 g1 (A3 ta r)⟩⟩
 | tup ds=>
  obtain⟨a,vs,e,ta,r⟩:=r1;exact⟨a,e,.inr ⟨⟨vs,ta.sq⟩,h1 _ θ1 H1 g1 (Ha ta r)⟩⟩
 | mr k=>
  obtain⟨a,e,ta⟩:=r1;have h2:EZ X θ H R (match M1[k]? with|some (.lst ds)=>.ok ⟨ds,Z (k,ds)⟩ M1|_=>.bad):=h1;cases q:M1[k]? with
  | none=>rw[q] at h2;exact h2.elim
  | some m=>
   cases m with
   | lst ds=>
    rw[q] at h2;obtain⟨vs,hv,r⟩:=g1.wr.at_ k a _ ta q;exact⟨a,e,.inl ⟨⟨vs,.inl (.inl hv)⟩,h2 _ θ1 H1 g1 (HZ ta)⟩⟩
   | _=>rw[q] at h2;exact h2.elim
 | _=>exact h1.elim
def aX (lo:Int)(n:Nat):List D:=(Tw n).map λ(k:Nat)=>D.int (lo+(k:Int))
def Jd {K:W.Frag}(lo:Int)(n:Nat):G4 K (QK lo n) θ H ⟨aX lo n,Y⟩:=by
 intro θ1 H1 M1 g _ i;refine⟨λd e=>?_,λhl=>?_⟩
 ·have hi:=by
   simpa[aX] using ((Tf.mp e).1)
  refine⟨hi,λx H2 y=>?_⟩;obtain⟨eH,y⟩:=y;subst eH;refine⟨.refl g.wr,?_⟩;have e':=by
   have:(aX lo n)[i]?=Z (D.int (lo+(i))):=by simp[aX,hi]
   rw[this] at e;exact T4 e
  subst e';exact y
 ·have h3:=by simpa[aX] using hl
  exact h3
def z6 (ds:List D)(M:aq):bi mY:=match ds with
 | [.int j]=>if -(2 ^ 62)<=j/\j<2 ^ 62 then .ok ⟨aX 0 j.toNat,Y⟩ M else .bad
 | _=>.bad
def dO (g:GA):GI:=λρ M=>(g ρ M).bind z6
def Cw {a:Expr}(hg:Gl X "range")(hm:X.mg "range"=Y)(ha:PA X [a] (tA X g))(hs:starEach [a] X.env=[(false,eval a X.env)]:=by rfl):PI X tg (.Call (.Name "range" p) [a] [] pos) (tI X (dO g)):=by
 intro af s σ H R I h;refine Dw hg hm ha hs af s σ H R I ?_;obtain⟨ρ,θ,M,hd,hw,h⟩:=h;refine mw hd hw (EZ X θ H R) (λc M' h=>h) (λh=>h) h λds M1 vs θ1 H1 g1 r1 h1=>?_
 unfold z6 at h1;split at h1
 ·rename_i j;obtain⟨v,r,e,rv,rr⟩:=r1;subst rr;subst rv;split at h1
  ·rename_i hj;exact⟨j,e,hj.1,hj.2,h1 _ θ1 H1 g1 (Jd 0 j.toNat)⟩
  ·exact h1.elim
 ·exact h1.elim
def cn (t:mY)(s:GG)(body:GS):List D->dY->aq->bi Fl
 | [],ρ,M=>if t.ok M then .ok (.nx ρ) M else .bad
 | d::r,ρ,M=>if t.ok M then
   match s d ρ with
   | none=>.bad
   | some ρ1=>(body ρ1 M).bind λf M1=>match f with
    | .nx ρ2=>cn t s body r ρ2 M1
    | .ct ρ2=>cn t s body r ρ2 M1
    | .bk ρ2=>.ok (.nx ρ2) M1
    | .rt d=>.ok (.rt d) M1
  else .bad
def gw (gi:GI)(s:GG)(body:GS):GS:=λρ M=>(gi ρ M).bind λt M1=>cn t s body t.ds ρ M1
def Io {iter:Expr}(hp:PassesOwn (model X.prog X.w) X.A X.env X.xe)(hc:X.calm=true)(hi:Rm X tg iter (tI X gi))(hg:PG X tg (tG X sg))(hb:PSs X body (tS X gb))
  (hs:∀x,foldedSetIterable iter X.env x=pure x:=by intro _;rfl):PS X (.For tg iter body [] pos) (tS X (gw gi sg gb)):=(Mg hp hc hi hg hb hs).of λD σ H hxx=>by
 obtain⟨ρ,θ,M,hd,hw,h⟩:=hxx;refine⟨ρ,θ,M,hd,hw,?_⟩;unfold gw at h;cases q:gi ρ M with
 | err c M1=>rw[q] at h;exact h
 | bad=>rw[q] at h;exact h
 | ok t M1=>
  rw[q] at h;intro J θ1 H1 g1 hJ;have h:bR X θ H D (cn t sg gb t.ds ρ M1):=h;refine⟨λi m σ' H'=>m=t.ds.length-i/\i<=t.ds.length/\∃ρ' θ' M',Go X.K θ1 H1 θ' H' M'/\lM X.K θ' H' σ' ρ'/\bR X θ' H' D (cn t sg gb (t.ds.drop i) ρ' M'),
   ⟨t.ds.length,by simp,Uc _,ρ,θ1,M1,.refl g1.wr,hd.go g1,bR.go g1 h⟩,?_⟩
  rintro i m σ' H' ⟨rfl,hil,ρ',θ',M',g',hd',h'⟩
  by_cases hok:t.ok M'=true
  ·obtain⟨hy,hst⟩:=hJ θ' H' M' g' hok i
   by_cases hlt:i<t.ds.length
   ·refine .inr ?_;have e1:t.ds[i]?=Z t.ds[i]:=getElem?_eq_getElem hlt;obtain⟨hgo,hyl⟩:=hy _ e1;rw[drop_eq_getElem_cons hlt,cn,if_pos hok] at h';refine⟨hgo,λσ2 H2=>∃ρ2 θ2 M2,Go X.K θ' H' θ2 H2 M2/\lM X.K θ2 H2 σ2 ρ2/\bR X θ2 H2 D (cn t sg gb (t.ds.drop (i+1)) ρ2 M2),λσ2 H2 ⟨ρ2,θ2,M2,g2,d2,h2⟩=>?_,λx H2 y=>?_⟩
    ·exact⟨t.ds.length-(i+1),by omega,rfl,hlt,ρ2,θ2,M2,g'.trans g2,d2,h2⟩
    ·obtain⟨gy,rx⟩:=hyl x H2 y;cases qs:sg t.ds[i] ρ' with
     | none=>rw[qs] at h';exact h'.elim
     | some ρ1=>
      rw[qs] at h';refine⟨ρ',θ',M',_,hd'.go gy,gy.wr,rx,ρ1,qs,λσ1 d1=>⟨ρ1,θ',M',d1,gy.wr,?_⟩⟩;have h':bR X θ' H2 D ((gb ρ1 M').bind _):=bR.go gy h';cases qb:gb ρ1 M' with
      | err c M2=>rw[qb] at h';exact h'
      | bad=>rw[qb] at h';exact h'
      | ok f M2=>
       rw[qb] at h';cases f with
       | nx ρ2=>exact λσ2 θ2 H3 g2 d2=>⟨ρ2,θ2,M2,gy.trans g2,d2,bR.go g2 h'⟩
       | ct ρ2=>exact λσ2 θ2 H3 g2 d2=>⟨ρ2,θ2,M2,gy.trans g2,d2,bR.go g2 h'⟩
       | bk ρ2=>exact h'
       | rt d=>exact h'
   ·have e:i=t.ds.length:=by omega
    subst e;rw[drop_length,cn,if_pos hok] at h';exact .inl ⟨hst (Te _),h' σ' θ' H' (.refl g'.wr) hd'⟩
  ·have hz:bR X θ' H' D .bad:=by
    cases hdr:t.ds.drop i with
    | nil=>rw[hdr,cn,if_neg hok] at h';exact h'
    | cons d r=>rw[hdr,cn,if_neg hok] at h';exact h'
   exact hz.elim
end
def Je (K:W.Frag)(θ:List Addr)(H:Hp)(E:XK)(c:Str)(M:aq):Prop:=∀C θ' H' a,iG K c C->Go K θ H θ' H' M->E (.ref C) (Z a) H'
def Af (K:W.Frag)(θ:List Addr)(H:Hp)(Q:VK)(E:XK):bi D->Prop
 | .ok d M'=>∀v θ' H',Go K θ H θ' H' M'->cz K θ' H' d v->Q v H'
 | .err c M'=>Je K θ H E c M'
 | .bad=>False
abbrev FD:=List D->aq->bi D
def rq (K:W.Frag)(n:Nat)(F:FD):Sp:=λvs H Q E=>∃θ M ds,ds.length=n/\aY K θ H ds vs/\Wr K θ H M/\Af K θ H Q E (F ds M)
def rS {K:W.Frag}{ps:List Str}(hn:ps.length=n):∀vs H Q E,rq K n F vs H Q E->vs.length=ps.length:=λvs H Q E ⟨θ,M,ds,hl,r,_⟩=>by rw[hn,<-hl,ar r]
def n6 (k:Nat)(ds:List D):dY:=ds.map Z++TH k Y
def ck (o:bi Fl):bi D:=o.bind λf M=>match f with
 | .rt d=>.ok d M
 | .nx _=>.ok .non M
 | _=>.bad
def aU (k:Nat)(g:GS):FD:=λds M=>ck (g (n6 k ds) M)
def M9 {K:W.Frag}(r:aY K θ H ds vs)(N:List Str):lM K θ H (L2.start N vs) (n6 (N.length-vs.length) ds):=by
 have hl:=ar r;refine⟨by simp[L2.start,n6,hl],λi d e=>?_⟩;unfold n6 at e
 by_cases hi:i<ds.length
 ·rw[getElem?_append_left (by simpa using hi),getElem?_map] at e;cases q:ds[i]? with
  | none=>simp_all
  | some d'=>
   rw[q] at e;have e':=by simpa using e
   subst e';obtain⟨v,e1,rv⟩:=dW r q;refine⟨v,?_,rv⟩;unfold L2.start;rw[getElem?_append_left (by simp_all),getElem?_map,e1];rfl
 ·rw[getElem?_append_right (by simpa using hi),getElem?_replicate] at e
  simp_all
section
variable {P:Program}{w:World}{K:W.Frag}{mg:Str->Option Value}{base:Heap}
def Sa {st:Stmt}{k:Nat}(F:HP K x qual st f fd)(S:eY N ps (aH st))(hn:ps.length=n)
  (hbody:∀(cdv:Value) (A:Around) (outer:List Env) (s:Shared) (H:Hp) (E:XK),bo k (A.deeper (envOfC qual (aH st) s.heap.objs.size f cdv))->
   PSs (iK (ju P w) P w K mg base N qual (aH st) f cdv A outer s H E) (cu st) (tS (iK (ju P w) P w K mg base N qual (aH st) f cdv A outer s H E) g)) :
  eM P w K mg base (ju P w) (k+1) f fd ps (rq K n (aU (N.length-n) g)):=by
 obtain⟨oc,od,kV,doc,pm,an,cdv,ct,osl,rfl,lk,hcd⟩:=F.ex;refine JS lk hcd S (rS hn) λA outer s H vs Q E hr h=>⟨_,hbody cdv A outer s H E hr,?_⟩
 obtain⟨θ,M,ds,hl,r,hw,h⟩:=h;have hv:vs.length=n:=by rwa [<-ar r]
 refine⟨n6 (N.length-n) ds,θ,M,by rw[<-hv];exact M9 r N,hw,?_⟩;have h:Af K θ H Q E (ck (g (n6 (N.length-n) ds) M)):=h;cases q:g (n6 (N.length-n) ds) M with
 | bad=>rw[q] at h;exact h
 | err c M1=>
  rw[q] at h;exact λC θ' H' a s' kC g1 fl=>nZ fl (h C θ' H' a kC g1)
 | ok fl M1=>
  rw[q] at h;cases fl with
  | rt d=>exact h
  | nx ρ1=>exact λσ1 θ1 H1 g1 _=>h .non θ1 H1 g1 rfl
  | bk ρ1=>exact h.elim
  | ct ρ1=>exact h.elim
end
section
variable {X:Cx}{e:Expr}{es:List Expr}{x:Str}{p pos:Pos}{k n:Nat}{f:Addr}{fd:FuncData}{ps:List Str}{F:FD}{ga:GA}
def ah (n:Nat)(F:FD)(ga:GA):GE:=λρ M=>(ga ρ M).bind λds M1=>if ds.length=n then F ds M1 else .bad
def Jm (X:Cx):XK:=λcls oa H'=>∃a C c θ M,oa=Z a/\cls=.ref C/\iG X.K c C/\Wr X.K θ H' M/\eQ X θ H' c M
def jp:nX (ju X.prog X.w) X (Jm X):=λaf σ H s e s' I h=>by
 obtain⟨a,C,H',rfl,fl,a',C',c,θ,M,e1,e2,kC,hw,ok⟩:=Ct I h;cases e2;exact ok C θ H' a s' kC (.refl hw) fl
def xD (h:eQ X θ H c M):Je X.K θ H (Jm X) c M:=λC θ' H' a kC g=>⟨a,C,c,θ',M,rfl,rfl,kC,g.wr,h.go g⟩
def Jk (Fn:eM X.prog X.w X.K X.mg X.base (ju X.prog X.w) k f fd ps (rq X.K n F))(hr:bo k X.A)(hg:Gl X x)(hm:X.mg x=Z (.ref f))(hk:W.keepIn X.K (.ref f)=true)(hb:f6 X.K fd ps [])
  (ha:PA X (e::es) (tA X ga)) (hdb:(x==("__debug__":Str))=false:=by decide) (he:starEach (e::es) X.env=(false,eval e X.env)::starEach es X.env:=by rfl) (hpl:(backTo pos (starEach es X.env)).any (·.1)=false:=by rfl) :
  PE X (.Call (.Name x p) (e::es) [] pos) (tE X (ah n F ga)):=(HL Fn hr hg hm hk hb .nil jp ha hdb he hpl).of λσ H Q hxx=>by
 obtain⟨ρ,θ,M,hd,hw,h⟩:=hxx;refine mw hd hw (aF X θ H Q) (λc M' h=>h) (λh=>h) h λds M1 vs θ1 H1 g1 r1 h1=>?_
 by_cases hl:ds.length=n
 ·rw[if_pos hl] at h1;refine⟨θ1,M1,ds,hl,by simp_all,g1.wr,?_⟩;have h2:=aF.go g1 h1;cases q:F ds M1 with
  | ok d M2=>rwa [q] at h2
  | err c M2=>rw[q] at h2;exact xD h2
  | bad=>rwa [q] at h2
 ·rw[if_neg hl] at h1;exact h1.elim
def rC (X:Cx)(F:FD):List V->Hp->VK->Prop:=λxs H Q=>∃θ M ds,Wr X.K θ H M/\aY X.K θ H ds xs/\aF X θ H Q (F ds M)
def aM (F:FD)(ga:GA):GE:=λρ M=>(ga ρ M).bind F
def Fc (h:tE X (aM F ga) σ H Q):Se (rC X F) (tA X ga) σ H Q:=by
 obtain⟨ρ,θ,M,hd,hw,h⟩:=h;exact mw hd hw (aF X θ H Q) (λc M' h=>h) (λh=>h) h λds M1 vs θ1 H1 g1 r1 h1=>⟨θ1,M1,ds,g1.wr,r1,aF.go g1 h1⟩
def F7 {id:String}(hc:fz X (.builtin id) (rC X F))(hg:Gl X x)(hm:X.mg x=Y)(hv:bootBuiltins x=Z (.builtin id))(ha:PA X (e::es) (tA X ga))(hn:x≠"__name__":=by decide)(hdb:(x==("__debug__":Str))=false:=by decide)
  (he:starEach (e::es) X.env=(false,eval e X.env)::starEach es X.env:=by rfl) (hpl:(backTo pos (starEach es X.env)).any (·.1)=false:=by rfl):PE X (.Call (.Name x p) (e::es) [] pos) (tE X (aM F ga)):=
 (zj hc hg hm hv ha hn hdb he hpl).of λσ H Q h=>Fc h
def CG (hc:fz X (.type T) (rC X F))(hg:Gl X x)(hm:X.mg x=Y)(hv:bootBuiltins x=Z (.type T))(ha:PA X (e::es) (tA X ga))(hn:x≠"__name__":=by decide)(hdb:(x==("__debug__":Str))=false:=by decide)
  (he:starEach (e::es) X.env=(false,eval e X.env)::starEach es X.env:=by rfl) (hpl:(backTo pos (starEach es X.env)).any (·.1)=false:=by rfl):PE X (.Call (.Name x p) (e::es) [] pos) (tE X (aM F ga)):=
 (Dl hc hg hm hv ha hn hdb he hpl).of λσ H Q h=>Fc h
end
section
variable {prog:Program}{w:World}{A:Around}{E:Value->Shared->Prop}{s:Shared}
def GR {t:Addr}{ws:List Value}(ht:IsTup s.heap t #[])(hb:IsTup s.heap b ws.toArray)
  (h:Q (.ref b) s):wpAny (model prog w) A (binaryOp .Add (.ref t) (.ref b)) Q E s:=by
 obtain⟨⟨cls,dd,data,sl⟩,ho,hc,n,hd⟩:=id ht;obtain⟨⟨cls2,dd2,data2,sl2⟩,ho2,hc2,n2,hd2⟩:=id hb;subst hc hd hc2 hd2;exact concat_meets ⟨_,ho,rfl⟩ ⟨_,ho2,rfl⟩ noFill_tuple_add seq_tuple_add PySem.F.slot_tuple_add PySem.F.entry_tuple_add (PySem.F.args_tuple_add_2 _ _)
   (tuple_addW0 t b #[] ws.toArray n n2 dd dd2 sl sl2 (by rfl)) ⟨ho,ho2,h⟩
def m8 {t:Addr}{lo hi:Option Int}(ht:IsTup s.heap t items)(hs:s.heap.IsSliceOf sl vl vu .none)(pl:IsPart vl lo)(pu:IsPart vu hi)
  (hw:HT.sIx items.size 0 lo=0/\HT.sIx items.size items.size hi=items.size) (h:Q (.ref t) s):wpAny (model prog w) A (getItem (.ref t) (.ref sl)) Q E s:=by
 obtain⟨os,hos,hcs,hds⟩:=id hs;have hTs:s.TypeIs (.ref sl) "slice":=⟨os,hos,hcs⟩;unfold getItem
 try with_reducible refine wpAny_holding ?_
 first|refine wpAny_bind (wpAny_pure ?_)|skip
 refine wpAny_bind (wpAny_sequenceKey ht.typeIs (by decide) ?_);refine wpAny_bind (wpAny_callSpecial?_slot (name:=Str.ofString "__getitem__") ht.typeIs TQ
  (wpAny_call_entry TQ ht.typeIs entry_tuple_getitem ?_ (args_tuple_getitem _ _)))
 show wpAny _ _ (Builtin.Tuple.tupleItemsOf (.ref t) >>= _) _ _ s;refine wpAny_bind (tupleItemsOf_ ht ?_);refine wpAny_bind (wpAny_typeOf hTs ?_);rw[if_pos (by decide)];refine wpAny_bind (HT.sliceApplied_gen hs pl pu ?_);show wpAny _ _ (if(((HT.sIx items.size 0 lo:Nat):Int)==0&&(1:Int)==1&&(HT.sIx items.size items.size hi-HT.sIx items.size 0 lo)==items.size)=true then _ else _) _ _ s;rw[if_pos (by
  rw[hw.1,hw.2];simp)]
 unfold Builtin.Tuple.tupleIsExact;refine wpAny_bind (wpAny_bind (wpAny_typeOf ht.typeIs (wpAny_pure ?_)));rw[if_pos (by decide)]
 first
  | rfl
  | exact wpAny_bind (wpAny_rule (wpAny_pure ⟨_,rfl,wpAny_pure h⟩))
  | rfl
end
def yZ (d:D)(M:aq):Option (List D):=match d with
 | .lst xs=>Z xs
 | .mr k=>match M[k]? with
  | some (.lst xs)=>Z xs
  | _=>Y
 | _=>Y
def bx:F2:=λx y M=>match x,y with
 | .int i,.int j=>.ok (.int (i+j)) M
 | .str a,.str b=>if a.length+b.length<=sizeLine then .ok (.str (a++b)) M else .bad
 | .tup a,.tup b=>if a.length+b.length<=sizeLine then .ok (.tup (a++b)) M else .bad
 | .bl a,.int j=>.ok (.int ((if a=true then 1 else 0)+j)) M
 | x,y=>match yZ x M,yZ y M with
  | some a,Z b=>if a.length+b.length<=sizeLine then .ok (.lst (a++b)) M else .bad
  | _,_=>.bad
def yu {K:W.Frag}(hw:Wr K θ H M)(r:cz K θ H d v)(e:yZ d M=Z xs):∃a vs,v=.ref a/\H a=Z (.lst vs)/\aY K θ H xs vs:=by
 cases d with
 | lst ys=>cases e;obtain⟨a,vs,ea,ta,ra⟩:=r;exact⟨a,vs,ea,ta.1,ra⟩
 | mr k=>
  obtain⟨a,ea,ta⟩:=r;have e:(match M[k]? with|some (.lst xs)=>Z xs|_=>Y)=Z xs:=e;cases q:M[k]? with
  | none=>simp_all
  | some m=>
   cases m with
   | lst ys=>
    rw[q] at e;cases e;obtain⟨vs,hv,ra⟩:=hw.at_ k a _ ta q;exact⟨a,vs,ea,hv,ra⟩
   | _=>simp_all
 | _=>cases e
def gD:F2:=λx y M=>match x,y with
 | .int i,.int j=>.ok (.int (i-j)) M
 | _,_=>.bad
def m7:F2:=λx y M=>match x,y with
 | .int i,.int j=>if(-(2 ^ 64)<i/\i<2 ^ 64)\/(-(2 ^ 64)<j/\j<2 ^ 64) then .ok (.int (i*j)) M else .bad
 | _,_=>.bad
def iN:F2:=λx y M=>match x,y with
 | .int i,.int j=>if 0<j/\j.natAbs.log2<9000 then .ok (.int (i / j)) M else .bad
 | _,_=>.bad
def jV:F2:=λx y M=>match x,y with
 | .int i,.int j=>if 0<j then .ok (.int (i % j)) M else .bad
 | _,_=>.bad
def DV:F2:=λx y M=>match x,y with
 | .int i,.int j=>if 0<=j/\j<=1000000/\i.natAbs<2 ^ 64 then .ok (.int (i ^ j.toNat)) M else .bad
 | _,_=>.bad
section
variable {X:Cx}
def oV {K:W.Frag}(hw:Wr K θ H M):cz K (θ++[p]) H' (.mr M.length) (.ref p):=by
 refine⟨p,rfl,?_⟩;rw[<-hw.len,getElem?_append_right (Te _)];simp
def sj (g:GE):GE:=λρ M=>(g ρ M).bind λx M1=>match x with
 | .int i=>.ok (.int (-i)) M1
 | _=>.bad
def uC:F2:=λx y M=>match x,y with
 | .int i,.int j=>.ok (.bl (decide (i<j))) M
 | _,_=>.bad
def xG:F2:=λx y M=>match x,y with
 | .int i,.int j=>.ok (.bl (decide (i<=j))) M
 | _,_=>.bad
def zE:F2:=λx y M=>match x,y with
 | .int i,.int j=>.ok (.bl (decide (j<i))) M
 | _,_=>.bad
def DB:F2:=λx y M=>match x,y with
 | .int i,.int j=>.ok (.bl (decide (j<=i))) M
 | _,_=>.bad
def Sy (d c:D):Option Bool:=match c,d with
 | .non,.non=>Z true
 | .non,.any=>Y
 | .non,_=>Z false
 | .bl b,.bl b'=>Z (b'==b)
 | .bl _,.non=>Z false
 | .bl _,.int _=>Z false
 | .bl _,.str _=>Z false
 | .bl _,.tup _=>Z false
 | .bl _,.lst _=>Z false
 | .bl _,.ro _=>Z false
 | .bl _,.mr _=>Z false
 | _,_=>Y
def ww (neg:Bool):F2:=λx y M=>match Sy x y with
 | some b=>.ok (.bl (b != neg)) M
 | none=>.bad
def VS:D->Value->Prop
 | .non,v=>v=.none
 | .bl b,v=>v=.bool b
 | .int i,v=>∃t,v=.int i t
 | .str i,v=>∃t,v=.str i t
 | .any,_=>True
 | _,v=>∃a,v=.ref a
def JQ {K:W.Frag}(r:cz K θ H d x)(q:aO x v):VS d v:=by
 cases d with
 | non=>rwa [r] at q
 | bl b=>rwa [r] at q
 | int i=>rwa [r] at q
 | str i=>rwa [r] at q
 | any=>trivial
 | tup ds=>obtain⟨a,_,e,_⟩:=r;rw[e] at q;exact⟨a,q⟩
 | lst ds=>obtain⟨a,_,e,_⟩:=r;rw[e] at q;exact⟨a,q⟩
 | ro ds=>obtain⟨a,_,e,_⟩:=r;rw[e] at q;exact⟨a,q⟩
 | mr k=>obtain⟨a,e,_⟩:=r;rw[e] at q;exact⟨a,q⟩
 | exc c=>obtain⟨a,_,e,_⟩:=r;rw[e] at q;exact⟨a,q⟩
def fn {P:Prop}(h:Y=Z b):P:=nomatch h
def BR (h:Z false=Z b)(k:plainIs v u=true/\(v==u)=false):plainIs v u=true/\(v==u)=b:=T4 h▸k
def OZ (p:VS dx v)(q:VS dy u)(h:Sy dx dy=Z b):plainIs v u=true/\(v==u)=b:=by
 cases dy with
 | non=>
  rw[show u=.none from q];cases dx with
  | non=>rw[show v=.none from p];exact T4 (h)▸⟨rfl,rfl⟩
  | bl b=>rw[p];exact BR h ⟨rfl,rfl⟩
  | any=>exact fn h
  | _=>obtain⟨t,e⟩:=p;rw[e];exact BR h ⟨rfl,rfl⟩
 | bl c=>
  rw[q];cases dx with
  | non=>rw[show v=.none from p];exact BR h ⟨rfl,rfl⟩
  | bl b=>
   rw[show v=.bool b from p,<-T4 h];refine⟨rfl,?_⟩;cases b <;> cases c <;> rfl
  | any=>exact fn h
  | exc _=>exact fn h
  | _=>obtain⟨t,e⟩:=p;rw[e];exact BR h ⟨rfl,rfl⟩
 | _=>exact fn h
def G1 {K:W.Frag}(r1:cz K θ H dx x)(r2:cz K θ H dy y)(rx:aO x v)(ry:aO y u)(h:Sy dx dy=Z b) :
  plainIs v u=true/\(v==u)=b:=OZ (JQ r1 rx) (JQ r2 ry) h
mutual
def tU:D->PyData
 | .non=>.none
 | .bl b=>.bool b
 | .int i=>.int i
 | .str x=>.str x
 | .tup ds=>.tuple (pc ds)
 | .lst ds=>.list (pc ds)
 | .ro ds=>.list (pc ds)
 | .mr _=>.dict []
 | .exc _=>.dict []
 | .any=>.dict []
def pc:List D->List PyData
 | []=>[]
 | d::ds=>tU d::pc ds
end
mutual
def bH:Nat->D->Bool
 | _,.non=>true
 | _,.bl _=>true
 | _,.int _=>true
 | _,.str x=>PyData.strOk x
 | n+1,.tup ds=>bn n ds
 | n+1,.lst ds=>bn n ds
 | n+1,.ro ds=>bn n ds
 | _,_=>false
def bn:Nat->List D->Bool
 | _,[]=>true
 | n,d::ds=>bH n d&&bn n ds
end
mutual
def rZ:D->D->Bool
 | .non,.non=>true
 | .bl a,.bl b=>a==b
 | .bl a,.int j=>(if a then 1 else 0)==j
 | .int i,.bl b=>i==(if b then 1 else 0)
 | .int i,.int j=>i==j
 | .str x,.str y=>x==y
 | .lst xs,.lst ys=>iY xs ys
 | .lst xs,.ro ys=>iY xs ys
 | .ro xs,.lst ys=>iY xs ys
 | .ro xs,.ro ys=>iY xs ys
 | .tup xs,.tup ys=>iY xs ys
 | _,_=>false
def iY:List D->List D->Bool
 | [],[]=>true
 | x::xs,y::ys=>rZ x y&&iY xs ys
 | _,_=>false
end
mutual
theorem sd:∀(x y:D) (n m:Nat),bH n x=true->bH m y=true->PyData.eqv (tU x) (tU y)=rZ x y
 | .non,y,n,m,hx,hy=>by cases y <;> rfl
 | .bl a,y,n,m,hx,hy=>by cases y <;> rfl
 | .int a,y,n,m,hx,hy=>by cases y <;> rfl
 | .str a,y,n,m,hx,hy=>by cases y <;> rfl
 | .tup xs,y,n,m,hx,hy=>by
  cases n with
  | zero=>exact ff hx
  | succ n=>
   cases y with
   | tup ys=>
    cases m with
    | zero=>exact ff hy
    | succ m=>
     exact ku xs ys n m hx hy
   | _=>rfl
 | .lst xs,y,n,m,hx,hy=>by
  cases n with
  | zero=>exact ff hx
  | succ n=>
   cases y with
   | lst ys=>
    cases m with
    | zero=>exact ff hy
    | succ m=>
     exact ku xs ys n m hx hy
   | ro ys=>
    cases m with
    | zero=>exact ff hy
    | succ m=>
     exact ku xs ys n m hx hy
   | _=>rfl
 | .ro xs,y,n,m,hx,hy=>by
  cases n with
  | zero=>exact ff hx
  | succ n=>
   cases y with
   | lst ys=>
    cases m with
    | zero=>exact ff hy
    | succ m=>
     exact ku xs ys n m hx hy
   | ro ys=>
    cases m with
    | zero=>exact ff hy
    | succ m=>
     exact ku xs ys n m hx hy
   | _=>rfl
 | .mr a,y,n,m,hx,hy=>by cases n <;> exact ff hx
 | .exc a,y,n,m,hx,hy=>by cases n <;> exact ff hx
 | .any,y,n,m,hx,hy=>by cases n <;> exact ff hx
theorem ku:∀(x y:List D) (n m:Nat),bn n x=true->bn m y=true->PyData.eqvAll (pc x) (pc y)=iY x y
 | [],y,n,m,hx,hy=>by cases y <;> rfl
 | x::xs,y,n,m,hx,hy=>by
  cases y with
  | nil=>rfl
  | cons y ys=>
   have hx:=TJ.mp (show(bH n x&&bn n xs)=true from hx);have hy:=TJ.mp (show(bH m y&&bn m ys)=true from hy);show(PyData.eqv (tU x) (tU y)&&PyData.eqvAll (pc xs) (pc ys))=(rZ x y&&iY xs ys);rw[sd x y n m hx.1 hy.1,ku xs ys n m hx.2 hy.2]
end
mutual
theorem kZ:∀(d:D) (n:Nat),bH n d=true->(tU d).canLay0=true/\(tU d).depth<=n
 | .non,n,h=>by simp[tU,PyData.canLay0,PyData.depth]
 | .bl a,n,h=>by simp[tU,PyData.canLay0,PyData.depth]
 | .int a,n,h=>by simp[tU,PyData.canLay0,PyData.depth]
 | .str a,n,h=>by
  have:PyData.strOk a=true:=by cases n <;> exact h
  simp[tU,PyData.canLay0,PyData.depth,this]
 | .tup xs,n,h=>by
  cases n with
  | zero=>exact ff h
  | succ n=>
   have:=oF xs n h;simp only[tU,PyData.canLay0,PyData.depth];exact⟨this.1,by omega⟩
 | .lst xs,n,h=>by
  cases n with
  | zero=>exact ff h
  | succ n=>
   have:=oF xs n h;simp only[tU,PyData.canLay0,PyData.depth];exact⟨this.1,by omega⟩
 | .ro xs,n,h=>by
  cases n with
  | zero=>exact ff h
  | succ n=>
   have:=oF xs n h;simp only[tU,PyData.canLay0,PyData.depth];exact⟨this.1,by omega⟩
 | .mr a,n,h=>by cases n <;> exact ff h
 | .exc a,n,h=>by cases n <;> exact ff h
 | .any,n,h=>by cases n <;> exact ff h
theorem oF:∀(ds:List D) (n:Nat),bn n ds=true->PyData.canLayAll0 (pc ds)=true/\PyData.depthAll (pc ds)<=n
 | [],n,h=>by simp[pc,PyData.canLayAll0,PyData.depthAll]
 | d::ds,n,h=>by
  have h:=TJ.mp (show(bH n d&&bn n ds)=true from h);have h1:=kZ d n h.1;have h2:=oF ds n h.2;simp only[pc,PyData.canLayAll0,PyData.depthAll,Tz];exact⟨⟨h1.1,h2.1⟩,by omega⟩
end
mutual
theorem sZ {af:List (Addr×Obj)}{s:Shared}{σ:L2.St}{H:Hp}{θ:List Addr}(I:Inv X af σ H s):∀(d:D) (n:Nat) (v:V) (u:Value),bH n d=true->cz X.K θ H d v->aO v u->∃as,Reads s.heap u (tU d) as
 | .non,n,v,u,h,r,q=>by have e:v=.non:=r;subst e;cases q;exact⟨_,.none⟩
 | .bl a,n,v,u,h,r,q=>by have e:v=.bl a:=r;subst e;cases q;exact⟨_,.bool a⟩
 | .int a,n,v,u,h,r,q=>by have e:v=.int a:=r;subst e;obtain⟨t,rfl⟩:=q;exact⟨_,.int a t⟩
 | .str a,n,v,u,h,r,q=>by have e:v=.str a:=r;subst e;obtain⟨t,rfl⟩:=q;exact⟨_,.str a t⟩
 | .tup xs,n,v,u,h,r,q=>by
  cases n with
  | zero=>exact ff h
  | succ n=>
   obtain⟨a,vs,e,ta,ra⟩:=r;subst e;cases q;obtain⟨its,rv,⟨o,h1,h2,m,h3⟩,_⟩:=I.tuple ta.sq;obtain⟨as,R⟩:=jX I xs n vs its h ra rv;exact⟨_,.tuple h1 h2 h3 (by simpa using R)⟩
 | .lst xs,n,v,u,h,r,q=>by
  cases n with
  | zero=>exact ff h
  | succ n=>
   obtain⟨a,vs,e,ta,ra⟩:=r;subst e;cases q;obtain⟨its,rv,⟨o,m,h1,h2,_,h3⟩,_⟩:=I.list (ta.sq (K:=X.K));obtain⟨as,R⟩:=jX I xs n vs its h ra rv;exact⟨_,.list h1 h2 h3 (by simpa using R)⟩
 | .ro xs,n,v,u,h,r,q=>by
  cases n with
  | zero=>exact ff h
  | succ n=>
   obtain⟨a,vs,e,ta,ra⟩:=r;subst e;cases q;obtain⟨its,rv,⟨o,m,h1,h2,_,h3⟩,_⟩:=I.list ta.sq;obtain⟨as,R⟩:=jX I xs n vs its h ra rv;exact⟨_,.list h1 h2 h3 (by simpa using R)⟩
 | .mr a,n,v,u,h,r,q=>by cases n <;> exact ff h
 | .exc a,n,v,u,h,r,q=>by cases n <;> exact ff h
 | .any,n,v,u,h,r,q=>by cases n <;> exact ff h
theorem jX {af:List (Addr×Obj)}{s:Shared}{σ:L2.St}{H:Hp}{θ:List Addr}(I:Inv X af σ H s):∀(ds:List D) (n:Nat) (vs:List V) (us:List Value),bn n ds=true->aY X.K θ H ds vs->aS vs us->∃as,ReadsAll s.heap us (pc ds) as
 | [],n,vs,us,h,r,q=>by have e:vs=[]:=r;subst e;cases q;exact⟨_,.nil⟩
 | d::ds,n,vs,us,h,r,q=>by
  have h:=TJ.mp (show(bH n d&&bn n ds)=true from h);obtain⟨v,rr,e,r1,r2⟩:=r;subst e;cases q with
  | cons q1 q2=>
   obtain⟨as,R1⟩:=sZ I d n v _ h.1 r1 q1;obtain⟨bs,R2⟩:=jX I ds n rr _ h.2 r2 q2;exact⟨_,.cons R1 R2⟩
end
def now (d:D)(M:aq):D:=match d with
 | .mr k=>match M[k]? with
  | some (.lst xs)=>.lst xs
  | _=>.mr k
 | d=>d
def aW (neg:Bool):F2:=λx y M=>if bH 40 (now x M)&&bH 40 (now y M) then .ok (.bl (rZ (now x M) (now y M) != neg)) M else .bad
def jR (I:Inv X af σ H s)(hw:Wr X.K θ H M)(h:bH n (now d M)=true)(r:cz X.K θ H d v)(q:aO v u):∃as,Reads s.heap u (tU (now d M)) as:=by
 cases d with
 | mr k=>
  obtain⟨a,e,ta⟩:=r;subst e;cases q;cases qm:M[k]? with
  | none=>
   have e:now (.mr k) M=.mr k:=by simp[now,qm]
   rw[e] at h;cases n <;> exact ff h
  | some m=>
   cases m with
   | lst xs=>
    have e:now (.mr k) M=.lst xs:=by simp[now,qm]
    rw[e] at h ⊢;cases n with
    | zero=>exact ff h
    | succ n=>
     obtain⟨vs,hv,ra⟩:=hw.at_ k a _ ta qm;obtain⟨its,rv,⟨o,m,h1,h2,_,h3⟩,_⟩:=I.list   (.inl (.inl hv));obtain⟨as,R⟩:=jX I xs n vs its h ra rv;exact⟨_,.list h1 h2 h3 (by simpa using R)⟩
   | _=>
    have e:now (.mr k) M=.mr k:=by simp[now,qm]
    rw[e] at h;cases n <;> exact ff h
 | _=>exact sZ I _ n v u h r q
def Pj (hu:X.A.units+64<cLine):oz X (compareOp .Eq) (rD X (aW false)):=by
 intro af s σ H x y v u Q I rx ry h;obtain⟨θ,M,dx,dy,hw,r1,r2,h⟩:=h;unfold aW at h;split at h
 ·rename_i hc;rw[Tz] at hc;obtain⟨as,R1⟩:=jR I hw hc.1 r1 rx;obtain⟨bs,R2⟩:=jR I hw hc.2 r2 ry;have l2:=kZ _ _ hc.2;refine SeqAt.compareEq_reads R1 R2 (kZ _ _ hc.1).1 l2.1 (by grind) ?_;rw[sd _ _ _ _ hc.1 hc.2];refine⟨.bl _,H,I,rfl,?_⟩;have:=h _ θ H (.refl hw) rfl
  simp_all
 ·exact h.elim
def ON (hu:X.A.units+64<cLine):oz X (compareOp .NotEq) (rD X (aW true)):=by
 intro af s σ H x y v u Q I rx ry h;obtain⟨θ,M,dx,dy,hw,r1,r2,h⟩:=h;unfold aW at h;split at h
 ·rename_i hc;rw[Tz] at hc;obtain⟨as,R1⟩:=jR I hw hc.1 r1 rx;obtain⟨bs,R2⟩:=jR I hw hc.2 r2 ry;have l1:=kZ _ _ hc.1;refine SeqAt.compareNe_reads R1 R2 l1.1 (kZ _ _ hc.2).1 (by have:min (tU (now dx M)).depth (tU (now dy M)).depth<=(tU (now dx M)).depth:=ZV _ _;omega) ?_;rw[sd _ _ _ _ hc.1 hc.2];refine⟨.bl _,H,I,rfl,?_⟩;have:=h _ θ H (.refl hw) rfl
  simp_all
 ·exact h.elim
def a7 (d:D)(M:aq):Option (List D):=match d with
 | .tup xs=>Z xs
 | .lst xs=>Z xs
 | .ro xs=>Z xs
 | .mr k=>match M[k]? with
  | some (.lst xs)=>Z xs
  | _=>Y
 | _=>Y
def aB:F2:=λx y M=>match a7 x M,y with
 | some xs,.int i=>match wx xs i with
  | some d=>.ok d M
  | none=>.bad
 | _,_=>.bad
def Ez {K:W.Frag}(r:aY K θ H ds vs)(e:wx ds i=Z d):∃v,wx vs i=Z v/\cz K θ H d v:=by
 unfold wx at e ⊢;rw[<-ar r];cases q:Bp ds.length i with
 | none=>simp_all
 | some j=>
  rw[q] at e;exact dW r e
def qj {K:W.Frag}(hw:Wr K θ H M)(r:cz K θ H d v)(e:a7 d M=Z xs):∃a vs,v=.ref a/\(oy K H a vs\/rQ K H a vs)/\aY K θ H xs vs:=by
 cases d with
 | tup ds=>obtain⟨a,vs,e1,ta,ra⟩:=r;cases e;exact⟨a,vs,e1,.inr ta.sq,ra⟩
 | lst ds=>obtain⟨a,vs,e1,ta,ra⟩:=r;cases e;exact⟨a,vs,e1,.inl ta.sq,ra⟩
 | ro ds=>obtain⟨a,vs,e1,ta,ra⟩:=r;cases e;exact⟨a,vs,e1,.inl ta.sq,ra⟩
 | mr k=>
  obtain⟨a,e1,ta⟩:=r;have e:(match M[k]? with|some (.lst xs)=>Z xs|_=>Y)=Z xs:=e;cases qm:M[k]? with
  | none=>simp_all
  | some m=>
   cases m with
   | lst ys=>
    rw[qm] at e;cases e;obtain⟨vs,hv,ra⟩:=hw.at_ k a _ ta qm;exact⟨a,vs,e1,.inl (.inl (.inl hv)),ra⟩
   | _=>simp_all
 | _=>cases e
def Ou:Qr X (rD X aB):=by
 intro value slice af s σ H x y v u Q I rx ry h hs;obtain⟨θ,M,dx,dy,hw,r1,r2,h⟩:=h;unfold aB at h;split at h
 ·rename_i xs i q;split at h
  ·rename_i d qd;obtain⟨a,vs,ea,sq,ra⟩:=qj hw r1 q;obtain⟨z,ez,rz⟩:=Ez ra qd;have hq:=h z θ H (.refl hw) rz;rcases sq with sq|sq
   ·exact Ig value slice af s σ H x y v u Q I rx ry ⟨a,vs,i,z,ea,r2,sq,ez,hq⟩ hs
   ·exact Mw value slice af s σ H x y v u Q I rx ry ⟨a,vs,i,z,ea,r2,sq,ez,hq⟩ hs
  ·exact h.elim
 ·exact h.elim
def g9 (xs:List D)(lo hi:Option Int):List D:=(xs.drop (HT.sIx xs.length 0 lo)).take (HT.sIx xs.length xs.length hi-HT.sIx xs.length 0 lo)
def AM (x:D)(lo hi:Option Int)(M:aq):bi D:=match x with
 | .tup xs=>.ok (.tup (g9 xs lo hi)) M
 | .lst xs=>.ok (.lst (g9 xs lo hi)) M
 | .ro xs=>.ok (.lst (g9 xs lo hi)) M
 | .mr k=>match M[k]? with
  | some (.lst xs)=>.ok (.lst (g9 xs lo hi)) M
  | _=>.bad
 | _=>.bad
abbrev GO:=dY->aq->bi (Option Int)
def bD:GO:=λ_ M=>.ok Y M
def dn (g:GE):GO:=λρ M=>(g ρ M).bind λd M1=>match d with
 | .int i=>.ok (Z i) M1
 | _=>.bad
def Qo (X:Cx)(θ:List Addr)(H:Hp)(Q:Option Int->Hp->Prop):bi (Option Int)->Prop
 | .ok b M'=>∀θ' H',Go X.K θ H θ' H' M'->Q b H'
 | .err c M'=>eQ X θ H c M'
 | .bad=>False
def tO (X:Cx)(g:GO):TO:=λσ H Q=>∃ρ θ M,lM X.K θ H σ ρ/\Wr X.K θ H M/\Qo X θ H Q (g ρ M)
def _root_.L2.PO.of {t:TO}(h:PO X e t)(w:∀σ H Q,t' σ H Q->t σ H Q):PO X e t':=λaf s σ H Q I q=>h af s σ H Q I (w σ H Q q)
def Hc (h:PE X e (tE X g)):PO X (Z e) (tO X (dn g)):=(ID h).of λσ H Q hxx=>by
 obtain⟨ρ,θ,M,hd,hw,h⟩:=hxx;refine bf hd hw (Qo X θ H Q) (λc M' h=>h) (λh=>h) h λd M1 v θ1 H1 g1 r1 h1=>?_
 split at h1
 ·rename_i i;exact⟨i,r1,h1 θ1 H1 g1⟩
 ·exact h1.elim
def Ka (hd:lM X.K θ H σ ρ)(hw:Wr X.K θ H M)(F:bi α->Prop)(Fe:∀c M',F (.err c M')->eQ X θ H c M')(Fb:F .bad->False)
  {f:Option Int->aq->bi α} (h:F ((g ρ M).bind f)) (k:∀d M1 θ1 H1,Go X.K θ H θ1 H1 M1->F (f d M1)->Q d H1):tO X g σ H Q:=by
 refine⟨ρ,θ,M,hd,hw,?_⟩;cases q:g ρ M with
 | ok d M1=>
  rw[q] at h;exact λθ1 H1 g1=>k d M1 θ1 H1 g1 h
 | err c M1=>rw[q] at h;exact Fe c M1 h
 | bad=>simp_all
def re (g:GE)(gl gh:GO):GE:=λρ M=>(g ρ M).bind λx M1=>(gl ρ M1).bind λlo M2=>(gh ρ M2).bind λhi M3=>AM x lo hi M3
def SZ (X:Cx):V->Option Int->Option Int->Hp->VK->Prop:=λx lo hi H Q=>∃θ M d,Wr X.K θ H M/\cz X.K θ H d x/\aF X θ H Q (AM d lo hi M)
def oT {K:W.Frag}(r:aY K θ H ds vs)(lo hi:Option Int):aY K θ H (g9 ds lo hi) (Cz vs lo hi):=by
 unfold g9 Cz;rw[<-ar r];exact pP _ (pX _ r)
def Q0:Qy X (SZ X):=by
 intro af s σ H x v vl vu lo hi sl Q I rx hs pl pu h;obtain⟨θ,M,d,hw,r,h⟩:=h;cases d with
 | tup ds=>
  obtain⟨a,vs,e,ta,ra⟩:=r
  by_cases hc:HT.sIx vs.length 0 lo=0/\HT.sIx vs.length vs.length hi=vs.length
  ·subst e;cases rx;obtain⟨its,rv,ht,hz⟩:=I.tuple ta.sq;have hlen:its.toArray.size=vs.length:=by exact rv.length.symm
   refine⟨"tuple",_,TQ.lookup,ht.typeIs,?_⟩;refine m8 ht hs pl pu (by rw[hlen];exact hc) ⟨.ref a,H,I,rfl,h _ θ H (.refl hw) ⟨a,vs,rfl,ta,?_⟩⟩;have e:g9 ds lo hi=ds:=by
    unfold g9;rw[ar ra,hc.1,hc.2,drop_zero,Nat.sub_zero,<-ar ra,take_length]
   rw[e];exact ra
  ·exact LN af s σ H x v vl vu lo hi sl Q I rx hs pl pu ⟨a,vs,e,ta.sq,hc,λp hp=>h _ θ _ (cR hw hp) (gH hw hp (oT ra lo hi))⟩
 | lst ds=>
  obtain⟨a,vs,e,ta,ra⟩:=r;exact wm af s σ H x v vl vu lo hi sl Q I rx hs pl pu ⟨a,vs,e,ta.sq,λp hp=>h _ θ _ (cR hw hp) (ik hw hp (oT ra lo hi))⟩
 | ro ds=>
  obtain⟨a,vs,e,ta,ra⟩:=r;exact wm af s σ H x v vl vu lo hi sl Q I rx hs pl pu ⟨a,vs,e,ta.sq,λp hp=>h _ θ _ (cR hw hp) (ik hw hp (oT ra lo hi))⟩
 | mr k=>
  obtain⟨a,e,ta⟩:=r;have h:aF X θ H Q (match M[k]? with|some (.lst xs)=>.ok (.lst (g9 xs lo hi)) M|_=>.bad):=h;cases qm:M[k]? with
  | none=>rw[qm] at h;exact h.elim
  | some m=>
   cases m with
   | lst ys=>
    rw[qm] at h;obtain⟨vs,hv,ra⟩:=hw.at_ k a _ ta qm;exact wm af s σ H x v vl vu lo hi sl Q I rx hs pl pu ⟨a,vs,e,.inl (.inl hv),λp hp=>h _ θ _ (cR hw hp) (ik hw hp (oT ra lo hi))⟩
   | _=>rw[qm] at h;exact h.elim
 | _=>exact h.elim
def Pm (d:D)(M:aq):bi Bool:=match d with
 | .non=>.ok false M
 | .bl b=>.ok b M
 | .int i=>.ok (i != 0) M
 | .str x=>if x.length<=sizeLine then .ok ((x.length:Int) != 0) M else .bad
 | .tup xs=>.ok (!xs.isEmpty) M
 | .lst xs=>.ok (!xs.isEmpty) M
 | .ro xs=>.ok (!xs.isEmpty) M
 | .mr k=>match M[k]? with
  | some (.lst xs)=>.ok (!xs.isEmpty) M
  | _=>.bad
 | .exc _=>.bad
 | .any=>.bad
def iW (g:GE):GT:=λρ M=>(g ρ M).bind Pm
def kL {K:W.Frag}(r:aY K θ H ds vs):(!vs.isEmpty)=!ds.isEmpty:=by
 have:=ar r
 grind
def cq:FD:=λds M=>match ds with
 | [.str x]=>if x.length<=sizeLine then .ok (.int x.length) M else .bad
 | [d]=>match a7 d M with
  | some xs=>.ok (.int xs.length) M
  | none=>.bad
 | _=>.bad
def zT:FD:=λds M=>match ds with
 | [.int i,.int j]=>.ok (.int (if j<i then j else i)) M
 | _=>.bad
def KS:FD:=λds M=>match ds with
 | [.int i,.int j]=>.ok (.int (if j>i then j else i)) M
 | _=>.bad
def Ck:FD:=λds M=>match ds with
 | [.int i]=>.ok (.int i) M
 | [.bl b]=>.ok (.int (if b then 1 else 0)) M
 | _=>.bad
def rB:FD:=λds M=>match ds with
 | [d]=>match a7 d M with
  | some xs=>.ok (.lst xs) M
  | none=>.bad
 | _=>.bad
def tj:FD:=λds M=>match ds with
 | [d]=>match a7 d M with
  | some xs=>.ok (.mr M.length) (M++[.lst xs])
  | none=>.bad
 | _=>.bad
def dj:FD:=λds M=>match ds with
 | [d]=>match a7 d M with
  | some xs=>.ok (.tup xs) M
  | none=>.bad
 | _=>.bad
def gZ {K:W.Frag}(r:aY K θ H [d] xs):∃v,xs=[v]/\cz K θ H d v:=by
 obtain⟨v,rr,e,h1,h2⟩:=r;subst h2;exact⟨v,e,h1⟩
def Ao {K:W.Frag}(r:aY K θ H [d,d'] xs):∃v v',xs=[v,v']/\cz K θ H d v/\cz K θ H d' v':=by
 obtain⟨v,rr,e,h1,h2⟩:=r;obtain⟨v',e2,h3⟩:=gZ h2;subst e2;exact⟨v,v',e,h1,h3⟩
def ML (hc:X.calm=true):fz X (.builtin "max") (rC X KS):=by
 intro af s σ H xs us Q I r h;obtain⟨θ,M,ds,hw,rd,h⟩:=h;unfold KS at h;split at h
 ·rename_i i j;obtain⟨v,v',e,rv,rv'⟩:=Ao rd;exact C0 hc af s σ H xs us Q I r ⟨i,j,by rw[e,rv,rv'],h _ θ H (.refl hw) rfl⟩
 ·exact h.elim
def Ml:fz X (.type "int") (rC X Ck):=by
 intro af s σ H xs us Q I r h;obtain⟨θ,M,ds,hw,rd,h⟩:=h;unfold Ck at h;split at h
 ·rename_i i;obtain⟨v,e,rv⟩:=gZ rd;exact vK af s σ H xs us Q I r (.inl ⟨i,by rw[e,rv],h _ θ H (.refl hw) rfl⟩)
 ·rename_i b;obtain⟨v,e,rv⟩:=gZ rd;exact vK af s σ H xs us Q I r (.inr ⟨b,by rw[e,rv],h _ θ H (.refl hw) rfl⟩)
 ·exact h.elim
def IG:fz X (.type "list") (rC X rB):=by
 intro af s σ H xs us Q I r h;obtain⟨θ,M,ds,hw,rd,h⟩:=h;unfold rB at h;split at h
 ·split at h
  ·rename_i ys q;obtain⟨v,e,rv⟩:=gZ rd;obtain⟨a,vs,ea,sq,ra⟩:=qj hw rv q;exact pI af s σ H xs us Q I r ⟨a,vs,by rw[e,ea],sq,λl hl=>h _ θ _ (cR hw hl) (ik hw hl ra)⟩
  ·exact h.elim
 ·exact h.elim
def Eg:fz X (.type "list") (rC X tj):=by
 intro af s σ H xs us Q I r h;obtain⟨θ,M,ds,hw,rd,h⟩:=h;unfold tj at h;split at h
 ·split at h
  ·rename_i ys q;obtain⟨v,e,rv⟩:=gZ rd;obtain⟨a,vs,ea,sq,ra⟩:=qj hw rv q;exact pI af s σ H xs us Q I r ⟨a,vs,by rw[e,ea],sq,λl hl=>h _ _ _ (GP hw hl ra) (oV hw)⟩
  ·exact h.elim
 ·exact h.elim
end
def eO (cells:List (Str×Addr)):List (Str×NameKind)->List (Str×Addr)->List (Str×Addr)
 | [],acc=>acc
 | (n,k)::r,acc=>if k==.free then eO cells r ((n,(cells.lookup n).getD 0)::acc) else eO cells r acc
theorem sO:∀(l:List (Str×NameKind)) (cs:List (Str×Addr)),(∀p∈l,p.2=.free->∃c,env.cells.lookup p.1=Z c)->
  (forIn (m:=Sem) l cs λx r=>match x with
   | (name,kind)=>if(kind==NameKind.free)=true then do let __do_lift <-cellOf env name;pure (Ul ((name,__do_lift)::r)) else pure (Ul r))=pure (eO env.cells l cs)
 | [],cs,h=>rfl
 | (n,k)::r,cs,h=>by
  have ih:=λcs=>sO  r cs λp hp=>h p (mem_cons_of_mem _ hp)
  rw[forIn_cons]
  by_cases hk:(k==NameKind.free)=true
  ·obtain⟨c,hc⟩:=h (n,k) mem_cons_self (by simpa using hk);have e:cellOf env n=pure c:=by unfold cellOf;rw[hc]
   simp only[hk,if_true,eO,e,pure_bind];rw[ih,hc];rfl
  ·simp only[hk,if_false,eO,pure_bind,UB];exact ih cs
def lu (h:∀p∈scope.names,p.2=.free->∃c,env.cells.lookup p.1=Z c):closureFor scope env=pure (eO env.cells scope.names []):=by
 have:=sO  scope.names [] h;unfold closureFor
 simp_all
theorem um {cells:List (Str×Addr)}:∀(l:List (Str×NameKind)) (acc:List (Str×Addr)),(∀p∈acc,cells.lookup p.1=Z p.2)->(∀p∈l,p.2=.free->∃c,cells.lookup p.1=Z c)->
  ∀p∈eO cells l acc,cells.lookup p.1=Z p.2
 | [],acc,ha,h=>ha
 | (n,k)::r,acc,ha,h=>by
  have hr:=λp hp=>h p (mem_cons_of_mem _ hp)
  unfold eO
  by_cases hk:(k==NameKind.free)=true
  ·rw[if_pos hk];refine um r _ (λp hp=>?_) hr;rcases mem_cons.mp hp with e|hp
   ·obtain⟨c,hc⟩:=h (n,k) mem_cons_self (by simpa using hk)
    simp_all
   ·exact ha p hp
  ·rw[if_neg hk];exact um r acc ha hr
theorem tV {cells:List (Str×Addr)}:∀(l:List (Str×NameKind)) (acc:List (Str×Addr)),∀p∈acc,p∈eO cells l acc
 | [],acc,p,h=>h
 | (n,k)::r,acc,p,h=>by
  unfold eO
  by_cases hk:(k==NameKind.free)=true
  ·rw[if_pos hk];exact tV r _ p (mem_cons_of_mem _ h)
  ·rw[if_neg hk];exact tV r acc p h
theorem ug {cells:List (Str×Addr)}:∀(l:List (Str×NameKind)) (acc:List (Str×Addr)) (n:Str),(n,NameKind.free)∈l->∃c,(n,c)∈eO cells l acc
 | [],acc,n,h=>by cases h
 | (m,k)::r,acc,n,h=>by
  unfold eO;rcases mem_cons.mp h with e|h
  ·cases e;exact⟨_,tV r _ _ mem_cons_self⟩
  ·by_cases hk:(k==NameKind.free)=true
   ·rw[if_pos hk];exact ug r _ n h
   ·rw[if_neg hk];exact ug r acc n h
def n8 {l:List (Str×Addr)}(h:(n,c)∈l):∃c',l.lookup n=Z c':=by
 induction l with
 | nil=>cases h
 | cons p r ih=>
  obtain⟨m,d⟩:=p
  by_cases e:(n==m)=true
  ·exact⟨d,by simp[WO,e]⟩
  ·have e':(n==m)=false:=by simpa using e
   rcases mem_cons.mp h with q|q
   ·grind
   ·obtain⟨c',hc⟩:=ih q;exact⟨c',by simp only[WO,e'];omega⟩
theorem iL {env:Env}:∀{names:List (Str×NameKind)} {x:Str} {k:NameKind},
  (names.map λ(n,k)=>if(k==NameKind.free&&env.scope.kind==.function&&env.kindOf n==Z .cell) then(n,NameKind.cell) else(n,k)).lookup x=Z k->
   names.lookup x=Z k\/(k=.cell/\names.lookup x=Z .free)
 | [],_,_,h=>by simp_all
 | (n,k')::r,x,k,h=>by
  have ih:=@iL env r x k;have h:WO x ((if(k'==NameKind.free&&env.scope.kind==.function&&env.kindOf n==Z .cell)=true then(n,NameKind.cell) else(n,k'))::_)=Z k:=h
  by_cases hc:(k'==NameKind.free&&env.scope.kind==.function&&env.kindOf n==Z .cell)=true
  ·rw[if_pos hc] at h;cases hx:x==n with
   | true=>
    simp_all
   | false=>
    simp only[lookup_cons,hx] at h ⊢;exact ih h
  ·rw[if_neg hc] at h;cases hx:x==n with
   | true=>
    simp only[lookup_cons,hx] at h ⊢;exact .inl h
   | false=>
    simp only[lookup_cons,hx] at h ⊢;exact ih h
def cG (sc:Scope)(fk:Str->Option NameKind)(xs:List Str)(R N:List Str):Bool:=
 decide (sc.kind=.function)&&xs.all (λx=>sc.names.lookup x==Z .local) &&
 sc.names.all (λp=>match p.2 with
  | .cell=>false
  | .local=>(xs.contains p.1||p.1==(".0":Str))&&sc.names.lookup p.1==Z .local
  | .free=>fk p.1==Z .cell||fk p.1==Z .free
  | _=>true) &&
 decide ((xs++R).Nodup)&&!(R.contains (".0":Str))&&R.length==N.length &&
 (R.zip N).all (λp=>p.1==p.2||sc.names.lookup p.1 != Z .free)
structure cj (sc:Scope)(fk:Str->Option NameKind)(xs:List Str)(R N:List Str):Prop where
 kind:sc.kind=.function
 own:∀x∈xs,sc.names.lookup x=Z .local
 nocell:∀p∈sc.names,p.2≠.cell
 locs:∀p∈sc.names,p.2=.local->p.1∈xs\/p.1=(".0":Str)
 lnames:∀p∈sc.names,p.2=.local->sc.names.lookup p.1=Z .local
 free:∀p∈sc.names,p.2=.free->fk p.1=Z .cell\/fk p.1=Z .free
 nd:(xs++R).Nodup
 no0:(".0":Str)∉R
 len:R.length=N.length
 same:∀(i:Nat) y,R[i]?=Z y->sc.names.lookup y=Z .free->N[i]?=Z y
def cj.of {R:List Str}(h:cG sc fk xs R N=true):cj sc fk xs R N:=by
 unfold cG at h;simp only[Tz,decide_eq_true_eq,all_eq_true,Xr,beq_iff_eq] at h;obtain⟨⟨⟨⟨⟨⟨h1,h2⟩,h3⟩,h4⟩,h5⟩,h6⟩,h7⟩:=h;refine⟨h1,h2,λp hp e=>?_,λp hp e=>?_,λp hp e=>?_,λp hp e=>?_,h4,?_,h6,λi y hy hf=>?_⟩
 ·have:=h3 p hp;rw[e] at this;simp at this
 ·have:=h3 p hp;simp_all
 ·have:=h3 p hp;rw[e] at this;simp at this;exact this.2
 ·have:=h3 p hp;rw[e] at this;simp at this;exact this
 ·grind
 ·obtain⟨hi,e⟩:=Tf.mp hy;have hn:i<N.length:=by rw[<-h6];exact hi
  have hz:(R[i],N[i])∈R.zip N:=by
   rw[mem_iff_getElem];exact⟨i,by simp;omega,by simp⟩
  have:=h7 _ hz
  simp_all
def aD (X:Cx)(scope:Scope)(xs:List Str)(R:List Str)(fp:List Addr)(s:Shared)(H:Hp)(C:Addr):Cx where
 prog:=X.prog
 w:=X.w
 K:=X.K
 mg:=X.mg
 base:=X.base
 A:=X.A
 N:=xs++R
 s₀:=s
 H₀:=H
 env:=compEnvC scope (eO X.env.cells scope.names []) C X.env
 outer:=X.stack
 stack:=X.stack
 ex:=fp
 fn:=λ_=>false
 calm:=X.calm
 pn:=[]
 xe:=λ_ _=>False
section
variable {X:Cx}{af:List (Addr×Obj)}{σ:L2.St}{H:Hp}{s:Shared}{scope:Scope}{xs:List Str}{R:List Str}{fp:List Addr}{C:Addr}
def cj.cells (S:cj scope X.env.kindOf xs R X.N)(I:L2.Inv X af σ H s):∀p∈scope.names,p.2=.free->∃c,X.env.cells.lookup p.1=Z c:=λp hp e=>I.ok.has p.1 (S.free p hp e)
def cZ (S:cj scope X.env.kindOf xs R X.N)(I:L2.Inv X af σ H s)(h:(eO X.env.cells scope.names []).lookup y=Z c):X.env.cells.lookup y=Z c:=
 um scope.names [] (λ_ z=>by cases z) (S.cells I) (y,c) (PySem.mem_of_lookup h)
def D0 (S:cj scope X.env.kindOf xs R X.N)(I:L2.Inv X af σ H s)(hC:s.heap.objs.size<=C)(k:∀b o,s.heap.get? b=Z o->h4.get? b=Z o)(hn:h4.Ns C m)
  (hf:∀b∈fp,hX X af H b) (hfl:∀b∈fp,b<s.heap.objs.size):L2.Inv (aD X scope xs R fp s H C) [] (TH xs.length Y++σ) H {s with heap:=h4,toks:=tk}:=by
 have hkn:∀y kk,(relabel scope X.env).names.lookup y=Z kk->(kk=.cell\/kk=.free)->scope.names.lookup y=Z .free:=λy kk e hk=>by
  rcases iL e with q|q
  ·rcases hk with z|z
   ·subst z;exact absurd rfl (S.nocell _ (PySem.mem_of_lookup q))
   ·subst z;exact q
  ·exact q.2
 have hasc:∀y,scope.names.lookup y=Z .free->∃c,(eO X.env.cells scope.names []).lookup y=Z c:=λy e=>by
  obtain⟨c,hc⟩:=ug (cells:=X.env.cells) scope.names [] y (PySem.mem_of_lookup e);exact n8 hc
 refine⟨⟨I.ok.mod,S.kind,I.ok.glob,I.ok.blt,hC,λy z c h1 h2=>I.ok.inj y z c (cZ S I h1) (cZ S I h2),λy hy=>?_,λy c z=>absurd (show false=true from z) Tv,I.ok.hd,I.ok.frames,.inl rfl,λb hb=>⟨?_,λy c e=>?_⟩,I.bs,TL I.ok.bsz I.sz,λb o e hb=>?_,λb hb z=>?_,I.stack,I.stkFree⟩,
  rfl,I.bare,Un.kept k,⟨m,hn,λi y v h1 h2 h3=>?_⟩,λy c e=>?_,I.hok.fresh hC,λy c e=>I.freeC y c (cZ S I e),λp hp=>absurd (show p∈([]:List (Addr×Obj)) from hp) (by simp),I.hok.kept k,?_⟩
 ·rcases hy with e|e
  ·exact hasc y (hkn y _ e (.inl rfl))
  ·exact hasc y (hkn y _ e (.inr rfl))
 ·exact TB (Tu (hfl b hb) hC)
 ·exact(hf b hb).2.2.2.2.1 y c (cZ S I e)
 ·rcases(hf b hb).2.2.2.1 with z|z
  ·exact I.ok.noex b o e z
  ·exact absurd (Tu (Heap.lt_size e) (TL I.ok.bsz z)) (U9 _)
 ·rcases mem_cons.mp (I.stkSub b z) with e|e
  ·exact(hf b hb).2.1 e
  ·exact(hf b hb).2.2.1 e
 ·by_cases hi:i<xs.length
  ·exfalso;rw[getElem?_append_left (by rw[length_replicate];exact hi),getElem?_replicate,if_pos hi] at h2;cases h2
  ·obtain⟨i,rfl⟩:∃j,i=xs.length+j:=⟨i-xs.length,by omega⟩;have h1:R[i]?=Z y:=by
    have h1:(xs++R)[xs.length+i]?=Z y:=h1;rw[getElem?_append_right (by omega)] at h1;simpa using h1
   have h2:σ[i]?=Z (Z v):=by
    rw[getElem?_append_right (by rw[length_replicate];omega)] at h2;simpa using h2
   have hyR:y∈R:=mem_of_getElem? h1;have hf':scope.names.lookup y=Z .free/\((relabel scope X.env).names.lookup y=Z .cell\/(relabel scope X.env).names.lookup y=Z .free):=by
    have h3:(relabel scope X.env).names.lookup y=Z .local\/(relabel scope X.env).names.lookup y=Z .cell\/(relabel scope X.env).names.lookup y=Z .free:=h3;rcases h3 with e|e|e
    ·rcases iL e with q|q
     ·exfalso;rcases S.locs _ (PySem.mem_of_lookup q) rfl with z|z
      ·exact(nodup_append.mp S.nd).2.2 y z y hyR rfl
      ·have z:y=(".0":Str):=z;rw[z] at hyR;exact S.no0 hyR
     ·exact absurd q.1 (by intro z;cases z)
    ·exact⟨hkn y _ e (.inl rfl),.inl e⟩
    ·exact⟨hkn y _ e (.inr rfl),.inr e⟩
   have hN:=S.same i y h1 hf'.1;have hk:=S.free (y,.free) (PySem.mem_of_lookup hf'.1) rfl;obtain⟨mX,hnX,hl⟩:=I.loc;have vis:NJ X.env.scope y:=by
    rcases hk with z|z
    ·exact .inr (.inl z)
    ·exact .inr (.inr z)
   obtain⟨u,r,l⟩:=hl i y v hN h2 vis;refine⟨u,r,.inr ⟨hf'.2,?_⟩⟩;rcases l with⟨z,_⟩|⟨_,c,hc,o,ho,hod⟩
   ·exfalso;rcases hk with q|q
    ·have q:X.env.kindOf y=Z .cell:=q;rw[z] at q;cases q
    ·have q:X.env.kindOf y=Z .free:=q;rw[z] at q;cases q
   ·obtain⟨c',hc'⟩:=hasc y hf'.1;have:c'=c:=by
     have:=cZ S I hc';rw[hc] at this;exact(T4 this).symm
    subst this;exact⟨c',hc',o,k _ _ ho,hod⟩
 ·obtain⟨v,o,ho,hd⟩:=I.cell y c (cZ S I e);exact⟨v,o,k _ _ ho,hd⟩
 ·show(TH xs.length Y++σ).length=(xs++R).length;rw[length_append,length_append,length_replicate,I.len,S.len]
end
def bE (t:mY)(gc:GT)(ge:GE):List D->dY->aq->bi (List D)
 | [],ρ,M=>if t.ok M then .ok [] M else .bad
 | d::r,ρ,M=>if t.ok M then
   match gc (Z d::ρ) M with
   | .ok true M1=>match ge (Z d::ρ) M1 with
    | .ok e M2=>(bE t gc ge r ρ M2).bind λes M3=>.ok (e::es) M3
    | _=>.bad
   | .ok false M1=>bE t gc ge r ρ M1
   | _=>.bad
  else .bad
def bq:GT:=λ_ M=>.ok true M
def aT (t:mY)(n:Nat)(sg:GG)(gc:GT)(ge:GE):List D->dY->aq->bi (List D)
 | [],ρ,M=>if t.ok M then .ok [] M else .bad
 | d::r,ρ,M=>if t.ok M then
   match sg d (TH n Y++ρ) with
   | none=>.bad
   | some ρ1=>match gc ρ1 M with
    | .ok true M1=>match ge ρ1 M1 with
     | .ok e M2=>(aT t n sg gc ge r ρ M2).bind λes M3=>.ok (e::es) M3
     | _=>.bad
    | .ok false M1=>aT t n sg gc ge r ρ M1
    | _=>.bad
  else .bad
def dM (gi:GI)(n:Nat)(sg:GG)(gc:GT)(ge:GE)(mk:List D->aq->bi D):GE:=λρ M=>(gi ρ M).bind λt M1=>(aT t n sg gc ge t.ds ρ M1).bind mk
theorem xY (t:mY)(gc:GT)(ge:GE):∀(ds:List D) (ρ:dY) (M:aq),bE t gc ge ds ρ M=aT t 1 (dL 0) gc ge ds ρ M
 | [],ρ,M=>rfl
 | d::r,ρ,M=>by
  unfold bE aT;show _=(if t.ok M=true then(match gc (Z d::ρ) M with
    | .ok true M1=>match ge (Z d::ρ) M1 with
     | .ok e M2=>(aT t 1 (dL 0) gc ge r ρ M2).bind λes M3=>.ok (e::es) M3
     | _=>.bad
    | .ok false M1=>aT t 1 (dL 0) gc ge r ρ M1
    | _=>.bad) else .bad)
  simp only[(xY t gc ge r)]
def xM (n:Nat)(sg:GG):Prop:=∀d ρ ρ',sg d ρ=Z ρ'->ρ'.length=ρ.length/\∀i:Nat,n<=i->ρ'[i]?=ρ[i]?
def Bi (h:i<n):xM n (dL i):=λd ρ ρ' e=>by
 cases e;exact⟨by simp,λj hj=>by rw[getElem?_set_ne (by omega)]⟩
theorem yG:∀{is:List Nat} {ds:List D} {ρ ρ':dY},is.all (λi=>decide (i<n))=true->BX is ds ρ=Z ρ'->ρ'.length=ρ.length/\∀i:Nat,n<=i->ρ'[i]?=ρ[i]?
 | [],[],ρ,ρ',_,e=>by cases e;exact⟨rfl,λ_ _=>rfl⟩
 | [],_::_,_,_,_,e=>by cases e
 | _::_,[],_,_,_,e=>by cases e
 | i::is,d::ds,ρ,ρ',h,e=>by
  rw[all_cons,Tz] at h;have hi:=by simpa using h.1
  obtain⟨a,b⟩:=yG h.2 (e);exact⟨by simp_all,λj hj=>by rw[b j hj,getElem?_set_ne (by omega)]⟩
def xM.back {K:W.Frag}(o:xM n sg)(e:sg d (TH n Y++ρ)=Z ρ1)(h:lM K θ H τ ρ1):lM K θ H τ (TH n Y++ρ):=by
 obtain⟨a,b⟩:=o _ _ _ e;refine⟨by rw[<-a];exact h.len,λi d' q=>?_⟩
 by_cases hi:i<n
 ·rw[getElem?_append_left (by simp_all),getElem?_replicate,if_pos hi] at q
  grind
 ·rw[<-b i (by omega)] at q;exact h.at_ i d' q
def a8 (gi:GI)(gc:GT)(ge:GE)(mk:List D->aq->bi D):GE:=λρ M=>(gi ρ M).bind λt M1=>(bE t gc ge t.ds ρ M1).bind mk
def yN (elt target iter:Expr)(ifs:List Expr)(scope:Scope)(pos:Pos)(it acc:Value)(env:Env)(cond:Sem Bool)
  (hc:(forIn (m:=Sem) ifs true λc r=>if r=true then do let ok <-isTrue c env (eval c env);pure (Ul ok) else pure (Ul r))=cond) :
  compTurn (.ListComp elt [⟨target,iter,ifs,0⟩] scope pos) 0 it acc env=(standAt iter.pos >>= λ_=>pyNext it >>= λr=>match r with
   | none=>pure (.done .next)
   | some v=>letOwnedTupleGo target it v >>= λ_=>assign target env v >>= λ_=>cond >>= λok=>
    if ok=true then((eval elt env >>= λx=>call (.builtin "list.append") [acc,x] >>= λ_=>pure ()) >>= λ_=>
     again (.compLoop (.ListComp elt [⟨target,iter,ifs,0⟩] scope pos) 0 it acc env)) else again (.compLoop (.ListComp elt [⟨target,iter,ifs,0⟩] scope pos) 0 it acc env)):=by
 subst hc;rfl
section
variable {prog:Program}{w:World}{A:Around}{R:Result->Shared->Prop}{s:Shared}
def mq {iter:Expr}{cond:Sem Bool}
  (hc:(forIn (m:=Sem) ifs true λc r=>if r=true then do let ok <-isTrue c env (eval c env);pure (Ul ok) else pure (Ul r))=cond) (I:Nat->Shared->Prop)
  (turn:∀n s,I n s->wpAny (model prog w) A (pyNext it) (λr s₁=>match r with
   | none=>R (.ok .next) s₁
   | some v=>wpAny (model prog w) A (letOwnedTupleGo target it v) (λ_ s₂=>wpAny (model prog w) A (assign target env v) (λ_ s₃=>wpAny (model prog w) A cond (λok s₄=>if ok=true then
     wpAny (model prog w) A (eval elt env) (λx s₅=>wpAny (model prog w) A (call (.builtin "list.append") [acc,x]) (λ_ s₆=>∃m,m<n/\I m s₆) (λ_ _=>False) s₅) (λ_ _=>False) s₄
     else∃m,m<n/\I m s₄) (λ_ _=>False) s₃) (λ_ _=>False) s₂) (λ_ _=>False) s₁) (λ_ _=>False) s)
  (n:Nat) (h:I n s):codeAny (model prog w) A (.compLoop (.ListComp elt [⟨target,iter,ifs,0⟩] scope pos) 0 it acc env) R s:=by
 refine codeAny_loop rfl I (λn s hI=>?_) n h;refine wpAny_noted ?_;rw[yN _ _ _ _ _ _ _ _ _ _ hc];refine wpAny_bind (wpAny_standAt (wpAny_bind (wpAny_mono (turn n s hI) (λr s₁ h₁=>?_) λ_ _ z=>z.elim)));cases r with
 | none=>exact wpAny_pure h₁
 | some v=>
  refine wpAny_bind (wpAny_mono h₁ (λ_ s₂ h₂=>?_) λ_ _ z=>z.elim);refine wpAny_bind (wpAny_mono h₂ (λ_ s₃ h₃=>?_) λ_ _ z=>z.elim);refine wpAny_bind (wpAny_mono h₃ (λok s₄ h₄=>?_) λ_ _ z=>z.elim);cases ok with
  | true=>
   rw[if_pos rfl] at h₄;rw[if_pos rfl];exact wpAny_bind (wpAny_bind (wpAny_mono h₄ (λx s₅ h₅=>wpAny_bind (wpAny_mono h₅ (λ_ s₆ h₆=>wpAny_pure (wpAny_pure ⟨rfl,h₆⟩)) λ_ _ z=>z.elim)) λ_ _ z=>z.elim))
  | false=>
   rw[if_neg Tv] at h₄;rw[if_neg Tv];exact wpAny_pure ⟨rfl,h₄⟩
theorem An:(forIn (m:=Sem) ([]:List Expr) true λc r=>if r=true then do let ok <-isTrue c env (eval c env);pure (Ul ok) else pure (Ul r))=pure true:=rfl
def Cf:(forIn (m:=Sem) [c] true λc r=>if r=true then do let ok <-isTrue c env (eval c env);pure (Ul ok) else pure (Ul r))=isTrue c env (eval c env):=by
 simp
end
def Ju {a:Nat}(h:b<a)(e:c=a+1):b≠c:=by omega
def FI {b a c:Nat}(h:b<c)(e:c=a):a≠b:=by omega
def wM {b a c:Nat}(h:b<c)(e:c=a):b≠a:=by omega
abbrev iO (its:List Value)(n:Nat):Obj:={cls:=.type "list",data:=.seq its.toArray n}
section
variable {X:Cx}{af:List (Addr×Obj)}{σ:L2.St}{s:Shared}{scope:Scope}{xs:List Str}{tg:Expr}{sg:GG}{R:List Str}{elt iter:Expr}{ifs:List Expr}{pos:Pos}{E:Value->Shared->Prop}
def HC {K:W.Frag}{σ:L2.St}(h:lM K θ H σ ρ):lM K θ H (TH n Y++σ) (TH n Y++ρ):=by
 refine⟨by rw[length_append,length_append,length_replicate,length_replicate,h.len],λi d e=>?_⟩
 by_cases hi:i<n
 ·rw[getElem?_append_left (by simp_all),getElem?_replicate,if_pos hi] at e
  grind
 ·rw[getElem?_append_right (by simp_all),length_replicate] at e ⊢;exact h.at_ _ d e
inductive S8 (X0:Cx) (fp:List Addr) (tn:Nat->Heap->Prop) (K:W.Frag) (acc:Addr) (t:mY) (ρ0:dY) (θ1:List Addr) (H2:Hp) (es:List D) (go:List D->aq->bi (List D)) (Mend:aq) (n:Nat) (s':Shared):Prop
 | mk (i:Nat) (τ:L2.St) (H':Hp) (θ':List Addr) (M':aq) (ds rest:List D) (vs:List V) (its:List Value) (na:Nat) (e1:n=t.ds.length-i) (e2:i<=t.ds.length)
   (e3:L2.Inv X0 [(acc,iO its na)] τ H' s') (e4:lM K θ' H' τ ρ0) (e5:tn i s'.heap) (e6:∀b∈fp,H' b=Y) (e7:Go K θ1 H2 θ' H' M') (e8:aY K θ' H' ds vs) (e9:aS vs its) (e10:go (t.ds.drop i) M'=.ok rest Mend) (e11:ds++rest=es)
def nN {t:mY}{M1:aq}{RR:Value->Addr->Result->Shared->Prop}
  (S:cj scope X.env.kindOf xs R X.N) (hc:X.calm=true) (I2:L2.Inv X af σ H2 s2) (T:Ag X.prog X.w X.K tg J fp it tn) (st2:tn 0 s2.heap) (f2:∀b∈fp,hX X af H2 b)
  (hw1:Wr X.K θ1 H2 M1) (hd1:lM X.K θ1 H2 σ ρ) (hJ:G4 X.K J θ1 H2 t) (hgo:aT t xs.length sg gc ge t.ds ρ M1=.ok es Mend) (hlen:es.length<=sizeLine)
  (hcd:∀C,∃cond,(forIn (m:=Sem) ifs true λc r=>if r=true then do let ok <-isTrue c (aD X scope xs R fp s2 H2 C).env (eval c (aD X scope xs R fp s2 H2 C).env);pure (Ul ok) else pure (Ul r))=cond/\
   ∀(af:List (Addr×Obj)) (s:Shared) (σ:L2.St) (H:Hp) (Q:Bool->Hp->Prop),L2.Inv (aD X scope xs R fp s2 H2 C) af σ H s->tT (aD X scope xs R fp s2 H2 C) gc σ H Q->wpAny (model X.prog X.w) X.A cond (TP (aD X scope xs R fp s2 H2 C) af σ Q) (λ_ _=>False) s)
  (own:xM xs.length sg) (hg:∀C,PG (aD X scope xs R fp s2 H2 C) tg (tG (aD X scope xs R fp s2 H2 C) sg))
  (he:∀C,PE (aD X scope xs R fp s2 H2 C) elt (tE (aD X scope xs R fp s2 H2 C) ge))
  (fin:∀(acc C:Addr) (s':Shared) (H':Hp) (θ':List Addr) (vs:List V) (m:Str->Option Value),L2.Inv X af σ (bj H' acc (.lst vs)) s'->s'.heap.Ns C m->hX X af (bj H' acc (.lst vs)) C->Go X.K θ1 H2 θ' H' Mend->H' acc=Y->aY X.K θ' H' es vs->RR (.ref acc) C (.ok .next) s') :
  wpAny (model X.prog X.w) X.A (newList []) (λacc s₃=>wpAny (model X.prog X.w) X.A (newFunctionEnv scope X.env.globals (eO X.env.cells scope.names []) [] X.env.qual Y .none (Z X.env)) (λcenv s₄=>
   codeAny (model X.prog X.w) X.A (.compStart (.ListComp elt [⟨tg,iter,ifs,0⟩] scope pos) 0 (.ref it) acc {cenv with scope:=relabel scope X.env}) (RR acc cenv.locals) s₄) E s₃) E s2:=by
 refine wpAny_newObj_type (wpAny_newFunctionEnv S.nocell (by intro y hy;simp at hy) (λh₁ hns₁ hsb₁=>?_) S.kind);dsimp only at hns₁ hsb₁ ⊢;generalize hHp:s2.heap.push {cls:=.type "list",dict:=Y,data:=.seq ([]:List Value).toArray}=Hp2 at hns₁ hsb₁ ⊢;have hCe:Hp2.objs.size=s2.heap.objs.size+1:=by rw[<-hHp,Heap.size_push]
 generalize hCd:Hp2.objs.size=C at hns₁ hsb₁ hCe ⊢;generalize hAd:s2.heap.objs.size=acc at hCe ⊢;have hDC:acc≠C:=by rw[hCe];exact TB (Vv _)
 have old:∀b o,s2.heap.get? b=Z o->h₁.get? b=Z o:=λb o e=>by
  have hb:b<acc:=by rw[<-hAd];exact Heap.lt_size e
  refine hsb₁.extBut b o (Ju hb hCe) (Heap.get?_push_of_some _ ?_);rw[<-hHp];exact Heap.get?_push_of_some _ e
 have hacc0:h₁.get? acc=Z (iO [] 0):=by
  refine hsb₁.extBut acc _ hDC (Heap.get?_push_of_some _ ?_);rw[<-hHp,<-hAd];exact Heap.get?_push_size _ rfl
 have hfl:∀b∈fp,b<s2.heap.objs.size:=λb hb=>by
  obtain⟨o,e,_⟩:=T.obj 0 _ st2 b hb;exact Heap.lt_size e
 have hCs:s2.heap.objs.size<=C:=by omega
 have IY0:L2.Inv (aD X scope xs R fp s2 H2 C) [] (TH xs.length Y++σ) H2 {s2 with heap:=h₁,toks:=s2.toks+([]:List (Str×Value)).length}:=D0 S I2 hCs old hns₁ f2 hfl;obtain⟨cond,hcond,hct⟩:=hcd C;have fpY:∀{H':Hp} {p:Obj},(∀b∈fp,H' b=Y)->∀b∈fp,hX (aD X scope xs R fp s2 H2 C) [(acc,p)] H' b:=λ{H' p} hn b hb=>by
  refine⟨hn b hb,?_,λz=>?_,.inl hb,λy c e=>?_,λq hq=>?_⟩
  ·exact TB (Tu (hfl b hb) hCs)
  ·rcases mem_cons.mp (I2.stkSub b z) with e|e
   ·exact(f2 b hb).2.1 e
   ·exact(f2 b hb).2.2.1 e
  ·exact(f2 b hb).2.2.2.2.1 y c (cZ S I2 e)
  ·have hq:q∈([]:List (Addr×Obj))++[(acc,p)]:=hq;have e:q=(acc,p):=by simpa using hq
   rw[e];exact FI (hfl b hb) hAd
 have accF:∀b∈uI X.stack,acc≠b:=λb hb e=>by
  have:acc∉X.env.locals::X.fs:=by
   intro z;rcases mem_cons.mp z with z|z
   ·exact FI I2.lt hAd z
   ·exact I2.nofs (WX hAd) z
  exact this (e▸I2.stkSub b hb)
 have loop:∀s₃:Shared,s₃={s2 with heap:=h₁,toks:=s2.toks+([]:List (Str×Value)).length}->
   codeAny (model X.prog X.w) X.A (.compLoop (.ListComp elt [⟨tg,iter,ifs,0⟩] scope pos) 0 (.ref it) (.ref acc) (aD X scope xs R fp s2 H2 C).env) (RR (.ref acc) C) s₃:=by
  rintro s₃ rfl;have pin0:∀{σ':L2.St} {H':Hp} {s':Shared} {its:List Value} {n:Nat},L2.Inv (aD X scope xs R fp s2 H2 C) [] σ' H' s'->s'.heap.get? acc=Z (iO its n)->H' acc=Y->L2.Inv (aD X scope xs R fp s2 H2 C) [(acc,iO its n)] σ' H' s':=λ{σ' H' s' its n} I' e hn=>
   I'.pins_of λp hp=>by
    have ep:p=(acc,iO its n):=by simpa using hp
    subst ep;exact⟨e,hn,hDC,λz=>accF acc z rfl,λv z=>by cases z⟩
  refine mq hcond (S8 (aD X scope xs R fp s2 H2 C) fp tn X.K acc t (TH xs.length Y++ρ) θ1 H2 es (λl N=>aT t xs.length sg gc ge l ρ N) Mend) ?_ t.ds.length
   ⟨0,_,H2,θ1,M1,[],es,[],[],0,rfl,Uc _,pin0 IY0 hacc0 (I2.hok.fresh (WX hAd)),HC hd1,T.keep 0 _ _ st2 (λb hb o e=>old b o e),λb hb=>(f2 b hb).1,.refl hw1,rfl,.nil,hgo,rfl⟩
  rintro n s' ⟨i,τ,H',θ',M',ds,rest,vs,its,na,rfl,hil,I',dn',st',fr',g',rd',rv',hrest,hes⟩;have hok:t.ok M'=true:=by
   cases hq:t.ok M' with
   | true=>rfl
   | false=>
    exfalso;cases hdr:t.ds.drop i with
    | nil=>rw[hdr,aT,if_neg (by rw[hq];exact Tv)] at hrest;cases hrest
    | cons d r=>rw[hdr,aT,if_neg (by rw[hq];exact Tv)] at hrest;cases hrest
  obtain⟨hy,hst⟩:=hJ θ' H' M' g' hok i
  by_cases hlt:i<t.ds.length
  ·have e1:t.ds[i]?=Z t.ds[i]:=getElem?_eq_getElem hlt;obtain⟨hgo',hyl⟩:=hy _ e1;rw[drop_eq_getElem_cons hlt,aT,if_pos hok] at hrest;refine bQ (T.item (aD X scope xs R fp s2 H2 C) rfl rfl rfl hc i _ s' _ H' _ I' (fpY fr') st' hgo') λr s4 hxx=>?_
   obtain⟨u,hr,h4⟩:=hxx;subst hr;refine bQ h4 λ_ s5 hxx=>?_
   obtain⟨v,H5,I5,r5,y5,st5,fr5⟩:=hxx;obtain⟨gy,rx⟩:=hyl v H5 y5;have I5':=I5.pinned (fpY fr5) (T.obj _ _ st5);cases qs:sg t.ds[i] (TH xs.length Y++ρ) with
   | none=>rw[qs] at hrest;cases hrest
   | some ρ1=>
   rw[qs] at hrest;dsimp only at hrest;refine bQ (hg C _ s5 _ H5 v u (λσ6 H6=>lM X.K θ' H6 σ6 ρ1/\H6=H5) I5' r5 ⟨_,θ',M',t.ds[i],dn'.go gy,gy.wr,rx,ρ1,qs,λσ6 d6=>⟨d6,rfl⟩⟩) λ_ s6 hxx=>?_
   obtain⟨σ6,H6,I6,hdY,eH6⟩:=hxx;subst eH6;cases qc:gc ρ1 M' with
   | bad=>rw[qc] at hrest;cases hrest
   | err c Mx=>rw[qc] at hrest;cases hrest
   | ok b Mb=>
    refine bQ (hct _ s6 _ H6 (λb' H7=>b'=b/\∃θ7,Go X.K θ' H6 θ7 H7 Mb) I6 ⟨_,θ',M',hdY,gy.wr,?_⟩) λok s7 ⟨H7,I7,eb,θ7,g7⟩=>?_
    ·rw[qc];exact λθ7 H7 g7=>⟨rfl,θ7,g7⟩
    subst eb;have fpk:∀{s8:Shared} {σ8:L2.St} {H8:Hp},L2.Inv (aD X scope xs R fp s2 H2 C) ([(acc,iO its na)]++ue fp s5.heap) σ8 H8 s8->(∀b∈fp,H8 b=Y)/\(∀b∈fp,∀o,s5.heap.get? b=Z o->s8.heap.get? b=Z o)/\s8.heap.get? acc=Z (iO its na)/\H8 acc=Y:=λ{s8 σ8 H8} I8=>by
     have pa:=I8.pin (acc,iO its na) (mem_append_right _ (mem_append_left _ (by simp)));refine⟨λb hb=>?_,λb hb o e=>(I8.pin (b,o) (mem_append_right _ (mem_append_right _ (k8 hb e)))).1,pa.1,pa.2.1⟩;obtain⟨o,e,d⟩:=T.obj _ _ st5 b hb;exact(I8.pin (b,o) (mem_append_right _ (mem_append_right _ (k8 hb e)))).2.1
    cases ok with
    | false=>
     rw[if_neg Tv];rw[qc] at hrest;obtain⟨k1,k2,k3,k4⟩:=fpk I7;exact⟨t.ds.length-(i+1),by omega,i+1,σ6,H7,θ7,Mb,ds,rest,vs,its,na,rfl,hlt,I7.unpinned,own.back qs (hdY.go g7),T.keep _ _ _ st5 k2,k1,g'.trans (gy.trans g7),rd'.go (gy.trans g7),rv',hrest,hes⟩
    | true=>
     rw[if_pos rfl];rw[qc] at hrest;have hrest:(match ge ρ1 Mb with
      | .ok e M2=>(aT t xs.length sg gc ge (t.ds.drop (i+1)) ρ M2).bind λes M3=>.ok (e::es) M3
      | _=>.bad)=bi.ok rest Mend:=hrest
     cases qe:ge ρ1 Mb with
     | bad=>rw[qe] at hrest;cases hrest
     | err c Mx=>rw[qe] at hrest;cases hrest
     | ok dv Mv=>
      rw[qe] at hrest;have hrest:((aT t xs.length sg gc ge (t.ds.drop (i+1)) ρ Mv).bind λes M3=>bi.ok (dv::es) M3)=bi.ok rest Mend:=hrest;refine bQ (he C _ s7 _ H7 (λw H8=>∃θ8,Go X.K θ7 H7 θ8 H8 Mv/\cz X.K θ8 H8 dv w) I7 ⟨_,θ7,Mb,hdY.go g7,g7.wr,?_⟩) λuv s8 ⟨w,H8,I8,rw8,θ8,g8,rd8⟩=>?_
      ·rw[qe];exact λw θ8 H8 g8 rd8=>⟨θ8,g8,rd8⟩
      obtain⟨k1,k2,k3,k4⟩:=fpk I8;cases qr:aT t xs.length sg gc ge (t.ds.drop (i+1)) ρ Mv with
      | bad=>rw[qr] at hrest;cases hrest
      | err c Mx=>rw[qr] at hrest;cases hrest
      | ok rest' Mr=>
       rw[qr] at hrest;have hrest:bi.ok (dv::rest') Mr=bi.ok rest Mend:=hrest;cases hrest;have hsz:its.length<sizeLine:=by
        have e2:(ds++dv::rest').length<=sizeLine:=by rw[hes];exact hlen
        rw[length_append,length_cons,ar rd',rv'.length] at e2;omega
       refine call_meets F.slot_list_append ⟨_,k3,rfl⟩ F.entry_list_append (F.args_list_append_2 _ _) (PySem.list_append acc its.toArray na uv (by rw[size_toArray];omega)) ⟨k3,?_⟩;have qup:=PySem.IsL.update k3 (λa=>a.push uv);have eup:(its.toArray.push uv)=(its++[uv]).toArray:=by simp
       have keepb:∀b o,b≠acc->s8.heap.get? b=Z o->(s8.heap.update acc (Obj.mapSeq λa=>a.push uv)).get? b=Z o:=λb o hb e=>(Heap.get?_update_other s8.heap _ (Uj hb)).trans e
       have I9:L2.Inv (aD X scope xs R fp s2 H2 C) [] σ6 H8 {s8 with heap:=s8.heap.update acc (Obj.mapSeq λa=>a.push uv),toks:=s8.toks}:=by
        refine Inv.turned (it:=acc) (I8.pins_of (pins':=[]) λp hp=>absurd hp (by simp)) keepb k4 hDC (.inr (WX hAd)) (λy c e z=>?_) λp hp=>absurd (show p∈([]:List (Addr×Obj)) from hp) (by simp)
        obtain⟨v',o,ho,hdd⟩:=I2.cell y c (cZ S I2 e);exact wM (Heap.lt_size ho) hAd z
       obtain⟨n',eq'⟩:∃n',(s8.heap.update acc (Obj.mapSeq λa=>a.push uv)).get? acc=Z (iO (its++[uv]) n'):=by
        have q2:=qup;rw[eup] at q2;exact⟨_,q2⟩
       exact⟨t.ds.length-(i+1),by omega,i+1,σ6,H8,θ8,Mv,ds++[dv],rest',vs++[w],its++[uv],n',rfl,hlt,pin0 I9 eq' k4,own.back qs (hdY.go (g7.trans g8)),T.keep _ _ _ st5 (λb hb o e=>keepb b o (wM (hfl b hb) hAd) (k2 b hb o e)),k1,g'.trans (gy.trans (g7.trans g8)),cD (rd'.go (gy.trans (g7.trans g8))) ⟨w,[],rfl,rd8,rfl⟩,rv'.append (.cons rw8 .nil),qr,by rw[<-hes];simp⟩
  ·have e:i=t.ds.length:=by omega
   subst e;rw[drop_length,aT,if_pos hok] at hrest;cases hrest;have hes:ds=es:=by rw[<-hes];simp
   subst hes;refine bQ (T.done (aD X scope xs R fp s2 H2 C) rfl rfl rfl hc _ _ s' _ H' _ I' (fpY fr') st' (hst (Te _))) λr s4 hxx=>?_
   obtain⟨hr,I4⟩:=hxx;subst hr;have pa:=I4.pin (acc,iO its na) (mem_append_right _ (by simp));have e4:s4.heap.get? acc=Z (iO its na):=pa.1;have n4:H' acc=Y:=pa.2.1;have lv:vs.length<=sizeLine:=by rw[<-ar rd'];exact hlen
   obtain⟨mC,hnC,_⟩:=I4.loc;have hHC:H' C=Y:=I4.free;have Kp:Un (uI X.stack) fp H2 H' s2.heap s4.heap:=I4.base;have neA:∀{b:Addr} {o:Obj},s2.heap.get? b=Z o->b≠acc:=λ{b o} e=>wM (Heap.lt_size e) hAd
   have neH:∀{b:Addr} {u:HO},H' b=Z u->b≠acc:=λ{b u} e z=>by rw[z,n4] at e;cases e
   have un4:Un (uI X.stack) fp H2 (bj H' acc (.lst vs)) s2.heap s4.heap:=by
    refine⟨Kp.keep,Kp.slot,λb o e n hx=>?_,Kp.there,λb xs e=>?_,λb o u e=>?_,λb ps e=>?_⟩
    ·rw[ao (neA e)];exact Kp.free b o e n hx
    ·have z:=Kp.tups b xs e;rw[ao (neH z)];exact z
    ·have z:=Kp.frzs b o u e;rw[ao (neH z)];exact z
    ·obtain⟨more,z⟩:=Kp.tbls b ps e;exact⟨more,by rw[ao (neH z)];exact z⟩
   have hok4:md X.prog X.w (bj H' acc (.lst vs)) s4.heap:=λb u e=>by
    by_cases hb:b=acc
    ·subst hb;rw[aV] at e;cases e;exact⟨lv,its,na,rv',e4⟩
    ·rw[ao hb] at e;exact(I4.hok b u e).stay (λc v _ q=>q) (λc q=>by rw[ao (neH q)];exact q) λc xs q=>by rw[ao (neH q)];exact q
   have IX:L2.Inv X af σ (bj H' acc (.lst vs)) s4:=I2.call' (ch:=fp) I4.os un4 hok4 I4.bare λb hb=>⟨(f2 b hb).2.2.2.1,(f2 b hb).2.1,(f2 b hb).2.2.2.2.1,(f2 b hb).2.2.2.2.2⟩
   refine fin acc C s4 H' θ' vs mC IX hnC (I2.fpOk hCs ?_) g' n4 rd';rw[ao (Uj hDC)];exact hHC
 exact codeAny_compStart_list (loop _ rfl) (T.self _ 0 _ _ _ (T.keep 0 _ _ st2 λb hb o e=>old b o e) (loop _ rfl))
end
section
variable {X:Cx}{scope:Scope}{xs:List Str}{tg:Expr}{sg:GG}{x:Str}{px:Pos}{R:List Str}{elt iter:Expr}{ifs:List Expr}{pos:Pos}{gi:GI}{gc:GT}{ge:GE}
def Nw (mk:List D->aq->bi D):Prop:=∀(X:Cx) (θ:List Addr) (H:Hp) (Q:VK) (ds:List D) (M:aq) (vs:List V),aF X θ H Q (mk ds M)->Wr X.K θ H M->aY X.K θ H ds vs->vs.length<=sizeLine/\∀p,H p=Y->Q (.ref p) (bj H p (.lst vs))
def Fs:Nw aR:=λX θ H Q ds M vs h hw r=>aF.lst h hw r
def Gh:Nw dQ:=λX θ H Q ds M vs h hw r=>aF.mut h hw r
def GF (hm:mk=aR\/mk=dQ){X:Cx}(h:aF X θ H Q (mk ds M)):ds.length<=sizeLine:=by
 rcases hm with e|e <;> subst e
 ·unfold aR at h;split at h
  ·omega
  ·exact h.elim
 ·unfold dQ at h;split at h
  ·omega
  ·exact h.elim
def Kn (hm:mk=aR\/mk=dQ):Nw mk:=by
 rcases hm with e|e <;> subst e
 ·exact Fs
 ·exact Gh
def oE (X:Cx)(scope:Scope)(xs:List Str)(R:List Str)(ifs:List Expr)(gc:GT):Prop:=∀fp s2 H2 C,∃cond,(forIn (m:=Sem) ifs true λc r=>if r=true then do let ok <-isTrue c (aD X scope xs R fp s2 H2 C).env (eval c (aD X scope xs R fp s2 H2 C).env);pure (Ul ok) else pure (Ul r))=cond/\
   ∀(af:List (Addr×Obj)) (s:Shared) (σ:L2.St) (H:Hp) (Q:Bool->Hp->Prop),L2.Inv (aD X scope xs R fp s2 H2 C) af σ H s->tT (aD X scope xs R fp s2 H2 C) gc σ H Q->wpAny (model X.prog X.w) X.A cond (TP (aD X scope xs R fp s2 H2 C) af σ Q) (λ_ _=>False) s
def yl:oE X scope xs R [] bq:=λfp s2 H2 C=>⟨_,An,λaf s σ H Q I ⟨ρ,θ,M,hd,hw,h⟩=>wpAny_pure ⟨H,I,h θ H (.refl hw)⟩⟩
def GX (h:∀fp s2 H2 C,PT (aD X scope xs R fp s2 H2 C) c (tT (aD X scope xs R fp s2 H2 C) gc)):oE X scope xs R [c] gc:=λfp s2 H2 C=>⟨_,Cf,λaf s σ H Q I q=>h fp s2 H2 C af s σ H Q I q⟩
theorem iE {t:mY}{sg:GG}{gc:GT}{ge:GE}:∀(ds:List D) (M:aq),aT t n sg gc ge ds ρ M=.err c M'->False
 | [],M,h=>by
  unfold aT at h
  grind
 | d::r,M,h=>by
  unfold aT at h;split at h
  ·split at h
   ·cases h
   ·split at h
    ·split at h
     ·rename_i e M2 q2;cases q:aT t n sg gc ge r ρ M2 with
      | ok es M3=>simp_all
      | err c2 M3=>exact iE r M2 q
      | bad=>simp_all
     grind
    ·rename_i M1 q1;exact iE r M1 h
    grind
  grind
def Ei (hS:cG scope X.env.kindOf xs R X.N=true)(hc:X.calm=true)(hm:mk=aR\/mk=dQ)(hi:PI X tg iter (tI X gi))(own:xM xs.length sg)(hg:∀fp s H C,PG (aD X scope xs R fp s H C) tg (tG (aD X scope xs R fp s H C) sg))(hts:oE X scope xs R ifs gc)
  (he:∀fp s H C,PE (aD X scope xs R fp s H C) elt (tE (aD X scope xs R fp s H C) ge))
  (hs:∀x,foldedSetIterable iter X.env x=pure x:=by intro _;rfl):PE X (.ListComp elt [⟨tg,iter,ifs,0⟩] scope pos) (tE X (dM gi xs.length sg gc ge mk)):=by
 have S:=cj.of hS;intro af s σ H Q I h;obtain⟨ρ,θ,M,hd,hw,h⟩:=h;rw[eval_ListComp];refine wpAny_comprehension_free (use:=Y) rfl hs (lu (S.cells I)) S.kind S.lnames ?_;refine bQ (hi af s σ H (λJ H2=>∃t M1 θ1,gi ρ M=.ok t M1/\Go X.K θ H θ1 H2 M1/\G4 X.K J θ1 H2 t) I ⟨ρ,θ,M,hd,hw,?_⟩) λv s1 h1=>bQ h1 λitv s2 h2=>?_
 ·cases q:gi ρ M with
  | ok t M1=>exact λJ θ1 H1 g1 hJ=>⟨t,M1,θ1,rfl,g1,hJ⟩
  | err c M1=>unfold dM at h;rw[q] at h;exact h
  | bad=>unfold dM at h;rw[q] at h;exact h
 obtain⟨it,fp,tn,J,H2,rfl,I2,T,st2,f2,t,M1,θ1,eg,g1,hJ⟩:=h2;unfold dM at h;rw[eg] at h;have h:aF X θ H Q ((aT t xs.length sg gc ge t.ds ρ M1).bind mk):=h;cases q:aT t xs.length sg gc ge t.ds ρ M1 with
 | bad=>rw[q] at h;exact h.elim
 | err c Mx=>exact(iE _ _ q).elim
 | ok es Mend=>
  rw[q] at h;have h:aF X θ H Q (mk es Mend):=h;refine nN  S hc I2 T st2 f2 g1.wr (hd.go g1) hJ q (GF hm h) (λC=>hts fp s2 H2 C) own (λC=>hg fp s2 H2 C) (λC=>he fp s2 H2 C) ?_;intro acc C s' H' θ' vs m IX hnC fC g' na rd;refine⟨m,hnC,λh' sb=>?_⟩;have I3:L2.Inv X af σ (bj H' acc (.lst vs)) {s' with heap:=h',toks:=s'.toks}:=IX.turned (it:=C) (λb o hb e=>(sb.2 b hb).trans e) fC.1 fC.2.1 fC.2.2.2.1 fC.2.2.2.2.1 fC.2.2.2.2.2;exact⟨.ref acc,_,I3,rfl,(Kn hm X θ' H' Q es Mend vs (aF.go (g1.trans g') h) g'.wr rd).2 acc na⟩
def qV (hS:cG scope X.env.kindOf xs R X.N=true)(hc:X.calm=true)(hm:mk=aR\/mk=dQ)(hi:PI X tg iter (tI X gi))(own:xM xs.length sg)(hg:∀fp s H C,PG (aD X scope xs R fp s H C) tg (tG (aD X scope xs R fp s H C) sg))(hts:oE X scope xs R ifs gc)
  (he:∀fp s H C,PE (aD X scope xs R fp s H C) elt (tE (aD X scope xs R fp s H C) ge))
  (hN:X.N.Nodup) (hj:X.N[j]?=Z y) (hy:X.env.scope.names.lookup y=Z .local)
  (hsw:swapsWith (.ListComp elt [⟨tg,iter,ifs,0⟩] scope pos) (Z (.Name y py)) spos.line X.env=pure true)
  (hs:∀x,foldedSetIterable iter X.env x=pure x:=by intro _;rfl):PS X (.Assign [.Name y py] (.ListComp elt [⟨tg,iter,ifs,0⟩] scope pos) spos) (tS X (aQ j (dM gi xs.length sg gc ge mk))):=by
 have S:=cj.of hS;intro af s σ H Q I h;obtain⟨ρ,θ,M,hd,hw,h⟩:=h;rw[exec_Assign_Name_used _ _ _ _ hsw];refine wpAny_bind (wpAny_standAt (wpAny_bind ?_));show wpAny _ X.A (do let _ <-comprehension (.ListComp elt [⟨tg,iter,ifs,0⟩] scope pos) scope X.env _ (newList []) false (eval iter X.env) (Z (assign (.Name y py) X.env))) _ _ s;refine wpAny_bind (wpAny_mono (wpAny_comprehension_free (use:=Z (assign (.Name y py) X.env)) (Q:=λ_ s'=>SP X af Q .next s') rfl hs (lu (S.cells I)) S.kind S.lnames ?_) (λ_ s' hq=>wpAny_pure (wpAny_pure hq)) λ_ _ e=>e);refine bQ (hi af s σ H (λJ H2=>∃t M1 θ1,gi ρ M=.ok t M1/\Go X.K θ H θ1 H2 M1/\G4 X.K J θ1 H2 t) I ⟨ρ,θ,M,hd,hw,?_⟩) λv s1 h1=>bQ h1 λitv s2 h2=>?_
 ·cases q:gi ρ M with
  | ok t M1=>exact λJ θ1 H1 g1 hJ=>⟨t,M1,θ1,rfl,g1,hJ⟩
  | err c M1=>unfold aQ dM at h;rw[q] at h;exact h
  | bad=>unfold aQ dM at h;rw[q] at h;exact h
 obtain⟨it,fp,tn,J,H2,rfl,I2,T,st2,f2,t,M1,θ1,eg,g1,hJ⟩:=h2;unfold aQ dM at h;rw[eg] at h;have h:bR X θ H Q (((aT t xs.length sg gc ge t.ds ρ M1).bind mk).bind λd M2=>.ok (.nx (ρ.set j (Z d))) M2):=h;cases q:aT t xs.length sg gc ge t.ds ρ M1 with
 | bad=>rw[q] at h;exact h.elim
 | err c Mx=>exact(iE _ _ q).elim
 | ok es Mend=>
  rw[q] at h;have h:bR X θ H Q ((mk es Mend).bind λd M2=>.ok (.nx (ρ.set j (Z d))) M2):=h;have hE:aF X θ H (λv H'=>∃θ' M',Go X.K θ H θ' H' M'/\∃d,mk es Mend=.ok d M'/\cz X.K θ' H' d v) (mk es Mend):=by
   cases qm:mk es Mend with
   | ok d M2=>exact λv θ' H' g' r=>⟨θ',M2,g',d,rfl,r⟩
   | err c M2=>rw[qm] at h;exact h
   | bad=>rw[qm] at h;exact h
  refine nN (RR:=λacc C=>compPost (model X.prog X.w) X.A X.xe (Z (assign (.Name y py) X.env)) (λ_ s'=>SP X af Q .next s') acc C) S hc I2 T st2 f2 g1.wr (hd.go g1) hJ q (GF hm hE) (λC=>hts fp s2 H2 C) own (λC=>hg fp s2 H2 C) (λC=>he fp s2 H2 C) ?_;intro acc C s' H' θ' vs m IX hnC fC g' na rd;obtain⟨θe,Me,ge',d,ed,rde⟩:=(Kn hm X θ' H' _ es Mend vs (aF.go (g1.trans g') hE) g'.wr rd).2 acc na;show wpAny _ X.A (assign (.Name y py) X.env (.ref acc)) _ _ s';refine wpAny_assign_Name (vQ IX hN hj (.inl hy) (v:=.ref acc) rfl (λs3 I3 hxx=>?_) (.inr hy));obtain⟨a,sa,ha⟩:=hxx;have hCa:C≠a:=by
   rcases ha with e|e
   ·rw[e];exact fC.2.1
   ·exact λz=>fC.2.2.2.2.1 y a e z.symm
  refine⟨m,hnC.sameBut sa hCa,λh' sb=>?_⟩;have I4:L2.Inv X af (σ.set j (Z (.ref acc))) (bj H' acc (.lst vs)) {s3 with heap:=h',toks:=s3.toks}:=I3.turned (it:=C) (λb o hb e=>(sb.2 b hb).trans e) fC.1 fC.2.1 fC.2.2.2.1 fC.2.2.2.2.1 fC.2.2.2.2.2;rw[ed] at h;exact⟨_,_,I4,h _ θe _ ge' ((hd.go ge').set rde j)⟩
def Cb {px:Pos}(hS:cG scope X.env.kindOf [x] R X.N=true)(fp:List Addr)(s:Shared)(H:Hp)(C:Addr):PG (aD X scope [x] R fp s H C) (.Name x px) (tG (aD X scope [x] R fp s H C) (dL 0)):=
 have S:=cj.of hS
 xi  S.nd rfl (.inl (lookup_relabel_local (S.own x (by simp)))) (.inr (lookup_relabel_local (S.own x (by simp))))
def Be (mk:List D->aq->bi D):a8 gi gc ge mk=dM gi 1 (dL 0) gc ge mk:=by
 unfold a8 dM;simp only[xY]
end
def fR:List D->Option (List Bool)
 | []=>Z []
 | .bl b::r=>(fR r).map (b::·)
 | _=>Y
def rH:FD:=λds M=>match ds with
 | [d]=>match a7 d M with
  | some xs=>match fR xs with
   | some bs=>.ok (.bl (bs.all id)) M
   | none=>.bad
  | none=>.bad
 | _=>.bad
theorem nF {K:W.Frag}:∀{ds:List D} {vs:List V} {us:List Value} {bs:List Bool},aY K θ H ds vs->aS vs us->fR ds=Z bs->us=bs.map Value.bool
 | [],vs,us,bs,r,q,e=>by
  subst r;cases q;cases e;rfl
 | d::ds,vs,us,bs,r,q,e=>by
  obtain⟨v,rr,e1,h1,h2⟩:=r;subst e1;cases d with
  | bl b=>
   cases qb:fR ds with
   | none=>simp[fR,qb] at e
   | some bs'=>
    simp[fR,qb] at e;subst e;subst h1;cases q with
    | cons q1 q2=>
     cases q1;rw[map_cons,nF h2 q2 qb]
  | _=>simp[fR] at e
def Dt (bs:List Bool):(Tw bs.length).all (λi=>bs.getD i false)=bs.all id:=by
 rw[Bool.eq_iff_iff];simp only[all_eq_true,mem_range,id];constructor
 ·intro h b hb;obtain⟨i,hi,e⟩:=mem_iff_getElem.mp hb
  simp_all
 ·intro h i hi;rw[getD_eq_getElem?_getD,getElem?_eq_getElem hi];exact h _ (getElem_mem hi)
section
variable {X:Cx}
def qN (bs:List Bool):TruthOf prog w A (λi v=>((bs.map Value.bool).toArray)[i]?=Z v) (λi=>bs.getD i false):=λi v s Q E hP hQ=>by
 have hP:(bs.map Value.bool)[i]?=Z v:=by simp_all
 rw[getElem?_map] at hP;cases q:bs[i]? with
 | none=>simp_all
 | some b=>
  rw[q] at hP;cases hP;have e:bs.getD i false=b:=by simp_all
  dsimp only at hQ;rw[e] at hQ;exact wpAny_truthy_bool hQ
def zK {bs:List Bool}(hc:X.calm=true)(I:L2.Inv X af σ H s)(hw:Wr X.K θ H M)(rv:cz X.K θ H d v)(ru:aO v u)(q:a7 d M=Z xs)(qb:fR xs=Z bs){Q:Bool->Hp->Prop}{f:(Nat->Bool)->Nat->Bool}
  (h:∀h' tk,L2.Inv X af σ H {s with heap:=h',toks:=tk}->Q (f (λi=>bs.getD i false) bs.length) H) :
  wpAny (model X.prog X.w) X.A.in1 (pyIter u) (λit s₂=>∃I fp wr n P St tr,it=.ref I/\Walks X.prog X.w X.A.in1 I fp wr n P St/\St 0 s₂.heap/\TruthOf X.prog X.w X.A.in1 P tr/\
   ∀h' tk,(∀b o,b∉wr->s₂.heap.get? b=Z o->h'.get? b=Z o)->EP X af σ (λv H=>∃b,v=.bl b/\Q b H) (.bool (f tr n)) {s₂ with heap:=h',toks:=tk}) E s:=by
 have hh:X.A.in1.handled=Y:=I.ok.hd hc;obtain⟨a,vs,ea,sq,ra⟩:=qj hw rv q;subst ea;cases ru;rcases sq with sq|sq
 ·obtain⟨its,r1,p,hz⟩:=I.list sq;have e:=nF ra r1 qb;subst e;have hlt:a<s.heap.objs.size:=by obtain⟨o,n,e,_⟩:=p;exact Heap.lt_size e
  refine wpAny_pyIter_list p.isList ⟨s.heap.objs.size,_,_,_,_,_,_,rfl,Walks.list hh s.heap.objs.size a (TB hlt) _,⟨⟨_,Heap.get?_push_size _ rfl,rfl,rfl⟩,p.isList.push _⟩,qN bs,λh' tk k=>?_⟩;have I':L2.Inv X af σ H {s with heap:=h',toks:=tk}:=I.kept λb o e=>k b o (by have:=Heap.lt_size e;simp;exact TB this) (Heap.get?_push_of_some _ e)
  refine⟨.bl _,H,I',rfl,_,rfl,?_⟩;have:=h h' tk I';simpa using this
 ·obtain⟨its,r1,p,hz⟩:=I.tuple sq;have e:=nF ra r1 qb;subst e;have hlt:a<s.heap.objs.size:=by obtain⟨o,e,_⟩:=p;exact Heap.lt_size e
  refine wpAny_pyIter_tuple p ⟨s.heap.objs.size,_,_,_,_,_,_,rfl,Walks.tuple hh s.heap.objs.size a (TB hlt) _,⟨⟨_,Heap.get?_push_size _ rfl,rfl,rfl⟩,?_⟩,qN bs,λh' tk k=>?_⟩
  ·obtain⟨o,e,r⟩:=p;exact⟨o,Heap.get?_push_of_some _ e,r⟩
  have I':L2.Inv X af σ H {s with heap:=h',toks:=tk}:=I.kept λb o e=>k b o (by have:=Heap.lt_size e;simp;exact TB this) (Heap.get?_push_of_some _ e)
  refine⟨.bl _,H,I',rfl,_,rfl,?_⟩;have:=h h' tk I';simpa using this
def S7:D->Option String
 | .non=>Z "NoneType"
 | .bl _=>Z "bool"
 | .int _=>Z "int"
 | .str _=>Z "str"
 | .tup _=>Z "tuple"
 | .lst _=>Z "list"
 | .ro _=>Z "list"
 | _=>Y
def MR (d:D)(M:aq):Option String:=match d with
 | .mr k=>match M[k]? with
  | some (.lst _)=>Z "list"
  | _=>Y
 | d=>S7 d
def Fo (t T:String):Bool:=t==T||(t=="bool"&&T=="int")
def mZ (T:String)(g:GE):GE:=λρ M=>(g ρ M).bind λd M1=>match MR d M1 with
 | some t=>.ok (.bl (Fo t T)) M1
 | none=>.bad
def rX (T:String):Prop:=T="int"\/T="bool"\/T="str"\/T="tuple"\/T="list"
def fq (K:W.Frag)(hT:rX T):∀t∈["NoneType","bool","int","str","tuple","list"],W.kitOne K (.type t) (.type T)=Z (Fo t T):=by
 intro t ht;simp only[mem_cons,mem_nil_iff,or_false] at ht;rcases hT with rfl|rfl|rfl|rfl|rfl <;> rcases ht with rfl|rfl|rfl|rfl|rfl|rfl <;> rfl
def MB (hT:rX T):fz X (.builtin "isinstance") (λxs H Q=>∃θ M d v,Wr X.K θ H M/\cz X.K θ H d v/\xs=[v,.ty T]/\aF X θ H Q (match MR d M with|some t=>.ok (.bl (Fo t T)) M|none=>.bad)):=by
 intro af s σ H xs us Q I r h;obtain⟨θ,M,d,v,hw,rv,e,h⟩:=h;subst e;obtain⟨u,c,rfl,ru,rc⟩:=Bc r;cases rc;have fin:∀t tk,MR d M=Z t->EP X af σ Q (.bool (Fo t T)) {s with toks:=tk}:=λt tk e=>by
  rw[e] at h;exact⟨.bl _,H,I.tok _,rfl,h _ θ H (.refl hw) rfl⟩
 cases d with
 | non=>have e:v=.non:=rv;subst e;cases ru;exact W.kia_one W.kitx_none I.kIn Ve (fq X.K hT "NoneType" (by simp)) (λz=>nomatch z) λtk=>fin _ tk rfl
 | bl b=>have e:v=.bl b:=rv;subst e;cases ru;exact W.kia_one W.kitx_bool I.kIn Ve (fq X.K hT "bool" (by simp)) (λz=>nomatch z) λtk=>fin _ tk rfl
 | int i=>have e:v=.int i:=rv;subst e;obtain⟨t,rfl⟩:=ru;exact W.kia_one W.kitx_int I.kIn Ve (fq X.K hT "int" (by simp)) (λz=>nomatch z) λtk=>fin _ tk rfl
 | str i=>have e:v=.str i:=rv;subst e;obtain⟨t,rfl⟩:=ru;exact W.kia_one W.kitx_str I.kIn Ve (fq X.K hT "str" (by simp)) (λz=>nomatch z) λtk=>fin _ tk rfl
 | tup ds=>
  obtain⟨a,vs,e,ta,ra⟩:=rv;subst e;cases ru;obtain⟨its,_,⟨o,h1,h2,_⟩,_⟩:=I.tuple ta.sq;exact W.kia_one W.kitx_tuple I.kIn ⟨o,h1,h2⟩ (fq X.K hT "tuple" (by simp)) (λz=>nomatch z) λtk=>fin _ tk rfl
 | lst ds=>
  obtain⟨a,vs,e,ta,ra⟩:=rv;subst e;cases ru;obtain⟨its,_,⟨o,n,h1,h2,_⟩,_⟩:=I.list (ta.sq (K:=X.K));exact W.kia_one W.kitx_list I.kIn ⟨o,h1,h2⟩ (fq X.K hT "list" (by simp)) (λz=>nomatch z) λtk=>fin _ tk rfl
 | ro ds=>
  obtain⟨a,vs,e,ta,ra⟩:=rv;subst e;cases ru;obtain⟨its,_,⟨o,n,h1,h2,_⟩,_⟩:=I.list ta.sq;exact W.kia_one W.kitx_list I.kIn ⟨o,h1,h2⟩ (fq X.K hT "list" (by simp)) (λz=>nomatch z) λtk=>fin _ tk rfl
 | mr k=>
  obtain⟨a,e,ta⟩:=rv;subst e;cases ru;cases qm:M[k]? with
  | none=>simp only[MR,qm] at h;exact h.elim
  | some m=>
   cases m with
   | lst ys=>
    obtain⟨vs,hv,_⟩:=hw.at_ k a _ ta qm;obtain⟨its,_,⟨o,n,h1,h2,_⟩,_⟩:=I.list (X:=X) (xs:=vs) (.inl (.inl hv));exact W.kia_one W.kitx_list I.kIn ⟨o,h1,h2⟩ (fq X.K hT "list" (by simp)) (λz=>nomatch z) λtk=>fin _ tk (by simp only[MR,qm])
   | _=>simp only[MR,qm] at h;exact h.elim
 | exc c=>exact h.elim
 | any=>exact h.elim
def K0 (hT:rX T)(hv:bootBuiltins x=Z (.type T))(hg:Gl X x)(hm:X.mg x=Y)(hgi:Gl X "isinstance")(hmi:X.mg "isinstance"=Y)(he:PE X e (tE X g))
  (hn:x≠"__name__":=by decide) (hd:(x==("__debug__":Str))=false:=by decide) (hbi:bootBuiltins "isinstance"=Z (.builtin "isinstance"):=by kernel_rfl) (hs:starEach [e,.Name x p2] X.env=(false,eval e X.env)::starEach [.Name x p2] X.env:=by rfl)
  (hs2:starEach [.Name x p2] X.env=(false,eval (.Name x p2) X.env)::starEach [] X.env:=by rfl) (hpl:(backTo pos (starEach [.Name x p2] X.env)).any (·.1)=false:=by rfl) :
  PE X (.Call (.Name "isinstance" p) [e,.Name x p2] [] pos) (tE X (mZ T g)):=
 (zj (MB hT) hgi hmi hbi (mU he (mU (Ij hg hm hv (v:=.ty T) rfl hn hd) tK hs2) hs) (by decide) (by rfl) hs hpl).of λσ H Q hxx=>by
  obtain⟨ρ,θ,M,hd,hw,h⟩:=hxx;refine bf hd hw (aF X θ H Q) (λc M' h=>h) (λh=>h) h λd M1 v θ1 H1 g1 r1 h1=>?_
  exact⟨θ1,M1,d,v,g1.wr,r1,rfl,aF.go g1 h1⟩
end
def qZ:D->Bool
 | .non=>true
 | .bl _=>true
 | .int _=>true
 | .str _=>true
 | _=>false
def NK:D->V
 | .non=>.non
 | .bl b=>.bl b
 | .int i=>.int i
 | .str x=>.str x
 | _=>.non
def Bv {K:W.Frag}(r:cz K θ H d v)(f:qZ d=true):v=NK d/\ny v=true:=by
 cases d with
 | non=>subst r;exact⟨rfl,rfl⟩
 | bl b=>subst r;exact⟨rfl,rfl⟩
 | int b=>subst r;exact⟨rfl,rfl⟩
 | str b=>subst r;exact⟨rfl,rfl⟩
 | _=>cases f
theorem yE {K:W.Frag}:∀{ds:List D} {vs:List V},aY K θ H ds vs->ds.all qZ=true->vs=ds.map NK/\vs.all ny=true
 | [],vs,r,f=>by subst r;exact⟨rfl,rfl⟩
 | d::ds,vs,r,f=>by
  obtain⟨v,rr,e,h1,h2⟩:=r;subst e;rw[all_cons,Tz] at f;obtain⟨e1,f1⟩:=Bv h1 f.1;obtain⟨e2,f2⟩:=yE h2 f.2;exact⟨by simp_all,by rw[all_cons,f1,f2];rfl⟩
def Ir (fx:qZ x=true)(fy:qZ y=true):HF (NK x) (NK y)=rZ x y:=by
 cases x <;> first|exact ff fx|(cases y <;> first|exact ff fy|rfl)
theorem BY:∀{ds:List D},qZ x=true->ds.all qZ=true->Qz (NK x) (ds.map NK)=ds.any λy=>rZ y x
 | [],fx,fs=>rfl
 | d::ds,fx,fs=>by
  rw[all_cons,Tz] at fs;have ih:=BY   fx fs.2;unfold Qz at ih ⊢;rw[map_cons,any_cons,any_cons,ih,Ir fs.1 fx]
def Aq (neg:Bool):F2:=λx y M=>match a7 y M with
 | some xs=>if qZ x&&xs.all qZ then .ok (.bl ((xs.any λy=>rZ y x) != neg)) M else .bad
 | none=>.bad
section
variable {X:Cx}
def Qn:oz X (compareOp .In) (rD X (Aq false)):=by
 intro af s σ H x y v u Q I rx ry h;obtain⟨θ,M,dx,dy,hw,r1,r2,h⟩:=h;unfold Aq at h;split at h
 ·rename_i xs q;split at h
  ·rename_i hc;rw[Tz] at hc;obtain⟨a,vs,ea,sq,ra⟩:=qj hw r2 q;obtain⟨e1,f1⟩:=Bv r1 hc.1;obtain⟨e2,f2⟩:=yE ra hc.2;refine Dp af s σ H x y v u Q I rx ry ⟨a,vs,ea,sq,f1,f2,?_⟩;have:=h _ θ H (.refl hw) rfl;rw[Yq] at this;rwa [e1,e2,BY hc.1 hc.2]
  ·exact h.elim
 ·exact h.elim
end
section
variable {prog:Program}{w:World}{A:Around}{E:Value->Shared->Prop}{s:Shared}
theorem nh {f:α->Option β}{g:α->β}:∀(l:List α),(∀k∈l,f k=Z (g k))->l.filterMap f=l.map g
 | [],_=>rfl
 | k::l,h=>by rw[filterMap_cons,h k mem_cons_self,map_cons,nh l λk' hk=>h k' (mem_cons_of_mem _ hk)]
def EI (xs:Array Value):((Tw xs.size).filterMap λ(k:Nat)=>xs[(((xs.size:Int)-1)+(k:Int)*(-1)).toNat]?).toArray=xs.toList.reverse.toArray:=by
 congr 1;have e:∀k∈Tw xs.size,xs[(((xs.size:Int)-1)+(k:Int)*(-1)).toNat]?=Z (xs.toList.reverse.getD k .none):=λk hk=>by
  have hk:=mem_range.mp hk;have e1:(((xs.size:Int)-1)+(k:Int)*(-1)).toNat=xs.size-1-k:=by omega
  rw[e1,getD_eq_getElem?_getD,getElem?_reverse (by simpa using hk)];simp;rw[Ua (by omega)];rfl
 rw[nh _ e];apply ext_getElem
 ·simp
 ·intro i h1 h2;simp at h1 h2 ⊢;rw[getElem?_eq_getElem (by simpa using h2)];simp
def oP {t:Addr}(ht:IsTup s.heap t items)(hs:s.heap.IsSliceOf sl .none .none (.int (-1) tk))
  (h:Q (.ref s.heap.objs.size) {s with heap:=s.heap.push {cls:=.type "tuple",data:=.seq items.toList.reverse.toArray}}) (hsz:items.size<=sizeLine):wpAny (model prog w) A (getItem (.ref t) (.ref sl)) Q E s:=by
 have hrev:sizeOk (.seq items.toList.reverse.toArray):=by
  show items.toList.reverse.toArray.size<=sizeLine;simpa using hsz
 obtain⟨os,hos,hcs,hds⟩:=id hs;have hTs:s.TypeIs (.ref sl) "slice":=⟨os,hos,hcs⟩;unfold getItem
 try with_reducible refine wpAny_holding ?_
 first|refine wpAny_bind (wpAny_pure ?_)|skip
 refine wpAny_bind (wpAny_sequenceKey ht.typeIs (by decide) ?_);refine wpAny_bind (wpAny_callSpecial?_slot (name:=Str.ofString "__getitem__") ht.typeIs TQ
  (wpAny_call_entry TQ ht.typeIs entry_tuple_getitem ?_ (args_tuple_getitem _ _)))
 show wpAny _ _ (Builtin.Tuple.tupleItemsOf (.ref t) >>= _) _ _ s;refine wpAny_bind (tupleItemsOf_ ht ?_);refine wpAny_bind (wpAny_typeOf hTs ?_);rw[if_pos (by decide)];refine wpAny_bind ?_;unfold Builtin.Slice.sliceApplied Builtin.Slice.sliceFields;refine wpAny_bind (wpAny_bind (wpAny_field hos hds (x:=.none) rfl (wpAny_bind (wpAny_field hos hds (x:=.none) rfl (wpAny_bind (wpAny_field hos hds (x:=.int (-1) tk) rfl (wpAny_pure ?_)))))));refine wpAny_bind (slicePart_int ?_);show wpAny _ _ (if((-1:Int)==0)=true then _ else _) _ _ s;rw[if_neg (by decide)];refine wpAny_bind (slicePart_none (wpAny_bind (slicePart_none (wpAny_bind (wpAny_pure ?_)))));have ea:Builtin.Slice.sliceAdjust Y Y (-1) (items.size:Int)=((items.size:Int)-1,-1):=by
  unfold Builtin.Slice.sliceAdjust;simp
 have ep:Builtin.Slice.slicePlaces ((items.size:Int)-1) (-1) (-1)=items.size:=by
  unfold Builtin.Slice.slicePlaces;simp only[show¬((-1:Int)>0) by decide,if_false]
  by_cases hz:items.size=0
  ·rw[hz];decide
  ·rw[if_pos (by omega)];simp
 show wpAny _ _ (match Builtin.Slice.sliceAdjust Y Y (-1) (items.size:Int) with|(lo,hi)=>pure (lo,(-1:Int),Builtin.Slice.slicePlaces lo hi (-1))) _ _ s;rw[ea];show wpAny _ _ (pure ((items.size:Int)-1,(-1:Int),Builtin.Slice.slicePlaces ((items.size:Int)-1) (-1) (-1))) _ _ s;rw[ep];refine wpAny_pure ?_;have hno:¬((((items.size:Int)-1)==0&&(-1:Int)==1&&items.size==items.size)=true):=by
  intro q;rw[Tz,Tz] at q;exact absurd q.1.2 (by decide)
 show wpAny _ _ (if((((items.size:Int)-1)==0&&(-1:Int)==1&&items.size==items.size))=true then _ else _) _ _ s;rw[if_neg hno,EI]
 first
  | exact wpAny_bind (m:=Builtin.Tuple.tupleExact _) (wpAny_newObj_type (wpAny_pure ⟨_,rfl,wpAny_pure h⟩) hrev)
  | exact wpAny_bind (m:=Builtin.Tuple.tupleExact _) (wpAny_newObj_type (wpAny_bind (wpAny_pure (wpAny_pure ⟨_,rfl,wpAny_pure h⟩))) hrev)
  | exact wpAny_bind (wpAny_bind (m:=Builtin.Tuple.tupleExact _) (wpAny_newObj_type (wpAny_pure (wpAny_pure ⟨_,rfl,wpAny_pure h⟩)) hrev))
  | exact wpAny_bind (wpAny_bind (m:=Builtin.Tuple.tupleExact _) (wpAny_newObj_type (wpAny_pure ⟨_,rfl,wpAny_pure h⟩) hrev))
end
def JL (g:GE):GE:=λρ M=>(g ρ M).bind λx M1=>match x with
 | .tup xs=>.ok (.tup xs.reverse) M1
 | _=>.bad
theorem pG {K:W.Frag}:∀{ds:List D} {vs:List V},aY K θ H ds vs->aY K θ H ds.reverse vs.reverse
 | [],vs,r=>by subst r;rfl
 | d::ds,vs,r=>by
  obtain⟨v,rr,e,h1,h2⟩:=r;subst e;rw[reverse_cons,reverse_cons];exact cD (pG h2) ⟨v,[],rfl,h1,rfl⟩
section
variable {X:Cx}
def uH (k:Nat)(x:D)(M:aq):bi D:=match M[k]? with
 | some (.lst xs)=>if xs.length<sizeLine then .ok .non (M.set k (.lst (xs++[x]))) else .bad
 | _=>.bad
def gX (go ge:GE):GE:=λρ M=>(go ρ M).bind λo M1=>match o with
 | .mr k=>match M1[k]? with
  | some (.lst _)=>(ge ρ M1).bind (uH k)
  | _=>.bad
 | _=>.bad
end
def bL (f:D->Option D):List D->Option (List D)
 | []=>Z []
 | d::ds=>match f d,bL f ds with
  | some x,Z xs=>Z (x::xs)
  | _,_=>Y
def frz (n:Nat)(M:aq):Nat->D->Option D
 | 0,_=>Y
 | f+1,d=>match d with
  | .mr k=>if k<n then Z (.mr k) else match M[k]? with
   | some (.lst xs)=>(bL (frz n M f) xs).map .lst
   | _=>Y
  | .tup xs=>(bL (frz n M f) xs).map .tup
  | .lst xs=>(bL (frz n M f) xs).map .lst
  | .ro xs=>(bL (frz n M f) xs).map .ro
  | d=>Z d
def zc (f:D->Option D):List (Str×D)->Option (List (Str×D))
 | []=>Z []
 | (x,d)::r=>match f d,zc f r with
  | some e,Z r'=>Z ((x,e)::r')
  | _,_=>Y
def uU {κ:Type}(f:D->Option D):List (κ×D)->Option (List (κ×D))
 | []=>Z []
 | (x,d)::r=>match f d,uU f r with
  | some e,Z r'=>Z ((x,e)::r')
  | _,_=>Y
def iy (n:Nat)(M:aq):List MO->Option (List MO)
 | []=>Z []
 | .lst xs::r=>match bL (frz n M 30) xs,iy n M r with
  | some ys,Z r'=>Z (.lst ys::r')
  | _,_=>Y
 | .obj c fs::r=>match zc (frz n M 30) fs,iy n M r with
  | some gs,Z r'=>Z (.obj c gs::r')
  | _,_=>Y
 | .dK fs::r=>match uU (frz n M 30) fs,iy n M r with
  | some gs,Z r'=>Z (.dK gs::r')
  | _,_=>Y
 | .dT fs::r=>match uU (frz n M 30) fs,iy n M r with
  | some gs,Z r'=>Z (.dT gs::r')
  | _,_=>Y
def jD (n:Nat)(o:bi D):bi D:=match o with
 | .ok d M=>if M.length=n then .ok d M else match frz n M 30 d,iy n M (M.take n) with
  | some d',Z M'=>.ok d' M'
  | _,_=>.bad
 | .err c M=>if M.length=n then .err c M else match iy n M (M.take n) with
  | some M'=>.err c M'
  | none=>.bad
 | .bad=>.bad
section
variable {K:W.Frag}{θ more:List Addr}{H:Hp}{M:aq}{n:Nat}
theorem iz:∀{ds es:List D} {vs:List V},bL f ds=Z es->aY K θ' H ds vs->(∀d∈ds,∀e v,f d=Z e->cz K θ' H d v->cz K θ H e v)->aY K θ H es vs
 | [],es,vs,h,r,k=>by cases h;exact r
 | d::ds,es,vs,h,r,k=>by
  obtain⟨v,rr,e,h1,h2⟩:=r;unfold bL at h;cases q1:f d with
  | none=>simp_all
  | some x=>
   cases q2:bL f ds with
   | none=>simp_all
   | some xs=>
    rw[q1,q2] at h;cases h;exact⟨v,rr,e,k d mem_cons_self x v q1 h1,iz q2 h2 λd' hd=>k d' (mem_cons_of_mem _ hd)⟩
theorem qJ (hw:Wr K (θ++more) H M)(hn:θ.length=n):∀(f:Nat) (d e:D) (v:V),frz n M f d=Z e->cz K (θ++more) H d v->cz K θ H e v
 | 0,d,e,v,h,r=>by cases h
 | f+1,d,e,v,h,r=>by
  have ih:=qJ hw hn f;have sub:∀{a:Addr},a∉θ++more->a∉θ:=λ{a} z y=>z (mem_append_left _ y)
  cases d with
  | mr k=>
   obtain⟨a,ea,ta⟩:=r
   by_cases hk:k<n
   ·have h:(if k<n then Z (D.mr k) else _)=Z e:=h;rw[if_pos hk] at h;cases h;exact⟨a,ea,by rw[getElem?_append_left (by rw[hn];exact hk)] at ta;exact ta⟩
   ·have h:(if k<n then Z (D.mr k) else match M[k]? with|some (.lst xs)=>(bL (frz n M f) xs).map .lst|_=>Y)=Z e:=h;rw[if_neg hk] at h;cases qm:M[k]? with
    | none=>rw[qm] at h;cases h
    | some m=>
     cases m with
     | lst xs=>
      rw[qm] at h;have h:(bL (frz n M f) xs).map D.lst=Z e:=h;obtain⟨vs,hv,ra⟩:=hw.at_ k a _ ta qm;cases qo:bL (frz n M f) xs with
      | none=>rw[qo] at h;cases h
      | some ys=>
       rw[qo] at h;cases h;refine⟨a,vs,ea,⟨hv,λz=>?_⟩,iz qo ra λd _ e v=>ih d e v⟩;rw[getElem?_append_right (by omega)] at ta;have hm:=mem_of_getElem? ta;exact(nodup_append.mp hw.nd).2.2 a z a hm rfl
     | _=>rw[qm] at h;cases h
  | tup xs=>
   have h:(bL (frz n M f) xs).map D.tup=Z e:=h;cases qo:bL (frz n M f) xs with
   | none=>rw[qo] at h;cases h
   | some ys=>
    rw[qo] at h;cases h;obtain⟨a,vs,ea,ta,ra⟩:=r;exact⟨a,vs,ea,⟨ta.1,sub ta.2⟩,iz qo ra λd _ e v=>ih d e v⟩
  | lst xs=>
   have h:(bL (frz n M f) xs).map D.lst=Z e:=h;cases qo:bL (frz n M f) xs with
   | none=>rw[qo] at h;cases h
   | some ys=>
    rw[qo] at h;cases h;obtain⟨a,vs,ea,ta,ra⟩:=r;exact⟨a,vs,ea,⟨ta.1,sub ta.2⟩,iz qo ra λd _ e v=>ih d e v⟩
  | ro xs=>
   have h:(bL (frz n M f) xs).map D.ro=Z e:=h;cases qo:bL (frz n M f) xs with
   | none=>rw[qo] at h;cases h
   | some ys=>
    rw[qo] at h;cases h;obtain⟨a,vs,ea,ta,ra⟩:=r;refine⟨a,vs,ea,?_,iz qo ra λd _ e v=>ih d e v⟩;rcases ta with⟨t1,t2⟩|t
    ·exact .inl ⟨t1,sub t2⟩
    ·exact .inr t
  | non=>cases h;exact r
  | bl b=>cases h;exact r
  | int b=>cases h;exact r
  | str b=>cases h;exact r
  | exc c=>
   cases h;obtain⟨a,C,ea,kc,t1,t2⟩:=r;exact⟨a,C,ea,kc,t1,sub t2⟩
  | any=>cases h;exact r
theorem BW:∀{fs gs:List (Str×D)} {vs:List (Str×V)},zc f fs=Z gs->pb K θ' H fs vs->(∀d e v,f d=Z e->cz K θ' H d v->cz K θ H e v)->pb K θ H gs vs
 | [],gs,vs,h,r,k=>by cases h;exact r
 | (x,d)::fs,gs,vs,h,r,k=>by
  obtain⟨v,rr,e,h1,h2⟩:=r;unfold zc at h;cases q1:f d with
  | none=>simp_all
  | some y=>
   cases q2:zc f fs with
   | none=>simp_all
   | some ys=>
    rw[q1,q2] at h;cases h;exact⟨v,rr,e,k d y v q1 h1,BW q2 h2 k⟩
theorem wf:∀{fs gs:List (κ×D)} {vs:List (κ×V)},uU f fs=Z gs->nH K θ' H fs vs->(∀d e v,f d=Z e->cz K θ' H d v->cz K θ H e v)->nH K θ H gs vs
 | [],gs,vs,h,r,k=>by cases h;exact r
 | (x,d)::fs,gs,vs,h,r,k=>by
  obtain⟨v,rr,e,h1,h2⟩:=r;unfold uU at h;cases q1:f d with
  | none=>simp_all
  | some y=>
   cases q2:uU f fs with
   | none=>simp_all
   | some ys=>
    rw[q1,q2] at h;cases h;exact⟨v,rr,e,k d y v q1 h1,wf q2 h2 k⟩
theorem pj (hw:Wr K (θ++more) H M)(hn:θ.length=n):∀(l l':List MO),iy n M l=Z l'->l'.length=l.length/\∀(i:Nat) m m' a,l[i]?=Z m->l'[i]?=Z m'->uP K (θ++more) H m a->uP K θ H m' a
 | [],l',h=>by cases h;exact⟨rfl,λi m m' a e=>by simp at e⟩
 | .lst xs::r,l',h=>by
  unfold iy at h;cases q1:bL (frz n M 30) xs with
  | none=>rw[q1] at h;cases h
  | some ys=>
   cases q2:iy n M r with
   | none=>rw[q1,q2] at h;cases h
   | some r'=>
    rw[q1,q2] at h;cases h;obtain⟨hl,hr⟩:=pj hw hn r r' q2;refine⟨by rw[length_cons,length_cons,hl],λi m m' a e1 e2 ok=>?_⟩;cases i with
    | zero=>
     have e1:Z (MO.lst xs)=Z m:=e1;have e2:Z (MO.lst ys)=Z m':=e2;cases e1;cases e2;obtain⟨vs,hv,ra⟩:=ok;exact⟨vs,hv,iz q1 ra λd _ e v=>qJ hw hn 30 d e v⟩
    | succ i=>exact hr i m m' a e1 e2 ok
 | .obj c fs::r,l',h=>by
  unfold iy at h;cases q1:zc (frz n M 30) fs with
  | none=>rw[q1] at h;cases h
  | some gs=>
   cases q2:iy n M r with
   | none=>rw[q1,q2] at h;cases h
   | some r'=>
    rw[q1,q2] at h;cases h;obtain⟨hl,hr⟩:=pj hw hn r r' q2;refine⟨by rw[length_cons,length_cons,hl],λi m m' a e1 e2 ok=>?_⟩;cases i with
    | zero=>
     have e1:Z (MO.obj c fs)=Z m:=e1;have e2:Z (MO.obj c gs)=Z m':=e2;cases e1;cases e2;obtain⟨C,dx,vs,kC,hv,ra⟩:=ok;exact⟨C,dx,vs,kC,hv,BW q1 ra λd e v=>qJ hw hn 30 d e v⟩
    | succ i=>exact hr i m m' a e1 e2 ok
 | .dK fs::r,l',h=>by
  unfold iy at h;cases q1:uU (frz n M 30) fs with
  | none=>rw[q1] at h;cases h
  | some gs=>
   cases q2:iy n M r with
   | none=>rw[q1,q2] at h;cases h
   | some r'=>
    rw[q1,q2] at h;cases h;obtain⟨hl,hr⟩:=pj hw hn r r' q2;refine⟨by rw[length_cons,length_cons,hl],λi m m' a e1 e2 ok=>?_⟩;cases i with
    | zero=>
     have e1:Z (MO.dK fs)=Z m:=e1;have e2:Z (MO.dK gs)=Z m':=e2;cases e1;cases e2;obtain⟨vs,hv,ra⟩:=ok;exact⟨vs,hv,wf q1 ra λd e v=>qJ hw hn 30 d e v⟩
    | succ i=>exact hr i m m' a e1 e2 ok
 | .dT fs::r,l',h=>by
  unfold iy at h;cases q1:uU (frz n M 30) fs with
  | none=>rw[q1] at h;cases h
  | some gs=>
   cases q2:iy n M r with
   | none=>rw[q1,q2] at h;cases h
   | some r'=>
    rw[q1,q2] at h;cases h;obtain⟨hl,hr⟩:=pj hw hn r r' q2;refine⟨by rw[length_cons,length_cons,hl],λi m m' a e1 e2 ok=>?_⟩;cases i with
    | zero=>
     have e1:Z (MO.dT fs)=Z m:=e1;have e2:Z (MO.dT gs)=Z m':=e2;cases e1;cases e2;obtain⟨vs,hv,ra⟩:=ok;exact⟨vs,hv,wf q1 ra λd e v=>qJ hw hn 30 d e v⟩
    | succ i=>exact hr i m m' a e1 e2 ok
def GN {H0:Hp}{M2:aq}{n:Nat}(hn:θ0.length=n)(g:Go K θ0 H0 θ' H' M')(h:iy n M' (M'.take n)=Z M2):Go K θ0 H0 θ0 H' M2:=by
 obtain⟨m,em,hm⟩:=g.ext;have hw:=g.wr;rw[em] at hw;obtain⟨hl,hr⟩:=pj hw hn _ _ h;have hlen:n<=M'.length:=by rw[<-g.wr.len,em,length_append];omega
 refine⟨⟨⟨[],by simp,λ_ z=>by cases z⟩,g.keep,g.tkeep⟩,by grind,(nodup_append.mp hw.nd).1,λi a mo e1 e2=>?_,g.wr.tb⟩;have hi:i<n:=by rw[<-hn];exact(Tf.mp e1).1
 have hiM:i<M'.length:=by omega
 refine hr i M'[i] mo a (by rw[getElem?_take_of_lt hi];exact getElem?_eq_getElem hiM) e2 (hw.at_ i a _ ?_ (getElem?_eq_getElem hiM));rwa [getElem?_append_left (by simp_all)]
end
def MK {K:W.Frag}{k:Nat}(h:eM P w K mg base CX k f fd ps (rq K n F)) :
  eM P w K mg base CX k f fd ps (rq K n λds M=>jD M.length (F ds M)):=h.imp λvs H Q E hxx=>by
 obtain⟨θ,M,ds,hl,r,hw,q⟩:=hxx;refine⟨θ,M,ds,hl,r,hw,?_⟩;have q:Af K θ H Q E (jD M.length (F ds M)):=q;cases e:F ds M with
 | bad=>rwa [e] at q
 | err c M1=>
  rw[e] at q;have q:Af K θ H Q E (if M1.length=M.length then .err c M1 else match iy M.length M1 (M1.take M.length) with|some M'=>.err c M'|none=>.bad):=q;split at q
  ·exact q
  ·split at q
   ·rename_i M2 e2;exact λC θ' H' a kC g=>q C θ H' a kC (GN hw.len g e2)
   ·exact q.elim
 | ok d M1=>
  rw[e] at q;have q:Af K θ H Q E (if M1.length=M.length then .ok d M1 else match frz M.length M1 30 d,iy M.length M1 (M1.take M.length) with|some d',Z M'=>.ok d' M'|_,_=>.bad):=q;split at q
  ·omega
  ·split at q
   ·rename_i d' M2 e1 e2;intro v θ' H' g rd;refine q v θ H' (GN hw.len g e2) ?_;obtain⟨m,em,_⟩:=g.ext;have hw':=g.wr;rw[em] at hw' rd;exact qJ hw' hw.len 30 d d' v e1 rd
   ·exact q.elim
structure Fn (K:W.Frag)(mg:Str->Option Value)(x:Str)(st:Stmt)(f:Addr)(fd:FuncData)(ps:List Str):Prop where
 F:HP K x x st f fd
 m:mg x=Z (.ref f)
 b:f6 K fd ps []
section
variable {X:Cx}
def vv (i:Nat)(hN:X.N[i]?=Z x:=by rfl)(hv:NJ X.env.scope x:=by first|exact X2 rfl|exact WV (X2 rfl)|exact WV (WV rfl))(hd:(x==("__debug__":Str))=false:=by decide)
  (hcd:(x==("__classdict__":Str))=false:=by decide):PE X (.Name x pos) (tE X (ae i)):=NG (ET hN hv hd hcd)
def ss (i:Nat)(hN:X.N.Nodup)(he:PE X e (tE X g))(hi:X.N[i]?=Z x:=by rfl)(hx:G3 X.env.scope x:=by first|exact X2 rfl|exact WV rfl)
  (hs:swapsWith e (Z (.Name x pos')) pos.line X.env=pure false:=by rfl) (hf:X.fn x=true\/X.env.scope.names.lookup x=Z .local:=by first|exact .inl rfl|exact .inr rfl) :
  PS X (.Assign [.Name x pos'] e pos) (tS X (aQ i g)):=Li hN hi hx he hs hf
def gg (i:Nat)(hN:X.N.Nodup)(hi:X.N[i]?=Z x:=by rfl)(hx:G3 X.env.scope x:=by first|exact X2 rfl|exact WV rfl)(hf:X.fn x=true\/X.env.scope.names.lookup x=Z .local:=by first|exact .inl rfl|exact .inr rfl):PG X (.Name x pos) (tG X (dL i)):=xi hN hi hx hf
end
def LU {K:W.Frag}{a:Addr}{ns:List Int}(tb:m3 K H)(hS:oy K H a (ns.map V.int))(h:∃M',F [.ro (ns.map D.int)] []=.ok (.bl true) M'):rq K 1 F [.ref a] H (λv _=>v=.bl true) E:=by
 obtain⟨M',e⟩:=h;refine⟨[],[],[.ro (ns.map D.int)],rfl,⟨_,[],rfl,⟨a,ns.map V.int,rfl,?_,?_⟩,rfl⟩,⟨rfl,nodup_nil,λi a m e=>by simp_all,tb⟩,?_⟩
 ·rcases hS with h|h
  ·exact .inl ⟨h,by simp⟩
  ·exact .inr h
 ·clear e
  induction ns with
  | nil=>rfl
  | cons n ns ih=>
   refine⟨.int n,ns.map V.int,rfl,rfl,?_⟩;have gen:∀l:List Int,aY K [] H (l.map D.int) (l.map V.int):=by
    intro l
    induction l with
    | nil=>rfl
    | cons m l ih=>exact⟨_,_,rfl,rfl,ih⟩
   exact gen ns
 ·rw[e];exact λv θ' H' g r=>r
def dZ (t:GT)(b:GS):Nat->dY->aq->bi Fl
 | 0,_,_=>.bad
 | n+1,ρ,M=>(t ρ M).bind λc M1=>if c then(b ρ M1).bind λf M2=>match f with
   | .nx ρ2=>dZ t b n ρ2 M2
   | .ct ρ2=>dZ t b n ρ2 M2
   | .bk ρ2=>.ok (.nx ρ2) M2
   | .rt d=>.ok (.rt d) M2
  else .ok (.nx ρ) M1
def qF (n:Nat)(t:GT)(b:GS):GS:=dZ t b n
def Fd (hp:PassesOwn (model X.prog X.w) X.A X.env X.xe)(hc:PT X c (tT X tc))(hb:PSs X body (tS X gb)):PS X (.While c body [] pos) (tS X (qF n tc gb)):=
 (Gj hp hc hb).of λD σ H hxx=>by
  obtain⟨ρ,θ,M,hd,hw,h⟩:=hxx;refine⟨λm σ' H'=>∃ρ' θ' M',lM X.K θ' H' σ' ρ'/\Wr X.K θ' H' M'/\bR X θ' H' D (dZ tc gb m ρ' M'),⟨n,ρ,θ,M,hd,hw,h⟩,?_⟩;rintro m σ' H' ⟨ρ',θ',M',hd',hw',h'⟩;cases m with
  | zero=>exact h'.elim
  | succ m=>
   refine vS hd' hw' (bR X θ' H' D) (λc M' h=>h) (λh=>h) h' λc M1 θ1 H1 g1 h1=>?_
   cases c with
   | false=>
    exact h1 σ' θ1 H1 g1 (hd'.go g1)
   | true=>
    rw[if_pos rfl];refine⟨λσ2 H2=>∃ρ2 θ2 M2,lM X.K θ2 H2 σ2 ρ2/\Wr X.K θ2 H2 M2/\bR X θ2 H2 D (dZ tc gb m ρ2 M2),λσ2 H2 q=>⟨m,Vv _,q⟩,ρ',θ1,M1,hd'.go g1,g1.wr,?_⟩;have h2:=bR.go g1 h1;cases q:gb ρ' M1 with
    | bad=>rw[q] at h2;exact h2
    | err c M2=>rw[q] at h2;exact h2
    | ok f M2=>
     rw[q] at h2;cases f with
     | nx ρ2=>exact λσ2 θ2 H2 g2 d2=>⟨ρ2,θ2,M2,d2,g2.wr,bR.go g2 h2⟩
     | ct ρ2=>exact λσ2 θ2 H2 g2 d2=>⟨ρ2,θ2,M2,d2,g2.wr,bR.go g2 h2⟩
     | bk ρ2=>exact h2
     | rt d=>exact h2
def cA:Expr->Bool
 | .Starred _ _=>false
 | _=>true
def eV (es:List Expr):Bool:=es.all cA
def sE (h:cA e=true):starEach (e::es) env=(false,eval e env)::starEach es env:=by
 cases e <;> first|rfl|(simp[cA] at h)
theorem sS:∀{es:List Expr},eV es=true->(backTo pos (starEach es env)).any (·.1)=false
 | [],_=>rfl
 | e::es,h=>by
  unfold eV at h;rw[all_cons,Tz] at h;have ih:=sS (pos:=pos) (env:=env)  h.2;rw[sE h.1];assumption
end DL
namespace DL
open PySem L2
def Jp (h:-(2 ^ 62)<=j/\j<2 ^ 62)(M:aq):z6 [.int j] M=.ok ⟨aX 0 j.toNat,Y⟩ M:=if_pos h
def zl {n:Nat}(h:n<=1000000)(M:aq):z6 [.int (n:Int)] M=.ok ⟨aX 0 n,Y⟩ M:=by
 rw[(Jp  (by omega) M)];rfl
theorem l7:mY.ok ⟨ds,Y⟩ M=true:=rfl
theorem xU {P:aq->Prop}{Q:D->Prop}:∀(ds:List D),(∀d∈ds,∀M,P M->∃e M',P M'/\Q e/\ge (Z d::ρ) M=.ok e M')->∀M,P M->
  ∃es M',P M'/\es.length=ds.length/\(∀e∈es,Q e)/\bE ⟨ds0,Y⟩ bq ge ds ρ M=.ok es M'
 | [],h,M,hM=>⟨[],M,hM,rfl,(λe he=>by cases he),rfl⟩
 | d::ds,h,M,hM=>by
  obtain⟨e,M1,h1,q1,e1⟩:=h d TN M hM;obtain⟨es,M2,h2,l2,q2,e2⟩:=xU (ds0:=ds0) ds (λd' hd=>h d' (T6 _ hd)) M1 h1;refine⟨e::es,M2,h2,by simp_all,λx hx=>?_,?_⟩
  ·rcases Ur.mp hx with z|z
   ·simp_all
   simp_all
  ·simp[bE,l7,bq,e1,e2]
theorem oO:∀(ds:List D),(∀d∈ds,ge (Z d::ρ) M=.ok (f d) M)->bE ⟨ds0,Y⟩ bq ge ds ρ M=.ok (ds.map f) M
 | [],h=>rfl
 | d::ds,h=>by
  simp[bE,l7,bq,(h d TN),(oO  ds λd' hd=>h d' (T6 _ hd))]
def nw (lo:Int)(n:Nat):(aX lo n).length=n:=by simp[aX]
def bX (h:n<=1000000):n<=To:=TL h (by decide)
theorem lW (n:Nat):∀ks:List Int,bn n (ks.map D.int)=true
 | []=>by rfl
 | k::ks=>TJ.mpr ⟨by rfl,lW n ks⟩
end DL
namespace DL
@[simp] theorem SD (i j:Int):rZ (.int i) (.int j)=(i==j):=rfl
@[simp] theorem RA (i j:Bool):rZ (.bl i) (.bl j)=(i==j):=rfl
@[simp] theorem SF (i j:PySem.Str):rZ (.str i) (.str j)=(i==j):=rfl
@[simp] theorem Rh:rZ .non .non=true:=rfl
@[simp] theorem Sd (i:Int):rZ (.int i) .non=false:=rfl
@[simp] theorem Q1 (i:Int):rZ .non (.int i)=false:=rfl
@[simp] theorem Q6 (xs ys:List D):rZ (.tup xs) (.tup ys)=iY xs ys:=rfl
@[simp] theorem Su (xs ys:List D):rZ (.lst xs) (.lst ys)=iY xs ys:=rfl
@[simp] theorem O2:iY [] []=true:=rfl
@[simp] theorem QU (y:D) (ys:List D):iY [] (y::ys)=false:=rfl
@[simp] theorem Qw (y:D) (ys:List D):iY (y::ys) []=false:=rfl
@[simp] theorem Qv (x y:D) (xs ys:List D):iY (x::xs) (y::ys)=(rZ x y&&iY xs ys):=rfl
@[simp] theorem NN (n:Nat) (i:Int):bH n (.int i)=true:=by rfl
@[simp] theorem Ph (n:Nat) (i:Bool):bH n (.bl i)=true:=by cases n <;> rfl
@[simp] theorem NP (n:Nat):bH n .non=true:=by cases n <;> rfl
@[simp] theorem NO (n:Nat) (x:PySem.Str):bH n (.str x)=PySem.PyData.strOk x:=by rfl
@[simp] theorem Dr (n:Nat) (xs:List D):bH (n+1) (.tup xs)=bn n xs:=rfl
@[simp] theorem De (n:Nat) (xs:List D):bH (n+1) (.lst xs)=bn n xs:=rfl
@[simp] theorem Kf (xs:List D):bH 40 (.tup xs)=bn 39 xs:=Dr 39 xs
@[simp] theorem Kg (xs:List D):bH 40 (.lst xs)=bn 39 xs:=De 39 xs
@[simp] theorem L5 (n:Nat):bn n []=true:=by rfl
@[simp] theorem JY (n:Nat) (x:D) (xs:List D):bn n (x::xs)=(bH n x&&bn n xs):=by rfl
@[simp] theorem QV (i:Int) (M:aq):now (.int i) M=.int i:=rfl
@[simp] theorem Ry (i:Bool) (M:aq):now (.bl i) M=.bl i:=rfl
@[simp] theorem QH (M:aq):now .non M=.non:=rfl
@[simp] theorem Qs (x:PySem.Str) (M:aq):now (.str x) M=.str x:=rfl
@[simp] theorem QQ (xs:List D) (M:aq):now (.tup xs) M=.tup xs:=rfl
@[simp] theorem QR (xs:List D) (M:aq):now (.lst xs) M=.lst xs:=rfl
end DL
namespace DL
open PySem PySem.Spec PyProof.Rows L2 PySem.W PySem.Builtin PySem.Builtin.ObjectAttr PySem.Builtin.Getset_descriptor List
structure RP (K:Tp)(C:Th):Prop where
 cl:(clsIn K C).isSome=true
 ca:Vd K (.ref C) "__class__"=Z (Z (.builtin "object.__class__"))
 sp:specialIn K (.builtin "object.__class__") "__get__"=Z (Z (.builtin "getset_descriptor.__get__"))
 tk:takesIn K (.builtin "object.__class__")=Z true
 ob:XQ K C (.type "object")=Z true
 ga:Vd K (.ref C) "__getattribute__"=Z (Z (.builtin "BaseException.__getattribute__"))
 gh:Vd K (.ref C) "__getattr__"=Z Y
 be:XQ K C (.type "BaseException")=Z true
end DL
namespace DL
open PySem PySem.Spec PyProof.Rows L2 List
abbrev Oz:List Td:=[.type "ValueError",.type "Exception",.type "BaseException",.type "object"]
structure Ec (K:Tp)(mg:Str->Option Td)(c:Str)(C:Th):Prop where
 at_:iG K c C
 m:mg c=Z (.ref C)
 k:RP K C
 ex:aaT K C Oz "ValueError.__new__"=true
 ty:aaX K (.ref C)=Z (.type "type")
 sf:XQ K C (.ref C)=Z true
def Kx {K:Tp}(X:K.In h)(q:aaT K C bmB newId=true) :
  ∃bm N nm qn bs hdct sn sub ab col dd k0 k1 k2 k3 k5 mN,h.get? C=Z (excClassObj nm qn C N bs bm hdct sn sub ab col dd k0 k1 k2 k3 k5 newId)/\h.Ns N mN/\mN "__init__"=Y/\OwnTail h bmB bm:=by
 unfold aaT at q;split at q
 ·rename_i d1 cd s1 at1;split at q
  ·rename_i C2 rest j0 j1 j2 j3 nn j5 e1 e2;simp only[Tz,beq_iff_eq,Xr] at q;obtain⟨⟨⟨⟨⟨r1,r2⟩,r3⟩,r4⟩,r5⟩,r6⟩:=q;subst r1;subst r2;cases cd with
   | mk c1 c2 c3 c4 c5 c6 c7 c8 c9 c10 c11=>
    dsimp only at e1 r3 r5 r6;subst e1;subst r3;have e3:s1=#[j0,j1,j2,j3,Z (.builtin nn),j5]:=by
     cases s1 with
     | mk l=>
      have e4:l=_:=e2;rw[e4]
    subst e3;refine⟨rest,c4,c1,c5,c2,c6,c7,c8,c9,c10,d1,j0,j1,j2,j3,j5,h.nsMap c4,X _ _ at1,?_,W.nsMap_none_of_in X r5 r6,W.tail_of_in X r4⟩;exact Heap.Ns.of_isNs (W.isNs_of_in X r5)
  ·cases q
 ·cases q
def jy (c:Str)(g:GE):GS:=λρ M=>(g ρ M).bind λ_ M1=>.err c M1
def Fx (k:Ec X.K X.mg c C)(hc:X.calm=true)(hg:Gl X c)(he:PE X e (tE X g))(h1:cA e=true:=by rfl)(hd:(c==("__debug__":Str))=false:=by decide) :
  PS X (.Raise (Z (.Call (.Name c np) [e] [] cpos)) Y pos) (tS X (jy c g)):=by
 intro af s σ H D I h;obtain⟨ρ,θ,M,hdn,hw,h⟩:=h;obtain⟨bm,N,nm,qn,bs,hdct,sn,sub,ab,col,dd,k0,k1,k2,k3,k5,mN,hC,hN,hni,T⟩:=Kx I.ok.mod.kin k.ex;have hs:T2 [e] X.env=(false,Uy e X.env)::T2 [] X.env:=sE h1;refine wpAny_Raise_call_subT (C:=C) (nm:=nm) (q:=qn) (N:=N) (bs:=bs) (bm:=bm) (hdct:=hdct) (sn:=sn) (sub:=sub) (ab:=ab) (col:=col) (dd:=dd) (k0:=k0) (k1:=k1) (k2:=k2) (k3:=k3) (k5:=k5)
  PySem.F.excBase_ValueError (mN:=mN) (T.hasType PySem.F.excBase_ValueError.hasBase) (I.ok.hd hc) (sS (by unfold eV;simp[h1])) hni (xE I hg k.m ⟨rfl,?_⟩ hd)
 have hv:=mU he tK hs cpos af s σ H (λvs H1=>vs.length=1/\∃θ1 M1,Go X.K θ H θ1 H1 M1/\eQ X θ1 H1 c M1) I (by
  refine bf hdn hw (bR X θ H D) (λc M' h=>h) (λh=>h) h λd M1 v θ1 H1 g1 r1 h2=>?_
  exact⟨rfl,θ1,M1,g1,eQ.go g1 h2⟩)
 rw[hs] at hv ⊢;refine WR (Vc hv (λus s2 hq=>⟨rfl,?_⟩) λ_ _ y=>y);obtain⟨vs,H1,I1,rv,hl,θ1,M1,g1,ok⟩:=hq;refine⟨by show us.length<=To;rw[<-rv.length,hl];exact TL (by decide:1<=1000000) (by rw[Uo];decide),I1.bk _ _ hC,hN.keeps I1.bk,T.keeps I1.bk,λh' e' hm=>?_⟩;exact ok C θ1 H1 e' _ k.at_ (.refl g1.wr) ⟨af,σ,.inl ⟨s2.heap,us,I1,hm⟩⟩
def Kp (i:Nat):Fl->Fl
 | .nx ρ=>.nx (ρ.set i Y)
 | .bk ρ=>.bk (ρ.set i Y)
 | .ct ρ=>.ct (ρ.set i Y)
 | .rt d=>.rt d
section
variable {X:Cx}
def GL:FD:=λds M=>match ds with
 | [.int i,.int j]=>if 0<j/\j.natAbs.log2<9000 then .ok (.tup [.int (i / j),.int (i % j)]) M else .bad
 | _=>.bad
def Hg:D->Option Str
 | .int a=>if a.natAbs.log2<1920 then Z (toString a) else Y
 | .str x=>if x.length<=To then Z x else Y
 | _=>Y
def IV (g:GE):GE:=λρ M=>(g ρ M).bind λd M1=>match Hg d with
 | some x=>.ok (.str x) M1
 | none=>.bad
def Nf (he:PE X e (tE X g))(hi:i=-1:=by rfl):PE X (.FormattedValue e i Y pos) (tE X (IV g)):=by
 subst hi;intro af s σ H Q I h;obtain⟨ρ,θ,M,hd,hw,h⟩:=h;refine FormattedValue_plain (Vc (he af s σ H (λv H1=>∃d M1 θ1,Go X.K θ H θ1 H1 M1/\cz X.K θ1 H1 d v/\aF X θ1 H1 Q (match Hg d with|some x=>.ok (.str x) M1|none=>.bad)) I ?_) (λu s1 hq=>?_) λ_ _ y=>y)
 ·exact bf hd hw (aF X θ H Q) (λc M' h=>h) (λh=>h) h λd M1 v θ1 H1 g1 r1 h1=>⟨d,M1,θ1,g1,r1,aF.go g1 h1⟩
 ·obtain⟨v,H1,I1,rv,d,M1,θ1,g1,r1,h1⟩:=hq;cases d with
  | int a=>
   have e:v=.int a:=r1;subst e;obtain⟨t,rfl⟩:=rv;unfold Hg at h1
   by_cases hc:a.natAbs.log2<1920
   ·simp only[if_pos hc] at h1;exact formatField_int_small hc ⟨.str (toString a),H1,I1.tok _,⟨_,rfl⟩,h1 _ θ1 H1 (.refl g1.wr) rfl⟩
   ·simp only[if_neg hc] at h1;exact h1.elim
  | str x=>
   have e:v=.str x:=r1;subst e;obtain⟨t,rfl⟩:=rv;unfold Hg at h1
   by_cases hc:x.length<=To
   ·simp only[if_pos hc] at h1;exact formatField_str (λt' tk=>⟨.str x,H1,I1.tok _,⟨_,rfl⟩,h1 _ θ1 H1 (.refl g1.wr) rfl⟩) hc
   ·simp only[if_neg hc] at h1;exact h1.elim
  | _=>exact h1.elim
inductive NW (X:Cx):List T9->List GE->Prop where
 | nil:NW X [] []
 | cons {e:T9} {es:List T9} {g:GE} {gs:List GE}:PE X e (tE X g)->NW X es gs->NW X (e::es) (g::gs)
def v7:List GE->Str->GE
 | [],acc=>λ_ M=>.ok (.str acc) M
 | g::gs,acc=>λρ M=>(g ρ M).bind λd M1=>match d with
  | .str y=>if(acc++y).length<=To then v7 gs (acc++y) ρ M1 else .bad
  | _=>.bad
def Jc (h:NW X es gs):∀(acc:Str) (af:List (Th×Obj)) (s:Tg) (σ:L2.St) (H:Hp) (Q:VK),acc.length<=To->L2.Inv X af σ H s->tE X (v7 gs acc) σ H Q->Tn (TF X.prog X.w) X.A (joinParts acc (evalEach es X.env)) (EP X af σ Q) X.xe s:=by
 induction h with
 | nil=>
  intro acc af s σ H Q hl I h;obtain⟨ρ,θ,M,hd,hw,h⟩:=h;exact joinParts_nil ⟨.str acc,H,I.tok _,⟨_,rfl⟩,h _ θ H (.refl hw) rfl⟩ hl
 | @cons e es g gs he hes ih=>
  intro acc af s σ H Q hl I h;obtain⟨ρ,θ,M,hd,hw,h⟩:=h;refine joinParts_cons (Vc (he af s σ H (λv H1=>∃d M1 θ1,Go X.K θ H θ1 H1 M1/\cz X.K θ1 H1 d v/\aF X θ1 H1 Q (match d with | .str y=>if(acc++y).length<=To then v7 gs (acc++y) ρ M1 else .bad|_=>.bad)) I ?_) (λu s1 hq=>?_) λ_ _ y=>y)
  ·exact bf hd hw (aF X θ H Q) (λc M' h=>h) (λh=>h) h λd M1 v θ1 H1 g1 r1 h1=>⟨d,M1,θ1,g1,r1,aF.go g1 h1⟩
  ·obtain⟨v,H1,I1,rv,d,M1,θ1,g1,r1,h1⟩:=hq;cases d with
   | str y=>
    subst r1;obtain⟨t,rfl⟩:=rv
    by_cases hc:(acc++y).length<=To
    ·simp only[if_pos hc] at h1;exact⟨hc,ih (acc++y) af s1 σ H1 Q hc I1 ⟨ρ,θ1,M1,hd.go g1,g1.wr,h1⟩⟩
    ·simp only[if_neg hc] at h1;exact h1.elim
   | _=>exact h1.elim
section
variable {o e:T9}{go ge:GE}{apos cpos:Pos}
def Ny (h:cA e=true):((Vu cpos (T2 [e] env)).all (λx=>!x.1)&&(Wb cpos (Va [] env)).all (λx=>x.1.isSome)
   && decide ([e].length+([]:List W0).length+(if([]:List W0).isEmpty then 0 else 1)<30))=true:=by
 rw[sE h];rfl
end
end
end DL
namespace DL
open PySem L2
def P9 (z:ju P w [] H s (λ_ _ _=>False) e s'):False:=by
 obtain⟨_,_,_,_,_,_,_,_,_,_,_,_,_,_,h⟩:=z;omega
end DL
namespace DL
open PySem PySem.Spec PyProof.Rows L2 List
section
variable {K:Tp}{θ:List Th}{H:Hp}{M:aq}
def jv (f:Str)(d:D):List (Str×D)->List (Str×D)
 | []=>[(f,d)]
 | (g,x)::r=>if g=f then(g,d)::r else(g,x)::jv f d r
theorem AB:∀{fs:List (Str×D)} {vs:List (Str×V)},pb K θ H fs vs->fs.lookup f=Z d->∃v,vs.lookup f=Z v/\cz K θ H d v
 | [],vs,h,e=>by cases e
 | (g,x)::fs,vs,h,e=>by
  obtain⟨v,r,rfl,h1,h2⟩:=h;rw[lookup_cons] at e ⊢;cases q:f==g with
  | true=>simp_all
  | false=>rw[q] at e;exact AB h2 e
theorem B7:∀{fs:List (Str×D)} {vs:List (Str×V)},pb K θ H fs vs->fs.lookup f=Y->vs.lookup f=Y
 | [],vs,h,e=>by cases (h);rfl
 | (g,x)::fs,vs,h,e=>by
  obtain⟨v,r,rfl,h1,h2⟩:=h;rw[lookup_cons] at e ⊢;cases q:f==g with
  | true=>simp_all
  | false=>rw[q] at e;exact B7 h2 e
theorem zF:∀{fs:List (Str×D)} {vs:List (Str×V)},pb K θ H fs vs->fs.length=vs.length
 | [],vs,h=>by cases (h);rfl
 | (g,x)::fs,vs,h=>by
  obtain⟨v,r,rfl,h1,h2⟩:=h;rw[Ug,Ug,zF h2]
theorem Fy (hd:cz K θ H d v):∀{fs:List (Str×D)} {vs:List (Str×V)},pb K θ H fs vs->pb K θ H (jv f d fs) (kO f v vs)
 | [],vs,h=>by cases (h);exact⟨v,[],rfl,hd,rfl⟩
 | (g,x)::fs,vs,h=>by
  obtain⟨u,r,rfl,h1,h2⟩:=h;show pb K θ H (if g=f then(g,d)::fs else(g,x)::jv f d fs) (if g=f then(g,v)::r else(g,u)::kO f v r)
  by_cases q:g=f
  ·rw[if_pos q,if_pos q];exact⟨v,r,rfl,hd,h2⟩
  ·rw[if_neg q,if_neg q];exact⟨u,_,rfl,h1,Fy hd h2⟩
def BV {a:Th}{fs:List (Str×D)}(w:Wr K θ H M)(hi:θ[i]?=Z a)(k:iG K c C)(r:pb K θ H fs vs)(hd:cz K θ H d v) :
  Go K θ H θ (bj H a (.ins C dx (kO f v vs))) (M.set i (.obj c (jv f d fs))):=
 rV w hi ⟨C,dx,_,k,aV,qw (pH w hi) (Fy hd r)⟩
def Jg (w:Wr K θ H M)(hx:H x=Y)(hdx:H dx=Y)(ne:dx≠x)(k:iG K c C):Go K θ H (θ++[x]) (bj (bj H dx (.own x)) x (.ins C dx [])) (M++[.obj c []]):=by
 have np:=w.fresh hx;have hx':∀b u,H b=Z u->b≠x/\b≠dx:=λb u h=>⟨bF h hx,bF h hdx⟩
 have g:Grow θ H (θ++[x]) (bj (bj H dx (.own x)) x (.ins C dx [])):=⟨⟨[x],rfl,λa ha=>by rw[UU.mp ha];exact hx⟩,λb u h _ _=>by rw[ao (hx' b u h).1,ao (hx' b u h).2];exact h,λb ps h=>⟨ps,by rw[ao (hx' b _ h).1,ao (hx' b _ h).2];exact h⟩⟩;refine⟨g,by rw[VM,VM,w.len];rfl,?_,λi a m h1 h2=>?_,(w.tb.new hdx).new (by rw[ao (Uj ne)];exact hx)⟩
 ·rw[Z2];exact⟨w.nd,by simp,λy hy z hz e=>np (by rw[UU.mp hz] at e;rw[<-e];exact hy)⟩
 ·by_cases hi:i<θ.length
  ·rw[WQ hi] at h1;rw[WQ (by rw[<-w.len];exact hi)] at h2;have hm:=UT h1;have ha:a≠x:=λe=>np (by rw[<-e];exact hm)
   have ha2:a≠dx:=λe=>w.fresh hdx (by rw[<-e];exact hm)
   exact(w.at_ i a m h1 h2).grow g (by rw[ao ha,ao ha2])
  ·have hi':i=θ.length:=by
    have:=(Tf.mp h1).1;rw[VM,length_singleton] at this;omega
   subst hi';rw[WA (Te _)] at h1;rw[WA (by rw[w.len];exact Te _)] at h2;simp only[U6,w.len,getElem?_cons_zero,Vq] at h1 h2;subst h1;subst h2;exact⟨C,dx,[],k,aV,rfl⟩
end
structure Kc (K:Tp)(mg:Str->Option Td)(c:Str)(C:Th):Prop where
 at_:iG K c C
 m:mg c=Z (.ref C)
 cl:Fv K C
def lJ (c:Str)(o:D)(M:aq):Option (Nat×List (Str×D)):=match o with
 | .mr k=>match M[k]? with
  | some (.obj c' fs)=>if c'=c then Z (k,fs) else Y
  | _=>Y
 | _=>Y
def sJ {K:Tp}{k:Nat}{fs:List (Str×D)}(hw:Wr K θ H M)(kC:iG K c C)(r:cz K θ H o v)(e:lJ c o M=Z (k,fs)) :
  ∃a dx vs,v=.ref a/\θ[k]?=Z a/\H a=Z (.ins C dx vs)/\pb K θ H fs vs/\M[k]?=Z (.obj c fs):=by
 cases o with
 | mr j=>
  obtain⟨a,ea,ta⟩:=r;have e:(match M[j]? with|some (.obj c' fs)=>if c'=c then Z (j,fs) else Y|_=>Y)=Z (k,fs):=e;cases q:M[j]? with
  | none=>rw[q] at e;cases e
  | some m=>
   cases m with
   | lst ys=>rw[q] at e;cases e
   | dK _=>simp_all
   | dT _=>simp_all
   | obj c' gs=>
    rw[q] at e;have e:(if c'=c then Z (j,gs) else Y)=Z (k,fs):=e
    by_cases hc:c'=c
    ·rw[if_pos hc] at e;cases e;subst hc;obtain⟨C',dx,vs,kC',hv,rf⟩:=hw.at_ _ a _ ta q;have:=kC'.inj kC;subst this;exact⟨a,dx,vs,ea,ta,hv,rf,q⟩
    simp_all
 | _=>cases e
section
variable {X:Cx}{c f:Str}{C:Th}{o e value:T9}{g go gv:GE}{pos pos' apos p:Pos}
def dm (c f:Str)(g:GE):GE:=λρ M=>(g ρ M).bind λo M1=>match lJ c o M1 with
 | some (_,fs)=>match fs.lookup f with
  | some d=>.ok d M1
  | none=>.bad
 | none=>.bad
def CL (c f:Str)(o y:D)(M:aq):bi Unit:=match lJ c o M with
 | some (k,fs)=>if fs.length<1000 then .ok () (M.set k (.obj c (jv f y fs))) else .bad
 | none=>.bad
def gP (c f:Str)(go gv:GE):GS:=λρ M=>(gv ρ M).bind λy M1=>(go ρ M1).bind λo M2=>(CL c f o y M2).bind λ_ M3=>.ok (.nx ρ) M3
def Nc (k:Kc X.K X.mg c C)(n:hU X.K C f)(ho:PE X o (tE X go))(hv:PE X value (tE X gv))(hs:V4 value (Z (.Attribute o f pos')) pos.line X.env=pure false:=by rfl):PS X (.Assign [.Attribute o f pos'] value pos) (tS X (gP c f go gv)):=
 (K8 ho hv hs).of λD σ H hxx=>by
  obtain⟨ρ,θ,M,hd,hw,h⟩:=hxx;refine bf hd hw (bR X θ H D) (λc M' h=>h) (λh=>h) h λy M1 vy θ1 H1 g1 r1 h1=>?_
  refine bf (hd.go g1) g1.wr (bR X θ1 H1 D) (λc M' h=>h) (λh=>h) (h1.go g1) λd M2 v θ2 H2 g2 r2 h2=>?_
  have h3:=h2.go g2;unfold CL at h3;cases q:lJ c d M2 with
  | none=>simp only[q] at h3;exact h3.elim
  | some p=>
   obtain⟨j,fs⟩:=p;simp only[q] at h3
   by_cases hl:fs.length<1000
   ·simp only[if_pos hl] at h3;obtain⟨a,dx,vs,ea,ta,hv,rf,_⟩:=sJ g2.wr k.at_ r2 q;have gs:=BV (f:=f) (dx:=dx) g2.wr ta k.at_ rf (r1.go g2);exact⟨a,C,dx,vs,ea,hv,k.cl,n,by rwa [<-zF rf],h3 σ θ2 _ gs (((hd.go g1).go g2).go gs)⟩
   ·simp only[if_neg hl] at h3;exact h3.elim
def fc (c m:Str)(n:Nat)(F:FD)(go:GE)(ga:GA):GE:=λρ M=>(go ρ M).bind λo M1=>match lJ c o M1 with
 | some (_,fs)=>if fs.lookup m=Y then(ga ρ M1).bind λds M2=>if ds.length+1=n then F (o::ds) M2 else .bad else .bad
 | none=>.bad
def D8 (k:Kc X.K X.mg c C)(h:tE X (fc c m n F go ga) σ H Q):EM C m (rq X.K n F) [] (Jm X) (tE X go) (tA X ga) σ H Q:=by
 obtain⟨ρ,θ,M,hd,hw,h⟩:=h;refine bf hd hw (aF X θ H Q) (λc M' h=>h) (λh=>h) h λd M1 v θ1 H1 g1 r1 h1=>?_
 have h2:=aF.go g1 h1;cases q:lJ c d M1 with
 | none=>simp only[q] at h2;exact h2.elim
 | some p=>
  obtain⟨j,fs⟩:=p;simp only[q] at h2;obtain⟨a,dx,vs,ea,ta,hv,rf,_⟩:=sJ g1.wr k.at_ r1 q
  by_cases hl:fs.lookup m=Y
  ·simp only[if_pos hl] at h2;refine⟨a,dx,vs,ea,hv,B7 rf hl,?_⟩;refine mw (hd.go g1) g1.wr (aF X θ1 H1 Q) (λc M' h=>h) (λh=>h) h2 λds M2 us θ2 H2 g2 r2 h3=>?_
   by_cases hn:ds.length+1=n
   ·rw[if_pos hn] at h3;have h4:=aF.go g2 h3;refine⟨θ2,M2,d::ds,hn,⟨v,us++[],rfl,r1.go g2,by simp_all⟩,g2.wr,?_⟩;cases qf:F (d::ds) M2 with
    | ok d2 M3=>rwa [qf] at h4
    | err c2 M3=>rw[qf] at h4;exact xD h4
    | bad=>rw[qf] at h4;exact h4
   ·rw[if_neg hn] at h3;exact h3.elim
  ·simp only[if_neg hl] at h2;exact h2.elim
def qS (c:Str)(n:Nat)(F:FD)(ga:GA):GE:=λρ M=>(ga ρ M).bind λds M1=>if ds.length+1=n then(F (.mr M1.length::ds) (M1++[.obj c []])).bind λd M2=>match d with
  | .non=>.ok (.mr M1.length) M2
  | _=>.bad
 else .bad
def Jz (k:iG X.K c C)(h:tE X (qS c n F ga) σ H Q):Kk C (rq X.K n F) [] (Jm X) (tA X ga) σ H Q:=by
 obtain⟨ρ,θ,M,hd,hw,h⟩:=h;refine mw hd hw (aF X θ H Q) (λc M' h=>h) (λh=>h) h λds M1 us θ1 H1 g1 r1 h1=>?_
 intro x dx hx hdx ne;have h2:=aF.go g1 h1
 by_cases hn:ds.length+1=n
 ·simp only[if_pos hn] at h2;have gm:=Jg (C:=C) g1.wr hx hdx ne k;have rx:cz X.K (θ1++[x]) (bj (bj H1 dx (.own x)) x (.ins C dx [])) (.mr M1.length) (.ref x):=oV g1.wr;refine⟨θ1++[x],M1++[.obj c []],.mr M1.length::ds,hn,⟨.ref x,us++[],rfl,rx,by rw[Xc];exact r1.go gm⟩,gm.wr,?_⟩;have h3:=aF.go gm h2;cases qf:F (.mr M1.length::ds) (M1++[.obj c []]) with
  | bad=>rw[qf] at h3;exact h3
  | err c2 M3=>rw[qf] at h3;exact xD h3
  | ok d2 M3=>
   rw[qf] at h3;intro v θ2 H2 g2 r2;cases d2 with
   | non=>exact⟨r2,h3 _ θ2 H2 g2 (rx.go g2)⟩
   | _=>exact h3.elim
 ·simp only[if_neg hn] at h2;exact h2.elim
end
section
variable {X:Cx}
def Cq (go:GE):GE:=λρ M=>(go ρ M).bind λo M1=>match o with
 | .mr k=>match M1[k]? with
  | some (.lst _)=>.ok .non (M1.set k (.lst []))
  | _=>.bad
 | _=>.bad
end
end DL
namespace DL
open PySem PySem.Spec PyProof.Rows L2 List
section
variable {prog:TR}{w:TY}{A:Ux}{E:Td->Tg->Prop}{s:Tg}
def Av {I a:Th}{k:Nat}(st:s.heap.IsTupleIter I a k)(ta:s.heap.IsTuple a its)(hx:its[k]?=Z x)
  (q:∀h',h'.IsTupleIter I a (k+1)->UD I s.heap h'->Q x {s with heap:=h'}):Tn (TF prog w) A (Vi (.ref I)) Q E s:=by
 obtain⟨u,hu,uc,ud⟩:=id st;obtain⟨oa,hoa,_,na,da⟩:=ta;unfold Vi;refine Ta (Uh  st.typeIs Vf (Ud Vf st.typeIs W2 ?_ (WW _)));show Tn _ _ (field (.ref I) 0 >>= _) _ _ s;refine Ta (UJ hu ud (x:=.ref a) rfl ?_);refine Ta (UJ hu ud (x:=.int k 0) rfl ?_);refine Ta (UR hoa da ?_);simp only[TK,hx];refine Ta (Ws hu ud (by simp) (Tb ⟨x,rfl,Tb (q _ ?_ (UI ..))⟩));exact⟨_,VN _ hu (Yd (Wj ud _)),(Zi ..).trans uc,by rw[Wj ud];simp[VT]⟩
def lV {I a:Th}{k:Nat}(hh:A.handled=Y)(st:s.heap.IsTupleIter I a k)(ta:s.heap.IsTuple a its)(hx:its[k]?=Y)
  (q:∀h' e,Xs I s.heap h'->(∃o,h'.get? e=Z o/\o.cls=.type "StopIteration")->E (.ref e) {s with heap:=h'}):Tn (TF prog w) A (Vi (.ref I)) Q E s:=by
 obtain⟨u,hu,uc,ud⟩:=id st;obtain⟨oa,hoa,_,na,da⟩:=ta;unfold Vi;refine Ta (Uh (name:=UM "__next__") st.typeIs Vf (Ud Vf st.typeIs W2 ?_ (WW _)));show Tn _ _ (field (.ref I) 0 >>= _) _ _ s;refine Ta (UJ hu ud (x:=.ref a) rfl ?_);show Tn _ _ (if(TU a==Ue)=true then _ else _) _ _ s;rw[if_neg (show¬((TU a==Ue)=true) from Tv)];show Tn _ _ (field (.ref I) 1 >>= _) _ _ s;refine Ta (UJ hu ud (x:=.int k 0) rfl ?_);show Tn _ _ (W5 (.ref a) >>= _) _ _ s;refine Ta (UR hoa da ?_);simp only[TK,hx];refine Ta (W9 (Ta (Ws hu ud (by simp) ?_)));show Tn _ _ (aaq (.type "StopIteration") [] >>= _) _ _ _;refine Ta ?_;simp only[aaq,newTuple];refine Ta (T7 ?_ (by size_fits));refine Ta (m:=VZ _ _) (VY (a:=Ue) (by first|rfl|(simp only[VZ];rfl)) ?_);refine T7 ?_ (by size_fits);simp only[raiseNew];refine Ta (YN ?_)
 first|rw[show A.in1.handled=Y from hh]|rw[hh]
 exact Ta (Tb (ZM (q _ _ (((UI ..).extBut.push _).push _) ⟨_,Tj _ rfl,rfl⟩)))
end
def CD {prog:TR}{w:TY}{A:Ux}(hh:A.handled=Y)(I a:Th)(hne:a≠I)(its:Array Td) :
  Draws prog w A I [I,a] its.size (λi v=>its[i]?=Z v) (λi h=>h.IsTupleIter I a i/\h.IsTuple a its) where
 live:=λ_ _ st=>let ⟨o,ho,_⟩:=st.1;⟨o,ho⟩
 frame:=λ_ _ _ st hk=>⟨st.1.at λo e=>hk I (by simp) o e,let ⟨o,ho,r⟩:=st.2;⟨o,hk a (by simp) o ho,r⟩⟩
 item:=λi s Q E hi st hQ=>Av st.1 st.2 (x:=its[i]) (by simp) λh' hit' hs'=>hQ _ h' s.toks (by simp) ⟨hit',st.2.extBut hs'.extBut hne⟩ hs'
 done:=λs Q E st hE=>lV hh st.1 st.2 (by simp) hE
open AutoSeq1 (wpAny_loadPart')
def wo (a:Th)(its:Array Td)(n:Nat)(dct:Option Th)(sl:Array (Option Td)) :
  Meets (WH.«enumerate.__new__» ⟨[.type "enumerate",.ref a],[]⟩) (λ_ R s=>s.heap.get? a=Z {cls:=.type "tuple",dict:=dct,data:=.seq its n,slots:=sl}/\
   R (.ok (.ret (.ref (s.heap.push {cls:=.type "tuple_iterator",data:=.fields #[.ref a,.int 0 0]}).objs.size)))
    {s with heap:=(s.heap.push {cls:=.type "tuple_iterator",data:=.fields #[.ref a,.int 0 0]}).push {cls:=.type "enumerate",data:=.fields #[.none,.bool false,.ref s.heap.objs.size,VT 0,.none,.none]}}):=
 .of_wp λprog w A R s hh=>by
  obtain⟨hp,g,d,tk,os⟩:=s;obtain⟨ha,hr⟩:=hh;have hsub:=sub_enumerate;have hT:Heap.IsTuple (Shared.heap ⟨hp,g,d,tk,os⟩) a its:=⟨_,ha,rfl,n,rfl⟩
  wp_walk using Vn ha
  refine wpAny_stack_any λst=>Tb ?_
  split
  ·rename_i c _ _ _ _ _;cases (c==aa0 "enumerate")
   all_goals
    wp_walk using Vn ha,Y4 hT
    exact⟨_,rfl,hr⟩
  ·wp_walk using Vn ha,Y4 hT
   exact⟨_,rfl,hr⟩
def uQ {a:Th}(hT:s.heap.IsTuple a its)
  (q:∀h',IsEnum h' (s.heap.objs.size+1) s.heap.objs.size 0 .none->h'.IsTupleIter s.heap.objs.size a 0->h'.objs.size=s.heap.objs.size+2->
   (∀b o,s.heap.get? b=Z o->h'.get? b=Z o)->Q (.ref (s.heap.objs.size+1)) {s with heap:=h'}):Tn (TF prog w) A (call (.type "enumerate") [.ref a]) Q E s:=by
 obtain⟨⟨c,dct,dt,sl⟩,ha,hc,n,hd⟩:=hT;have hc:c=.type "tuple":=hc;subst hc hd;refine callType_new F.called_enumerate (by decide) (F.typeCall_enumerate_1 _) (F.newCall_enumerate_1 _) (λobj=>F.args_object_init_2 obj _) F.entry_enumerate_new (wo a its n dct sl) ⟨ha,?_⟩;have hz:(s.heap.push {cls:=.type "tuple_iterator",data:=.fields #[.ref a,.int 0 0]}).objs.size=s.heap.objs.size+1:=Wo ..;show _/\_;rw[hz];have he:=by
  have z:=Tj (s.heap.push {cls:=.type "tuple_iterator",data:=.fields #[.ref a,.int 0 0]}) (o:={cls:=.type "enumerate",data:=.fields #[.none,.bool false,.ref s.heap.objs.size,VT 0,.none,.none]}) rfl;rw[hz] at z;exact z
 exact⟨⟨_,he,rfl⟩,q _ he ⟨_,Tc _ (Tj _ rfl),rfl,rfl⟩ (by rw[Wo,hz]) λb o z=>Tc _ (Tc _ z)⟩
section
variable {X:Cx}{af:List (Th×Obj)}{σ:L2.St}{H:Hp}{s:Tg}
def oY {ch:List Th}{a:Th}(I:L2.Inv X af σ H s)(hf:∀b∈ch,hX X af H b)(k:∀b u,b∉ch->s.heap.get? b=Z u->h'.get? b=Z u)
  (hp:s.heap.objs.size<=a) (new:bM X.prog X.w (bj H a o) h' a o):L2.Inv X af σ (bj H a o) {s with heap:=h',toks:=t'}:=by
 have ne:∀{b:Th} {u:HO},H b=Z u->b≠a:=λ{b u} e z=>by rw[z,(I.hok.fresh hp)] at e;cases e
 have nch:∀b u,H b=Z u->b∉ch:=λb u e z=>by rw[(hf b z).1] at e;cases e
 refine I.step  (d':=s.drawn) (ch:=ch) (λb hb=>⟨(hf b hb).2.2.2.1,(hf b hb).2.1,(hf b hb).2.2.2.2.1,(hf b hb).2.2.2.2.2⟩) (λb u _ _ hc e _=>k b u hc e) (λb u _ _ hc e _=>⟨u.slots,k b u hc e⟩)
  (λb u _ e n=>by rw[ao (TB (Tu (Tr e) hp))];exact n) (λb u hc e=>⟨u,k b u hc e⟩) (λb xs e=>by rw[ao (ne e)];exact e) (λb u v e=>by rw[ao (ne e)];exact e)
  (λb ps e=>⟨#[],by rw[ao (ne e),e];simp⟩) (λm hm=>?_) (λb u e=>?_) I.bare
 ·obtain⟨u,es,ep,ho,r⟩:=hm;exact⟨u,es,ep,k _ u (λz=>(hf _ z).2.1 rfl) ho,r⟩
 ·by_cases hb:b=a
  ·subst hb;rw[aV] at e;cases e;exact new
  ·rw[ao hb] at e;refine(I.hok b u e).stay (λc v hc q=>k c v ?_ q) (λc q=>by rw[ao (ne q)];exact q) λc xs q=>by rw[ao (ne q)];exact q
   rcases hc with z|z
   ·rw[z];exact nch b u e
   ·exact nch c _ z
def vP {ch:List Th}(I:L2.Inv X af σ H s)(hf:∀b∈ch,hX X af H b)(k:∀b u,b∉ch->s.heap.get? b=Z u->h'.get? b=Z u):L2.Inv X af σ H {s with heap:=h',toks:=t'}:=by
 have nch:∀b u,H b=Z u->b∉ch:=λb u e z=>by rw[(hf b z).1] at e;grind
 refine I.step    (λb hb=>⟨(hf b hb).2.2.2.1,(hf b hb).2.1,(hf b hb).2.2.2.2.1,(hf b hb).2.2.2.2.2⟩) (λb u _ _ hc e _=>k b u hc e) (λb u _ _ hc e _=>⟨u.slots,k b u hc e⟩)
  (λb u _ e n=>n) (λb u hc e=>⟨u,k b u hc e⟩) (λb xs e=>e) (λb u v e=>e) (λb ps e=>⟨#[],by simp_all⟩) (λm hm=>?_) (λb u e=>?_) I.bare
 ·obtain⟨u,es,ep,ho,r⟩:=hm;exact⟨u,es,ep,k _ u (λz=>(hf _ z).2.1 rfl) ho,r⟩
 ·refine(I.hok b u e).stay (λc v hc q=>k c v ?_ q) (λc q=>q) λc xs q=>q
  rcases hc with z|z
  ·rw[z];exact nch b u e
  ·exact nch c _ z
end
def NV (K:Tp)(b:Bool)(H:Hp)(a:Th)(xs:List V):Prop:=match b with
 | true=>rQ K H a xs
 | false=>oy K H a xs
def Dg (K:Tp)(b:Bool)(a:Th):It:=
 ⟨λi H=>∃xs x,NV K b H a xs/\xs[i]?=Z x,λi H x H'=>∃p y,H p=Y/\H'=bj H p (.tup [.int (i:Int),y])/\x=.ref p/\∀xs,NV K b H a xs->xs[i]?=Z y,λi H=>∃xs,NV K b H a xs/\xs.length<=i⟩
def im (b:Bool)(h:UG)(it a:Th)(i:Nat):Prop:=match b with
 | true=>h.IsTupleIter it a i
 | false=>h.IsListIter it a i
def im.at {a:Th}(x:im b h it a i)(e:∀o,h.get? it=Z o->h'.get? it=Z o):im b h' it a i:=by
 cases b with
 | true=>exact aaY x e
 | false=>exact aa1 x e
def im.obj {a:Th}(x:im b h it a i):∃o,h.get? it=Z o/\(o.cls=.type "tuple_iterator"\/o.cls=.type "list_iterator")/\∃vs,o.data=.fields vs:=by
 cases b with
 | true=>obtain⟨o,e,c,d⟩:=x;exact⟨o,e,.inl c,_,d⟩
 | false=>obtain⟨o,e,c,d⟩:=x;exact⟨o,e,.inr c,_,d⟩
def C8 {P:TR}{w:TY}{K:Tp}{es:List T9}{kt:Nat}{pos:Pos}(b:Bool)(a e it:Th):Ag P w K (.Tuple es kt pos) (Dg K b a) [e,it] e (λi h=>(∃old,IsEnum h e it (i:Int) old)/\im b h it a i) where
 mem:=by simp
 obj:=λi h st c hc=>by
  obtain⟨⟨old,he⟩,hs⟩:=st;obtain⟨o,ho,_,vs,hd⟩:=hs.obj;rcases Ur.mp hc with q|q
  ·subst q;exact⟨_,he,λv z=>by cases z⟩
  ·rw[UU.mp q];exact⟨o,ho,λv z=>by rw[hd] at z;cases z⟩
 keep:=λi h h' st k=>⟨st.1.imp λold he=>k e (by simp) _ he,st.2.at λo q=>k it (by simp) o q⟩
 item:=by
  intro X hP hw hK hc i af s σ H E I hf st hg;subst hP hw hK;obtain⟨⟨old,he⟩,hs⟩:=st;obtain⟨xs,x,hq,hx⟩:=hg;have hei:e≠it:=λz=>by
   obtain⟨o,ho,hcl,_⟩:=hs.obj;rw[<-z,he] at ho;cases ho;rcases hcl with q|q <;> simp at q
  have main:∀(its:List Td) (fp:List Th) (St:Nat->UG->Prop),aS xs its->Draws X.prog X.w X.A.in1 it fp its.length (λi v=>its[i]?=Z v) St->e∉fp->St i s.heap->(∀h,St (i+1) h->im b h it a (i+1))->
    Tn (TF X.prog X.w) X.A (VR (.ref e)) (λr s1=>∃u,r=Z u/\
     Tn (TF X.prog X.w) X.A (X9 (.Tuple es kt pos) (.ref e) u) (λ_ s2=>∃x H',L2.Inv X af σ H' s2/\aO x u/\(Dg X.K b a).yld i H x H'/\((∃old,IsEnum s2.heap e it ((i+1:Nat):Int) old)/\im b s2.heap it a (i+1))/\∀b∈[e,it],H' b=Y) E s1) E s:=by
   intro its fp St rv D hef hst hback;have hil:i<its.length:=by rw[<-rv.length];exact(Tf.mp hx).1
   obtain⟨u,hu,ru⟩:=rv.get hx;refine wpAny_pyNext_enum_itemD D he hst hil hei hef λy h' tk hP ho hs' hT hsz hk=>?_
   have ey:y=u:=by
    have hP:its[i]?=Z y:=hP;rw[hu] at hP;exact(T4 hP).symm
   subst ey;have helt:e<s.heap.objs.size:=Tr he;refine⟨_,rfl,wpAny_letOwnedTupleGo_enum ho λh2 he2 hs2=>?_⟩;have hs2:UD e h' h2:=hs2;have hT2:h2.get? s.heap.objs.size=Z {cls:=.type "tuple",data:=.seq #[.int i tk,y]}:=(hs2.2 _ (VA helt)).trans hT;have fr:H s.heap.objs.size=Y:=I.hok.fresh (Te _);have new:bM X.prog X.w (bj H s.heap.objs.size (.tup [.int (i:Int),x])) h2 s.heap.objs.size (.tup [.int (i:Int),x]):=
    ⟨TL (by decide:2<=1000) (by rw[Uo];decide),[.int i tk,y],.cons ⟨tk,rfl⟩ (.cons ru .nil),⟨_,hT2,rfl,_,rfl⟩⟩
   have I2:=oY (t':=tk+1) I hf (λc o hc q=>(hs2.2 c (λz=>hc (by simp[z]))).trans (hk c o (λz=>hc (by simp[z])) (λz=>hc (by simp[z])) q)) (Te _) new;have inj:∀ys,NV X.K b H a ys->ys[i]?=Z x:=λys hy=>by
    cases b with
    | true=>rw[I.tuple_inj hy hq];exact hx
    | false=>rw[I.list_inj hy hq];exact hx
   refine⟨.ref s.heap.objs.size,_,I2,rfl,⟨_,x,fr,rfl,rfl,inj⟩,⟨⟨y,by simpa using he2⟩,(hback h' hs').at λo q=>(hs2.2 it (Uj hei)).trans q⟩,λc hc=>?_⟩;have:c≠s.heap.objs.size:=by
    obtain⟨o,ho2,_⟩:=hs.obj;rcases Ur.mp hc with q|q
    ·rw[q];exact TB helt
    ·rw[UU.mp q];exact TB (Tr ho2)
   rw[ao this];exact(hf c hc).1
  cases b with
  | false=>
   obtain⟨its,rv,p,hz⟩:=I.list (show oy X.K H a xs from hq);have hli:a≠it:=λz=>by
    obtain⟨o,ho,hcl,_⟩:=hs.obj;obtain⟨ol,hol,hlc,_⟩:=p.isList;rw[z,ho] at hol;cases hol;rw[hlc] at hcl;rcases hcl with q|q <;> simp at q
   have hle:e≠a:=λz=>by
    obtain⟨ol,hol,hlc,_⟩:=p.isList;rw[<-z,he] at hol;cases hol;simp at hlc
   have D:=Draws.list (prog:=X.prog) (w:=X.w) (A:=X.A.in1) (show X.A.in1.handled=Y from I.ok.hd hc) it a hli its.toArray;rw[Uk] at D;exact main its [it,a] (λi h=>h.IsListIter it a i/\h.IsList a its.toArray) rv (by simpa using D) (by simp[hei,hle]) (show s.heap.IsListIter it a i/\s.heap.IsList a its.toArray from⟨hs,p.isList⟩) λh q=>q.1
  | true=>
   obtain⟨its,rv,p,hz⟩:=I.tuple (show rQ X.K H a xs from hq);have p:s.heap.IsTuple a its.toArray:=p;have hli:a≠it:=λz=>by
    obtain⟨o,ho,hcl,_⟩:=hs.obj;obtain⟨ol,hol,hlc,_⟩:=id p;rw[z,ho] at hol;cases hol;rw[hlc] at hcl;rcases hcl with q|q <;> simp at q
   have hle:e≠a:=λz=>by
    obtain⟨ol,hol,hlc,_⟩:=id p;rw[<-z,he] at hol;cases hol;simp at hlc
   have D:=CD (prog:=X.prog) (w:=X.w) (A:=X.A.in1) (show X.A.in1.handled=Y from I.ok.hd hc) it a hli its.toArray;rw[Uk] at D;exact main its [it,a] (λi h=>h.IsTupleIter it a i/\h.IsTuple a its.toArray) rv (by simpa using D) (by simp[hei,hle]) (show s.heap.IsTupleIter it a i/\s.heap.IsTuple a its.toArray from⟨hs,p⟩) λh q=>q.1
 done:=by
  intro X hP hw hK hc i af s σ H E I hf st hg;subst hP hw hK;obtain⟨⟨old,he⟩,hs⟩:=st;obtain⟨xs,hq,hx⟩:=hg;have hnx:∀h',Xs it s.heap h'->(Y:Option Td)=Y/\L2.Inv X af σ H {s with heap:=h'}:=λh' hb=>
   ⟨rfl,vP (t':=s.toks) I hf λc o hc q=>hb c o (λz=>hc (by simp[z])) q⟩
  have hT:s.TypeIs (.ref e) "enumerate":=⟨_,he,rfl⟩;unfold VR;refine Ta (WK (Uh (name:=UM "__next__") hT Ye (Ud Ye hT F.entry_enumerate_next ?_ (F.args_enumerate_next_1 _))));show Tn _ _ (field (.ref e) 2 >>= _) _ _ _;refine Ta (UJ he rfl (x:=.ref it) rfl (Ta ?_));have stp:∀h' x,Xs it s.heap h'->(∃o,h'.get? x=Z o/\o.cls=.type "StopIteration")->Tn (TF X.prog X.w) X.A (isInstance (.ref x) (.type "StopIteration") >>= λb=>if b=true then pure Y else throw (TU x)) (λ(r:Option Td) s1=>r=Y/\L2.Inv X af σ H s1) E {s with heap:=h'}:=λh' x hb hx'=>by
   obtain⟨o,ho,hcl⟩:=hx';refine Ta (XJ (T:="StopIteration") (b:=true) ⟨o,ho,hcl⟩ Yr ?_);exact Tb (hnx _ hb)
  cases b with
  | false=>
   obtain⟨its,rv,p,hz⟩:=I.list (show oy X.K H a xs from hq);have hl:=rv.length;exact wpAny_nextOf_list_end (show X.A.in1.handled=Y from I.ok.hd hc) hs p.isList (by simp;omega) stp
  | true=>
   obtain⟨its,rv,p,hz⟩:=I.tuple (show rQ X.K H a xs from hq);have p:s.heap.IsTuple a its.toArray:=p;have hl:=rv.length;exact lV (show X.A.in1.handled=Y from I.ok.hd hc) hs p (by simp;omega) stp
 self:=λ_ _ _ _ _ st h=>by
  obtain⟨⟨old,he⟩,_⟩:=st;exact Zj he h
def HY (hg:Gl X "enumerate")(hm:X.mg "enumerate"=Y)(hv:UL "enumerate"=Z (.type "enumerate"))(hl:PA X [l] tl)(hs:T2 [l] X.env=[(false,Uy l X.env)]:=by rfl) :
  PI X (.Tuple es kt tp) (.Call (.Name "enumerate" p) [l] [] pos) (λσ H R=>tl σ H λxs H1=>∃a,xs=[.ref a]/\(((∃xs,oy X.K H1 a xs)/\R (Dg X.K false a) H1)\/((∃xs,rQ X.K H1 a xs)/\R (Dg X.K true a) H1))):=by
 intro af s σ H R I h;refine Call_ (qD I hg hm hv (VP (bQ (hl pos af s σ H _ I h) λus s1 hxx=>?_) hs rfl));obtain⟨vs,H1,I1,r1,q1⟩:=hxx;obtain⟨a,e,q1⟩:=q1;subst e;cases r1 with
 | cons r rr=>
  cases rr;have r:_=TU a:=r;subst r;have fin:∀(b:Bool) (h':UG),IsEnum h' (s1.heap.objs.size+1) s1.heap.objs.size 0 .none->im b h' s1.heap.objs.size a 0->h'.objs.size=s1.heap.objs.size+2->(∀c o,s1.heap.get? c=Z o->h'.get? c=Z o)->R (Dg X.K b a) H1->
    Tn (TF X.prog X.w) X.A (YX (.ref (s1.heap.objs.size+1))) (Q7 X af σ (.Tuple es kt tp) R) X.xe {s1 with heap:=h'}:=λb h' he hi hz hk q=>by
   refine Zj he ⟨_,[s1.heap.objs.size+1,s1.heap.objs.size],_,_,H1,rfl,I1.kept (t':=s1.toks) hk,C8 b a _ _,⟨⟨_,he⟩,hi⟩,λc hc=>?_,q⟩;have hb:s1.heap.objs.size<=c:=by
    rcases Ur.mp hc with z|z
    ·rw[z];exact Vz _
    ·rw[UU.mp z];exact Te _
   exact I1.fpOk hb (I1.hok.fresh hb)
  rcases q1 with⟨⟨xs,hq⟩,q⟩|⟨⟨xs,hq⟩,q⟩
  ·obtain⟨its,rv,p,hz⟩:=I1.list hq;exact call_enumerate_list p.isList λh' he hi hz hk=>fin false h' he hi hz hk q
  ·obtain⟨its,rv,p,hz⟩:=I1.tuple hq;exact uQ (show s1.heap.IsTuple a its.toArray from p) λh' he hi hz hk=>fin true h' he hi hz hk q
def lO (ds:List D):List D:=(Tw ds.length).zipWith (λ(k:Nat) d=>D.tup [.int (k:Int),d]) ds
def qH {i:Nat}(h:(lO ds)[i]?=Z d):∃x,ds[i]?=Z x/\d=.tup [.int (i:Int),x]:=by
 unfold lO at h;rw[getElem?_zipWith] at h;cases q:ds[i]? with
 | none=>simp_all
 | some x=>
  rw[q,XR ((Tf.mp q).1)] at h;exact⟨x,rfl,(T4 h).symm⟩
def kJ (ds:List D):(lO ds).length=ds.length:=by simp[lO]
def Mi (ds:List D)(M:aq):bi mY:=match ds with
 | [.lst xs]=>.ok ⟨lO xs,Y⟩ M
 | [.ro xs]=>.ok ⟨lO xs,Y⟩ M
 | [.tup xs]=>.ok ⟨lO xs,Y⟩ M
 | _=>.bad
def xK (g:GA):GI:=λρ M=>(g ρ M).bind Mi
def t7 {K:Tp}{a:Th}(ta:∀θ1 H1,Grow θ H θ1 H1->NV K b H1 a vs)(r:aY K θ H ds vs):G4 K (Dg K b a) θ H ⟨lO ds,Y⟩:=by
 intro θ1 H1 M1 g _ i;have t1:=ta θ1 H1 g.toGrow;have r1:=r.go g;refine⟨λd e=>?_,λhl=>⟨vs,t1,by rw[<-ar r1];rwa [kJ] at hl⟩⟩;obtain⟨x,ex,ed⟩:=qH e;subst ed;obtain⟨v,e1,rv⟩:=dW r1 ex;refine⟨⟨vs,v,t1,e1⟩,λx' H2 y=>?_⟩;obtain⟨p,y',np,eH,exr,hy⟩:=y;have e2:=hy vs t1;rw[e1] at e2;cases e2;subst eH exr;exact⟨cR g.wr np,gH  g.wr np ⟨_,_,rfl,rfl,_,_,rfl,rv,rfl⟩⟩
end DL
namespace DL
open PySem PySem.Spec PyProof.Rows L2 List
def qh (o x:D)(lo hi:Int)(M:aq):bi Unit:=match o,x with
 | .mr k,.lst ys=>match M[k]? with
  | some (.lst xs)=>if 0<=lo/\lo<=hi/\hi<=(xs.length:Int)/\xs.length+ys.length<=To then .ok () (M.set k (.lst (xs.take lo.toNat++ys++xs.drop hi.toNat))) else .bad
  | _=>.bad
 | _,_=>.bad
def iZ (o x l h:D)(M:aq):bi Unit:=match l,h with
 | .int l,.int h=>qh o x l h M
 | _,_=>.bad
def Hj (go gl gh g:GE):GS:=λρ M=>(g ρ M).bind λx M1=>(go ρ M1).bind λo M2=>(gl ρ M2).bind λl M3=>(gh ρ M3).bind λh M4=>(iZ o x l h M4).bind λ_ M5=>.ok (.nx ρ) M5
def PC (d2 d1 d3 d4:D)(M:aq):Prop:=∃l h k ys xs,(d3=.int l/\d4=.int h)/\(d2=.mr k/\d1=.lst ys)/\M[k]?=Z (.lst xs)/\(0<=l/\l<=h/\h<=(xs.length:Int)/\xs.length+ys.length<=To)/\iZ d2 d1 d3 d4 M=.ok () (M.set k (.lst (xs.take l.toNat++ys++xs.drop h.toNat)))
def NF (d2 d1 d3 d4:D)(M:aq):iZ d2 d1 d3 d4 M=.bad\/PC d2 d1 d3 d4 M:=by
 cases d3 with
 | int l=>
  cases d4 with
  | int h=>
   cases d2 with
   | mr k=>
    cases d1 with
    | lst ys=>
     cases q:M[k]? with
     | none=>exact .inl (by unfold iZ qh;simp_all)
     | some m=>
      cases m with
      | lst xs=>
       by_cases hc:0<=l/\l<=h/\h<=(xs.length:Int)/\xs.length+ys.length<=To
       ·exact .inr ⟨l,h,k,ys,xs,⟨rfl,rfl⟩,⟨rfl,rfl⟩,q,hc,by unfold iZ qh;dsimp only;rw[q];exact if_pos hc⟩
       ·exact .inl (by unfold iZ qh;dsimp only;rw[q];exact if_neg hc)
      | _=>exact .inl (by unfold iZ qh;simp_all)
    | _=>exact .inl rfl
   | _=>exact .inl rfl
  | _=>exact .inl rfl
 | _=>exact .inl rfl
section
variable {X:Cx}{e o lo hi:T9}{g go gl gh:GE}{pos ip sp:Pos}
def Gy (i j:Nat)(ga:GA):GS:=λρ M=>(ga ρ M).bind λds M1=>match ds with
 | [d,e]=>.ok (.nx ((ρ.set i (Z d)).set j (Z e))) M1
 | _=>.bad
def Qf (tab:List (Str×Int)):List (V×V):=tab.map λp=>(.str p.1,.int p.2)
def uS (tab:List (Str×Int)):List (bN×V):=tab.map λp=>(WI p.1,V.int p.2)
def Qp (tab:List (Str×Int)):List (TE×TE):=tab.map λp=>(tC (.str p.1),tC (.int p.2))
theorem vI:∀{tab:List (Str×Int)} {Q:List (V×V)->Hp->Prop},Q (Qf tab) H->wU (Qp tab) σ H Q
 | [],Q,q=>q
 | p::r,Q,q=>vI (tab:=r)  q
def Jq (tab:List (Str×Int))(g:GE):GE:=λρ M=>(g ρ M).bind λd M1=>match d with
 | .str x=>match jH (iU [] (uS tab)) (WI x) with
  | some (.int i)=>.ok (.int i) M1
  | _=>.bad
 | _=>.bad
end
def H0 (K:Tp)(a:Th)(so:Obj)(xs:List V)(ts:List Th)(bm:Th)(ob:Obj):Hp:=λb=>
 if b=a then(if K.lookup a=Y then Z (.frz so (.lst xs)) else Y) else if b∈ts then Z (.tbl #[]) else if b=bm then Z (QJ ob) else Y
structure Rk (K:Tp)(h:UG)(ts:List Th)(bm:Th)(ob:Obj):Prop where
 tab:∀P∈ts,h.get? P=Z (W.tabObj #[])/\isCodeTable h P/\K.lookup P=Y
 names:∀x,x∈cp->∀c P,Vr K x=Z (c,P)->P∈ts
 bmk:Vh K Tq "__builtins__"=Z (Z (.ref bm))
 bmh:h.get? bm=Z ob
 bmc:ob.cls=.type "module"/\ob.dict=Z W6/\ob.data=.plain
 bmn:bm≠W6/\bm≠Tq
 bml:K.lookup bm=Y
def ES {K:Tp}{a:Th}(L:Rk K h ts bm ob)(ha:h.get? a=Z so)(sc:so.cls=.type "list"):m3 K (H0 K a so xs ts bm ob):=by
 have neT:∀P∈ts,P≠a:=λP hP e=>by
  have:=(L.tab P hP).1
  grind
 refine⟨λx hx c P e=>?_,λx hx c P e=>⟨bm,ob,L.bmk,?_,L.bmc.1,L.bmc.2.1,L.bmc.2.2,L.bmn⟩⟩
 ·have hP:=L.names x hx c P e;refine⟨#[],?_,by simp[aaJ],λpos cv q=>by simp[XM] at q⟩;unfold H0
  simp_all
 ·unfold H0;rw[if_neg (λe=>by
  have:=L.bmh;have:=L.bmc.1
  grind),if_neg (λhb=>by
  have:=(L.tab bm hb).1;rw[L.bmh] at this;cases this;have:=L.bmc.1;simp at this),if_pos rfl]
def Ci {K:Tp}{k:Nat}{a:Th}
  (KX:K.In s₁.heap) (hns:s₁.heap.Ns Tq mg) (hb:s₁.heap.Ns W6 mb) (hbb:∀x:Str,x≠"__name__"->mb x=UL x) (hlim:s₁.heap.NoLimit) (hg:s₁.gens=#[])
  (ha:s₁.heap.get? a=Z {cls:=.type "list",data:=.seq vs.toArray}) (hi:UE vs ns) (hl:ns.length<=To) (hr:bo k YA) (L:Rk K s₁.heap ts bm ob)
  (F:∀base:UG,K.In base->base.Ns Tq mg->eM P w K mg base CX k fa fd [x] sp) (hbind:∀(s:Tg) (u:Td),WY s fd ⟨[u],[]⟩ [(x,u)])
  (hsp:∀H:Hp,m3 K H->oy K H a (ns.map V.int)->sp [.ref a] H (λv _=>v=.bl true) λ_ _ _=>False)
  (hCX:∀H e s',CX [] H s₁ (λ_ _ _=>False) e s'->False) :
  Yx (TF P w) YA (.call (.ref fa) ⟨[.ref a],[]⟩) (λr s'=>r=.ok (.ret (.bool true))/\OldK s₁.heap s'.heap/\s'.os=s₁.os/\Xo s'.gens) s₁:=by
 have rv:=u9 hi;have lenV:=hi.length;have hH:∃H:Hp,H=H0 K a {cls:=.type "list",data:=.seq vs.toArray} (ns.map V.int) ts bm ob:=⟨_,rfl⟩;obtain⟨H,eH⟩:=hH;have tb:m3 K H:=by rw[eH];exact ES L ha rfl
 have at_:∀b u,H b=Z u->(b=a/\K.lookup a=Y/\u=.frz {cls:=.type "list",data:=.seq vs.toArray} (.lst (ns.map V.int)))\/(b≠a/\b∈ts/\u=.tbl #[])\/(b=bm/\u=QJ ob):=λb u e=>by
  rw[eH] at e;unfold H0 at e
  by_cases h1:b=a
  ·rw[if_pos h1] at e
   by_cases h2:K.lookup a=Y
   ·rw[if_pos h2] at e;cases e;exact .inl ⟨h1,h2,rfl⟩
   ·rw[if_neg h2] at e;cases e
  ·rw[if_neg h1] at e
   by_cases h2:b∈ts
   ·rw[if_pos h2] at e;cases e;exact .inr (.inl ⟨h1,h2,rfl⟩)
   ·rw[if_neg h2] at e
    by_cases h3:b=bm
    ·rw[if_pos h3] at e;cases e;exact .inr (.inr ⟨h3,rfl⟩)
    ·rw[if_neg h3] at e;cases e
 have hok:md P w H s₁.heap:=λb u e=>by
  rcases at_ b u e with⟨h1,_,h3⟩|⟨_,h2,h3⟩|⟨h1,h3⟩
  ·subst h1 h3;exact⟨ha,by rw[TC];exact hl,vs,_,rv,ha⟩
  ·subst h3;exact(L.tab b h2).1
  ·subst h1 h3;exact⟨L.bmh,trivial,⟨_,L.bmh⟩,λ_ _ _ _=>trivial⟩
 have hS:oy K H a (ns.map V.int):=by
  cases hk:K.lookup a with
  | some o=>
   have e:=KX a o hk;rw[ha] at e;cases e;exact .inr ⟨_,vs.toArray,_,hk,rfl,rfl,rfl,by rw[Uk,lenV];exact hl,by simpa using rv⟩
  | none=>exact .inl (.inr ⟨{cls:=.type "list",data:=.seq vs.toArray},by rw[eH];unfold H0;rw[if_pos rfl,if_pos hk]⟩)
 have base_of:∀{b:Th} {o:Obj},s₁.heap.get? b=Z o->H b=Y->(wO s₁.heap H).get? b=Z o:=λe n=>E8 e n
 have noA:∀{b:Th} {o:Obj} {es:Array V5} {ep:Nat},s₁.heap.get? b=Z o->o.data=.dict es ep->H b=Y:=λ{b o es ep} e d=>by
  cases q:H b with
  | none=>rfl
  | some u=>
   exfalso;rcases at_ b u q with⟨h1,_,_⟩|⟨_,h2,_⟩|⟨h1,_⟩
   ·subst h1;rw[ha] at e;cases e;have d':Data.seq vs.toArray _=Data.dict es ep:=d;cases d'
   ·rw[(L.tab b h2).1] at e;cases e;cases d
   ·subst h1;rw[L.bmh] at e;cases e;rw[L.bmc.2.2] at d;cases d
 have nsK:∀{b:Th} {m:Str->Option Td},s₁.heap.Ns b m->(wO s₁.heap H).Ns b m:=λ{b m} ⟨o,es,ep,e,d,r⟩=>⟨o,es,ep,base_of e (noA e d),d,r⟩
 have hKb:K.In (wO s₁.heap H):=λb o e=>base_of (KX b o e) (by
  cases q:H b with
  | none=>rfl
  | some u=>
   exfalso;rcases at_ b u q with⟨h1,h2,_⟩|⟨_,h2,_⟩|⟨h1,_⟩
   ·subst h1;rw[h2] at e;cases e
   ·rw[(L.tab b h2).2.2] at e;cases e
   ·subst h1;rw[L.bml] at e;cases e)
 have hM:Mod K mg (wO s₁.heap H):=⟨hKb,nsK hns,⟨mb,nsK hb,hbb⟩,let ⟨mc,h1,h2⟩:=hlim;⟨mc,nsK h1,h2⟩⟩;have e0:uJ P w K mg (wO s₁.heap H) YA [] s₁ H:=⟨rfl,hM,λb o e=>JO e,WX (Ce _ _),trivial,λb hb=>absurd (show b∈([]:List Th) from hb) (by simp),hok,.of_eq hg⟩;refine Wq ((F _ hKb (nsK hns)).run YA [] s₁ H ⟨[.ref a],[]⟩ [.ref a] [.ref a] _ _ hr e0 (hbind s₁ (.ref a)) (.cons rfl .nil) (hsp H tb hS)) λr s' h=>?_
 cases r with
 | error e=>exact(hCX H e s' h).elim
 | ok fl=>
  cases fl with
  | next=>exact UV h
  | brk=>exact UV h
  | cont=>exact UV h
  | ret u=>
   obtain⟨v,H',os,bare,un,hok',r',q⟩:=h;have q':v=.bl true:=q;subst q';obtain rfl:u=aaZ true:=r';refine⟨rfl,⟨λb o e=>?_,λb o e=>?_⟩,os,bare⟩
   ·cases q:H b with
    | none=>exact .inl (un.keep b o e q (by intro z;exact absurd (show b∈([]:List Th) from z) (by simp)) (by simp))
    | some u=>
     rcases at_ b u q with⟨h1,_,h3⟩|⟨_,h2,h3⟩|⟨h1,h3⟩
     ·subst h3;have z2:=un.frzs b _ _ q;obtain⟨e1,_⟩:=hok b _ q;obtain⟨e2,_⟩:=hok' b _ z2;rw[e] at e1;cases e1;exact .inl e2
     ·subst h3;obtain⟨more,z2⟩:=un.tbls b _ q;have e1:s₁.heap.get? b=Z {cls:=.none,data:=.fields #[]}:=hok b _ q;have e2:s'.heap.get? b=Z {cls:=.none,data:=.fields (#[]++more)}:=hok' b _ z2;rw[e] at e1;cases e1;exact .inr (.inl ⟨(L.tab b h2).2.1,rfl,#[],more,rfl,e2⟩)
     ·subst h3;have z2:=un.frzs b _ _ q;obtain⟨e1,_⟩:=hok b _ q;obtain⟨e2,_⟩:=hok' b _ z2;rw[e] at e1;cases e1;exact .inl e2
   ·exact un.there b o e (by simp)
def KJ {l:WD}{k:Nat}{K:YT->Tp}{CX:TY->K2}{sp:TY->Sp}
  (hn:l.most=Z n) (hn2:n<=To) (hdf:d.params.defaults=[]) (hr:bo k YA)
  (hY:∀(w:TY) (h:UG),YP w h->(K w.params).In h)
  (F:∀(w:TY) (mg:Str->Option Td) (fa:Th) (h:UG),(K w.params).In h->h.Ns Tq mg->mg d.name=Z (.ref fa)->
   ∃fd:UZ,(∀(s:Tg) (u:Td),WY s fd ⟨[u],[]⟩ [(x,u)])/\
    ∀base:UG,(K w.params).In base->base.Ns Tq mg->eM l.prog w (K w.params) mg base (CX w) k fa fd [x] (sp w))
  (tabs:∀w:TY,∃(ls:List (Str×aao×Th×Th)) (bm:Th),(∀p∈ls,(XS q).find? (λe=>e.name==p.1)=Z p.2.1/\Vr (K w.params) p.1=Z (p.2.2.1,p.2.2.2)/\(K w.params).lookup p.2.2.2=Y)/\
   (∀y,y∈cp->Vh (K w.params) Tq y=Z Y\/∃p∈ls,p.1=y)/\Vh (K w.params) Tq "__builtins__"=Z (Z (.ref bm))/\(K w.params).lookup bm=Y)
  (hsp:∀(w:TY) (H:Hp) (a:Th) (ns:List Int),ns.length<=n->m3 (K w.params) H->oy (K w.params) H a (ns.map V.int)->sp w [.ref a] H (λv _=>v=.bl true) λ_ _ _=>False)
  (hCX:∀(w:TY) (H:Hp) (s:Tg) (e:Td) (s':Tg),CX w [] H s (λ_ _ _=>False) e s'->False) :
  W.WalkO q loose XP YP l.row.toRowW d [] (λf vs=>PySem.call f vs):=by
 refine Att.attach_call hn hdf λw s₀ s₁ mg mb fa o pm cd doc a vs ns G Y ho hd hcd hmg hobj hints hlen hg=>?_
 have KX:=hY w _ Y;obtain⟨fd,hb,hF⟩:=F w mg fa _ KX G.T.g hmg;obtain⟨ls,bm,hls,hnm,hbm,hbl⟩:=tabs w;obtain⟨bm',ob,b1,b2,b3,b4,b5,b6⟩:=G.T.bmain;have eb:bm'=bm:=by
  have:=YB KX G.T.g hbm;rw[b1] at this;cases this;rfl
 subst eb;have L:Rk (K w.params) s₁.heap (ls.map (·.2.2.2)) bm' ob:=by
  refine⟨λP hP=>?_,λy hy c P e=>?_,hbm,?_,?_,?_,hbl⟩
  ·obtain⟨p,hp,rfl⟩:=Zk.mp hP;obtain⟨h1,h2,h3⟩:=hls p hp;obtain⟨c1,c2⟩:=W.tab_of G.T KX h1 h2;exact⟨c2,(c1.tab c2).isCodeTable,h3⟩
  ·rcases hnm y hy with q|⟨p,hp,q⟩
   ·unfold Vr at e;rw[q] at e;cases e
   ·subst q;obtain⟨h1,h2,h3⟩:=hls p hp;rw[h2] at e;cases e;exact Zk.mpr ⟨p,hp,rfl⟩
  ·exact b3
  ·exact⟨b4,b5,b6⟩
  ·refine⟨b2,λz=>?_⟩;obtain⟨o',es,ep,e1,e2,_⟩:=G.T.g;rw[<-z,b3] at e1;cases e1;rw[b6] at e2;cases e2
 exact Ci KX G.T.g G.T.b G.T.builtins G.T.nolimit hg hobj hints (TL hlen hn2) hr L hF hb (λH hT hS=>hsp w H a ns hlen hT hS) λH e s'=>hCX w H s₁ e s'
def BS (q:Th)(fd:UZ):HO:=.ext λh=>h.get? q=Z {cls:=.type "function",data:=.func fd}
abbrev yX (qual:Str)(params:aaI)(body:T9)(scope:X8)(pm cv ctv:Td):UZ:=W.kla_fn "<lambda>" qual params body scope [] pm cv ctv
def Ja (ok:md P w H h)(e:H c=Z (jq c q)):h.CodeRec (.ref c) q:=(ok c _ e).1
def PF (ok:md P w H h)(e:H q=Z (BS q fd)):h.get? q=Z {cls:=.type "function",data:=.func fd}:=(ok q _ e).1
def G2 (k:Nat)(g:GE):FD:=λds M=>g (n6 k ds) M
def Nz {K:Tp}{k:Nat}
  (S:eY N ps scope) (hn:ps.length=n)
  (hbody:∀(A:Ux) (outer:List Env) (s:Tg) (H:Hp) (E:XK),bo k (A.deeper (VW qual scope s.heap.objs.size q (.ref c)))->
   PE (iK (ju P w) P w K mg base N qual scope q (.ref c) A outer s H E) body (tE (iK (ju P w) P w K mg base N qual scope q (.ref c) A outer s H E) g)) :
  eM P w K mg base (ju P w) (k+1) q (yX qual params body scope pm (.ref c) ctv) ps (λvs H Q E=>H q=Z (BS q (yX qual params body scope pm (.ref c) ctv))/\H c=Z (jq c qual)/\rq K n (G2 (N.length-n) g) vs H Q E):=by
 refine⟨λvs H Q E h=>rS hn vs H Q E h.2.2,λA outer s H args us vs Q E hr e0 hb r hsp=>?_⟩;obtain⟨hq,hc,hsp⟩:=hsp;have hl:vs.length=ps.length:=rS hn vs H Q E hsp;have lim:s.heap.NoLimit:=e0.mod.nolimit.keeps λb o e=>(e0.bs b o e).1
 have hkind:∀y∈ps.zip us,scope.names.lookup y.1=Z .local\/(scope.names.lookup y.1=Z .cell/\((Zv (s.heap.objs.size+1) scope.names []).lookup y.1).isSome=true):=λ⟨m,v⟩ hy=>by
  rcases S.par m (YZ hy).1 with z|z
  ·exact .inl z
  ·exact .inr ⟨z,XF _ _ _ (.inl z)⟩
 refine W.kla_callFunE hr.depth (PF e0.hok hq) rfl S.co S.gen rfl (Ja e0.hok hc) (hb _ _ _ _ ?_);refine Xe S.kind hkind λenv he s1 x=>?_
 subst he;refine⟨lim.keeps x.toInCall.keep,W.kla_codeExpr ?_⟩;have I:L2.Inv (iK (ju P w) P w K mg base N qual scope q (.ref c) A outer s H E) [] (L2.start N vs) H s1:=vH S hr.hd e0 hl r x;obtain⟨θ,M,ds,hld,rd,hw,h⟩:=hsp;have hv:vs.length=n:=by rw[<-ar rd];exact hld
 refine Vc (hbody A outer s H E (hr.deeper _) [] s1 (L2.start N vs) H Q I ⟨n6 (N.length-n) ds,θ,M,by rw[<-hv];exact M9 rd N,hw,?_⟩) (λu s' hs=>?_) λe s' hs=>hs
 ·have h:Af K θ H Q E (g (n6 (N.length-n) ds) M):=h;cases q:g (n6 (N.length-n) ds) M with
  | bad=>rw[q] at h;exact h
  | err c M1=>
   rw[q] at h;have h:Je K θ H E c M1:=h;exact λC θ' H' a s' kC g1 fl=>nZ fl (h C θ' H' a kC g1)
  | ok d M1=>rw[q] at h;exact h
 ·obtain⟨v,H',J,rv,q⟩:=hs;exact⟨v,H',J.os,J.bare,J.base,J.hok,rv,q⟩
structure Ax (K:Tp)(x:Str)(c P:Th):Prop where
 mem:x∈cp
 tab:Vr K x=Z (c,P)
 uniq:∀y,y∈cp->y≠x->∀c2,Vr K y≠Z (c2,P)
 hd:∃o vs file tf flags tg inF text tt,K.lookup c=Z o/\o.cls=.type "code"/\o.data=.fields vs/\vs[11]?=Z (.ref P)/\vs.getD 11 .none=.ref P/\vs.getD 18 .none=.str file tf/\
  vs.getD 7 .none=.int flags tg/\vs.getD 9 .none=.bool inF/\vs.getD 10 .none=.int text tt/\c≠P
def z9 {a:Int}(l:List Td)(h:aaJ l)(e:XM pos (l++[VT a,VT b,c])=Z cv):XM pos l=Z cv\/cv=c:=by
 fun_induction aaJ l with
 | case1=>
  simp only[nil_append,XM,VT] at e
  simp_all
 | case2 a' t b' u x rest ih=>
  simp only[cons_append,XM] at e ⊢;split at e
  ·rename_i hc;rw[if_pos hc];exact .inl e
  ·rename_i hc;rw[if_neg hc];exact ih h e
 | case3 l h1 h2=>simp_all
structure RM (X:Cx)(θ:List Th)(H:Hp)(M:aq)(qual:Str)(params:aaI)(body:T9)(scope:X8)(u:Td)(H':Hp):Prop where
 ex:∃q c pm ctv,u=.ref q/\H q=Y/\H' q=Z (BS q (yX qual params body scope pm (.ref c) ctv))/\H' c=Z (jq c qual)
 go:Go X.K θ H θ H' M
def zQ {a:Th}(h1:φ h)(h2:∃o,h.get? a=Z o)(h3:∀h1 h2:UG,φ h1->(∀o,h1.get? a=Z o->h2.get? a=Z o)->φ h2):bM P w H h a (.ext φ):=⟨h1,h2,h3⟩
def Gk
  (I:L2.Inv X af σ H s) (hw:Wr X.K θ H M) (T:Ax X.K x c P) (hcode:X.env.code=.ref c) (hglob:X.env.globals=Tq) (hq:X.env.qual++("<lambda>":Str)=dF x)
  (hcl:closureFor scope X.env=pure []) (hd:defaultsOf params X.env=([],[])) :
  Tn (TF X.prog X.w) X.A (Uy (.Lambda params body scope pos) X.env) (λu s'=>∃H',L2.Inv X af σ H' s'/\RM X θ H M (dF x) params body scope u H') X.xe s:=by
 obtain⟨ps,hP,hT,hC⟩:=hw.tb.tab x T.mem c P T.tab;obtain⟨bm,ob,b1,b2,b3,b4,b5,b6,b7⟩:=hw.tb.bm x T.mem c P T.tab;have hPo:s.heap.get? P=Z (W.tabObj ps):=I.hok P _ hP;have CH:W.CodeHd s.heap c P:=by
  obtain⟨o,vs,file,tf,flags,tg,inF,text,tt,e,r⟩:=T.hd;exact⟨o,vs,file,tf,flags,tg,inF,text,tt,I.kIn _ _ e,r⟩
 have hbo:s.heap.get? bm=Z ob:=(I.hok bm _ b2).1;have hg:s.heap.Ns Tq X.mg:=I.mod.glob.keeps I.bk;have hmgb:X.mg "__builtins__"=Z (.ref bm):=YB I.kIn hg b1;have nbP:bm≠P:=λz=>by rw[z,hP] at b2;cases b2
 have hb:s.heap.BuiltinsAt X.mg P:=⟨bm,ob,hmgb,b6,b7,nbP,hbo,b3,b4,b5⟩;have hgP:Tq≠P:=λz=>by
  obtain⟨o,es,ep,e1,e2,_⟩:=hg;rw[z,hPo] at e1;cases e1;cases e2
 rw[arm_eval_Lambda,hd];refine Ta (wpAny_evalAll_nil ?_);refine Ta (TV (Tb ?_));rw[hq];have neP:∀b u,H b=Z u->(∀ps,u≠.tbl ps)->b≠P:=λb u e n z=>by rw[z,hP] at e;cases e;exact n _ rfl
 cases hf:XM pos ps.toList with
 | some cv=>
  obtain⟨c',rfl,hc'⟩:=hC pos cv hf;refine W.kla_makeFunctionHit hcl hglob hg hcode CH hPo hT hf hb λctv h' tk hk hz=>?_
  have nq:H h'.objs.size=Y:=I.hok.fresh hz;have nec:c'≠h'.objs.size:=λz=>by rw[<-z,hc'] at nq;cases nq
  refine⟨bj H h'.objs.size (BS h'.objs.size _),I.laid (t':=tk) (λb o e=>Tc _ (hk b o e)) hz (zQ (Tj _ rfl) ⟨_,Tj _ rfl⟩ λh1 h2 e k=>k _ e),⟨_,c',_,ctv,rfl,nq,aV,by rw[ao nec];exact hc'⟩,cR hw nq⟩
 | none=>
  refine W.kla_makeFunction hcl hglob hg hcode CH hPo hT hf hgP hb λc' ctv h' tk hx hge hlt hrec htab=>?_
  have szle:s.heap.objs.size<=h'.objs.size:=V3 (UW hge hlt);have nq:H h'.objs.size=Y:=I.hok.fresh szle;have nc:H c'=Y:=I.hok.fresh hge;have ncq:c'≠h'.objs.size:=TB hlt;have nPc:P≠c':=λz=>by rw[<-z,hP] at nc;cases nc
  have nPq:P≠h'.objs.size:=λz=>by rw[<-z,hP] at nq;cases nq
  let fd:UZ:=yX (dF x) params body scope ((X.mg "__name__").getD .none) (.ref c') ctv
  let H':Hp:=bj (bj (bj H P (.tbl (ps++#[VT pos.line,VT pos.col,.ref c']))) c' (jq c' (dF x))) h'.objs.size (BS h'.objs.size fd)
  have atq:H' h'.objs.size=Z (BS h'.objs.size fd):=aV;have atc:H' c'=Z (jq c' (dF x)):=by show bj _ _ _ c'=_;rw[ao ncq,aV]
  have atP:H' P=Z (.tbl (ps++#[VT pos.line,VT pos.col,.ref c'])):=by show bj _ _ _ P=_;rw[ao nPq,ao nPc,aV]
  have atb:∀b u,H b=Z u->b≠P->H' b=Z u:=λb u e n=>by
   have n1:b≠h'.objs.size:=λz=>by rw[z,nq] at e;cases e
   have n2:b≠c':=λz=>by rw[z,nc] at e;cases e
   show bj _ _ _ b=_;rw[ao n1,ao n2,ao n];exact e
  have kp:∀b o,b≠P->s.heap.get? b=Z o->(h'.push (aaK "<lambda>" (dF x) params body scope [] ((X.mg "__name__").getD .none) c' ctv)).get? b=Z o:=λb o n e=>Tc _ (hx b o n e)
  have un:Un X.fs [] H H' s.heap (h'.push (aaK "<lambda>" (dF x) params body scope [] ((X.mg "__name__").getD .none) c' ctv)):=by
   have ne:∀b o,s.heap.get? b=Z o->H b=Y->b≠P:=λb o _ n z=>by rw[z,hP] at n;cases n
   refine⟨λb o e n _ _=>kp b o (ne b o e n) e,λb o e n _ _=>⟨o.slots,kp b o (ne b o e n) e⟩,λb o e n _=>?_,λb o e _=>?_,λb xs e=>atb b _ e (neP b _ e (by intro _ z;cases z)),λb o u e=>atb b _ e (neP b _ e (by intro _ z;cases z)),λb qs e=>?_⟩
   ·have n1:b≠h'.objs.size:=TB (Tu (Tr e) szle);have n2:b≠c':=TB (Tu (Tr e) hge);show bj _ _ _ b=_;rw[ao n1,ao n2,ao (ne b o e n)];exact n
   ·by_cases hb:b=P
    ·exact⟨_,by rw[hb];exact Tc _ htab⟩
    ·exact⟨o,kp b o hb e⟩
   ·by_cases hb:b=P
    ·subst hb;rw[hP] at e;cases e;exact⟨_,atP⟩
    ·exact⟨#[],by rw[atb b _ e hb];simp⟩
  have hok:md X.prog X.w H' (h'.push (aaK "<lambda>" (dF x) params body scope [] ((X.mg "__name__").getD .none) c' ctv)):=λb u e=>by
   by_cases h1:b=h'.objs.size
   ·subst h1;rw[atq] at e;cases e;exact zQ (Tj _ rfl) ⟨_,Tj _ rfl⟩ λh1 h2 e k=>k _ e
   ·by_cases h2:b=c'
    ·subst h2;rw[atc] at e;cases e;refine zQ (hrec.keeps λb o e=>Tc _ e) ?_ λh1 h2 e k=>e.at k
     obtain⟨c2,o,vs,t,e1,e2,_⟩:=hrec;cases e1;exact⟨o,Tc _ e2⟩
    ·by_cases h3:b=P
     ·subst h3;rw[atP] at e;cases e;exact Tc _ htab
     ·have e:bj (bj (bj H P _) c' _) h'.objs.size _ b=Z u:=e;rw[ao h1,ao h2,ao h3] at e;refine(I.hok b u e).stay (λb' v hb' z=>kp b' v ?_ z) (λb' z=>atb b' _ z (neP b' _ z (by intro _ y;cases y))) λb' xs z=>atb b' _ z (neP b' _ z (by intro _ y;cases y))
      rcases hb' with z|z
      ·rw[z];exact h3
      ·exact neP b' _ z (by intro _ y;cases y)
  refine⟨H',I.un (t':=tk) un hok,⟨h'.objs.size,c',_,ctv,rfl,nq,atq,atc⟩,?_⟩;have gr:Grow θ H θ H':=⟨⟨[],by simp,λ_ z=>by cases z⟩,λb u e _ n=>atb b u e (neP b u e n),λb qs e=>by
   by_cases hb:b=P
   ·rw[hb];exact⟨_,atP⟩
   ·exact⟨qs,atb b _ e hb⟩⟩
  refine⟨gr,hw.len,hw.nd,λi a m h1 h2=>?_,?_,?_⟩
  ·have ok:=hw.at_ i a m h1 h2;obtain⟨o,eo,po⟩:=ok.plain;have e:H' a=H a:=by
    rw[eo];exact atb a o eo (neP a o eo (by intro qs z;subst z;cases po))
   exact ok.grow gr e
  ·intro y hy c2 P2 e2;obtain⟨qs,q1,q2,q3⟩:=hw.tb.tab y hy c2 P2 e2
   by_cases hPP:P2=P
   ·have hyx:y=x:=by
     refine Classical.byContradiction λz=>?_
     rw[hPP] at e2;exact T.uniq y hy z c2 e2
    subst hyx hPP;rw[hP] at q1;cases q1;refine⟨_,atP,?_,λpos' cv z=>?_⟩
    ·rw[YE];exact TriplesOk_snoc _ _ _ _ q2
    ·rw[YE] at z;rcases z9 _ q2 z with z|z
     ·obtain⟨c3,e3,e4⟩:=q3 pos' cv z;exact⟨c3,e3,atb c3 _ e4 (neP c3 _ e4 (by intro _ y;cases y))⟩
     ·exact⟨c',z,atc⟩
   ·refine⟨qs,atb P2 _ q1 hPP,q2,λpos' cv z=>?_⟩;obtain⟨c3,e3,e4⟩:=q3 pos' cv z;exact⟨c3,e3,atb c3 _ e4 (neP c3 _ e4 (by intro _ y;cases y))⟩
  ·intro y hy c2 P2 e2;obtain⟨bm2,ob2,z1,z2,r⟩:=hw.tb.bm y hy c2 P2 e2;exact⟨bm2,ob2,z1,atb bm2 _ z2 (neP bm2 _ z2 (by intro _ y;cases y)),r⟩
def oC:List D->Option (List Int)
 | []=>Z []
 | .int i::r=>(oC r).map (i::·)
 | _=>Y
def dJ:D->Option (List Int)
 | .tup ds=>oC ds
 | _=>Y
theorem yd {K:Tp}:∀{ds:List D} {ks:List Int} {vs:List V},oC ds=Z ks->aY K θ H ds vs->vs=ks.map V.int
 | [],ks,vs,h,r=>by cases h;exact r
 | d::ds,ks,vs,h,r=>by
  obtain⟨v,rr,e,h1,h2⟩:=r;cases d with
  | int i=>
   cases q:oC ds with
   | none=>simp[oC,q] at h
   | some l=>
    simp[oC,q] at h;subst h;rw[e,h1,yd q h2];rfl
  | _=>cases h
def kj {K:Tp}(h:dJ d=Z ks)(r:cz K θ H d v):∃a,v=.ref a/\oA K θ H a (ks.map V.int):=by
 cases d with
 | tup ds=>
  obtain⟨a,vs,e,t,rs⟩:=r;have:=yd (h) rs
  simp_all
 | _=>cases h
def qT (F:FD):List D->D->List Int->aq->bi D
 | [],b,_,M=>.ok b M
 | d::r,b,kb,M=>match F [d] M with
  | .ok k M1=>match dJ k with
   | some ks=>if HT.lexLt ks kb then qT F r d ks M1 else qT F r b kb M1
   | none=>.bad
  | _=>.bad
def Am (F:FD)(ds:List D)(M:aq):bi D:=match ds with
 | []=>.bad
 | d::r=>match F [d] M with
  | .ok k M1=>match dJ k with
   | some ks=>qT F r d ks M1
   | none=>.bad
  | _=>.bad
section
variable {X:Cx}{af:List (Th×Obj)}{σ:L2.St}{q c:Th}{fd:UZ}{px qual:Str}{k:Nat}{F:FD}
def yv {M M1:aq}
  (Fn:eM X.prog X.w X.K X.mg X.base (ju X.prog X.w) k q fd [px] (λvs H Q E=>H q=Z (BS q fd)/\H c=Z (jq c qual)/\rq X.K 1 F vs H Q E)) (hr:bo k X.A.in1) (hb:∀(s:Tg) (u:Td),WY s fd ⟨[u],[]⟩ [(px,u)])
  (I:L2.Inv X af σ H s) (hq:H q=Z (BS q fd)) (hc:H c=Z (jq c qual)) (hw:Wr X.K θ H M) (rv:aO v u) (rd:cz X.K θ H d v) (e:F [d] M=.ok kd M1)
  (hQ:∀v' θ' H',Go X.K θ H θ' H' M1->cz X.K θ' H' kd v'->Q v' H'):Tn (TF X.prog X.w) X.A.in1 (call (.ref q) [u]) (EP X af σ Q) E s:=by
 refine aah (Wq (Fn.run X.A.in1 X.stack s H ⟨[u],[]⟩ [u] [v] Q (λ_ _ _=>False) hr I.env0.in1 (hb s u) (.cons rv .nil) ⟨hq,hc,θ,M,[d],rfl,⟨v,[],rfl,rd,rfl⟩,hw,by rwa [e]⟩) λr s' hq=>?_);cases r with
 | error e=>
  obtain⟨_,_,_,_,_,_,_,_,_,_,_,_,_,_,z⟩:=hq
  simp_all
 | ok fl=>
  cases fl with
  | ret u=>exact I.after hq
  | next=>assumption
  | brk=>assumption
  | cont=>assumption
def BB (h:hX X af H b)(n:H' b=Y):hX X af H' b:=⟨n,h.2⟩
def PM {a:Th}(I:L2.Inv X af σ H s)(fa:hX X af H a)(fb:hX X af H b)(ea:s.heap.get? a=Z oa)(eb:s.heap.get? b=Z ob)(da:∀v,oa.data≠.cell v)(db:∀v,ob.data≠.cell v) :
  L2.Inv X (af++[(a,oa),(b,ob)]) σ H s:=I.pins_of λp hp=>by
 rcases Xp.mp hp with z|z
 ·exact I.pin p (Uv _ z)
 ·simp only[Ur,mem_nil_iff,or_false] at z;rcases z with z|z <;> subst z
  ·exact⟨ea,fa.1,fa.2.1,fa.2.2.1,da⟩
  ·exact⟨eb,fb.1,fb.2.1,fb.2.2.1,db⟩
def GK {a:Th}(I:L2.Inv X (af++[(a,oa),(b,ob)]) σ H s):L2.Inv X af σ H s/\(s.heap.get? a=Z oa/\H a=Y)/\(s.heap.get? b=Z ob/\H b=Y):=by
 have p1:=I.pin (a,oa) (Uv _ (Uv _ (by simp)));have p2:=I.pin (b,ob) (Uv _ (Uv _ (by simp)));exact⟨I.unpinned,⟨p1.1,p1.2.1⟩,p2.1,p2.2.1⟩
def DD {S:Th}{R:aaO->Tg->Prop}
  (Fn:eM X.prog X.w X.K X.mg X.base (ju X.prog X.w) k q fd [px] (λvs H Q E=>H q=Z (BS q fd)/\H c=Z (jq c qual)/\rq X.K 1 F vs H Q E)) (hr:bo (k+1) X.A) (hb:∀(s:Tg) (u:Td),WY s fd ⟨[u],[]⟩ [(px,u)]) (hcalm:X.calm=true)
  (hnI:S≠it) (hR:∀u s',EP X af σ Q u s'->R (.ok (.ret u)) s') :
  ∀(rest:List D) (j:Nat) (s:Tg) (H:Hp) (θ:List Th) (M:aq) (b:D) (kb:List Int) (vb ukb:V) (ub ukv:Td) (n:Nat) (vs:List V),ds0.drop j=rest->L2.Inv X af σ H s->hX X af H it->hX X af H S->s.heap.IsListIter it l j->s.heap.get? S=Z (Ub "list" #[ub,ukv] n)->
   Wr X.K θ H M->rK X.K θ H l vs->aY X.K θ H ds0 vs->H q=Z (BS q fd)->H c=Z (jq c qual)->cz X.K θ H b vb->aO vb ub->(∃a,ukb=.ref a/\oA X.K θ H a (kb.map V.int))->aO ukb ukv->aF X θ H Q (qT F rest b kb M)->
   Yx (TF X.prog X.w) X.A (.builtin "min.loop" ⟨[.ref it,.ref q,.ref S],[]⟩) R s:=by
 have hname:(toString "min"++toString ".loop":String)="min.loop":=by decide
 have hr1:bo k X.A.in1:=hr.in1;intro rest
 induction rest with
 | nil=>
  intro j s H θ M b kb vb ukb ub ukv n vs hd I fi fS st eS hw ta r hq hc rb rvb rk rvk h;refine U3 PySem.F.entry_min_loop ?_;rw[UC PySem.F.plain_min_loop _];show Tn _ X.A.in1 (W5 (.ref S) >>= _) _ _ _;refine Ta (UR eS rfl ?_);obtain⟨its,rv,p,hz⟩:=I.list ta.sq;have hlen:vs.length<=j:=by rw[<-ar r];exact ZW.mp hd
  have hl:=rv.length;show Tn _ X.A.in1 (tryCatch (VR (.ref it)) _ >>= _) _ _ _;refine Ta (US (Wz (show X.A.in1.handled=Y from I.ok.hd hcalm) st p.isList (by simp;omega) λh' eb=>?_));have I1:L2.Inv X af σ H {s with heap:=h'}:=I.turned (t':=s.toks) (λb o hb e=>eb b o hb e) fi.1 fi.2.1 fi.2.2.2.1 fi.2.2.2.2.1 fi.2.2.2.2.2;have eS':h'.get? S=Z (Ub "list" #[ub,ukv] n):=eb S _ hnI eS;show Tn _ X.A.in1 (Yz S (λ_=>#[]) >>= _) _ _ _;refine Ta (Vo eS' rfl (Ta (Vp (Tb ?_))));have I2:L2.Inv X af σ H {s with heap:=h'.update S (T3 λ_=>#[])}:=I1.turned (t':=s.toks) (λb o hb e=>(Ut h' _ (Uj hb)).trans e) fS.1 fS.2.1 fS.2.2.2.1 fS.2.2.2.2.1 fS.2.2.2.2.2;exact hR ub _ ⟨vb,H,I2,rvb,h vb θ H (.refl hw) rb⟩
 | cons d rest ih=>
  intro j s H θ M b kb vb ukb ub ukv n vs hd I fi fS st eS hw ta r hq hc rb rvb rk rvk h;have hj:ds0[j]?=Z d:=by
   have:=congrArg (·[0]?) hd;simpa using this
  have hd':ds0.drop (j+1)=rest:=by
   rw[<-drop_drop,hd];rfl
  obtain⟨v,ev,rdv⟩:=dW r hj;refine U3 PySem.F.entry_min_loop ?_;rw[UC PySem.F.plain_min_loop _];show Tn _ X.A.in1 (W5 (.ref S) >>= _) _ _ _;refine Ta (UR eS rfl ?_);obtain⟨its,rv,p,hz⟩:=I.list ta.sq;obtain⟨u,eu,ru⟩:=rv.get ev;show Tn _ X.A.in1 (tryCatch (VR (.ref it)) _ >>= _) _ _ _;refine Ta (US (U5 st p.isList (x:=u) (by simpa using eu) λh' st' sb=>?_));have I1:L2.Inv X af σ H {s with heap:=h'}:=I.turned (t':=s.toks) (λb o hb e=>(sb.2 b hb).trans e) fi.1 fi.2.1 fi.2.2.2.1 fi.2.2.2.2.1 fi.2.2.2.2.2;have eS1:h'.get? S=Z (Ub "list" #[ub,ukv] n):=(sb.2 S hnI).trans eS;obtain⟨oI,hoI,cI,dI⟩:=id st';have I1p:=PM I1 fS fi eS1 hoI (by intro v z;cases z) (by intro v z;rw[dI] at z;cases z);unfold qT at h;cases eF:F [d] M with
  | bad=>rw[eF] at h;exact h.elim
  | err _ _=>rw[eF] at h;exact h.elim
  | ok kd M1=>
   rw[eF] at h;dsimp only at h;cases eK:dJ kd with
   | none=>rw[eK] at h;exact h.elim
   | some ks=>
    rw[eK] at h;dsimp only at h;show Tn _ X.A.in1 (tryCatch (U1 [u] (call (.ref q) [u])) _ >>= _) _ _ _;refine Ta (US (TV (bQ (yv (Q:=λv' H'=>∃θ',Go X.K θ H θ' H' M1/\cz X.K θ' H' kd v') Fn hr1 hb I1p hq hc hw ru rdv eF λv' θ' H' g rd=>⟨θ',g,rd⟩) λuk s2 hxx=>?_)));obtain⟨vk,H2,I2p,rvk2,θ2,g2,rk2⟩:=hxx;obtain⟨I2,⟨eS2,nS2⟩,eI2,nI2⟩:=GK I2p;have fS2:=BB fS nS2;have fi2:=BB fi nI2;have st2:s2.heap.IsListIter it l (j+1):=⟨oI,eI2,cI,dI⟩;obtain⟨ak,eak,tk2⟩:=kj eK rk2;obtain⟨ab,eab,tb2⟩:=rk;have tb2:=tb2.grow g2.toGrow;subst eak eab;have ek:uk=.ref ak:=rvk2;have eb':ukv=.ref ab:=rvk;subst ek eb';obtain⟨i1,r1,p1,_⟩:=I2.tuple tk2.sq;obtain⟨i2,r2,p2,_⟩:=I2.tuple tb2.sq;have hq2:H2 q=Z (BS q fd):=g2.keep q _ hq (λz=>by
     obtain⟨i,hi,e⟩:=Wf.mp z;obtain⟨o,eo,po⟩:=hw.plain (i:=i) (by rw[Ui hi,e]);rw[hq] at eo;cases eo;cases po) (by intro _ z;cases z)
    have hc2:H2 c=Z (jq c qual):=g2.keep c _ hc (λz=>by
     obtain⟨i,hi,e⟩:=Wf.mp z;obtain⟨o,eo,po⟩:=hw.plain (i:=i) (by rw[Ui hi,e]);rw[hc] at eo;cases eo;cases po) (by intro _ z;cases z)
    have h2:=aF.go g2 h;show Tn _ X.A.in1 (tryCatch (U1 [u,.ref ak] (Yo .Lt (.ref ak) (.ref ab) >>= _)) _ >>= _) _ _ _;refine Ta (US (TV (Ta (HT.lt_tupInts p1 p2 (iR r1) (iR r2) hr1.units0 ?_))));refine Ta (TV (Uz ?_));refine Ta (Vp (Tb ?_))
    by_cases hlt:HT.lexLt ks kb=true
    ·rw[if_pos hlt] at h2;simp only[hlt,if_true];refine Ta (Vo eS2 rfl (Ta (Vp ?_)));rw[hname];obtain⟨n3,eS3⟩:∃n3,(s2.heap.update S (T3 λ_=>#[u,.ref ak])).get? S=Z (Ub "list" #[u,.ref ak] n3):=⟨_,Wg eS2 λ_=>#[u,.ref ak]⟩;have kp:∀b o,b≠S->s2.heap.get? b=Z o->(s2.heap.update S (T3 λ_=>#[u,.ref ak])).get? b=Z o:=λb o hb e=>(Ut s2.heap _ (Uj hb)).trans e
     have I3:L2.Inv X af σ H2 {s2 with heap:=s2.heap.update S (T3 λ_=>#[u,.ref ak])}:=I2.turned (t':=s2.toks) kp fS2.1 fS2.2.1 fS2.2.2.2.1 fS2.2.2.2.2.1 fS2.2.2.2.2.2;exact Tb ⟨Vb PySem.F.plain_min_loop _,ih (j+1) _ H2 θ2 M1 d ks v _ u (.ref ak) n3 vs hd' I3 fi2 fS2 ⟨oI,kp it oI (Uj hnI) eI2,cI,dI⟩ eS3 g2.wr (ta.grow g2.toGrow) (r.go g2) hq2 hc2 (rdv.go g2) ru ⟨ak,rfl,tk2⟩ rfl h2⟩
    ·have hlt':HT.lexLt ks kb=false:=by simpa using hlt
     rw[if_neg hlt] at h2;simp only[hlt',UB,if_false];refine Ta (Vp ?_);rw[hname];exact Tb ⟨Vb PySem.F.plain_min_loop _,ih (j+1) s2 H2 θ2 M1 b kb vb _ ub (.ref ab) n vs hd' I2 fi2 fS2 st2 eS2 g2.wr (ta.grow g2.toGrow) (r.go g2) hq2 hc2 (rb.go g2) rvb ⟨ab,rfl,tb2⟩ rfl h2⟩
end
section
variable {X:Cx}{af:List (Th×Obj)}{σ:L2.St}{q c:Th}{fd:UZ}{px qual:Str}{k:Nat}{F:FD}
def Et
  (Fn:eM X.prog X.w X.K X.mg X.base (ju X.prog X.w) k q fd [px] (λvs H Q E=>H q=Z (BS q fd)/\H c=Z (jq c qual)/\rq X.K 1 F vs H Q E)) (hr:bo (k+1) X.A) (hb:∀(s:Tg) (u:Td),WY s fd ⟨[u],[]⟩ [(px,u)]) (hcalm:X.calm=true)
  (I:L2.Inv X af σ H s) (hw:Wr X.K θ H M) (ta:rK X.K θ H l vs) (r:aY X.K θ H ds0 vs) (hq:H q=Z (BS q fd)) (hc:H c=Z (jq c qual)) (h:aF X θ H Q (Am F ds0 M)) :
  Tn (TF X.prog X.w) X.A (call (.builtin "min") [.ref l] [(UM "key",.ref q)]) (EP X af σ Q) X.xe s:=by
 have hname:(toString "min"++toString ".loop":String)="min.loop":=by decide
 have hr1:bo k X.A.in1:=hr.in1;cases ds0 with
 | nil=>exact h.elim
 | cons d rest=>
  unfold Am at h;dsimp only at h;cases eF:F [d] M with
  | bad=>rw[eF] at h;exact h.elim
  | err _ _=>rw[eF] at h;exact h.elim
  | ok kd M1=>
   rw[eF] at h;dsimp only at h;cases eK:dJ kd with
   | none=>rw[eK] at h;exact h.elim
   | some ks=>
    rw[eK] at h;dsimp only at h;obtain⟨v,ev,rdv⟩:=dW (i:=0) r rfl;obtain⟨its,rv,p,hz⟩:=I.list ta.sq;obtain⟨u,eu,ru⟩:=rv.get ev;refine kmk_tree PySem.F.kind_min PySem.F.plain_min PySem.F.entry_min (kmk_min_key _ _) ?_;show Tn _ X.A.in1 (U7 "min" ["key","default"] 0 ⟨[],[(UM "key",.ref q)]⟩ >>= _) _ _ s;refine Ta (VY (show U7 "min" ["key","default"] 0 ⟨[],[(UM "key",.ref q)]⟩=pure [Z (.ref q),Y] from rfl) ?_);refine Ta (Tb ?_);refine Ta (Zl p.isList ?_);refine Ta (WL ?_ (Uc _));rw[hname];have hS:(s.heap.push {cls:=.type "list_iterator",data:=.fields #[.ref l,.int 0 0]}).objs.size=s.heap.objs.size+1:=Y5 ..;have fi:hX X af H s.heap.objs.size:=I.fpOk (Te _) (I.hok.fresh (Te _));have leS:s.heap.objs.size<=(s.heap.push {cls:=.type "list_iterator",data:=.fields #[.ref l,.int 0 0]}).objs.size:=by rw[hS];exact Vz _
    have fS:hX X af H (s.heap.push {cls:=.type "list_iterator",data:=.fields #[.ref l,.int 0 0]}).objs.size:=I.fpOk leS (I.hok.fresh leS);have hnI:(s.heap.push {cls:=.type "list_iterator",data:=.fields #[.ref l,.int 0 0]}).objs.size≠s.heap.objs.size:=by rw[hS];exact VA (Vv _)
    have gI:((s.heap.push {cls:=.type "list_iterator",data:=.fields #[.ref l,.int 0 0]}).push (Ub "list" #[] 0)).get? s.heap.objs.size=Z {cls:=.type "list_iterator",data:=.fields #[.ref l,.int 0 0]}:=Tc _ (Tj _ rfl);have gS:((s.heap.push {cls:=.type "list_iterator",data:=.fields #[.ref l,.int 0 0]}).push (Ub "list" #[] 0)).get? (s.heap.push {cls:=.type "list_iterator",data:=.fields #[.ref l,.int 0 0]}).objs.size=Z (Ub "list" #[] 0):=Tj _ rfl;have I0:L2.Inv X af σ H {s with heap:=(s.heap.push {cls:=.type "list_iterator",data:=.fields #[.ref l,.int 0 0]}).push (Ub "list" #[] 0)}:=I.kept (t':=s.toks) λb o e=>Tc _ (Tc _ e)
    generalize (s.heap.push {cls:=.type "list_iterator",data:=.fields #[.ref l,.int 0 0]}).objs.size=S at *;generalize hit:s.heap.objs.size=it at *;refine Tb ⟨Vb PySem.F.plain_min_loop _,?_⟩;refine U3 PySem.F.entry_min_loop ?_;rw[UC PySem.F.plain_min_loop _];show Tn _ X.A.in1 (W5 (.ref S) >>= _) _ _ _;refine Ta (UR gS rfl ?_);obtain⟨its',rv',p',hz'⟩:=I0.list ta.sq;obtain⟨u',eu',ru'⟩:=rv'.get ev;show Tn _ X.A.in1 (tryCatch (VR (.ref it)) _ >>= _) _ _ _;refine Ta (US (U5 (i:=0) ⟨_,gI,rfl,rfl⟩ p'.isList (x:=u') (by simpa using eu') λh' st' sb=>?_));have I1:L2.Inv X af σ H {s with heap:=h'}:=I0.turned (t':=s.toks) (λb o hb e=>(sb.2 b hb).trans e) fi.1 fi.2.1 fi.2.2.2.1 fi.2.2.2.2.1 fi.2.2.2.2.2;have eS1:h'.get? S=Z (Ub "list" #[] 0):=(sb.2 S hnI).trans gS;obtain⟨oI,hoI,cI,dI⟩:=id st';have I1p:=PM I1 fS fi eS1 hoI (by intro v z;cases z) (by intro v z;rw[dI] at z;cases z);show Tn _ X.A.in1 (tryCatch (U1 [u'] (call (.ref q) [u'])) _ >>= _) _ _ _;refine Ta (US (TV (bQ (yv (Q:=λv' H'=>∃θ',Go X.K θ H θ' H' M1/\cz X.K θ' H' kd v') Fn hr1 hb I1p hq hc hw ru' rdv eF λv' θ' H' g rd=>⟨θ',g,rd⟩) λuk s2 hxx=>?_)));obtain⟨vk,H2,I2p,rvk2,θ2,g2,rk2⟩:=hxx;obtain⟨I2,⟨eS2,nS2⟩,eI2,nI2⟩:=GK I2p;have fS2:=BB fS nS2;have fi2:=BB fi nI2;obtain⟨ak,eak,tk2⟩:=kj eK rk2;have notin:∀(a:Th) (φ:UG->Prop),H a=Z (.ext φ)->a∉θ:=λa φ e z=>by
     obtain⟨i,hi,e'⟩:=Wf.mp z;obtain⟨o,eo,po⟩:=hw.plain (i:=i) (by rw[Ui hi,e']);rw[e] at eo;cases eo;cases po
    have hq2:H2 q=Z (BS q fd):=g2.keep q _ hq (notin q _ hq) (by intro _ z;cases z);have hc2:H2 c=Z (jq c qual):=g2.keep c _ hc (notin c _ hc) (by intro _ z;cases z);have h2:=aF.go g2 h;refine Ta ?_;show Tn _ X.A.in1 (Yz S (λ_=>#[u',uk])) _ _ _;refine Vo eS2 rfl ?_;rw[hname];obtain⟨n3,eS3⟩:∃n3,(s2.heap.update S (T3 λ_=>#[u',uk])).get? S=Z (Ub "list" #[u',uk] n3):=⟨_,Wg eS2 λ_=>#[u',uk]⟩;have kp:∀b o,b≠S->s2.heap.get? b=Z o->(s2.heap.update S (T3 λ_=>#[u',uk])).get? b=Z o:=λb o hb e=>(Ut s2.heap _ (Uj hb)).trans e
    have I3:L2.Inv X af σ H2 {s2 with heap:=s2.heap.update S (T3 λ_=>#[u',uk])}:=I2.turned (t':=s2.toks) kp fS2.1 fS2.2.1 fS2.2.2.2.1 fS2.2.2.2.2.1 fS2.2.2.2.2.2;exact Tb ⟨Vb PySem.F.plain_min_loop _,DD (ds0:=d::rest) Fn hr hb hcalm hnI (λu s' e=>e) rest 1 _ H2 θ2 M1 d ks v vk u' uk n3 vs rfl I3 fi2 fS2 ⟨oI,kp it oI (Uj hnI) eI2,cI,dI⟩ eS3 g2.wr (ta.grow g2.toGrow) (r.go g2) hq2 hc2 (rdv.go g2) ru' ⟨ak,eak,tk2⟩ rvk2 h2⟩
end
def xL (F:FD)(g:GE):GE:=λρ M=>(g ρ M).bind λd M1=>match d with
 | .lst ds=>Am F ds M1
 | .ro ds=>Am F ds M1
 | _=>.bad
def O3 {K:Tp}{st:VI}{k:Nat}(F:HP K x x st f fd)(hns:Vh K Tq x=Z (Z (.ref f)))(T:Ax K x c Pt)(S:eY N ps (aH st))(hn:ps.length=n)
  (hbody:∀(A:Ux) (outer:List Env) (s:Tg) (H:Hp) (E:XK),bo k (A.deeper (VW x (aH st) s.heap.objs.size f (.ref c)))->PSs (iK (ju P w) P w K mg base N x (aH st) f (.ref c) A outer s H E) (cu st) (tS (iK (ju P w) P w K mg base N x (aH st) f (.ref c) A outer s H E) g)) :
  eM P w K mg base (ju P w) (k+1) f fd ps (rq K n (aU (N.length-n) g)):=by
 obtain⟨oc,od,kV,doc,pm,an,cdv,ct,osl,rfl,lk,hcd⟩:=F.ex;have ec:cdv=.ref c:=by
  have t:=T.tab;unfold Vr at t;rw[hns] at t;dsimp only at t;rw[lk] at t;dsimp only at t;cases cdv with
  | ref c'=>
   dsimp only at t;split at t
   ·split at t
    ·cases t;rfl
    ·cases t
   ·cases t
  | _=>cases t
 subst ec;refine JS lk hcd S (rS hn) λA outer s H vs Q E hr h=>⟨_,hbody A outer s H E hr,?_⟩
 obtain⟨θ,M,ds,hl,r,hw,h⟩:=h;have hv:vs.length=n:=by rw[<-ar r];exact hl
 refine⟨n6 (N.length-n) ds,θ,M,by rw[<-hv];exact M9 r N,hw,?_⟩;have h:Af K θ H Q E (ck (g (n6 (N.length-n) ds) M)):=h;unfold ck at h;cases q:g (n6 (N.length-n) ds) M with
 | bad=>rw[q] at h;exact h
 | err c M1=>
  rw[q] at h;have h:Je K θ H E c M1:=h;exact λC θ' H' a s' kC g1 fl=>nZ fl (h C θ' H' a kC g1)
 | ok fl M1=>
  rw[q] at h;cases fl with
  | rt d=>exact h
  | nx ρ1=>exact λσ1 θ1 H1 g1 _=>h .non θ1 H1 g1 rfl
  | bk ρ1=>exact h.elim
  | ct ρ1=>exact h.elim
end DL
namespace DL
open PySem PySem.Spec PyProof.Rows L2 List
def F5 (A:Ux)(s:Tg)(a:Int)(t:Tok)(c:Int)(u:Tok)(prog:TR)(w:TY)(E:Td->Tg->Prop)(Q:Td->Tg->Prop)(h:Q (.bool (decide (c<a))) s) :
  Tn (TF prog w) A (Yo .Gt (.int a t) (.int c u)) Q E s:=(aaD h)
section
open PySem.SeqAt
open PySem.AutoSeq1 (wpAny_loadPart')
open PySem.MeetsSeq PySem.MeetsSeq2 PySem.MeetsSeq3
def uL (l b:Th)(items items2:Array Td)(n n2:Nat)(dd dd2:Option Th)(sl sl2:Array (Option Td))(ns ms:List Int)(hi:UE items.toList ns)(hj:UE items2.toList ms) :
  Meets (WH.«tuple.__gt__» ⟨[.ref l,.ref b],[]⟩)
   (λ_ R s=>s.heap.get? l=Z {cls:=.type "tuple",dict:=dd,data:=.seq items n,slots:=sl}/\s.heap.get? b=Z {cls:=.type "tuple",dict:=dd2,data:=.seq items2 n2,slots:=sl2}/\
    R (.ok (.ret (.bool (HT.lexLt ms ns)))) s):=
 .of_wp λprog w A R s h=>by
  obtain⟨hp,g,d,tk,os⟩:=s;obtain⟨hl,hb,h⟩:=h;have f2:=Xy;have z1:items.size=ns.length:=by rw[<-hi.length];simp
  have z2:items2.size=ms.length:=by rw[<-hj.length];simp
  wp_walk using Vn hl,Vn hb,Zy _ (λrest b s'=>b.1=Y/\s'=⟨hp,g,d,tk,os⟩/\∃(vs ws:List Td) (ns' ms':List Int),rest=vs.zip ws/\
   UE vs ns'/\UE ws ms'/\ns'.length+items2.size=ms'.length+items.size/\R (.ok (.ret (.bool (HT.lexLt ms' ns')))) ⟨hp,g,d,tk,os⟩) _
  case turn=>
   rintro ⟨y,x⟩ rest b s' ⟨hb',rfl,vs,ws,ns',ms',hz,hvi,hwi,hlen,hR⟩;cases hvi with
   | nil=>rw[Xq] at hz;cases hz
   | cons a t hvi'=>
    cases hwi with
    | nil=>rw[Yc] at hz;cases hz
    | cons c u hwi'=>
     rw[We] at hz;injection hz with hyx hrest
     injection hyx with hy hx
     subst hy hx;rw[HT.lexLt_cons] at hR;simp only[Ug] at hlen;obtain⟨e,he,hiff⟩:=HT.eqAt_int A.in1 ⟨hp,g,d,tk,os⟩ a t c u;refine Ta (he prog w _ _ ?_);cases e with
     | true=>
      rw[if_pos (hiff.mp rfl).symm] at hR
      wp_walk
      exact⟨rfl,rfl,_,_,_,_,hrest,hvi',hwi',by omega,hR⟩
     | false=>
      rw[if_neg (λq=>absurd (hiff.mpr q.symm) Tv)] at hR;have hri:=F5 A.in1 ⟨hp,g,d,tk,os⟩ a t c u prog w
      wp_walk using hri
      exact⟨_,rfl,by simpa using hR⟩
  case fin=>
   rintro ⟨b1,b2⟩ s' ⟨hb',rfl,vs,ws,ns',ms',hz,hvi,hwi,hlen,hR⟩;simp only at hb';subst hb';have hv:HT.lexLt ms' ns'=decide (items2.size<items.size):=by
    cases hvi with
    | nil=>
     cases hwi with
     | nil=>
      simp only[VG] at hlen;rw[HT.lexLt_nil_nil];exact(decide_eq_false (by omega)).symm
     | cons c u hw=>
      simp only[VG,Ug] at hlen;rw[HT.lexLt_cons_nil];exact(decide_eq_false (by omega)).symm
    | cons a t hv=>
     cases hwi with
     | nil=>
      simp only[VG,Ug] at hlen;rw[HT.lexLt_nil_cons];exact(decide_eq_true (by omega)).symm
     | cons c u hw=>
      rw[We] at hz;cases hz
   rw[hv] at hR
   wp_walk
   exact⟨_,rfl,by simpa[Wy] using hR⟩
  case h=>
   exact⟨rfl,rfl,items.toList,items2.toList,ns,ms,rfl,hi,hj,by omega,h⟩
end
def AA (hl:ZH s.heap l items)(hb:ZH s.heap b items2)(hi:UE items.toList ns)(hj:UE items2.toList ms)
  (hu:A.units<XE) (h:Q (.bool (HT.lexLt ms ns)) s):Tn (TF prog w) A (T8 .Gt (.ref l) (.ref b)) Q E s:=by
 obtain⟨⟨cls,dd,data,sl⟩,ho,hc,n,hd⟩:=id hl;obtain⟨⟨cls2,dd2,data2,sl2⟩,ho2,hc2,n2,hd2⟩:=id hb;subst hc hd hc2 hd2;exact XW (op:=.Gt) ⟨_,ho,rfl⟩ ⟨_,ho2,rfl⟩ PySem.F.slot_tuple_gt PySem.F.entry_tuple_gt (PySem.F.args_tuple_gt_2 _ _) (uL l b items items2 n n2 dd dd2 sl sl2 ns ms hi hj)
  ⟨ho,ho2,⟨(λx=>nomatch x),h⟩⟩ hu
def rj:List D->D->List Int->Option D
 | [],b,_=>Z b
 | d::r,b,kb=>match dJ d with
  | some ks=>if HT.lexLt kb ks then rj r d ks else rj r b kb
  | none=>Y
def GV (ds:List D):Option D:=match ds with
 | []=>Y
 | d::r=>match dJ d with
  | some ks=>rj r d ks
  | none=>Y
section
variable {X:Cx}{af:List (Th×Obj)}{σ:L2.St}
def GD {S:Th}{R:aaO->Tg->Prop}{k:Nat}
  (hr:bo (k+1) X.A) (hcalm:X.calm=true) (hw:Wr X.K θ H M) (ta:rK X.K θ H l vs) (r:aY X.K θ H ds0 vs)
  (hnI:S≠it) (hR:∀u s',EP X af σ Q u s'->R (.ok (.ret u)) s') (fi:hX X af H it) (fS:hX X af H S) (hQ:∀v,cz X.K θ H db v->Q v H) :
  ∀(rest:List D) (j:Nat) (s:Tg) (b:D) (kb:List Int) (vb:V) (ub:Td) (n:Nat),ds0.drop j=rest->L2.Inv X af σ H s->s.heap.IsListIter it l j->s.heap.get? S=Z (Ub "list" #[ub,ub] n)->
   cz X.K θ H b vb->aO vb ub->dJ b=Z kb->rj rest b kb=Z db->
   Yx (TF X.prog X.w) X.A (.builtin "max.loop" ⟨[.ref it,.none,.ref S],[]⟩) R s:=by
 have hname:(toString "max"++toString ".loop":String)="max.loop":=by decide
 have hr1:bo k X.A.in1:=hr.in1;intro rest
 induction rest with
 | nil=>
  intro j s b kb vb ub n hd I st eS rb rvb hk h;refine U3 PySem.F.entry_max_loop ?_;rw[UC PySem.F.plain_max_loop _];show Tn _ X.A.in1 (W5 (.ref S) >>= _) _ _ _;refine Ta (UR eS rfl ?_);obtain⟨its,rv,p,hz⟩:=I.list ta.sq;have hlen:vs.length<=j:=by rw[<-ar r];exact ZW.mp hd
  have hl:=rv.length;show Tn _ X.A.in1 (tryCatch (VR (.ref it)) _ >>= _) _ _ _;refine Ta (US (Wz (show X.A.in1.handled=Y from I.ok.hd hcalm) st p.isList (by simp;omega) λh' eb=>?_));have I1:L2.Inv X af σ H {s with heap:=h'}:=I.turned (t':=s.toks) (λb o hb e=>eb b o hb e) fi.1 fi.2.1 fi.2.2.2.1 fi.2.2.2.2.1 fi.2.2.2.2.2;have eS':h'.get? S=Z (Ub "list" #[ub,ub] n):=eb S _ hnI eS;show Tn _ X.A.in1 (Yz S (λ_=>#[]) >>= _) _ _ _;refine Ta (Vo eS' rfl (Ta (Vp (Tb ?_))));have I2:L2.Inv X af σ H {s with heap:=h'.update S (T3 λ_=>#[])}:=I1.turned (t':=s.toks) (λb o hb e=>(Ut h' _ (Uj hb)).trans e) fS.1 fS.2.1 fS.2.2.2.1 fS.2.2.2.2.1 fS.2.2.2.2.2;have h:Z b=Z db:=h;cases h;exact hR ub _ ⟨vb,H,I2,rvb,hQ vb rb⟩
 | cons d rest ih=>
  intro j s b kb vb ub n hd I st eS rb rvb hk h;have hj:ds0[j]?=Z d:=by
   have:=congrArg (·[0]?) hd;simpa using this
  have hd':ds0.drop (j+1)=rest:=by
   rw[<-drop_drop,hd];rfl
  obtain⟨v,ev,rdv⟩:=dW r hj;refine U3 PySem.F.entry_max_loop ?_;rw[UC PySem.F.plain_max_loop _];show Tn _ X.A.in1 (W5 (.ref S) >>= _) _ _ _;refine Ta (UR eS rfl ?_);obtain⟨its,rv,p,hz⟩:=I.list ta.sq;obtain⟨u,eu,ru⟩:=rv.get ev;show Tn _ X.A.in1 (tryCatch (VR (.ref it)) _ >>= _) _ _ _;refine Ta (US (U5 st p.isList (x:=u) (by simpa using eu) λh' st' sb=>?_));have I1:L2.Inv X af σ H {s with heap:=h'}:=I.turned (t':=s.toks) (λb o hb e=>(sb.2 b hb).trans e) fi.1 fi.2.1 fi.2.2.2.1 fi.2.2.2.2.1 fi.2.2.2.2.2;have eS1:h'.get? S=Z (Ub "list" #[ub,ub] n):=(sb.2 S hnI).trans eS;unfold rj at h;cases eK:dJ d with
  | none=>rw[eK] at h;cases h
  | some ks=>
   rw[eK] at h;dsimp only at h;obtain⟨ak,eak,tk2⟩:=kj eK rdv;obtain⟨ab,eab,tb2⟩:=kj hk rb;subst eak eab;have ek:u=.ref ak:=ru;have eb':ub=.ref ab:=rvb;subst ek eb';obtain⟨i1,r1,p1,_⟩:=I1.tuple tk2.sq;obtain⟨i2,r2,p2,_⟩:=I1.tuple tb2.sq;refine Ta (Tb ?_);show Tn _ X.A.in1 (tryCatch (U1 [.ref ak,.ref ak] (Yo .Gt (.ref ak) (.ref ab) >>= _)) _ >>= _) _ _ _;refine Ta (US (TV (Ta (AA p1 p2 (iR r1) (iR r2) hr1.units0 ?_))));refine Ta (TV (Uz ?_));refine Ta (Vp (Tb ?_))
   by_cases hlt:HT.lexLt kb ks=true
   ·rw[if_pos hlt] at h;simp only[hlt,if_true];refine Ta (Vo eS1 rfl (Ta (Vp ?_)));rw[hname];obtain⟨n3,eS3⟩:∃n3,(h'.update S (T3 λ_=>#[.ref ak,.ref ak])).get? S=Z (Ub "list" #[.ref ak,.ref ak] n3):=⟨_,Wg eS1 λ_=>#[.ref ak,.ref ak]⟩;have kp:∀b o,b≠S->h'.get? b=Z o->(h'.update S (T3 λ_=>#[.ref ak,.ref ak])).get? b=Z o:=λb o hb e=>(Ut h' _ (Uj hb)).trans e
    have I3:L2.Inv X af σ H {s with heap:=h'.update S (T3 λ_=>#[.ref ak,.ref ak])}:=I1.turned (t':=s.toks) kp fS.1 fS.2.1 fS.2.2.2.1 fS.2.2.2.2.1 fS.2.2.2.2.2;obtain⟨oI,hoI,cI,dI⟩:=id st';exact Tb ⟨Vb PySem.F.plain_max_loop _,ih (j+1) _ d ks _ (.ref ak) n3 hd' I3 ⟨oI,kp it oI (Uj hnI) hoI,cI,dI⟩ eS3 rdv rfl eK h⟩
   ·have hlt':HT.lexLt kb ks=false:=by simpa using hlt
    rw[if_neg hlt] at h;simp only[hlt',UB,if_false];refine Ta (Vp ?_);rw[hname];exact Tb ⟨Vb PySem.F.plain_max_loop _,ih (j+1) _ b kb _ (.ref ab) n hd' I1 st' eS1 rb rfl hk h⟩
def CI (a:Td):argsOk "max" ⟨[a],[]⟩:=by kernel_rfl
def yT {k:Nat}
  (hr:bo (k+1) X.A) (hcalm:X.calm=true) (I:L2.Inv X af σ H s) (hw:Wr X.K θ H M) (ta:rK X.K θ H l vs) (r:aY X.K θ H ds0 vs) (h:GV ds0=Z db) (hQ:∀v,cz X.K θ H db v->Q v H) :
  Tn (TF X.prog X.w) X.A (call (.builtin "max") [.ref l] []) (EP X af σ Q) X.xe s:=by
 have hname:(toString "max"++toString ".loop":String)="max.loop":=by decide
 cases ds0 with
 | nil=>cases h
 | cons d rest=>
  unfold GV at h;dsimp only at h;cases eK:dJ d with
  | none=>rw[eK] at h;cases h
  | some ks=>
   rw[eK] at h;dsimp only at h;obtain⟨v,ev,rdv⟩:=dW (i:=0) r rfl;obtain⟨its,rv,p,hz⟩:=I.list ta.sq;refine kmk_tree PySem.F.kind_max PySem.F.plain_max PySem.F.entry_max (CI _) ?_;show Tn _ X.A.in1 (U7 "max" ["key","default"] 0 ⟨[],[]⟩ >>= _) _ _ s;refine Ta (VY (show U7 "max" ["key","default"] 0 ⟨[],[]⟩=pure [Y,Y] from rfl) ?_);refine Ta (Tb ?_);refine Ta (Zl p.isList ?_);refine Ta (WL ?_ (Uc _));rw[hname];have hS:(s.heap.push {cls:=.type "list_iterator",data:=.fields #[.ref l,.int 0 0]}).objs.size=s.heap.objs.size+1:=Y5 ..;have fi:hX X af H s.heap.objs.size:=I.fpOk (Te _) (I.hok.fresh (Te _));have leS:s.heap.objs.size<=(s.heap.push {cls:=.type "list_iterator",data:=.fields #[.ref l,.int 0 0]}).objs.size:=by rw[hS];exact Vz _
   have fS:hX X af H (s.heap.push {cls:=.type "list_iterator",data:=.fields #[.ref l,.int 0 0]}).objs.size:=I.fpOk leS (I.hok.fresh leS);have hnI:(s.heap.push {cls:=.type "list_iterator",data:=.fields #[.ref l,.int 0 0]}).objs.size≠s.heap.objs.size:=by rw[hS];exact VA (Vv _)
   have gI:((s.heap.push {cls:=.type "list_iterator",data:=.fields #[.ref l,.int 0 0]}).push (Ub "list" #[] 0)).get? s.heap.objs.size=Z {cls:=.type "list_iterator",data:=.fields #[.ref l,.int 0 0]}:=Tc _ (Tj _ rfl);have gS:((s.heap.push {cls:=.type "list_iterator",data:=.fields #[.ref l,.int 0 0]}).push (Ub "list" #[] 0)).get? (s.heap.push {cls:=.type "list_iterator",data:=.fields #[.ref l,.int 0 0]}).objs.size=Z (Ub "list" #[] 0):=Tj _ rfl;have I0:L2.Inv X af σ H {s with heap:=(s.heap.push {cls:=.type "list_iterator",data:=.fields #[.ref l,.int 0 0]}).push (Ub "list" #[] 0)}:=I.kept (t':=s.toks) λb o e=>Tc _ (Tc _ e)
   generalize (s.heap.push {cls:=.type "list_iterator",data:=.fields #[.ref l,.int 0 0]}).objs.size=S at *;generalize hit:s.heap.objs.size=it at *;refine Tb ⟨Vb PySem.F.plain_max_loop _,?_⟩;refine U3 PySem.F.entry_max_loop ?_;rw[UC PySem.F.plain_max_loop _];show Tn _ X.A.in1 (W5 (.ref S) >>= _) _ _ _;refine Ta (UR gS rfl ?_);obtain⟨its',rv',p',hz'⟩:=I0.list ta.sq;obtain⟨u',eu',ru'⟩:=rv'.get ev;show Tn _ X.A.in1 (tryCatch (VR (.ref it)) _ >>= _) _ _ _;refine Ta (US (U5 (i:=0) ⟨_,gI,rfl,rfl⟩ p'.isList (x:=u') (by simpa using eu') λh' st' sb=>?_));have I1:L2.Inv X af σ H {s with heap:=h'}:=I0.turned (t':=s.toks) (λb o hb e=>(sb.2 b hb).trans e) fi.1 fi.2.1 fi.2.2.2.1 fi.2.2.2.2.1 fi.2.2.2.2.2;have eS1:h'.get? S=Z (Ub "list" #[] 0):=(sb.2 S hnI).trans gS;obtain⟨oI,hoI,cI,dI⟩:=id st';refine Ta (Tb ?_);refine Ta ?_;show Tn _ X.A.in1 (Yz S (λ_=>#[u',u'])) _ _ _;refine Vo eS1 rfl ?_;rw[hname];obtain⟨n3,eS3⟩:∃n3,(h'.update S (T3 λ_=>#[u',u'])).get? S=Z (Ub "list" #[u',u'] n3):=⟨_,Wg eS1 λ_=>#[u',u']⟩;have kp:∀b o,b≠S->h'.get? b=Z o->(h'.update S (T3 λ_=>#[u',u'])).get? b=Z o:=λb o hb e=>(Ut h' _ (Uj hb)).trans e
   have I3:L2.Inv X af σ H {s with heap:=h'.update S (T3 λ_=>#[u',u'])}:=I1.turned (t':=s.toks) kp fS.1 fS.2.1 fS.2.2.2.1 fS.2.2.2.2.1 fS.2.2.2.2.2;exact Tb ⟨Vb PySem.F.plain_max_loop _,GD hr hcalm hw ta r hnI (λu s' e=>e) fi fS hQ rest 1 _ d ks v u' n3 rfl I3 ⟨oI,kp it oI (Uj hnI) hoI,cI,dI⟩ eS3 rdv ru' eK h⟩
def tH:FD:=λds M=>match ds with
 | [.lst xs]=>match GV xs with
  | some d=>.ok d M
  | none=>.bad
 | [.ro xs]=>match GV xs with
  | some d=>.ok d M
  | none=>.bad
 | ds=>KS ds M
end
def JI {K:Tp}
  (hm:x∈cp) (a:Vh K Tq x=Z (Z (.ref f))) (l:K.lookup f=Z ⟨oc,od,.func fd,sl⟩) (ec:fd.code=.ref c) (lc:K.lookup c=Z ⟨occ,odc,.fields vs,slc⟩) (hcc:occ=.type "code")
  (h11:vs[11]?=Z (.ref P)) (h18:vs.getD 18 .none=.str file tf) (h7:vs.getD 7 .none=.int flags tg) (h9:vs.getD 9 .none=.bool inF) (h10:vs.getD 10 .none=.int text tt) (ne:c≠P)
  (un:∀y,y∈cp->y≠x->Vh K Tq y=Z Y\/∃c' P',Vr K y=Z (c',P')/\P'≠P):Ax K x c P:=by
 refine⟨hm,?_,λy hy nx c2 e=>?_,_,vs,file,tf,flags,tg,inF,text,tt,lc,hcc,rfl,h11,(by rw[VQ,h11];rfl),h18,h7,h9,h10,ne⟩
 ·unfold Vr
  simp_all
 ·rcases un y hy nx with q|⟨c',P',q,n⟩
  ·unfold Vr at e;rw[q] at e;cases e
  ·rw[q] at e;cases e;exact n rfl
end DL
namespace DL
open PySem PySem.Spec PyProof.Rows L2 List
end DL
namespace DL
open PySem PySem.Spec PyProof.Rows L2 List
section
open Builtin Builtin.Str
end
end DL
namespace DL
open PySem PySem.Spec PyProof.Rows L2 List
structure QE (X:Cx)(e:T9)(g:GE):Prop where
 h:PE X e (tE X g)
structure QT (X:Cx)(e:T9)(g:GT):Prop where
 h:PT X e (tT X g)
structure QW (X:Cx)(e:T9)(g:GT):Prop where
 h:PW X e (tT X g)
structure QA (X:Cx)(es:List T9)(g:GA):Prop where
 h:PA X es (tA X g)
structure QS (X:Cx)(st:VI)(g:GS):Prop where
 h:PS X st (tS X g)
structure QB (X:Cx)(st:List VI)(g:GS):Prop where
 h:PSs X st (tS X g)
structure QI (X:Cx)(tg e:T9)(g:GI):Prop where
 h:PI X tg e (tI X g)
structure QG (X:Cx)(tg:T9)(s:GG):Prop where
 h:PG X tg (tG X s)
structure PN (X:Cx)(tgs:List T9)(is:List Nat):Prop where
 h:Lf X tgs (SK X is)
structure QP (X:Cx)(e:Option T9)(g:GO):Prop where
 h:PO X e (tO X g)
structure Q2 (X:Cx)(f:Td->Td->Sem Td)(F:F2):Prop where
 h:oz X f (rD X F)
structure QC (X:Cx)(f:Td)(F:FD):Prop where
 h:fz X f (rC X F)
structure ER (X:Cx)(scope:X8)(xs:List Str)(R:List Str)(ifs:List T9)(gc:GT):Prop where
 h:oE X scope xs R ifs gc
structure Qa (X:Cx)(tgs:List T9)(ss:List GG):Prop where
 h:Lf X tgs (RD X ss)
structure QO (n:Nat)(sg:GG):Prop where
 h:xM n sg
structure QF (X:Cx)(es:List T9)(gs:List GE):Prop where
 h:NW X es gs
section
variable {X:Cx}{e a b c o i:T9}{es rest:List T9}{x:Str}{p p2 pos pos':Pos}{g ga gb gc go gi ge:GE}{ta tb:GT}{gA:GA}
def PH:Q2 X (U4 .Add) bx:=⟨by
 intro af s σ H x y v u Q I rx ry h;obtain⟨θ,M,dx,dy,hw,r1,r2,h⟩:=h;unfold bx at h;split at h
 ·rename_i i j;exact L9 af s σ H x y v u Q I rx ry ⟨i,j,r1,r2,h _ θ H (.refl hw) rfl⟩
 ·rename_i a b;split at h
  ·rename_i hl;exact z8 af s σ H x y v u Q I rx ry ⟨a,b,r1,r2,hl,h _ θ H (.refl hw) rfl⟩
  ·exact h.elim
 ·rename_i as bs;split at h
  ·rename_i hl;obtain⟨a,vs,ea,ta,ra⟩:=r1;obtain⟨b,us,eb,tb,rb⟩:=r2
   by_cases hv:vs=[]
   ·subst hv;have e0:as=[]:=Y6.mp (ar ra);subst e0;subst ea;subst eb;cases rx;cases ry;obtain⟨its,q1,p1,_⟩:=I.tuple ta.sq;obtain⟨its2,q2,p2,_⟩:=I.tuple tb.sq;cases q1;exact GR p1 p2 ⟨.ref b,H,I,rfl,h _ θ H (.refl hw) ⟨b,us,rfl,tb,rb⟩⟩
   ·refine HR af s σ H x y v u Q I rx ry ⟨a,b,vs,us,ea,eb,ta.sq,tb.sq,hv,by rw[<-ar ra,<-ar rb];exact hl,λhu=>?_,λ_ p hp=>h _ θ _ (cR hw hp) (gH hw hp (cD ra rb))⟩;subst hu;have e0:bs=[]:=Y6.mp (ar rb);subst e0;exact h _ θ H (.refl hw) ⟨a,vs,rfl,ta,by rw[Xc];exact ra⟩
  ·exact h.elim
 ·rename_i a j;have e1:x=.bl a:=r1;have e2:y=.int j:=r2;subst e1;subst e2;cases rx;obtain⟨t',rfl⟩:=ry;exact IntBool.add_bool_int ⟨.int _,H,I.tok _,⟨_,rfl⟩,h _ θ H (.refl hw) rfl⟩
 ·split at h
  ·rename_i as bs q1 q2;split at h
   ·rename_i hl;obtain⟨a,vs,ea,ta,ra⟩:=yu hw r1 q1;obtain⟨b,us,eb,tb,rb⟩:=yu hw r2 q2;exact L8 af s σ H x y v u Q I rx ry ⟨a,b,vs,us,ea,eb,ta,tb,by rw[<-ar ra,<-ar rb];exact hl,λp hp=>h _ θ _ (cR hw hp) (ik hw hp (cD ra rb))⟩
   ·exact h.elim
  ·exact h.elim⟩
def Ov:Q2 X (U4 .Sub) gD:=⟨by
 intro af s σ H x y v u Q I rx ry h;obtain⟨θ,M,dx,dy,hw,r1,r2,h⟩:=h;unfold gD at h;split at h
 ·rename_i i j;exact KZ af s σ H x y v u Q I rx ry ⟨i,j,r1,r2,h _ θ H (.refl hw) rfl⟩
 ·exact h.elim⟩
def P1:Q2 X (U4 .Mult) m7:=⟨by
 intro af s σ H x y v u Q I rx ry h;obtain⟨θ,M,dx,dy,hw,r1,r2,h⟩:=h;unfold m7 at h;split at h
 ·rename_i i j;split at h
  ·rename_i hc;exact KI af s σ H x y v u Q I rx ry ⟨i,j,r1,r2,hc,h _ θ H (.refl hw) rfl⟩
  ·exact h.elim
 ·exact h.elim⟩
def Mo:Q2 X (U4 .FloorDiv) iN:=⟨by
 intro af s σ H x y v u Q I rx ry h;obtain⟨θ,M,dx,dy,hw,r1,r2,h⟩:=h;unfold iN at h;split at h
 ·rename_i i j;split at h
  ·rename_i hc;have e1:x=.int i:=r1;have e2:y=.int j:=r2;subst e1;subst e2;obtain⟨t,rfl⟩:=rx;obtain⟨t',rfl⟩:=ry;exact floordiv_int (by omega) (by rw[Xh i (by omega)];exact⟨.int (i / j),H,I.tok _,⟨_,rfl⟩,h _ θ H (.refl hw) rfl⟩) (.inl (XA hc.2))
  ·exact h.elim
 ·exact h.elim⟩
def PP:Q2 X (U4 .Mod) jV:=⟨by
 intro af s σ H x y v u Q I rx ry h;obtain⟨θ,M,dx,dy,hw,r1,r2,h⟩:=h;unfold jV at h;split at h
 ·rename_i i j;split at h
  ·rename_i hc;exact Lc af s σ H x y v u Q I rx ry ⟨i,j,r1,r2,hc,h _ θ H (.refl hw) rfl⟩
  ·exact h.elim
 ·exact h.elim⟩
def N2:Q2 X (U4 .Pow) DV:=⟨by
 intro af s σ H x y v u Q I rx ry h;obtain⟨θ,M,dx,dy,hw,r1,r2,h⟩:=h;unfold DV at h;split at h
 ·rename_i i j;split at h
  ·rename_i hc;exact Na af s σ H x y v u Q I rx ry ⟨i,j,r1,r2,hc,h _ θ H (.refl hw) rfl⟩
  ·exact h.elim
 ·exact h.elim⟩
def RQ:Q2 X (T8 .Lt) uC:=⟨by
 intro af s σ H x y v u Q I rx ry h;obtain⟨θ,M,dx,dy,hw,r1,r2,h⟩:=h;unfold uC at h;split at h
 ·rename_i i j;exact PZ af s σ H x y v u Q I rx ry ⟨i,j,r1,r2,h _ θ H (.refl hw) rfl⟩
 ·exact h.elim⟩
def SA:Q2 X (T8 .LtE) xG:=⟨by
 intro af s σ H x y v u Q I rx ry h;obtain⟨θ,M,dx,dy,hw,r1,r2,h⟩:=h;unfold xG at h;split at h
 ·rename_i i j;exact NT af s σ H x y v u Q I rx ry ⟨i,j,r1,r2,h _ θ H (.refl hw) rfl⟩
 ·exact h.elim⟩
def RY:Q2 X (T8 .Gt) zE:=⟨by
 intro af s σ H x y v u Q I rx ry h;obtain⟨θ,M,dx,dy,hw,r1,r2,h⟩:=h;unfold zE at h;split at h
 ·rename_i i j;exact OR af s σ H x y v u Q I rx ry ⟨i,j,r1,r2,h _ θ H (.refl hw) rfl⟩
 ·exact h.elim⟩
def Sj:Q2 X (T8 .GtE) DB:=⟨by
 intro af s σ H x y v u Q I rx ry h;obtain⟨θ,M,dx,dy,hw,r1,r2,h⟩:=h;unfold DB at h;split at h
 ·rename_i i j;exact O7 af s σ H x y v u Q I rx ry ⟨i,j,r1,r2,h _ θ H (.refl hw) rfl⟩
 ·exact h.elim⟩
def Sv {k:Nat}(hr:bo k X.A):Q2 X (T8 .Eq) (aW false):=⟨Pj hr.units⟩
def Q9 {k:Nat}(hr:bo k X.A):Q2 X (T8 .NotEq) (aW true):=⟨ON hr.units⟩
def Rr:Q2 X (T8 .Is) (ww false):=⟨by
 intro af s σ H x y v u Q I rx ry h;obtain⟨θ,M,dx,dy,hw,r1,r2,h⟩:=h;unfold ww at h;split at h
 ·rename_i b q;obtain⟨hp,e⟩:=G1 r1 r2 rx ry q;refine wpAny_is_plain hp ?_;rw[e];refine⟨.bl b,H,I,rfl,?_⟩;have:=h (.bl (b != false)) θ H (.refl hw) rfl
  simp_all
 ·exact h.elim⟩
def Hr:Q2 X (T8 .IsNot) (ww true):=⟨by
 intro af s σ H x y v u Q I rx ry h;obtain⟨θ,M,dx,dy,hw,r1,r2,h⟩:=h;unfold ww at h;split at h
 ·rename_i b q;obtain⟨hp,e⟩:=G1 r1 r2 rx ry q;refine wpAny_isNot_plain hp ?_;rw[e];refine⟨.bl (!b),H,I,rfl,?_⟩;have:=h (.bl (b != true)) θ H (.refl hw) rfl
  simp_all
 ·exact h.elim⟩
def Ra:Q2 X (T8 .In) (Aq false):=⟨Qn⟩
def Of:QC X (.builtin "len") cq:=⟨by
 intro af s σ H xs us Q I r h;obtain⟨θ,M,ds,hw,rd,h⟩:=h;unfold cq at h;split at h
 ·rename_i x;split at h
  ·rename_i hl;obtain⟨v,e,rv⟩:=gZ rd;exact wJ af s σ H xs us Q I r ⟨x,by rw[e,rv],hl,h _ θ H (.refl hw) rfl⟩
  ·exact h.elim
 ·split at h
  ·rename_i ys q;obtain⟨v,e,rv⟩:=gZ rd;obtain⟨a,vs,ea,sq,ra⟩:=qj hw rv q;refine wH af s σ H xs us Q I r ⟨a,vs,by rw[e,ea],sq,?_⟩;rw[<-ar ra];exact h _ θ H (.refl hw) rfl
  ·exact h.elim
 ·exact h.elim⟩
def OM (hc:X.calm=true:=by rfl):QC X (.builtin "min") zT:=⟨by
 intro af s σ H xs us Q I r h;obtain⟨θ,M,ds,hw,rd,h⟩:=h;unfold zT at h;split at h
 ·rename_i i j;obtain⟨v,v',e,rv,rv'⟩:=Ao rd;exact Cp hc af s σ H xs us Q I r ⟨i,j,by rw[e,rv,rv'],h _ θ H (.refl hw) rfl⟩
 ·exact h.elim⟩
def Ly {k:Nat}(hr:bo (k+1) X.A)(hc:X.calm=true:=by rfl):QC X (.builtin "max") tH:=⟨by
 intro af s σ H xs us Q I r h;obtain⟨θ,M,ds,hw,rd,h⟩:=h;unfold tH at h;split at h
 ·split at h
  ·rename_i d q;obtain⟨v,rr,e,⟨a,vs,ea,ta,rs⟩,er⟩:=rd;have er:rr=[]:=er;subst er e ea;obtain⟨u,rfl,ru⟩:=j9 r;have ru:u=.ref a:=ru;subst ru;exact yT hr hc I hw (.inl ⟨.inl ta.1,ta.2⟩) rs q λv rv=>h v θ H (.refl hw) rv
  ·exact h.elim
 ·rename_i ys;split at h
  ·rename_i d q;obtain⟨v,rr,e,⟨a,vs,ea,ta,rs⟩,er⟩:=rd;have er:rr=[]:=er;subst er e ea;obtain⟨u,rfl,ru⟩:=j9 r;have ru:u=.ref a:=ru;subst ru;exact yT hr hc I hw ta rs q λv rv=>h v θ H (.refl hw) rv
  ·exact h.elim
 ·exact(λh=>ML hc af s σ H xs us Q I r ⟨θ,M,ds,hw,rd,h⟩) h⟩
def Qi (hc:X.calm=true:=by rfl):QC X (.builtin "all") rH:=⟨by
 intro af s σ H xs us Q I r h;obtain⟨θ,M,ds,hw,rd,h⟩:=h;unfold rH at h;split at h
 ·obtain⟨v,e,rv⟩:=gZ rd;subst e;obtain⟨u,rfl,ru⟩:=j9 r;split at h
  ·rename_i ys q;split at h
   ·rename_i bs qb;refine bQ (call_all_walk (zK hc I hw rv ru q qb (Q:=λb H=>Q (.bl b) H)  (λh' tk I'=>?_))) λu' s' ⟨v',H',I',r',b,eb,q'⟩=>⟨v',H',I',r',by rwa [eb]⟩
    rw[Dt];exact h _ θ H (.refl hw) rfl
   ·exact h.elim
  ·exact h.elim
 ·exact h.elim⟩
def Gx:QC X (.builtin "divmod") GL:=⟨by
 intro af s σ H xs us Q I r h;obtain⟨θ,M,ds,hw,rd,h⟩:=h;unfold GL at h;split at h
 ·rename_i i j;obtain⟨v,v',e,r1,r2⟩:=Ao rd;subst e;subst r1;subst r2;obtain⟨u,u',rfl,⟨t,rfl⟩,⟨t',rfl⟩⟩:=Bc r;split at h
  ·rename_i hc;refine divmod_int (by omega) ?_ (.inl (XA hc.2));rw[Xh i (by omega),Xa i (by omega)];have hp:=I.hok.fresh (Te _);refine⟨.ref s.heap.objs.size,_,I.laid  (λb o e=>Tc _ e) (Te _) (show bM X.prog X.w _ _ _ (.tup [.int (i / j),.int (i % j)]) from⟨TL (by simp:2<=1000000) (by decide),[.int (i / j) s.toks,.int (i % j) (s.toks+1)],.cons ⟨_,rfl⟩ (.cons ⟨_,rfl⟩ .nil),XD _ _⟩),rfl,?_⟩;exact h _ θ _ (cR hw hp) (gH hw hp (⟨_,_,rfl,rfl,_,_,rfl,rfl,rfl⟩))
  ·exact h.elim
 ·exact h.elim⟩
def NS:QC X (.type "int") Ck:=⟨Ml⟩
def Mz:QC X (.type "list") rB:=⟨IG⟩
def Jv:QC X (.type "list") tj:=⟨Eg⟩
def Hw:QC X (.type "tuple") dj:=⟨by
 intro af s σ H xs us Q I r h;obtain⟨θ,M,ds,hw,rd,h⟩:=h;unfold dj at h;split at h
 ·rename_i d;obtain⟨v,e,rv⟩:=gZ rd;cases d with
  | tup ys=>
   obtain⟨a,vs,ea,ta,ra⟩:=rv;exact gK af s σ H xs us Q I r ⟨a,vs,by rw[e,ea],.inr ⟨ta.sq,h _ θ H (.refl hw) ⟨a,vs,rfl,ta,ra⟩⟩⟩
  | lst ys=>
   obtain⟨a,vs,ea,ta,ra⟩:=rv;exact gK af s σ H xs us Q I r ⟨a,vs,by rw[e,ea],.inl ⟨ta.sq,λl hl=>h _ θ _ (cR hw hl) (gH hw hl ra)⟩⟩
  | ro ys=>
   obtain⟨a,vs,ea,ta,ra⟩:=rv;exact gK af s σ H xs us Q I r ⟨a,vs,by rw[e,ea],.inl ⟨ta.sq,λl hl=>h _ θ _ (cR hw hl) (gH hw hl ra)⟩⟩
  | mr k=>
   obtain⟨a,ea,ta⟩:=rv;cases qm:M[k]? with
   | none=>simp[a7,qm] at h;exact h.elim
   | some m=>
    cases m with
    | lst ys=>
     simp only[a7,qm] at h;obtain⟨vs,hv,ra⟩:=hw.at_ k a _ ta qm;exact gK af s σ H xs us Q I r ⟨a,vs,by rw[e,ea],.inl ⟨.inl (.inl hv),λl hl=>h _ θ _ (cR hw hl) (gH hw hl ra)⟩⟩
    | _=>simp[a7,qm] at h;exact h.elim
  | _=>exact h.elim
 ·exact h.elim⟩
def qv (i:Nat){x:Str}{pos:Pos}(hN:X.N[i]?=Z x:=by rfl)(hv:NJ X.env.scope x:=by first|exact X2 rfl|exact WV (X2 rfl)|exact WV (WV rfl))(hd:(x==("__debug__":Str))=false:=by decide)
  (hcd:(x==("__classdict__":Str))=false:=by decide):QE X (.Name x pos) (ae i):=⟨vv i hN hv hd hcd⟩
def LO {i:Int}{j pos}:QE X (.Constant (.int i) j pos) (gC (.int i)):=⟨AN.of λσ H Q ⟨ρ,θ,M,hd,hw,f⟩=>f _ θ H (.refl hw) rfl⟩
def PK {b j pos}:QE X (.Constant (.bool b) j pos) (gC (.bl b)):=⟨Pk.of λσ H Q ⟨ρ,θ,M,hd,hw,f⟩=>f _ θ H (.refl hw) rfl⟩
def ND {j pos}:QE X (.Constant .none j pos) (gC .non):=⟨MD.of λσ H Q ⟨ρ,θ,M,hd,hw,f⟩=>f _ θ H (.refl hw) rfl⟩
def Mn {x j pos}:QE X (.Constant (.str x) j pos) (gC (.str x)):=⟨Ff.of λσ H Q ⟨ρ,θ,M,hd,hw,f⟩=>f _ θ H (.refl hw) rfl⟩
def KA (h:QE X a g):QE X (.UnaryOp .USub a pos) (sj g):=⟨(Kr EL h.h).of λσ H Q hxx=>by
 obtain⟨ρ,θ,M,hd,hw,h⟩:=hxx;refine bf hd hw (aF X θ H Q) (λc M' h=>h) (λh=>h) h λd M1 v θ1 H1 g1 r1 h1=>?_
 split at h1
 ·rename_i i;exact⟨i,r1,h1 _ θ1 H1 g1 rfl⟩
 ·exact h1.elim⟩
def Nu (h:QE X a g):QE X (.UnaryOp .Not a pos) (FA (aJ g)):=⟨(Nh h.h).of λσ H Q hxx=>by
 obtain⟨ρ,θ,M,hd,hw,h⟩:=hxx;refine⟨ρ,θ,M,hd,hw,?_⟩;unfold FA aJ at h;cases q:g ρ M with
 | ok d M1=>
  rw[q] at h;cases d with
  | bl b=>exact λv θ1 H1 g1 r1=>⟨b,r1,h _ θ1 H1 g1 rfl⟩
  | _=>exact h.elim
 | err c M1=>rwa [q] at h
 | bad=>rwa [q] at h⟩
def Oi (ho:Q2 X (U4 op) f)(ha:QE X a ga)(hb:QE X b gb):QE X (.BinOp a op b pos) (g2 f ga gb):=⟨(NR ho.h ha.h hb.h).of λ_ _ _ h=>BJ h⟩
def KR:CmpOp->Bool
 | .In=>false
 | .NotIn=>false
 | _=>true
def v4 {b:T9}(h:KR op=true):Wa op b=false:=by
 cases op <;> first|exact Np _|(cases h)
def K7 (ho:Q2 X (T8 op) f)(ha:QE X a ga)(hb:QE X b gb)(hm:KR op=true:=by rfl):QE X (.Compare a [op] [b] pos) (g2 f ga gb):=⟨Nj ho.h ha.h hb.h (v4 hm)⟩
def Lu (ho:Q2 X (T8 op) f)(ha:QE X a ga)(hb:QE X b gb)(hm:KR op=true:=by rfl):QT X (.Compare a [op] [b] pos) (aJ (g2 f ga gb)):=⟨Ek ho.h ha.h hb.h (v4 hm)⟩
def JK (ho:Q2 X (T8 op) f)(ha:QE X a ga)(hb:QE X b gb)(hm:Wa op b=false:=by with_unfolding_all rfl):QT X (.Compare a [op] [b] pos) (aJ (g2 f ga gb)):=⟨Ek ho.h ha.h hb.h hm⟩
def GQ (ho:Q2 X (T8 op) f)(ho':Q2 X (T8 op') f')(ha:QE X a ga)(hb:QE X b gb)(hc:QE X c gc)(hm:Zt [op,op'] [b,c]=false:=by with_unfolding_all rfl):QE X (.Compare a [op,op'] [b,c] pos) (CA f f' ga gb gc):=⟨(FH ho.h ho'.h ha.h hb.h hc.h hm).of λ_ _ _ h=>JV h⟩
def D3 (ho:Q2 X (T8 op) f)(ho':Q2 X (T8 op') f')(ha:QE X a ga)(hb:QE X b gb)(hc:QE X c gc)(hm:Zt [op,op'] [b,c]=false:=by with_unfolding_all rfl):QT X (.Compare a [op,op'] [b,c] pos) (aJ (CA f f' ga gb gc)):=⟨(FQ ho.h ho'.h ha.h hb.h hc.h hm).of λσ H Q h=>JV (F0 h)⟩
def Nd {op}(h:QE X a g):QE X (.BoolOp op [a] pos) g:=⟨LJ h.h⟩
def K4 (ha:QE X a ga)(hb:QE X (.BoolOp .And (b::rest) pos) gb):QE X (.BoolOp .And (a::b::rest) pos) (fM ga gb):=⟨(KD ha.h hb.h).of λσ H Q hxx=>by
 obtain⟨ρ,θ,M,hd,hw,h⟩:=hxx;refine bf hd hw (aF X θ H Q) (λc M' h=>h) (λh=>h) h λd M1 v θ1 H1 g1 r1 h1=>?_
 cases d with
 | bl c=>
  refine⟨c,r1,?_⟩;cases c with
  | true=>exact⟨ρ,θ1,M1,hd.go g1,g1.wr,aF.go g1 h1⟩
  | false=>exact h1 _ θ1 H1 g1 rfl
 | _=>exact h1.elim⟩
def Pw (ha:QE X a ga)(hb:QE X (.BoolOp .Or (b::rest) pos) gb):QE X (.BoolOp .Or (a::b::rest) pos) (QM ga gb):=⟨(Pr ha.h hb.h).of λσ H Q hxx=>by
 obtain⟨ρ,θ,M,hd,hw,h⟩:=hxx;refine bf hd hw (aF X θ H Q) (λc M' h=>h) (λh=>h) h λd M1 v θ1 H1 g1 r1 h1=>?_
 cases d with
 | bl c=>
  refine⟨c,r1,?_⟩;cases c with
  | true=>exact h1 _ θ1 H1 g1 rfl
  | false=>exact⟨ρ,θ1,M1,hd.go g1,g1.wr,aF.go g1 h1⟩
 | _=>exact h1.elim⟩
def OO (hc:QT X c ta)(ha:QE X a ga)(hb:QE X b gb):QE X (.IfExp c a b pos) (Em ta ga gb):=⟨(E5 hc.h ha.h hb.h).of λσ H Q hxx=>by
 obtain⟨ρ,θ,M,hd,hw,h⟩:=hxx;refine vS hd hw (aF X θ H Q) (λc M' h=>h) (λh=>h) h λc M1 θ1 H1 g1 h1=>?_
 cases c with
 | true=>exact⟨ρ,θ1,M1,hd.go g1,g1.wr,aF.go g1 h1⟩
 | false=>exact⟨ρ,θ1,M1,hd.go g1,g1.wr,aF.go g1 h1⟩⟩
def Ik (ha:QT X a ta):QW X (.BoolOp .And [a] pos) ta:=⟨IF ha.h⟩
def Le (ha:QT X a ta):QW X (.BoolOp .Or [a] pos) ta:=⟨L4 ha.h⟩
def Nn (ha:QT X a ta)(hb:QW X (.BoolOp .And (b::rest) pos) tb):QW X (.BoolOp .And (a::b::rest) pos) (fL ta tb):=⟨(LY ha.h hb.h).of λσ H Q hxx=>by
 obtain⟨ρ,θ,M,hd,hw,h⟩:=hxx;refine vS hd hw (pS X θ H Q) (λc M' h=>h) (λh=>h) h λc M1 θ1 H1 g1 h1=>?_
 cases c with
 | true=>exact⟨ρ,θ1,M1,hd.go g1,g1.wr,pS.go g1 h1⟩
 | false=>exact h1 θ1 H1 g1⟩
def OW (ha:QT X a ta)(hb:QW X (.BoolOp .Or (b::rest) pos) tb):QW X (.BoolOp .Or (a::b::rest) pos) (jO ta tb):=⟨(Po ha.h hb.h).of λσ H Q hxx=>by
 obtain⟨ρ,θ,M,hd,hw,h⟩:=hxx;refine vS hd hw (pS X θ H Q) (λc M' h=>h) (λh=>h) h λc M1 θ1 H1 g1 h1=>?_
 cases c with
 | true=>exact h1 θ1 H1 g1
 | false=>exact⟨ρ,θ1,M1,hd.go g1,g1.wr,pS.go g1 h1⟩⟩
def O0 (h:QW X a ta):QT X a ta:=⟨PW.pt h.h⟩
def Nq (h:QT X a ta):QT X (.UnaryOp .Not a pos) (fE ta):=⟨(Ll h.h).of λσ H Q hxx=>by
 obtain⟨ρ,θ,M,hd,hw,h⟩:=hxx;exact vS hd hw (pS X θ H Q) (λc M' h=>h) (λh=>h) h λc M1 θ1 H1 g1 h1=>h1 θ1 H1 g1⟩
def LZ (h:QE X a g)(he:∀whole,isTrue a X.env whole=(do let v <-whole;WJ a.pos;U1 [v] (truthy v)):=by intro _;rfl):QT X a (iW g):=⟨(EQ h.h he).of λσ H Q hxx=>by
  obtain⟨ρ,θ,M,hd,hw,h⟩:=hxx;refine bf hd hw (pS X θ H Q) (λc M' h=>h) (λh=>h) h λd M1 v θ1 H1 g1 r1 h1=>?_
  cases d with
  | non=>have e:v=.non:=r1;subst e;exact⟨false,rfl,h1 θ1 H1 g1⟩
  | bl b=>have e:v=.bl b:=r1;subst e;exact⟨b,rfl,h1 θ1 H1 g1⟩
  | int i=>have e:v=.int i:=r1;subst e;exact⟨i != 0,rfl,h1 θ1 H1 g1⟩
  | str x=>
   subst r1;have h1:pS X θ H Q (if x.length<=To then .ok ((x.length:Int) != 0) M1 else .bad):=h1;split at h1
   ·rename_i hl;exact⟨_,⟨hl,rfl⟩,h1 θ1 H1 g1⟩
   ·exact h1.elim
  | tup xs=>
   obtain⟨a,vs,e,ta,ra⟩:=r1;subst e;exact⟨_,.inr (.inl ⟨vs,ta.sq,(kL ra).symm⟩),h1 θ1 H1 g1⟩
  | lst xs=>
   obtain⟨a,vs,e,ta,ra⟩:=r1;subst e;exact⟨_,.inl ⟨vs,ta.sq,(kL ra).symm⟩,h1 θ1 H1 g1⟩
  | ro xs=>
   obtain⟨a,vs,e,ta,ra⟩:=r1;subst e;exact⟨_,.inl ⟨vs,ta.sq,(kL ra).symm⟩,h1 θ1 H1 g1⟩
  | mr k=>
   obtain⟨a,e,ta⟩:=r1;subst e;have h1:pS X θ H Q (match M1[k]? with|some (.lst xs)=>.ok (!xs.isEmpty) M1|_=>.bad):=h1;cases qm:M1[k]? with
   | none=>rw[qm] at h1;exact h1.elim
   | some m=>
    cases m with
    | lst ys=>
     rw[qm] at h1;obtain⟨vs,hv,ra⟩:=g1.wr.at_ k a _ ta qm;exact⟨_,.inl ⟨vs,.inl (.inl hv),(kL ra).symm⟩,h1 θ1 H1 g1⟩
    | _=>rw[qm] at h1;exact h1.elim
  | exc c=>exact h1.elim
  | any=>exact h1.elim⟩
def NE:QA X [] ag:=⟨tK.of λσ H Q ⟨ρ,θ,M,hd,hw,f⟩=>f [] θ H (.refl hw) rfl⟩
def R4 {gr:GA}(ha:QE X e g)(hr:QA X es gr)(h:cA e=true:=by rfl):QA X (e::es) (aa g gr):=⟨Iq ha.h hr.h (sE h)⟩
def Mu {x1}(h:QA X es gA):QE X (.Tuple es x1 pos) (aP gA):=⟨Lp h.h⟩
def L3 (h:QA X es gA):QE X (.List es pos) (kH gA):=⟨MV h.h⟩
def KY (h:QA X es gA):QE X (.List es pos) (ft gA):=⟨MX h.h⟩
def MY:QF X [] []:=⟨.nil⟩
def RB (h:QE X e g)(t:QF X es gs):QF X (e::es) (g::gs):=⟨.cons h.h t.h⟩
def KN {i:Int}(h:QE X e g)(hi:i=-1:=by rfl):QE X (.FormattedValue e i Y pos) (IV g):=⟨Nf h.h hi⟩
def HB (h:QF X (a::b::es) gs):QE X (.JoinedStr (a::b::es) pos) (v7 gs Yy):=⟨by
 intro af s σ H Q I q;exact JoinedStr_many (Jc h.h Yy af s σ H Q (Uc _) I q)⟩
def K6 {i:Int}{j p1 p2 p3 pos}(hi:i=1)(he:QE X e g):QE X (.Subscript e (.Slice Y Y (Z (.UnaryOp .USub (.Constant (.int i) j p1) p2)) p3) pos) (JL g):=⟨by
 subst hi;intro af s σ H Q I h;obtain⟨ρ,θ,M,hd,hw,h⟩:=h;have h2:tE X g σ H (λx H1=>∃a vs,x=.ref a/\rQ X.K H1 a vs/\∀p,H1 p=Y->Q (.ref p) (bj H1 p (.tup vs.reverse))):=by
  refine bf hd hw (aF X θ H Q) (λc M' h=>h) (λh=>h) h λd M1 v θ1 H1 g1 r1 h1=>?_
  split at h1
  ·rename_i xs;obtain⟨a,vs,e1,ta,ra⟩:=r1;exact⟨a,vs,e1,ta.sq,λp hp=>h1 _ θ1 _ (g1.trans (cR g1.wr hp)) (gH g1.wr hp (pG ra))⟩
  ·exact h1.elim
 refine Y3 (bQ (he.h af s σ H _ I h2) λv s1 hxx=>?_);obtain⟨x,H1,I1,r1,a,vs,ex,sq,q1⟩:=hxx;subst ex;cases r1;refine ZJ ?_;rw[evalPart_none];refine Tb (Tb ?_);rw[YO];refine bQ ((Kr EL AN) af s1 σ H1 (λy H'=>y=.int (-1)/\H'=H1) I1 ⟨1,rfl,rfl,rfl⟩) λvst s3 hxx=>?_
 obtain⟨y,H3,I3,r3,ey,eH⟩:=hxx;subst ey;subst eH;obtain⟨tk,rfl⟩:=r3;have I4:L2.Inv X af σ H3 {s3 with heap:=s3.heap.push {cls:=.type "slice",data:=.fields #[.none,.none,.int (-1) tk]}}:=I3.kept (t':=s3.toks) λb ob q=>Tc _ q
 obtain⟨its,rv,ht,hz⟩:=I4.tuple sq;have hlen:its.toArray.size=vs.length:=by rw[Uk];exact rv.length.symm
 refine tail_any (ops:=[.ref a,.ref s3.heap.objs.size]) ht.typeIs TQ.lookup (oP ht (Xf ..) ?_ (by rw[hlen];exact hz)) (by with_unfolding_all rfl);refine⟨.ref _,_,I4.laid (t':=s3.toks) (o:=.tup vs.reverse) (λb ob q=>Tc _ q) (Te _) ?_,rfl,q1 _ (I4.hok.fresh (Te _))⟩;exact⟨by rw[length_reverse];exact hz,_,rv.reverse,XD _ _⟩⟩
def JE:QP X Y bD:=⟨H9.of λσ H Q ⟨ρ,θ,M,hd,hw,f⟩=>f θ H (.refl hw)⟩
def HH (h:QE X e g):QP X (Z e) (dn g):=⟨Hc h.h⟩
def Gv {lo hi:Option T9}(he:QE X e g)(hl:QP X lo gl)(hh:QP X hi gh):QE X (.Subscript e (.Slice lo hi Y p2) pos) (re g gl gh):=⟨(Fk Q0 he.h hl.h hh.h).of λσ H Q hxx=>by
  obtain⟨ρ,θ,M,hd,hw,h⟩:=hxx;refine bf hd hw (aF X θ H Q) (λc M' h=>h) (λh=>h) h λd M1 v θ1 H1 g1 r1 h1=>?_
  refine Ka (hd.go g1) g1.wr (aF X θ1 H1 Q) (λc M' h=>h) (λh=>h) (h1.go g1) λl M2 θ2 H2 g2 h2=>?_
  refine Ka ((hd.go g1).go g2) g2.wr (aF X θ2 H2 Q) (λc M' h=>h) (λh=>h) (h2.go g2) λu M3 θ3 H3 g3 h3=>?_
  exact⟨θ3,M3,d,g3.wr,r1.go (g2.trans g3),h3.go g3⟩⟩
def OV (ha:QE X a ga)(hb:QE X b gb)(hs:Bz b:=by intro _ _;rfl):QE X (.Subscript a b pos) (g2 aB ga gb):=⟨(OT Ou ha.h hb.h hs).of λ_ _ _ h=>BJ h⟩
section
variable {apos cpos:Pos}{k n:Nat}{f:Th}{fd:UZ}{ps:List Str}{F:FD}{T:String}{id:String}
theorem CV (ho:QE X o go)(hbase:Uw o "clear" X.env (Uy o X.env)=Uy o X.env:=by rfl)(hline:(apos.endLine==cpos.line)=true:=by rfl):QE X (.Call (.Attribute o "clear" apos) [] [] cpos) (Cq go):=⟨(Lx PySem.F.plainAttrs_list PySem.F.slot_list_clear PySem.F.type_list_clear DK ho.h hbase hline).of λσ H Q hxx=>by
  obtain⟨ρ,θ,M,hd,hw,h⟩:=hxx;refine bf hd hw (aF X θ H Q) (λc M' h=>h) (λh=>h) h λd M1 v θ1 H1 g1 r1 h1=>?_
  have h2:=aF.go g1 h1;cases d with
  | mr k=>
   have h2:aF X θ1 H1 Q (match M1[k]? with|some (.lst _)=>.ok .non (M1.set k (.lst []))|_=>.bad):=h2;cases qm1:M1[k]? with
   | none=>rw[qm1] at h2;exact h2.elim
   | some m1=>
    cases m1 with
    | obj _ _=>rw[qm1] at h2;exact h2.elim
    | dK _=>rw[qm1] at h2;exact h2.elim
    | dT _=>rw[qm1] at h2;exact h2.elim
    | lst ys=>
     rw[qm1] at h2;obtain⟨a,ea,ta⟩:=id r1;obtain⟨vs,hv,ra⟩:=g1.wr.at_ k a _ ta qm1;refine⟨by rw[ea];exact .inl ⟨rfl,vs,.inl (.inl hv)⟩,?_⟩;have gs:=ul (ds:=ys) (ds':=[]) (vs':=[]) g1.wr ta (show aY X.K θ1 H1 [] [] from rfl);exact⟨a,vs,ea,rfl,hv,h2 _ θ1 _ gs rfl⟩
  | _=>exact h2.elim⟩
theorem Dx (ho:QE X o go)(he:QE X e ge)(h1:cA e=true:=by rfl)(hbase:Uw o "append" X.env (Uy o X.env)=Uy o X.env:=by rfl)(hline:(apos.endLine==cpos.line)=true:=by rfl):QE X (.Call (.Attribute o "append" apos) [e] [] cpos) (gX go ge):=⟨(P5 PySem.F.plainAttrs_list PySem.F.slot_list_append PySem.F.type_list_append C4 ho.h (mU he.h tK (sE h1)) hbase (Ny h1) hline (sE h1) rfl).of λσ H Q hxx=>by
  obtain⟨ρ,θ,M,hd,hw,h⟩:=hxx;refine bf hd hw (aF X θ H Q) (λc M' h=>h) (λh=>h) h λd M1 v θ1 H1 g1 r1 h1=>?_
  have h2:=aF.go g1 h1;cases d with
  | mr k=>
   have h2:aF X θ1 H1 Q (match M1[k]? with|some (.lst _)=>(ge ρ M1).bind (uH k)|_=>.bad):=h2;cases qm1:M1[k]? with
   | none=>rw[qm1] at h2;exact h2.elim
   | some m1=>
    cases m1 with
    | obj _ _=>rw[qm1] at h2;exact h2.elim
    | dK _=>rw[qm1] at h2;exact h2.elim
    | dT _=>rw[qm1] at h2;exact h2.elim
    | lst ys1=>
     rw[qm1] at h2;obtain⟨a1,ea1,ta1⟩:=id r1;obtain⟨vs1,hv1,_⟩:=g1.wr.at_ k a1 _ ta1 qm1;refine⟨by rw[ea1];exact .inl ⟨rfl,vs1,.inl (.inl hv1)⟩,?_⟩;refine bf (hd.go g1) g1.wr (aF X θ1 H1 Q) (λc M' h=>h) (λh=>h) h2 λdx M2 vx θ2 H2 g2 r2 h3=>?_
     have h3:aF X θ1 H1 Q (match M2[k]? with|some (.lst xs)=>if xs.length<To then .ok .non (M2.set k (.lst (xs++[dx]))) else .bad|_=>.bad):=h3;obtain⟨a,ea,ta⟩:=r1.go g2;cases qm:M2[k]? with
     | none=>rw[qm] at h3;exact h3.elim
     | some m=>
      cases m with
      | obj _ _=>rw[qm] at h3;exact h3.elim
      | dK _=>rw[qm] at h3;exact h3.elim
      | dT _=>rw[qm] at h3;exact h3.elim
      | lst ys=>
       rw[qm] at h3;obtain⟨vs,hv,ra⟩:=g2.wr.at_ k a _ ta qm;have h3:aF X θ1 H1 Q (if ys.length<To then .ok .non (M2.set k (.lst (ys++[dx]))) else .bad):=h3;split at h3
       ·rename_i hl;have gs:=ul (ds:=ys) g2.wr ta (cD ra (show aY X.K θ2 H2 [dx] [vx] from⟨vx,[],rfl,r2,rfl⟩));exact⟨a,vs,vx,ea,rfl,hv,by rw[<-ar ra];exact hl,h3 _ θ2 _ (g2.trans gs) rfl⟩
       ·exact h3.elim
  | _=>exact h2.elim⟩
def Ol (Fn:eM X.prog X.w X.K X.mg X.base (ju X.prog X.w) k f fd ps (rq X.K n F))(hr:bo k X.A)(hg:Gl X x)(hm:X.mg x=Z (.ref f))(hk:VU X.K (.ref f)=true)(hb:f6 X.K fd ps [])(ha:QA X (e::es) gA)
  (hdb:(x==("__debug__":Str))=false:=by decide) (h1:cA e=true:=by rfl) (h2:eV es=true:=by rfl):QE X (.Call (.Name x p) (e::es) [] pos) (ah n F gA):=⟨Jk Fn hr hg hm hk hb ha.h hdb (sE h1) (sS h2)⟩
def Ke (hc:QC X (.builtin id) F)(hg:Gl X x)(hm:X.mg x=Y)(hv:UL x=Z (.builtin id))(ha:QA X (e::es) gA)(hn:x≠"__name__":=by decide)(hdb:(x==("__debug__":Str))=false:=by decide)
  (h1:cA e=true:=by rfl) (h2:eV es=true:=by rfl):QE X (.Call (.Name x p) (e::es) [] pos) (aM F gA):=⟨F7 hc.h hg hm hv ha.h hn hdb (sE h1) (sS h2)⟩
def PD (hc:QC X (.type T) F)(hg:Gl X x)(hm:X.mg x=Y)(hv:UL x=Z (.type T))(ha:QA X (e::es) gA)(hn:x≠"__name__":=by decide)(hdb:(x==("__debug__":Str))=false:=by decide)
  (h1:cA e=true:=by rfl) (h2:eV es=true:=by rfl):QE X (.Call (.Name x p) (e::es) [] pos) (aM F gA):=⟨CG hc.h hg hm hv ha.h hn hdb (sE h1) (sS h2)⟩
def NX (hT:rX T)(hv:UL x=Z (.type T))(hg:Gl X x)(hm:X.mg x=Y)(hgi:Gl X "isinstance")(hmi:X.mg "isinstance"=Y)(he:QE X e g)
  (h1:cA e=true:=by rfl) (hn:x≠"__name__":=by decide) (hd:(x==("__debug__":Str))=false:=by decide):QE X (.Call (.Name "isinstance" p) [e,.Name x p2] [] pos) (mZ T g):=⟨K0 hT hv hg hm hgi hmi he.h hn hd boot_isinstance (sE h1) (sE rfl) (sS rfl)⟩
end
def Pp (hg:Gl X "range")(hm:X.mg "range"=Y)(ha:QA X [a] gA)(h1:cA a=true:=by rfl):QI X tg (.Call (.Name "range" p) [a] [] pos) (dO gA):=⟨Cw hg hm ha.h (sE h1)⟩
def Lw (h:QE X e g):QI X tg e (bW g):=⟨NB h.h⟩
def IJ {es:List T9}(hg:Gl X "enumerate")(hm:X.mg "enumerate"=Y)(hv:UL "enumerate"=Z (.type "enumerate"))(ha:QA X [a] gA)(h1:cA a=true:=by rfl):QI X (.Tuple es kt tp) (.Call (.Name "enumerate" p) [a] [] pos) (xK gA):=⟨by
 intro af s σ H R I h;refine HY hg hm hv ha.h (sE h1) af s σ H R I ?_;obtain⟨ρ,θ,M,hd,hw,h⟩:=h;refine mw hd hw (EZ X θ H R) (λc M' h=>h) (λh=>h) h λds M1 vs θ1 H1 g1 r1 h1=>?_
 unfold Mi at h1;split at h1
 ·obtain⟨v,r,e,⟨a,us,e2,ta,rs⟩,rr⟩:=r1;have rr:r=[]:=rr;subst rr e2;exact⟨a,e,.inl ⟨⟨us,ta.sq⟩,h1 _ θ1 H1 g1 (t7  (λθ2 H2 g2=>(ta.grow g2).sq) rs)⟩⟩
 ·obtain⟨v,r,e,⟨a,us,e2,ta,rs⟩,rr⟩:=r1;have rr:r=[]:=rr;subst rr e2;exact⟨a,e,.inl ⟨⟨us,ta.sq⟩,h1 _ θ1 H1 g1 (t7  (λθ2 H2 g2=>(ta.grow g2).sq) rs)⟩⟩
 ·obtain⟨v,r,e,⟨a,us,e2,ta,rs⟩,rr⟩:=r1;have rr:r=[]:=rr;subst rr e2;exact⟨a,e,.inr ⟨⟨us,ta.sq⟩,h1 _ θ1 H1 g1 (t7 (b:=true) (λθ2 H2 g2=>(ta.grow g2).sq) rs)⟩⟩
 ·exact h1.elim⟩
section
variable {scope:X8}{R:List Str}{iter elt:T9}{ifs:List T9}{gI:GI}{gC:GT}{px:Pos}{mk:List D->aq->bi D}
def C3:ER X scope xs R [] bq:=⟨yl⟩
def Dq (h:∀fp s2 H2 C,QT (aD X scope xs R fp s2 H2 C) c ta):ER X scope xs R [c] ta:=⟨GX λfp s2 H2 C=>(h fp s2 H2 C).h⟩
def A4 (hS:cG scope X.env.kindOf [x] R X.N=true)(hm:mk=aR\/mk=dQ)(hi:QI X (.Name x px) iter gI)(hts:ER X scope [x] R ifs gC)(he:∀fp s H C,QE (aD X scope [x] R fp s H C) elt ge)
  (hc:X.calm=true:=by rfl) (hs:∀x,Um iter X.env x=pure x:=by intro _;rfl):QE X (.ListComp elt [⟨.Name x px,iter,ifs,0⟩] scope pos) (a8 gI gC ge mk):=⟨by
 rw[Be];exact Ei  hS hc hm hi.h (Bi (ZX)) (Cb hS) hts.h (λfp s H C=>(he fp s H C).h) hs⟩
def uB (hS:cG scope X.env.kindOf [x] R X.N=true)(hm:mk=aR\/mk=dQ)(hN:X.N.Nodup)(hi:QI X (.Name x px) iter gI)(hts:ER X scope [x] R ifs gC)(he:∀fp s H C,QE (aD X scope [x] R fp s H C) elt ge)
  (hc:X.calm=true:=by rfl) (hj:X.N[j]?=Z y:=by rfl) (hy:X.env.scope.names.lookup y=Z .local:=by rfl) (hsw:V4 (.ListComp elt [⟨.Name x px,iter,ifs,0⟩] scope pos) (Z (.Name y py)) spos.line X.env=pure true:=by rfl)
  (hs:∀x,Um iter X.env x=pure x:=by intro _;rfl):QS X (.Assign [.Name y py] (.ListComp elt [⟨.Name x px,iter,ifs,0⟩] scope pos) spos) (aQ j (a8 gI gC ge mk)):=⟨by
 rw[Be];exact qV  hS hc hm hi.h (Bi (ZX)) (Cb hS) hts.h (λfp s H C=>(he fp s H C).h) hN hj hy hsw hs⟩
def KO (n:Nat)(h:is.all (λi=>decide (i<n))=true:=by rfl):QO n (b8 is):=⟨λd ρ ρ' e=>by
 cases d with
 | tup ds=>exact yG h e
 | _=>cases e⟩
def vF (hS:cG scope X.env.kindOf xs R X.N=true)(h:y∈xs):(aD X scope xs R fp s H C).env.scope.names.lookup y=Z .local:=lookup_relabel_local ((cj.of hS).own y h)
def SR (i:Nat)(hS:cG scope X.env.kindOf xs R X.N=true)(hi:(xs++R)[i]?=Z y:=by rfl)(hx:y∈xs:=by simp):QG (aD X scope xs R fp s H C) (.Name y pos) (dL i):=
 ⟨xi (X:=aD X scope xs R fp s H C) (cj.of hS).nd hi (.inl (vF hS hx)) (.inr (vF hS hx))⟩
def yJ (xs:List Str)(hS:cG scope X.env.kindOf xs R X.N=true)(hm:mk=aR\/mk=dQ)(own:QO xs.length sg)(hN:X.N.Nodup)(hi:QI X tg iter gI)(hg:∀fp s H C,QG (aD X scope xs R fp s H C) tg sg)(hts:ER X scope xs R ifs gC)(he:∀fp s H C,QE (aD X scope xs R fp s H C) elt ge)
  (hc:X.calm=true:=by rfl) (hj:X.N[j]?=Z y:=by rfl) (hy:X.env.scope.names.lookup y=Z .local:=by rfl) (hsw:V4 (.ListComp elt [⟨tg,iter,ifs,0⟩] scope pos) (Z (.Name y py)) spos.line X.env=pure true:=by rfl)
  (hs:∀x,Um iter X.env x=pure x:=by intro _;rfl):QS X (.Assign [.Name y py] (.ListComp elt [⟨tg,iter,ifs,0⟩] scope pos) spos) (aQ j (dM gI xs.length sg gC ge mk)):=⟨qV hS hc hm hi.h own.h (λfp s H C=>(hg fp s H C).h) hts.h (λfp s H C=>(he fp s H C).h) hN hj hy hsw hs⟩
end
def jc:T9->Bool
 | .ListComp ..=>false
 | .SetComp ..=>false
 | .DictComp ..=>false
 | _=>true
def jU {t:Option T9}(h:jc e=true):V4 e t l env=pure false:=by
 cases e <;> first|rfl|exact ff h
section
variable {st:VI}{stmts:List VI}{t u:GS}
def LV:QB X [] aL:=⟨Ho.of λD σ H ⟨ρ,θ,M,hd,hw,f⟩=>f σ θ H (.refl hw) hd⟩
def Ie (h1:QS X st t)(h2:QB X stmts u):QB X (st::stmts) (aj t u):=⟨(DN h1.h h2.h).of λD σ H hxx=>by
 obtain⟨ρ,θ,M,hd,hw,h⟩:=hxx;refine⟨ρ,θ,M,hd,hw,?_⟩;unfold aj at h;cases q:t ρ M with
 | ok f M1=>
  rw[q] at h;cases f with
  | nx ρ1=>exact λσ1 θ1 H1 g1 d1=>⟨ρ1,θ1,M1,d1,g1.wr,bR.go g1 h⟩
  | rt d=>exact h
  | bk ρ1=>exact h
  | ct ρ1=>exact h
 | err c M1=>rwa [q] at h
 | bad=>rwa [q] at h⟩
def Mq (h1:QS X st t):QB X [st] t:=⟨Hn h1.h⟩
def M7 (i:Nat){x:Str}(hN:X.N.Nodup)(he:QE X e g)(hi:X.N[i]?=Z x:=by rfl)(hx:G3 X.env.scope x:=by first|exact X2 rfl|exact WV rfl)(hs:jc e=true:=by rfl)(hf:X.fn x=true\/X.env.scope.names.lookup x=Z .local:=by first|exact .inl rfl|exact .inr rfl) :
  QS X (.Assign [.Name x pos'] e pos) (aQ i g):=⟨ss i hN he.h hi hx (jU hs) hf⟩
def MS (he:QE X e g):QS X (.Return (Z e) pos) (aK g):=⟨(Ln he.h).of λD σ H ⟨ρ,θ,M,hd,hw,h⟩=>
 bf hd hw (bR X θ H D) (λc M' h=>h) (λh=>h) h λd M1 v θ1 H1 g1 r1 h1=>h1 v θ1 H1 g1 r1⟩
def Hk (he:QE X e g)(hs:jc e=true:=by rfl):QS X (.Expr e pos) (bK g):=⟨(IC he.h (jU hs)).of λD σ H ⟨ρ,θ,M,hd,hw,h⟩=>
 bf hd hw (bR X θ H D) (λc M' h=>h) (λh=>h) h λd M1 v θ1 H1 g1 r1 h1=>h1 σ θ1 H1 g1 (hd.go g1)⟩
def Oq {a b:List VI}(hc:QT X c tc)(ha:QB X a t)(hb:QB X b u):QS X (.If c a b pos) (dD tc t u):=⟨(Qe hc.h ha.h hb.h).of λD σ H hxx=>by
 obtain⟨ρ,θ,M,hd,hw,h⟩:=hxx;refine vS hd hw (bR X θ H D) (λc M' h=>h) (λh=>h) h λc M1 θ1 H1 g1 h1=>?_
 cases c with
 | true=>exact⟨ρ,θ1,M1,hd.go g1,g1.wr,bR.go g1 h1⟩
 | false=>exact⟨ρ,θ1,M1,hd.go g1,g1.wr,bR.go g1 h1⟩⟩
def qn (i:Nat){x:Str}(hN:X.N.Nodup)(hi:X.N[i]?=Z x:=by rfl)(hx:G3 X.env.scope x:=by first|exact X2 rfl|exact WV rfl)(hf:X.fn x=true\/X.env.scope.names.lookup x=Z .local:=by first|exact .inl rfl|exact .inr rfl):QG X (.Name x pos) (dL i):=⟨gg i hN hi hx hf⟩
def HV:PN X [] []:=⟨by
 intro af s σ H vs us Q I r h;obtain⟨ρ,θ,M,ds,hd,hw,rd,ρ',e,h⟩:=h;cases ds with
 | cons d ds=>cases e
 | nil=>
  subst rd;cases e;exact BK af s σ H [] us Q I r ⟨rfl,h σ hd⟩⟩
def Pa {i:Nat}(h1:QG X e (dL i))(h2:PN X es is)(hs:(UQ (e::es) X.env).map (·.2)=YW e X.env::(UQ es X.env).map (·.2):=by rfl):PN X (e::es) (i::is):=⟨by
 intro af s σ H vs us Q I r h;obtain⟨ρ,θ,M,ds,hd,hw,rd,ρ',e1,h⟩:=h;cases ds with
 | nil=>cases e1
 | cons d ds=>
  obtain⟨v,vr,e2,rv,rr⟩:=rd;subst e2;refine zp h1.h h2.h hs af s σ H _ us Q I r ⟨v,vr,rfl,ρ,θ,M,d,hd,hw,rv,_,rfl,λσ1 d1=>?_⟩;exact⟨_,θ,M,ds,d1,hw,rr,ρ',e1,h⟩⟩
def Kw {k:Nat}(h:PN X es is)(hc:X.calm=true:=by rfl)(hl:is.length=n:=by rfl)(hn:(UQ es X.env).length=n:=by rfl)(hst:(UQ es X.env).findIdx? (·.1)=Y:=by rfl):QG X (.Tuple es k pos) (b8 is):=⟨Ms hc h.h hl hn hst⟩
def II:Qa X [] []:=⟨by
 intro af s σ H vs us Q I r h;obtain⟨ρ,θ,M,ds,hd,hw,rd,ρ',e,h⟩:=h;cases ds with
 | cons d ds=>cases e
 | nil=>
  subst rd;cases e;exact BK af s σ H [] us Q I r ⟨rfl,h σ hd⟩⟩
def O6 {ss:List GG}(h1:QG X e sg)(h2:Qa X es ss)(hs:(UQ (e::es) X.env).map (·.2)=YW e X.env::(UQ es X.env).map (·.2):=by rfl):Qa X (e::es) (sg::ss):=⟨by
 intro af s σ H vs us Q I r h;obtain⟨ρ,θ,M,ds,hd,hw,rd,ρ',e1,h⟩:=h;cases ds with
 | nil=>cases e1
 | cons d ds=>
  obtain⟨v,vr,e2,rv,rr⟩:=rd;subst e2;unfold u7 at e1;split at e1
  ·rename_i ρ1 q1;refine zp h1.h h2.h hs af s σ H _ us Q I r ⟨v,vr,rfl,ρ,θ,M,d,hd,hw,rv,ρ1,q1,λσ1 d1=>?_⟩;exact⟨ρ1,θ,M,ds,d1,hw,rr,ρ',e1,h⟩
  simp_all⟩
def Ii {ss:List GG}{k:Nat}(h:Qa X es ss)(hc:X.calm=true:=by rfl)(hl:ss.length=n:=by rfl)(hn:(UQ es X.env).length=n:=by rfl)(hst:(UQ es X.env).findIdx? (·.1)=Y:=by rfl):QG X (.Tuple es k pos) (MG ss):=⟨by
 intro af s σ H v u Q I r hw;obtain⟨ρ,θ,M,d,hd,hwr,rd,ρ',e1,hw⟩:=hw;cases d with
 | tup ds=>
  obtain⟨a,vs,e2,ta,rs⟩:=rd;refine F3  hc h.h hn hst af s σ H v u Q I r ⟨a,vs,e2,ta.sq,by rw[<-ar rs,(vG e1),hl],?_⟩;exact⟨ρ,θ,M,ds,hd,hwr,rs,ρ',e1,hw⟩
 | _=>cases e1⟩
def K3 (he:QE X e g)(hg:QG X tg s)(hs:jc e=true:=by rfl)(hw:V9 [tg] e X.env=pure Y:=by rfl)(h1:(UQ [tg] X.env).map (·.2)=[YW tg X.env]:=by rfl):QS X (.Assign [tg] e pos) (dR s g):=⟨(E4 he.h hg.h (jU hs) hw h1).of λD σ H hxx=>by
 obtain⟨ρ,θ,M,hd,hwr,h⟩:=hxx;refine bf hd hwr (bR X θ H D) (λc M' h=>h) (λh=>h) h λd M1 v θ1 H1 g1 r1 h1=>?_
 cases q:s d ρ with
 | some ρ1=>
  rw[q] at h1;exact⟨ρ,θ1,M1,d,hd.go g1,g1.wr,r1,ρ1,q,λσ' d'=>h1 σ' θ1 H1 g1 d'⟩
 | none=>rw[q] at h1;exact h1.elim⟩
def Mm (he:QE X e g)(ho:QE X o go)(hi:QE X i gi)
  (ha:∀v,YW (.Subscript o i ip) X.env v=(do
   let ov <-U1 [v] (Uy o X.env)
   let iv <-U1 [v,ov] (Uy i X.env)
   WJ ip
   U1 [v,ov,iv] (Yw ov iv v)
   release [v,ov,iv] []):=by intro _;rfl)
  (hs:jc e=true:=by rfl) (hw:V9 [.Subscript o i ip] e X.env=pure Y:=by rfl):QS X (.Assign [.Subscript o i ip] e pos) (ki go gi g):=⟨(E4 he.h (Kv ho.h hi.h GB ha) (by unfold Xw;exact jU hs) hw rfl).of λD σ H hxx=>by
  obtain⟨ρ,θ,M,hd,hwr,h⟩:=hxx;refine bf hd hwr (bR X θ H D) (λc M' h=>h) (λh=>h) h λdx M1 vx θ1 H1 g1 r1 rfl=>?_
  refine bf (hd.go g1) g1.wr (bR X θ1 H1 D) (λc M' h=>h) (λh=>h) (rfl.go g1) λdob M2 vo θ2 H2 g2 r2 h2=>?_
  refine bf ((hd.go g1).go g2) g2.wr (bR X θ2 H2 D) (λc M' h=>h) (λh=>h) (h2.go g2) λdi M3 vi θ3 H3 g3 r3 h3=>?_
  have h4:=h3.go g3;unfold u4 at h4;split at h4
  ·rename_i k j;split at h4
   ·rename_i xs q;split at h4
    ·rename_i n hn;obtain⟨a,ea,ta⟩:=r2.go g3;obtain⟨vs,ev,rv⟩:=g3.wr.at_ k a _ ta q;refine⟨a,vs,j,n,ea,r3,ev,by rw[<-ar rv];exact hn,?_⟩;have gs:=ul (ds:=xs) g3.wr ta (yC (r1.go (g2.trans g3)) n rv);exact h4 σ θ3 _ gs ((((hd.go g1).go g2).go g3).go gs)
    ·exact h4.elim
   ·exact h4.elim
  ·exact h4.elim⟩
def LH {iter:T9}(hp:Zs (TF X.prog X.w) X.A X.env X.xe)(hi:QI X tg iter gI)(hg:QG X tg sg)(hb:QB X body gB)(hc:X.calm=true:=by rfl)(hs:∀x,Um iter X.env x=pure x:=by intro _;rfl) :
  QS X (.For tg iter body [] pos) (gw gI sg gB):=⟨Io hp hc hi.h.toF hg.h hb.h hs⟩
def FP (hp:Zs (TF X.prog X.w) X.A X.env X.xe)(hc:QT X c tc)(hb:QB X body gB):QS X (.While c body [] pos) (qF n tc gB):=⟨Fd hp hc.h hb.h⟩
def Er {x:Str}(k:Ec X.K X.mg x C)(hg:Gl X x)(he:QE X e g)(hc:X.calm=true:=by rfl)(h1:cA e=true:=by rfl)(hd:(x==("__debug__":Str))=false:=by decide):QS X (.Raise (Z (.Call (.Name x np) [e] [] cpos)) Y pos) (jy x g):=⟨Fx k hc hg he.h h1 hd⟩
end
end
section
variable {X:Cx}{c f m:Str}{C:Th}{o e value:T9}{es:List T9}{g go gv:GE}{gA:GA}{pos pos' apos p:Pos}{k n:Nat}{fa:Th}{fd:UZ}{ps:List Str}{F:FD}{pl:Sem Bool}
def MQ (kc:Kc X.K X.mg c C)(na:hU X.K C f)(he:QE X e g)(hb:Uw e f X.env (Uy e X.env)=Uy e X.env:=by rfl):QE X (.Attribute e f pos) (dm c f g):=⟨(MA he.h hb).of λσ H Q hxx=>by
  obtain⟨ρ,θ,M,hd,hw,h⟩:=hxx;refine bf hd hw (aF X θ H Q) (λc M' h=>h) (λh=>h) h λd M1 v θ1 H1 g1 r1 h1=>?_
  have h2:=aF.go g1 h1;cases q:lJ c d M1 with
  | none=>simp only[q] at h2;exact h2.elim
  | some p=>
   obtain⟨j,fs⟩:=p;simp only[q] at h2;obtain⟨a,dx,vs,ea,ta,hv,rf,_⟩:=sJ g1.wr kc.at_ r1 q;cases ql:fs.lookup f with
   | none=>simp only[ql] at h2;exact h2.elim
   | some y=>
    simp only[ql] at h2;obtain⟨u,eu,ru⟩:=AB rf ql;exact⟨a,C,dx,vs,u,ea,hv,kc.cl,na,eu,h2 u θ1 H1 (.refl g1.wr) ru⟩⟩
def Ni (kc:Kc X.K X.mg c C)(na:hU X.K C f)(ho:QE X o go)(hv:QE X value gv)(hs:jc value=true:=by rfl):QS X (.Assign [.Attribute o f pos'] value pos) (gP c f go gv):=⟨Nc kc na ho.h hv.h (jU hs)⟩
def Mt (kc:Kc X.K X.mg c C)(hm:zH X.K C m fa)(Fn:eM X.prog X.w X.K X.mg X.base (ju X.prog X.w) k fa fd ps (rq X.K n F))(hr:bo k X.A)(hb:f6 X.K fd ps [])(ho:QE X o go)(ha:QA X (e::es) gA)
  (h1:cA e=true:=by rfl) (h2:eV es=true:=by rfl)
  (ht:Uy (.Call (.Attribute o m apos) (e::es) [] pos) X.env=(do
   let ov <-Uy o X.env
   WJ apos.atName
   let (f,first) <-U1 [ov] (WG ov m pl)
   Ym pos f first (Vu pos (T2 (e::es) X.env)) (Wb pos (Va [] X.env))):=by rfl):QE X (.Call (.Attribute o m apos) (e::es) [] pos) (fc c m n F go gA):=⟨(HK  ho.h kc.cl hm Fn hr hb .nil jp ha.h (sE h1) (sS h2) ht).of λσ H Q h=>D8 kc h⟩
def G6 (kc:Kc X.K X.mg c C)(hm:zH X.K C m fa)(Fn:eM X.prog X.w X.K X.mg X.base (ju X.prog X.w) k fa fd ps (rq X.K n F))(hr:bo k X.A)(hb:f6 X.K fd ps [])(ho:QE X o go)
  (ht:Uy (.Call (.Attribute o m apos) [] [] pos) X.env=(do
   let ov <-Uy o X.env
   WJ apos.atName
   let (f,first) <-U1 [ov] (WG ov m pl)
   Ym pos f first (Vu pos (T2 [] X.env)) (Wb pos (Va [] X.env))):=by rfl):QE X (.Call (.Attribute o m apos) [] [] pos) (fc c m n F go ag):=⟨(Ef  ho.h kc.cl hm Fn hr hb .nil jp ht).of λσ H Q h=>by
  obtain⟨ρ,θ,M,hd,hw,h⟩:=D8 kc h;refine⟨ρ,θ,M,hd,hw,?_⟩;cases q:go ρ M with
  | ok d M1=>
   rw[q] at h;intro v θ1 H1 g1 r1;obtain⟨a,dx,fs,e1,e2,e3,h⟩:=h v θ1 H1 g1 r1;refine⟨a,dx,fs,e1,e2,e3,?_⟩;obtain⟨ρ',θ',M',hd',hw',h'⟩:=h;exact h' [] θ' H1 (.refl hw') rfl
  | err c2 M1=>rwa [q] at h
  | bad=>rwa [q] at h⟩
def JG (kc:Kc X.K X.mg c C)(Mc:Mk X.K C fa)(Fn:eM X.prog X.w X.K X.mg X.base (ju X.prog X.w) k fa fd ps (rq X.K n F))(hr:bo (k+1) X.A)(hg:Gl X c)(hb:f6 X.K fd ps [])(ha:QA X (e::es) gA)
  (hdb:(c==("__debug__":Str))=false:=by decide) (h1:cA e=true:=by rfl) (h2:eV es=true:=by rfl):QE X (.Call (.Name c p) (e::es) [] pos) (qS c n F gA):=⟨(Ip Mc Fn hr hg kc.m hb .nil jp ha.h hdb (sE h1) (sS h2)).of λσ H Q h=>Jz kc.at_ h⟩
end
structure QD (X:Cx)(pos:Pos)(keys:List (Option T9))(values:List T9)(tab:List (Str×Int)):Prop where
 h:PV X pos keys values (Qp tab)
section
variable {X:Cx}{e o lo hi i:T9}{g go gl gh:GE}{pos ip sp dpos p1 p2:Pos}{keys:List (Option T9)}{values:List T9}{tab:List (Str×Int)}
def MZ (he:QE X e g)(ho:QE X o go)(hl:QE X lo gl)(hh:QE X hi gh)(hs:jc e=true:=by rfl)(hw:V9 [.Subscript o (.Slice (Z lo) (Z hi) Y sp) ip] e X.env=pure Y:=by rfl) :
  QS X (.Assign [.Subscript o (.Slice (Z lo) (Z hi) Y sp) ip] e pos) (Hj go gl gh g):=⟨by
 intro af s σ H D I h;obtain⟨ρ,θ,M,hd,hwr,h⟩:=h;refine YC (bQ (he.h af s σ H (λx H1=>∃d1 θ1 M1,Go X.K θ H θ1 H1 M1/\cz X.K θ1 H1 d1 x/\bR X θ H D (bi.bind (go ρ M1) λo M2=>(gl ρ M2).bind λl M3=>(gh ρ M3).bind λh M4=>(iZ o d1 l h M4).bind λ_ M5=>.ok (.nx ρ) M5)) I
  (bf hd hwr (bR X θ H D) (λc M' h=>h) (λh=>h) h λd1 M1 v θ1 H1 g1 r1 h1=>⟨d1,θ1,M1,g1,r1,h1⟩)) λv s1 hxx=>?_) (by unfold Xw;exact jU hs) hw
 obtain⟨x,H1,I1,r1,d1,θ1,M1,g1,rd1,h1⟩:=hxx;show Tn _ X.A (do
   let ov <-U1 [v] (Uy o X.env)
   let iv <-U1 [v,ov] (Uy (.Slice (Z lo) (Z hi) Y sp) X.env)
   WJ ip
   U1 [v,ov,iv] (Yw ov iv v)
   release [iv,v,ov] []) _ _ s1
 have h1:=bR.go g1 h1;refine Ta (TV (bQ (ho.h af s1 σ H1 (λy H2=>∃d2 θ2 M2,Go X.K θ1 H1 θ2 H2 M2/\cz X.K θ2 H2 d2 y/\bR X θ1 H1 D (bi.bind (gl ρ M2) λl M3=>(gh ρ M3).bind λh M4=>(iZ d2 d1 l h M4).bind λ_ M5=>.ok (.nx ρ) M5)) I1
  (bf (hd.go g1) g1.wr (bR X θ1 H1 D) (λc M' h=>h) (λh=>h) h1 λd2 M2 v θ2 H2 g2 r2 h2=>⟨d2,θ2,M2,g2,r2,h2⟩)) λov s2 hxx=>?_))
 obtain⟨y,H2,I2,r2,d2,θ2,M2,g2,rd2,h2⟩:=hxx;have h2:=bR.go g2 h2;refine Ta (TV (ZJ ?_));rw[YO];refine bQ (hl.h af s2 σ H2 (λz H3=>∃d3 θ3 M3,Go X.K θ2 H2 θ3 H3 M3/\cz X.K θ3 H3 d3 z/\bR X θ2 H2 D (bi.bind (gh ρ M3) λh M4=>(iZ d2 d1 d3 h M4).bind λ_ M5=>.ok (.nx ρ) M5)) I2
  (bf ((hd.go g1).go g2) g2.wr (bR X θ2 H2 D) (λc M' h=>h) (λh=>h) h2 λd3 M3 v θ3 H3 g3 r3 h3=>⟨d3,θ3,M3,g3,r3,h3⟩)) λvl s3 hxx=>?_
 obtain⟨z,H3,I3,r3,d3,θ3,M3,g3,rd3,h3⟩:=hxx;have h3:=bR.go g3 h3;rw[YO];refine bQ (hh.h af s3 σ H3 (λz H4=>∃d4 θ4 M4,Go X.K θ3 H3 θ4 H4 M4/\cz X.K θ4 H4 d4 z/\bR X θ3 H3 D ((iZ d2 d1 d3 d4 M4).bind λ_ M5=>.ok (.nx ρ) M5)) I3
  (bf (((hd.go g1).go g2).go g3) g3.wr (bR X θ3 H3 D) (λc M' h=>h) (λh=>h) h3 λd4 M4 v θ4 H4 g4 r4 h4=>⟨d4,θ4,M4,g4,r4,h4⟩)) λvu s4 hxx=>?_
 obtain⟨z4,H4,I4,r4,d4,θ4,M4,g4,rd4,h4⟩:=hxx;have h4:=bR.go g4 h4;rw[evalPart_none];refine Tb ?_;have I5:L2.Inv X af σ H4 {s4 with heap:=s4.heap.push {cls:=.type "slice",data:=.fields #[vl,vu,.none]}}:=I4.kept (t':=s4.toks) λb ob q=>Tc _ q
 rcases NF d2 d1 d3 d4 M4 with e|⟨l,h,k,ys,xs,e34,e21,q,hc,e⟩
 ·rw[e] at h4;exact UV h4
 rw[e] at h4;have rd3':z=.int l:=by rw[e34.1] at rd3;exact rd3
 have rd4':z4=.int h:=by rw[e34.2] at rd4;exact rd4
 rw[rd3'] at r3;rw[rd4'] at r4;rw[e21.2] at rd1;rw[e21.1] at rd2;obtain⟨b,us,eb,tb,rus⟩:=(rd1.go (g2.trans (g3.trans g4)));obtain⟨a,ea,ta⟩:=rd2.go (g3.trans g4);obtain⟨vs,ev,rvs⟩:=g4.wr.at_ k a _ ta q;rw[eb] at r1;rw[ea] at r2;have e1:v=.ref b:=r1;have e2:ov=.ref a:=r2;rw[e1,e2];have hne:a≠b:=λz=>tb.2 (by rw[<-z];exact UT ta)
 have lx:=ar rvs;have ly:=ar rus;refine Ta (YK (Ta (TV (CJ I5 ev tb.1 hne (Xf ..) r3 r4 hc.1 hc.2.1 (by rw[<-lx];exact hc.2.2.1) (by rw[<-lx,<-ly];exact hc.2.2.2) λs' I'=>?_))));have gs:=ul (ds:=xs) (ds':=xs.take l.toNat++ys++xs.drop h.toNat) g4.wr ta (cD (cD (pP _ rvs) rus) (pX _ rvs));exact wpAny_release ⟨σ,_,I',h4 σ θ4 _ gs (((((hd.go g1).go g2).go g3).go g4).go gs)⟩⟩
def K1 {i:Nat}{a:T9}{pt:Pos}{kt k2 pt2}(hN:X.N.Nodup)(ha:QA X [a,b] ga)(hc:X.calm=true:=by rfl)(hi:X.N[i]?=Z x:=by rfl)(hj:X.N[j]?=Z y:=by rfl)(hij:i≠j:=by decide)
  (hx:X.env.scope.names.lookup x=Z .local:=by rfl) (hy:X.env.scope.names.lookup y=Z .local:=by rfl)
  (hw:V9 [.Tuple [.Name x px,.Name y py] kt pt] (.Tuple [a,b] k2 pt2) X.env=pure (Z [x,y]):=by rfl) :
  QS X (.Assign [.Tuple [.Name x px,.Name y py] kt pt] (.Tuple [a,b] k2 pt2) pos) (Gy i j ga):=⟨(L7 hc hN hi hj hij hx hy ha.h hw rfl).of λD σ H hxx=>by
 obtain⟨ρ,θ,M,hd,hwr,h⟩:=hxx;refine mw hd hwr (bR X θ H D) (λc M' h=>h) (λh=>h) h λds M1 vs θ1 H1 g1 r1 h1=>?_
 match ds,r1,h1 with
 | [d,e],⟨v,r,e1,rv,v2,r2,e2,rv2,e3⟩,h1=>
  subst e3 e2;exact⟨v,v2,e1,h1 _ θ1 H1 g1 (((hd.go g1).set rv i).set rv2 j)⟩
 | [],_,h1=>exact UV h1
 | [_],_,h1=>exact UV h1
 | _::_::_::_,_,h1=>exact UV h1⟩
def Kz:QD X pos [] [] []:=⟨Jt⟩
def RU {k:Str}{k1 k2}(h:QD X pos keys values tab):QD X pos (Z (.Constant (.str k) k1 p1)::keys) (.Constant (.int v) k2 p2::values) ((k,v)::tab):=⟨Fq Ff AN h.h⟩
def Lm {k:Nat}(hr:bo k X.A)(hD:QD X dpos keys values tab)(hi:QE X i g)(hall:keys.all (·.isSome)=true:=by rfl)(hl:keys.length=values.length:=by rfl)(h0:keys≠[]:=by simp)(h15:keys.length<=15:=by decide)(ht:tab.length<=15:=by decide)(hs:CY i:=by intro _ _;rfl) :
  QE X (.Subscript (.Dict keys values dpos) i pos) (Jq tab g):=⟨(wb (Fg hr) (Hi hD.h hall hl h0 h15) hi.h hs).of λσ H Q hxx=>by
 obtain⟨ρ,θ,M,hd,hw,h⟩:=hxx;intro p hp;refine vI ⟨aV,uS tab,by simp[Qf,uS,kV],by simp[uS,ht],?_⟩;rw[HD];have g0:Go X.K θ H θ (bj H p (.dK (iU [] (uS tab)))) M:=cR hw hp;refine bf (hd.go g0) g0.wr (aF X θ (bj H p (.dK (iU [] (uS tab)))) Q) (λc M' h=>h) (λh=>h) (aF.go g0 h) λd M1 v θ1 H1 g1 r1 h1=>?_
 cases d with
 | str x=>
  have h1:aF X θ (bj H p (.dK (iU [] (uS tab)))) Q (match jH (iU [] (uS tab)) (WI x) with|some (.int i)=>.ok (.int i) M1|_=>.bad):=h1;subst r1;cases q:jH (iU [] (uS tab)) (WI x) with
  | none=>rw[q] at h1;exact UV h1
  | some y=>
   rw[q] at h1;cases y with
   | int n=>exact⟨p,.int n,rfl,by have:=sR.k (k:=WI x) (g1.keep p _ aV (hw.fresh hp) (by simp));rwa [q] at this,h1 _ θ1 H1 g1 rfl⟩
   | _=>exact UV h1
 | _=>exact UV h1⟩
end
structure Mf (K:Tp)(C:Th)(x qual:Str)(st:VI)(f:Th)(fd:UZ)(ps:List Str):Prop where
 F:HP K x qual st f fd
 me:zH K C x f
 b:f6 K fd ps []
def LI {K:Tp}{st:VI}{k:Nat}(F:HP K x qual st f fd)(S:eY N ps (aH st))(hn:ps.length=n)
  (hbody:∀(cdv:Td) (A:Ux) (outer:List Env) (s:Tg) (H:Hp) (E:XK),bo k (A.deeper (VW qual (aH st) s.heap.objs.size f cdv))->QB (iK (ju P w) P w K mg base N qual (aH st) f cdv A outer s H E) (cu st) g) :
  eM P w K mg base (ju P w) (k+1) f fd ps (rq K n (aU (N.length-n) g)):=Sa F S hn λcdv A outer s H E hr=>(hbody cdv A outer s H E hr).h
def Ky {K:Tp}{st:VI}{k:Nat}(F:HP K x x st f fd)(hns:Vh K Tq x=Z (Z (.ref f)))(T:Ax K x c Pt)(S:eY N ps (aH st))(hn:ps.length=n)
  (hbody:∀(A:Ux) (outer:List Env) (s:Tg) (H:Hp) (E:XK),bo k (A.deeper (VW x (aH st) s.heap.objs.size f (.ref c)))->QB (iK (ju P w) P w K mg base N x (aH st) f (.ref c) A outer s H E) (cu st) g) :
  eM P w K mg base (ju P w) (k+1) f fd ps (rq K n (aU (N.length-n) g)):=O3 F hns T S hn λA outer s H E hr=>(hbody A outer s H E hr).h
def JA {k:Nat}
  (T:Ax X.K x c P) (hr:bo (k+2) X.A) (hg:Gl X "min") (hm:X.mg "min"=Y) (hv:UL "min"=Z (.builtin "min")) (S:eY N [px] scope) (he:QE X e g)
  (hbody:∀(q c':Th) (A:Ux) (outer:List Env) (s:Tg) (H:Hp) (E:XK),bo k (A.deeper (VW (dF x) scope s.heap.objs.size q (.ref c')))->
   QE (iK (ju X.prog X.w) X.prog X.w X.K X.mg X.base N (dF x) scope q (.ref c') A outer s H E) body gb)
  (hb:∀(pm cv ctv:Td) (s:Tg) (u:Td),WY s (yX (dF x) params body scope pm cv ctv) ⟨[u],[]⟩ [(px,u)]:=by intros;exact .of_eq rfl)
  (hcode:X.env.code=.ref c:=by rfl) (hglob:X.env.globals=Tq:=by rfl) (hq:X.env.qual++("<lambda>":Str)=dF x:=by rfl)
  (hcl:closureFor scope X.env=pure []:=by rfl) (hd:defaultsOf params X.env=([],[]):=by rfl) (hcalm:X.calm=true:=by rfl) (h1:cA e=true:=by rfl) :
  QE X (.Call (.Name "min" p) [e] [⟨Z "key",.Lambda params body scope lpos,kpos⟩] pos) (xL (G2 (N.length-1) gb) g):=⟨by
 intro af s σ H Q I h;obtain⟨ρ,θ,M,hden,hw,h⟩:=h;have hs:T2 [e] X.env=[(false,Uy e X.env)]:=by rw[sE h1];rfl
 refine VB (qD I hg hm hv ?_);refine callWith_kw (e:=e) (rest:=[]) (bQ ((mU he.h tK hs) pos af s σ H _ I (show J2 (tE X g) LK σ H (λxs H1=>∃v d θ1 M1,xs=[v]/\Go X.K θ H θ1 H1 M1/\cz X.K θ1 H1 d v/\aF X θ H Q (match d with | .lst ds=>Am (G2 (N.length-1) gb) ds M1 | .ro ds=>Am (G2 (N.length-1) gb) ds M1|_=>.bad)) from
  bf hden hw (aF X θ H Q) (λc M' h=>h) (λh=>h) h λd M1 v θ1 H1 g1 r1 h1=>⟨v,d,θ1,M1,rfl,g1,r1,h1⟩)) λus s1 hxx=>?_) (by rw[hs];rfl) (by rw[hs];rfl)
 obtain⟨xs,H1,I1,rx,v,d,θ1,M1,ex,g1,r1,h1⟩:=hxx;subst ex;obtain⟨u,rfl,ru⟩:=j9 rx;refine kws_cons (bQ (Gk I1 g1.wr T hcode hglob hq hcl hd) λuq s2 ⟨H2,I2,Md⟩=>kws_nil ?_);obtain⟨⟨q,c',pm,ctv,rfl,nq,hfq,hfc⟩,g2⟩:=Md;have h2:=aF.go (g1.trans g2) h1;have Fn:=Nz (P:=X.prog) (w:=X.w) (K:=X.K) (mg:=X.mg) (base:=X.base) (qual:=dF x) (params:=params) (body:=body) (scope:=scope) (pm:=pm) (ctv:=ctv) (q:=q) (c:=c') (n:=1) S rfl (λA outer s H E hr=>(λq c' A outer s H E hr=>(hbody q c' A outer s H E hr).h) q c' A outer s H E hr);have run:∀(l:Th) (ds:List D) (vs:List V),u=.ref l->rK X.K θ1 H2 l vs->aY X.K θ1 H2 ds vs->aF X θ1 H2 Q (Am (G2 (N.length-1) gb) ds M1)->Tn (TF X.prog X.w) X.A (call (.builtin "min") [u] [(UM "key",.ref q)]) (EP X af σ Q) X.xe s2:=λl ds vs eu ta r hh=>by
  rw[eu];exact Et Fn hr (hb pm _ ctv) hcalm I2 g2.wr ta r hfq hfc hh
 show Tn _ X.A (call (.builtin "min") [u] [(UM "key",.ref q)]) _ _ s2;cases d with
 | lst ds=>
  obtain⟨a,vs,ea,ta,rs⟩:=r1.go g2;subst ea;exact run a ds vs ru (.inl ⟨.inl ta.1,ta.2⟩) rs h2
 | ro ds=>
  obtain⟨a,vs,ea,ta,rs⟩:=r1.go g2;subst ea;exact run a ds vs ru ta rs h2
 | _=>exact h2.elim⟩
def Hy {l:WD}{k:Nat}{K:YT->Tp}
  (hn:l.most=Z n) (hn2:n<=To) (hdf:d.params.defaults=[]) (hr:bo k YA) (hY:∀(w:TY) (h:UG),YP w h->(K w.params).In h)
  (hF:∀(w:TY) (mg:Str->Option Td) (fa:Th) (h:UG),(K w.params).In h->h.Ns Tq mg->mg d.name=Z (.ref fa)->
   ∃fd:UZ,(∀(s:Tg) (u:Td),WY s fd ⟨[u],[]⟩ [(x,u)])/\∀base:UG,(K w.params).In base->base.Ns Tq mg->eM l.prog w (K w.params) mg base (ju l.prog w) k fa fd [x] (rq (K w.params) 1 F))
  (tabs:∀w:TY,∃(ls:List (Str×aao×Th×Th)) (bm:Th),(∀p∈ls,(XS q).find? (λe=>e.name==p.1)=Z p.2.1/\Vr (K w.params) p.1=Z (p.2.2.1,p.2.2.2)/\(K w.params).lookup p.2.2.2=Y)/\
   (∀y,y∈cp->Vh (K w.params) Tq y=Z Y\/∃p∈ls,p.1=y)/\Vh (K w.params) Tq "__builtins__"=Z (Z (.ref bm))/\(K w.params).lookup bm=Y)
  (ht:∀ns:List Int,ns.length<=n->∃M',F [.ro (ns.map D.int)] []=.ok (.bl true) M') :
  W.WalkO q loose XP YP l.row.toRowW d [] (λf vs=>PySem.call f vs):=
 KJ (CX:=λw=>ju l.prog w) (sp:=λw=>rq (K w.params) 1 F) hn hn2 hdf hr hY hF tabs (λw H a ns hl tb hS=>LU tb hS (ht ns hl)) λw H s e s' z=>P9 z
def FO {K:Tp}:∀p∈([]:List (Str×aao×Th×Th)),(XS q).find? (λe=>e.name==p.1)=Z p.2.1/\Vr K p.1=Z (p.2.2.1,p.2.2.2)/\K.lookup p.2.2.2=Y:=λ_ h=>by cases h
def Dc {K:Tp}(h1:(XS q).find? (λe=>e.name==x)=Z d)(h2:Vr K x=Z (c,P))(h3:K.lookup P=Y)
  (h:∀p∈ls,(XS q).find? (λe=>e.name==p.1)=Z p.2.1/\Vr K p.1=Z (p.2.2.1,p.2.2.2)/\K.lookup p.2.2.2=Y) :
  ∀p∈(x,d,c,P)::ls,(XS q).find? (λe=>e.name==p.1)=Z p.2.1/\Vr K p.1=Z (p.2.2.1,p.2.2.2)/\K.lookup p.2.2.2=Y:=λp hp=>by
 rcases Ur.mp hp with rfl|hp
 ·exact⟨h1,h2,h3⟩
 ·exact h p hp
def ya {φ:Str->Prop}(h1:φ "ink_shown")(h2:φ "table_within")(h3:φ "slots_given")(h4:φ "cast_on_slots"):∀y,y∈cp->φ y:=λy hy=>by
 simp only[cp,Ur,Wm,or_false] at hy;rcases hy with rfl|rfl|rfl|rfl <;> assumption
def Il {K:Tp}{ls:List (Str×aao×Th×Th)}(h:∀p∈ls,(XS q).find? (λe=>e.name==p.1)=Z p.2.1/\Vr K p.1=Z (p.2.2.1,p.2.2.2)/\K.lookup p.2.2.2=Y)
  (h2:∀y,y∈cp->Vh K Tq y=Z Y\/∃p∈ls,p.1=y) (h3:Vh K Tq "__builtins__"=Z (Z (.ref bm))) (h4:K.lookup bm=Y) :
  ∃(ls:List (Str×aao×Th×Th)) (bm:Th),(∀p∈ls,(XS q).find? (λe=>e.name==p.1)=Z p.2.1/\Vr K p.1=Z (p.2.2.1,p.2.2.2)/\K.lookup p.2.2.2=Y)/\
   (∀y,y∈cp->Vh K Tq y=Z Y\/∃p∈ls,p.1=y)/\Vh K Tq "__builtins__"=Z (Z (.ref bm))/\K.lookup bm=Y:=⟨ls,bm,h,h2,h3,h4⟩
def KW {K:Tp}
  (a:Vh K Tq x=Z (Z (.ref f))) (l:K.lookup f=Z ⟨oc,od,.func fd,sl⟩) (ec:fd.code=.ref c) (lc:K.lookup c=Z ⟨occ,odc,.fields vs,slc⟩) (h11:vs[11]?=Z (.ref P)):Vr K x=Z (c,P):=by
 unfold Vr;rw[a];dsimp only;rw[l];dsimp only;rw[ec];dsimp only;rw[lc];dsimp only;rw[h11]
end DL
namespace PySem
section
variable {prog:TR}{w:TY}{K:Type}[DecidableEq K]{knd:HeapKind prog w K}{A:Ux}{E:Td->Tg->Prop}{s:Tg}
def hk_setDefault {a:Th}{k:K}(hu:knd.room A)(hkey:knd.is s.heap k a)(hm:s.heap.DictOfH knd d xs)
  (h1:∀p,XI xs k=Z p->Q p.2 {s with toks:=s.toks+knd.draws k})
  (h2:XI xs k=Y->∀h',h'.DictOfH knd d (aaS xs k a v)->UD d s.heap h'->Q v {s with heap:=h',toks:=s.toks+knd.draws k})
  (hsz:xs.length<=To):Tn (TF prog w) A (Ys d (.ref a) v) Q E s:=by
 obtain⟨o,es,ep,ho,hc,hd,he,his,hn⟩:=hm;unfold Ys
 try with_reducible refine TV ?_
 refine Ta (knd.pyHash hu hkey ?_);refine Ta (wpAny_dictFind_heap (s:={s with toks:=s.toks+knd.draws k}) hu hkey ho hd he his hn ?_ ?_)
 ·intro hno;have hnot:k∉xs.map (·.1):=not_mem_keys_of_get hno;have none_:=atKey_none_of_get hno;refine Ta (W9 ?_);refine Ta (wpAny_updateDictKeys (hz:=by have e:=size_of_entries he;omega) (s:={s with toks:=s.toks+knd.draws k}) ho hd (Tb (h2 none_ _ ⟨_,_,ep+1,VN _ ho (Obj.isFreed_of_dict (Yt hd _)),
   hc.mapDictKeys _,Yt hd _,?_,?_,?_⟩ (UI ..))))
  ·rw[ZN none_];simp[he,aad]
  ·rw[ZN none_];intro x hx;rcases Xp.mp hx with hx|hx
   ·exact knd.keeps (his x hx) ho hd (UI ..)
   ·simp only[UU] at hx;subst hx;exact knd.keeps hkey ho hd (UI ..)
  ·rw[ZN none_];rw[aaL,Z2];refine⟨hn,by simp,?_⟩
   grind
 ·intro j p hj;have at_:=atKey_of_get hn hj;refine Ta (U2 (s:={s with toks:=s.toks+knd.draws k}) ho hd ?_);rw[entry_at he j,hj];exact Ta (W9 (Tb (h1 _ at_)))
def hk_meets_setdefault (knd:HeapKind prog w K)(d a:Th)(hd:(d==UA)=false)(dflt:Td) :
  MeetsIn prog w (WH.«dict.setdefault» ⟨[.ref d,.ref a,dflt],[]⟩) (λA R s=>knd.room A.in1/\∃k xs,knd.is s.heap k a/\s.heap.DictOfH knd d xs/\xs.length<=To/\
   (∀p,XI xs k=Z p->R (.ok (.ret p.2)) {s with toks:=s.toks+knd.draws k})/\
   (XI xs k=Y->∀h',h'.DictOfH knd d (aaS xs k a dflt)->UD d s.heap h'->R (.ok (.ret dflt)) {s with heap:=h',toks:=s.toks+knd.draws k})):=
 .of_wp λA R s hxx=>by
  obtain⟨hu,k,xs,hkey,hm,hz,h1,h2⟩:=hxx;refine Ta ?_;refine Ta (WB hm.typeIs ?_);refine Tb ?_;show Tn _ _ (if(d==UA)=true then _ else(Ys d (.ref a) dflt >>= _)) _ _ s;rw[if_neg (by rw[hd];exact Tv)];exact Ta (hk_setDefault (hsz:=hz) hu hkey hm (λp hp=>Tb ⟨p.2,rfl,h1 p hp⟩) λhn h' hm' hs'=>Tb ⟨dflt,rfl,h2 hn h' hm' hs'⟩)
end
end PySem
namespace L2
open PySem PySem.Spec PyProof.Rows List
def SH (H:Hp)(a:Th)(y z r:V)(H':Hp):Prop:=
 (sR H a y (Z r)/\H'=H)\/(∃kvs k,H a=Z (.dK kvs)/\y=kV k/\jH kvs k=Y/\kvs.length<To/\r=z/\H'=bj H a (.dK (oe kvs k z)))\/
 ∃kvs k b,H a=Z (.dT kvs)/\y=.ref b/\H b=Z (.tup (k.map kV))/\jH kvs k=Y/\kvs.length<To/\r=z/\H'=bj H a (.dT (oe kvs k z))
section
variable {X:Cx}{af:List (Th×Obj)}{σ:St}{H H':Hp}{s:Tg}{a:Th}{y z r:V}{u d:Td}{A:Ux}{E:Td->Tg->Prop}
def DX (hu:A.units+1<XE)(I:Inv X af σ H s)(g:SH H a y z r H')(ry:aO y u)(rz:aO z d)(h:∀w' s',Inv X af σ H' s'->aO r w'->Q w' s') :
  Tn (TF X.prog X.w) A (call (.builtin "dict.setdefault") [.ref a,u,d]) Q E s:=by
 rcases g with⟨g,rfl⟩|⟨kvs,k,e,ey,l,hl,er,rfl⟩|⟨kvs,k,b,e,ey,eb,l,hl,er,rfl⟩
 ·rcases g with⟨kvs,k,e,ey,l⟩|⟨kvs,k,b,e,ey,eb,l⟩
  ·subst ey;obtain⟨z',hd,vs,rel,dd⟩:=zv I.hok e;obtain⟨w',hw,rw'⟩:=lE.some_of (v:=r) (o:=X3 vs k) (by rw[l];exact rel.val k);refine W3 PySem.F.slot_dict_setdefault dd.typeIs PySem.F.entry_dict_setdefault (PySem.F.args_dict_setdefault_3 _ _ _) (YF (bC X.prog X.w) a (zu ry) hd d) ⟨vs,dd,by rw[<-rel.length];exact z',λv hv=>?_,λhn=>?_⟩
   ·rw[hw] at hv;cases hv;exact h _ _ (I.tok _) rw'
   ·rw[hw] at hn;cases hn
  ·subst ey;cases (show u=TU b from ry);obtain⟨z',hd,xs,rel,dd⟩:=zg I.hok e;obtain⟨w',hw,rw'⟩:=lE.some_of (v:=r) (o:=(XI xs k).map (·.2)) (by rw[l];exact rel.val k);obtain⟨p,hp,hp2⟩:=TZ.mp hw;refine W3 PySem.F.slot_dict_setdefault dd.typeIs PySem.F.entry_dict_setdefault (PySem.F.args_dict_setdefault_3 _ _ _) (hk_meets_setdefault (WE (bC X.prog X.w)) a b hd d) ⟨Xg hu,k,xs,xo I.hok eb,dd,by rw[<-Paired.length rel];exact z',λq hq=>?_,λhn=>?_⟩
   ·rw[hp] at hq;cases hq;rw[hp2];exact h _ _ (I.tok _) rw'
   ·rw[hp] at hn;cases hn
 ·subst ey er;obtain⟨z',hd,vs,rel,dd⟩:=Kj I.hok e;have hn:X3 vs k=Y:=lE.none_of (by rw[<-l];exact rel.val k);have hl':(oe kvs k r).length<=To:=by have:=mJ kvs k r;omega
  refine W3 PySem.F.slot_dict_setdefault dd.typeIs PySem.F.entry_dict_setdefault (PySem.F.args_dict_setdefault_3 _ _ _) (YF (bC X.prog X.w) a (zu ry) hd d) ⟨vs,dd,by rw[<-rel.length];exact z',λv hv=>?_,λ_ h' dd' hs=>h _ _ ?_ rz⟩
  ·rw[hn] at hv;cases hv
  ·have he:∃q,h'.get? a=Z q:=let ⟨q,_,_,hq,_⟩:=dd';⟨q,hq⟩
   exact wg I (by rw[e];exact Ve) hs he (DZ hl' hd (rel.put k rz) dd')
 ·subst ey er;cases (show u=TU b from ry);obtain⟨z',hd,xs,rel,dd⟩:=N4 I.hok e;have hn:(XI xs k).map (·.2)=Y:=lE.none_of (by rw[<-l];exact rel.val k);have hl':(oe kvs k r).length<=To:=by have:=mJ kvs k r;omega
  refine W3 PySem.F.slot_dict_setdefault dd.typeIs PySem.F.entry_dict_setdefault (PySem.F.args_dict_setdefault_3 _ _ _) (hk_meets_setdefault (WE (bC X.prog X.w)) a b hd d) ⟨Xg hu,k,xs,xo I.hok eb,dd,by rw[<-Paired.length rel];exact z',λq hq=>?_,λ_ h' dd' hs=>h _ _ ?_ rz⟩
  ·rw[hq] at hn;cases hn
  ·obtain⟨q,es,ep,hq,h2,h3,h4,_,h5⟩:=dd';refine wg I (by rw[e];exact Ve) hs ⟨q,hq⟩ ⟨hl',hd,_,(rel.put k eb rz).keeps λc ys ec=>?_,q,es,ep,hq,h2,h3,h4,h5⟩;rw[ao (xQ ec e (λz=>nomatch z))];exact ec
end
section
variable {X:Cx}{o e f:T9}{td ty tx:TE}{apos cpos:Pos}
def OH (td ty tx:TE):TE:=λσ H Q=>td σ H λx H1=>∃a,x=.ref a/\Rg H1 a/\ty σ H1 λy H2=>tx σ H2 λz H3=>∃r H4,SH H3 a y z r H4/\Q r H4
def AF (hu:X.A.units+1<XE)(ho:PE X o td)(he:PE X e ty)(hf:PE X f tx)(m:M2 X o "setdefault" apos e f cpos):PE X (.Call (.Attribute o "setdefault" apos) [e,f] [] cpos) (OH td ty tx):=by
 intro af s σ H Q I h;refine wpAny_Call_method m.base m.few m.line PySem.F.plainAttrs_dict PySem.F.slot_dict_setdefault PySem.F.type_dict_setdefault (bQ (ho af s σ H _ I h) λu s1 hxx=>?_);obtain⟨x,H1,I1,rx,a,ex,d,q1⟩:=hxx;subst ex;obtain rfl:u=TU a:=rx;obtain⟨t1,t2,_⟩:=My I1 d;refine⟨t1,t2,?_⟩;rw[m.trees];refine VC rfl (WR (Xb (bQ (he af s1 σ H1 _ I1 q1) λiv s2 ⟨y,H2,I2,ry,q2⟩=>
  Xb (bQ (hf af s2 σ H2 _ I2 q2) λfv s3 ⟨z,H3,I3,rz,r,H4,g,q3⟩=>Zb ?_))))
 exact DX hu I3 g ry rz λw' s4 I4 rw'=>⟨_,H4,I4,rw',q3⟩
end
def sortI (ns:List Int):List Int:=ns.mergeSort λa b=>decide (a<=b)
def sortI_perm (ns:List Int):(sortI ns).Perm ns:=mergeSort_perm ns _
def sortI_le (ns:List Int):(sortI ns).Pairwise (·<=·):=by
 have h:=Y7 (le:=λa b=>decide (a<=b)) (λa b c h1 h2=>by grind) (λa b=>by grind) ns;exact h.imp λh=>by simp_all
theorem sort_uniq:∀{a b:List Int},a.Perm b->a.Pairwise (·<=·)->b.Pairwise (·<=·)->a=b
 | [],b,p,_,_=>(ZC p)
 | x::a,[],p,_,_=>absurd p.symm.nil_eq (by simp)
 | x::a,y::b,p,ha,hb=>by
  have h1:x<=y:=by
   rcases Ur.mp (p.symm.subset (TN ..)) with e|e
   ·omega
   simp_all
  have h2:y<=x:=by
   rcases Ur.mp (p.subset (TN ..)) with e|e
   ·omega
   simp_all
  have e:x=y:=by omega
  subst e;rw[sort_uniq (perm_cons x |>.mp p) (XB.mp ha).2 (XB.mp hb).2]
theorem vR:∀{ns:List Int} {us:List Td},aS (ns.map V.int) us->UE us ns
 | [],us,r=>by cases r;exact .nil
 | n::ns,us,r=>by
  cases r with
  | cons h t=>
   obtain⟨tk,e⟩:=(h);subst e;exact .cons n tk (vR t)
theorem Ab:∀{us:List Td} {ns:List Int},UE us ns->aS (ns.map V.int) us
 | _,_,.nil=>.nil
 | _,_,.cons n t r=>.cons ⟨t,rfl⟩ (Ab r)
section
variable {X:Cx}
def yr:fz X (.builtin "sorted") (λxs H Q=>∃p ns,xs=[.ref p]/\oy X.K H p (ns.map V.int)/\ns.length<64/\∀l,H l=Y->Q (.ref l) (bj H l (.lst ((sortI ns).map V.int)))):=by
 intro af s σ H xs us Q I r h;obtain⟨p,ns,rfl,hq,h64,q⟩:=h;obtain⟨u,rfl,rx⟩:=j9 r;cases rx;obtain⟨its,r',pl,hz⟩:=I.list hq;have hlen:=r'.length;rw[TC] at hlen;refine sorted_ints pl.isList (vR r') (by omega) λout ns' a1 a2 a3=>?_
 have e:=sort_uniq (a2.trans (sortI_perm ns).symm) a3 (sortI_le ns);subst e;obtain⟨c,he⟩:=sortedAll_at s.heap its out;exact⟨.ref (s.heap.objs.size+1),_,I.laid  (λ_ _=>sortedAll_old) (Vz _) (show bM X.prog X.w _ _ _ (.lst ((sortI ns).map V.int)) from⟨by rw[TC];exact(by rw[(sortI_perm ns).length_eq,Uo];omega),out.toList,c,Ab a1,by omega⟩),rfl,q _ (I.hok.fresh (Vz _))⟩
end
end L2
namespace DL
open PySem PySem.Spec PyProof.Rows L2 List
def lK:D->Option bN
 | .int i=>Z (.inl i)
 | .str x=>Z (.inr x)
 | _=>Y
def yi:List D->Option (List bN)
 | []=>Z []
 | d::ds=>match lK d,yi ds with
  | some k,Z ks=>Z (k::ks)
  | _,_=>Y
def jN:D->Option (List bN)
 | .tup ds=>yi ds
 | _=>Y
def fY {κ:Type}[DecidableEq κ](kvs:List (κ×D))(k:κ):Option D:=(kvs.find? λkv=>decide (kv.1=k)).map (·.2)
section
variable {K:Tp}{θ:List Th}{H:Hp}
def Ew {k:bN}(e:lK d=Z k)(r:cz K θ H d v):v=kV k:=by
 cases d <;> simp only[lK,Vq,reduceCtorEq] at e
 ·subst e;exact r
 ·subst e;exact r
theorem Gi:∀{ds:List D} {ks:List bN} {vs:List V},yi ds=Z ks->aY K θ H ds vs->vs=ks.map kV
 | [],ks,vs,e,r=>by
  simp only[yi,Vq] at e;subst e;exact r
 | d::ds,ks,vs,e,r=>by
  obtain⟨v,us,e1,r1,r2⟩:=r;simp only[yi] at e;cases q1:lK d with
  | none=>simp_all
  | some k=>
   cases q2:yi ds with
   | none=>simp_all
   | some ks'=>
    rw[q1,q2] at e;cases e;rw[e1,Ew q1 r1,Gi q2 r2];rfl
def EW (e:jN d=Z ks)(r:cz K θ H d v):∃b,v=.ref b/\H b=Z (.tup (ks.map kV))/\b∉θ:=by
 cases d with
 | tup ds=>
  obtain⟨a,vs,e1,t,r1⟩:=r;rw[Gi e r1] at t;exact⟨a,e1,t.1,t.2⟩
 | _=>cases e
section
variable {κ:Type}[DecidableEq κ]
def DC {p:κ×D}{r:List (κ×D)}{k:κ}(e:p.1=k):fY (p::r) k=Z p.2:=by simp[fY,Wi,e]
def DJ {p:κ×D}{r:List (κ×D)}{k:κ}(e:¬p.1=k):fY (p::r) k=fY r k:=by simp[fY,Wi,e]
theorem mO:∀{fs:List (κ×D)} {vs:List (κ×V)} (k:κ),nH K θ H fs vs->(∀d,fY fs k=Z d->∃v,jH vs k=Z v/\cz K θ H d v)/\(fY fs k=Y->jH vs k=Y)
 | [],vs,k,r=>by
  subst r;exact⟨λd h=>(by cases h),λ_=>rfl⟩
 | p::fs,vs,k,r=>by
  obtain⟨k0,d0⟩:=p;obtain⟨v,us,e,h1,h2⟩:=r;subst e
  by_cases q:k0=k
  ·rw[DC  q,o9  q]
   simp_all
  ·rw[DJ  q,oX  q];exact mO k h2
theorem pO {k:κ}(h:cz K θ H d v):∀{fs:List (κ×D)} {vs:List (κ×V)},nH K θ H fs vs->nH K θ H (fs++[(k,d)]) (vs++[(k,v)])
 | [],vs,r=>by
  subst r;exact⟨v,[],rfl,h,rfl⟩
 | (k0,d0)::fs,vs,r=>by
  obtain⟨u,us,e,h1,h2⟩:=r;subst e;exact⟨u,us++[(k,v)],rfl,h1,pO h h2⟩
theorem gO:∀{fs:List (κ×D)} {vs:List (κ×V)},nH K θ H fs vs->fs.length=vs.length
 | [],vs,r=>by
  subst r;rfl
 | (k0,d0)::fs,vs,r=>by
  obtain⟨u,us,e,h1,h2⟩:=r;subst e;rw[Ug,Ug,gO h2]
end
end
section
variable {X:Cx}{pos apos cpos:Pos}{o e f:T9}
def vL:GE:=λ_ M=>.ok (.mr M.length) (M++[.dK []])
def vT:GE:=λ_ M=>.ok (.mr M.length) (M++[.dT []])
def wW:Option MO->Bool
 | some (.dK _)=>true
 | some (.dT _)=>true
 | _=>false
def fI (i:Nat)(y z:D)(M:aq):bi D:=match M[i]? with
 | some (.dK kvs)=>match lK y with
  | some k=>match fY kvs k with
   | some r=>.ok r M
   | none=>if kvs.length<To then .ok z (M.set i (.dK (kvs++[(k,z)]))) else .bad
  | none=>.bad
 | some (.dT kvs)=>match jN y with
  | some k=>match fY kvs k with
   | some r=>.ok r M
   | none=>if kvs.length<To then .ok z (M.set i (.dT (kvs++[(k,z)]))) else .bad
  | none=>.bad
 | _=>.bad
def ib (go gy gz:GE):GE:=λρ M=>(go ρ M).bind λo M1=>match o with
 | .mr i=>if wW M1[i]?=true then(gy ρ M1).bind λy M2=>(gz ρ M2).bind λz M3=>fI i y z M3 else .bad
 | _=>.bad
def Co {K:Tp}{i:Nat}{a:Th}(hw:Wr K θ H M)(ta:θ[i]?=Z a)(h:wW M[i]?=true):Rg H a:=by
 cases q:M[i]? with
 | none=>rw[q] at h;cases h
 | some m=>
  cases m with
  | lst _=>rw[q] at h;cases h
  | obj _ _=>rw[q] at h;cases h
  | dK kvs=>obtain⟨vs,e,_⟩:=hw.at_ i a _ ta q;exact .inl ⟨vs,.inl e⟩
  | dT kvs=>obtain⟨vs,e,_⟩:=hw.at_ i a _ ta q;exact .inr ⟨vs,.inl e⟩
def Cj {go:GE}(hu:X.A.units+1<XE)(ho:PE X o (tE X go))(he:PE X e (tE X gy))(hf:PE X f (tE X gz))(m:M2 X o "setdefault" apos e f cpos) :
  PE X (.Call (.Attribute o "setdefault" apos) [e,f] [] cpos) (tE X (ib go gy gz)):=(AF hu ho he hf m).of λσ H Q hxx=>by
 obtain⟨ρ,θ,M,hd,hw,h⟩:=hxx;refine bf hd hw (aF X θ H Q) (λc M' h=>h) (λh=>h) h λd M1 v θ1 H1 g1 r1 h1=>?_
 have h2:=aF.go g1 h1;cases d with
 | mr i=>
  have h2:aF X θ1 H1 Q (if wW M1[i]?=true then(gy ρ M1).bind λy M2=>(gz ρ M2).bind λz M3=>fI i y z M3 else .bad):=h2;obtain⟨a,ea,ta⟩:=id r1;split at h2
  ·rename_i hD;refine⟨a,ea,Co g1.wr ta hD,?_⟩;refine bf (hd.go g1) g1.wr (aF X θ1 H1 Q) (λc M' h=>h) (λh=>h) h2 λdy M2 vy θ2 H2 g2 r2 h3=>?_
   refine bf ((hd.go g1).go g2) g2.wr (aF X θ2 H2 Q) (λc M' h=>h) (λh=>h) (aF.go g2 h3) λdz M3 vz θ3 H3 g3 r3 h4=>?_
   have h4:=aF.go g3 h4;have ry:cz X.K θ3 H3 dy vy:=r2.go g3;obtain⟨a',ea',ta3⟩:cz X.K θ3 H3 (.mr i) v:=r1.go (g2.trans g3);obtain rfl:a=a':=by rw[ea] at ea';injection ea'
   unfold fI at h4;cases q:M3[i]? with
   | none=>rw[q] at h4;exact h4.elim
   | some mo=>
    cases mo with
    | lst _=>rw[q] at h4;exact h4.elim
    | obj _ _=>rw[q] at h4;exact h4.elim
    | dK kvs=>
     rw[q] at h4;dsimp only at h4;obtain⟨vs,hv,ra⟩:=g3.wr.at_ i a _ ta3 q;cases qk:lK dy with
     | none=>rw[qk] at h4;exact h4.elim
     | some k=>
      rw[qk] at h4;dsimp only at h4;have ek:=Ew qk ry;obtain⟨i1,i2⟩:=mO k ra;cases qg:fY kvs k with
      | some r=>
       rw[qg] at h4;obtain⟨vr,hvr,rr⟩:=i1 r qg;exact⟨vr,H3,.inl ⟨.inl ⟨vs,k,.inl hv,ek,hvr.symm⟩,rfl⟩,h4 _ _ _ (.refl g3.wr) rr⟩
      | none=>
       rw[qg] at h4;dsimp only at h4;split at h4
       ·rename_i hl;have nv:=i2 qg;refine⟨vz,_,.inr (.inl ⟨vs,k,hv,ek,nv,by rw[<-gO ra];exact hl,rfl,rfl⟩),?_⟩;rw[yg vz nv];have gs:=rV (m:=.dK (kvs++[(k,dz)])) (o:=.dK (vs++[(k,vz)])) g3.wr ta3 ⟨_,aV,kx (pH g3.wr ta3) (pO r3 ra)⟩;exact h4 _ _ _ gs (r3.go gs)
       ·exact h4.elim
    | dT kvs=>
     rw[q] at h4;dsimp only at h4;obtain⟨vs,hv,ra⟩:=g3.wr.at_ i a _ ta3 q;cases qk:jN dy with
     | none=>rw[qk] at h4;exact h4.elim
     | some k=>
      rw[qk] at h4;dsimp only at h4;obtain⟨b,eb,hb,_⟩:=EW qk ry;obtain⟨i1,i2⟩:=mO k ra;cases qg:fY kvs k with
      | some r=>
       rw[qg] at h4;obtain⟨vr,hvr,rr⟩:=i1 r qg;exact⟨vr,H3,.inl ⟨.inr ⟨vs,k,b,.inl hv,eb,hb,hvr.symm⟩,rfl⟩,h4 _ _ _ (.refl g3.wr) rr⟩
      | none=>
       rw[qg] at h4;dsimp only at h4;split at h4
       ·rename_i hl;have nv:=i2 qg;refine⟨vz,_,.inr (.inr ⟨vs,k,b,hv,eb,hb,nv,by rw[<-gO ra];exact hl,rfl,rfl⟩),?_⟩;rw[yg vz nv];have gs:=rV (m:=.dT (kvs++[(k,dz)])) (o:=.dT (vs++[(k,vz)])) g3.wr ta3 ⟨_,aV,kx (pH g3.wr ta3) (pO r3 ra)⟩;exact h4 _ _ _ gs (r3.go gs)
       ·exact h4.elim
  ·exact h2.elim
 | _=>exact h2.elim
def AD:List D->Option (List Int)
 | []=>Z []
 | .int i::ds=>(AD ds).map (i::·)
 | _::_=>Y
theorem Ex {K:Tp}:∀{ds:List D} {ns:List Int} {vs:List V},AD ds=Z ns->aY K θ H ds vs->vs=ns.map V.int
 | [],ns,vs,e,r=>by
  simp only[AD,Vq] at e;subst e;exact r
 | d::ds,ns,vs,e,r=>by
  obtain⟨v,us,e1,r1,r2⟩:=r;cases d with
  | int i=>
   obtain⟨ms,e2,e3⟩:=TZ.mp e;subst e3;rw[e1,Ex e2 r2,r1];rfl
  | _=>cases e
theorem jY {K:Tp}:∀ns:List Int,aY K θ H (ns.map D.int) (ns.map V.int)
 | []=>rfl
 | n::ns=>⟨_,_,rfl,rfl,jY ns⟩
def FY:FD:=λds M=>match ds with
 | [d]=>match yZ d M with
  | some xs=>match AD xs with
   | some ns=>if ns.length<64 then .ok (.lst ((sortI ns).map D.int)) M else .bad
   | none=>.bad
  | none=>.bad
 | _=>.bad
def Cg:fz X (.builtin "sorted") (rC X FY):=by
 intro af s σ H xs us Q I r h;obtain⟨θ,M,ds,hw,rd,h⟩:=h;unfold FY at h;split at h
 ·split at h
  ·rename_i ys q;split at h
   ·rename_i ns qn;split at h
    ·rename_i hl;obtain⟨v,e,rv⟩:=gZ rd;obtain⟨a,vs,ea,ta,ra⟩:=yu hw rv q;have ev:=Ex qn ra;subst ev;exact yr af s σ H xs us Q I r ⟨a,ns,by rw[e,ea],.inl (.inl ta),hl,λl hp=>h _ θ _ (cR hw hp) (ik hw hp (jY _))⟩
    ·exact h.elim
   ·exact h.elim
  ·exact h.elim
 ·exact h.elim
end
section
variable {X:Cx}{pos apos cpos:Pos}{o e f:T9}{go gy gz:GE}
def G7:QE X (.Dict [] [] pos) vL:=⟨EE.of λσ H Q ⟨ρ,θ,M,hd,hw,h⟩ p hp=>h _ _ _ (wd hw hp ⟨[],aV,rfl⟩) (oV hw)⟩
def HA:QE X (.Dict [] [] pos) vT:=⟨Gs.of λσ H Q ⟨ρ,θ,M,hd,hw,h⟩ p hp=>h _ _ _ (wd hw hp ⟨[],aV,rfl⟩) (oV hw)⟩
def CN {k:Nat}(hr:bo k X.A)(ho:QE X o go)(he:QE X e gy)(hf:QE X f gz)
  (base:Uw o "setdefault" X.env (Uy o X.env)=Uy o X.env:=by rfl)
  (few:((Vu cpos (T2 [e,f] X.env)).all (λx=>!x.1)&&(Wb cpos (Va [] X.env)).all (λx=>x.1.isSome)
   && decide (([e,f]:List T9).length+([]:List W0).length+(if([]:List W0).isEmpty then 0 else 1)<30))=true:=by rfl)
  (line:(apos.endLine==cpos.line)=true:=by rfl) (trees:Vu cpos (T2 [e,f] X.env)=[(false,Uy e X.env),(false,Uy f X.env)]:=by rfl) :
  QE X (.Call (.Attribute o "setdefault" apos) [e,f] [] cpos) (ib go gy gz):=⟨Cj (Fg hr) ho.h he.h hf.h ⟨base,few,line,trees⟩⟩
end
end DL
namespace L2
open PySem PySem.Spec PyProof.Rows List
def uF:seqSlot? (.type "list") (dunderI "add")=pure (Z (.builtin "list.__iadd__")):=PySem.seqSlot_of PySem.F.slot_list_iadd.lookup (by rfl)
def p9:fillsInplaceSlot (.type "list") "add" (Operator.Add==.Add)=pure false:=by
 show(aam (.type "list") (dunderI "add") >>= λfi=>pure (fi.isSome&&!isSeqSlot fi))=pure false;rw[PySem.F.slot_list_iadd.lookup];rfl
section
variable {X:Cx}
def xb {a:Td}(ha:s.TypeIs a "list")(hb:s.TypeIs b "list")
  (hc:Tn M A (call (.builtin "list.__iadd__") [a,b]) Q E s):Tn M A (aaF .Add a b) Q E s:=by
 unfold aaF;refine TV ?_;refine Ta (XZ ha (Ta (VY p9 ?_)));refine Ta (wpAny_binaryOp1_none  ha hb PySem.noFill_list_add ?_);refine Ta (VY uF ?_);exact Ta (W9 hc)
def Ps:V->V->Hp->VK->Prop:=λx y H Q=>(∃i j,x=.int i/\y=.int j/\Q (.int (i+j)) H)\/
 ∃l b xs zs,x=.ref l/\y=.ref b/\H l=Z (.lst xs)/\H b=Z (.lst zs)/\xs.length+zs.length<=To/\Q (.ref l) (bj H l (.lst (xs++zs)))
def AZ:HN X .Add Ps:=by
 intro af s σ H x y u v Q I rx ry h;rcases h with⟨i,j,e1,e2,q⟩|⟨l,b,xs,zs,rfl,rfl,hH,hB,hz,q⟩
 ·exact Ld af s σ H x y u v Q I rx ry ⟨i,j,e1,e2,q⟩
 ·cases rx;cases ry;obtain⟨z,its,n,r,hl,e⟩:=I.lstM hH;obtain⟨z2,its2,n2,r2,hl2,e2⟩:=I.lstM hB;have hsz:its.toArray.size+its2.toArray.size<=To:=by grind
  refine xb ⟨_,e,rfl⟩ ⟨_,e2,rfl⟩ (aan PySem.F.slot_list_iadd ⟨_,e,rfl⟩ PySem.F.entry_list_iadd (PySem.F.args_list_iadd_2 _ _)
   (AutoSeq1.list___iadd___list_list_0 l its.toArray n b its2.toArray n2 (by
   rw[t8 hsz,Bool.and_false];simp) (by grind) (by omega)) ⟨e,e2,?_⟩)
  refine⟨.ref l,_,I.lset  hH e (by simp) (r.append r2) ?_,rfl,q⟩;rw[VM];omega
end
end L2
namespace DL
open PySem PySem.Spec PyProof.Rows L2 List
section
variable {X:Cx}{c f:Str}{C:Th}{o value:T9}{go gv:GE}{pos pos' tpos:Pos}
def AI (x y:D)(M:aq):bi D:=match x with
 | .int i=>match y with
  | .int j=>.ok (.int (i+j)) M
  | _=>.bad
 | .mr k=>match M[k]? with
  | some (.lst xs)=>match yZ y M with
   | some ys=>if xs.length+ys.length<=To then .ok (.mr k) (M.set k (.lst (xs++ys))) else .bad
   | none=>.bad
  | _=>.bad
 | _=>.bad
def Sk (X:Cx):V->V->Hp->VK->Prop:=λx y H Q=>∃θ M dx dy,Wr X.K θ H M/\cz X.K θ H dx x/\cz X.K θ H dy y/\aF X θ H Q (AI dx dy M)
def Lo:HN X .Add (Sk X):=by
 intro af s σ H x y u v Q I rx ry ⟨θ,M,dx,dy,hw,r1,r2,h⟩;unfold AI at h;cases dx with
 | int i=>
  cases dy with
  | int j=>exact AZ af s σ H x y u v Q I rx ry (.inl ⟨i,j,r1,r2,h _ θ H (.refl hw) rfl⟩)
  | _=>exact h.elim
 | mr k=>
  dsimp only at h;cases q:M[k]? with
  | none=>rw[q] at h;exact h.elim
  | some m=>
   cases m with
   | obj _ _=>rw[q] at h;exact h.elim
   | dK _=>rw[q] at h;exact h.elim
   | dT _=>rw[q] at h;exact h.elim
   | lst xs=>
    rw[q] at h;cases q2:yZ dy M with
    | none=>rw[q2] at h;exact h.elim
    | some ys=>
     rw[q2] at h;dsimp only at h;split at h
     ·rename_i hl;obtain⟨a,ea,ta⟩:=r1;obtain⟨vs,hv,ra⟩:=hw.at_ k a _ ta q;obtain⟨b,ws,eb,tb,rb⟩:=yu hw r2 q2;have gs:=ul (ds:=xs) hw ta (cD ra rb);exact AZ af s σ H x y u v Q I rx ry (.inr ⟨a,b,vs,ws,ea,eb,hv,tb,by rw[<-ar ra,<-ar rb];exact hl,h _ _ _ gs ⟨a,rfl,ta⟩⟩)
     ·exact h.elim
 | _=>exact h.elim
def Kb (c f:Str)(go gv:GE):GS:=λρ M=>(go ρ M).bind λo M1=>match lJ c o M1 with
 | some (_,fs)=>match fs.lookup f with
  | some v=>(gv ρ M1).bind λy M2=>(AI v y M2).bind λz M3=>(CL c f o z M3).bind λ_ M4=>.ok (.nx ρ) M4
  | none=>.bad
 | none=>.bad
def OX (kc:Kc X.K X.mg c C)(na:hU X.K C f)(ho:QE X o go)(hv:QE X value gv):QS X (.AugAssign (.Attribute o f tpos) .Add value pos) (Kb c f go gv):=⟨(Do ho.h hv.h Lo).of λD σ H hxx=>by
  obtain⟨ρ,θ,M,hd,hw,h⟩:=hxx;refine bf hd hw (bR X θ H D) (λc M' h=>h) (λh=>h) h λd M1 v θ1 H1 g1 r1 h1=>?_
  have h2:=bR.go g1 h1;cases q:lJ c d M1 with
  | none=>simp only[q] at h2;exact h2.elim
  | some p=>
   obtain⟨j,fs⟩:=p;simp only[q] at h2;obtain⟨a,dx,vs,ea,ta,hv.h,rf,_⟩:=sJ g1.wr kc.at_ r1 q;cases ql:fs.lookup f with
   | none=>simp only[ql] at h2;exact h2.elim
   | some y=>
    simp only[ql] at h2;obtain⟨u,eu,ru⟩:=AB rf ql;refine⟨a,C,dx,vs,u,ea,hv.h,kc.cl,na,eu,?_⟩;refine bf (hd.go g1) g1.wr (bR X θ1 H1 D) (λc M' h=>h) (λh=>h) h2 λw M2 vw θ2 H2 g2 r2 h3=>?_
    have h3:=bR.go g2 h3;refine⟨θ2,M2,y,w,g2.wr,ru.go g2,r2,?_⟩;cases qa:AI y w M2 with
    | bad=>rw[qa] at h3;exact h3.elim
    | err c2 M3=>rw[qa] at h3;exact h3
    | ok z M3=>
     rw[qa] at h3;rw[az] at h3;intro vz θ3 H3 g3 rz;have h4:=bR.go g3 h3;have r3:=r1.go (g2.trans g3);unfold CL at h4;cases q4:lJ c d M3 with
     | none=>simp only[q4] at h4;exact h4.elim
     | some p4=>
      obtain⟨j4,fs4⟩:=p4;simp only[q4] at h4
      by_cases hl:fs4.length<1000
      ·simp only[if_pos hl] at h4;obtain⟨a4,dx4,vs4,ea4,ta4,hv4,rf4,_⟩:=sJ g3.wr kc.at_ r3 q4;obtain rfl:a=a4:=by rw[ea] at ea4;injection ea4
       have gs:=BV (f:=f) (dx:=dx4) g3.wr ta4 kc.at_ rf4 rz;exact⟨dx4,vs4,hv4,by rw[<-zF rf4];exact hl,h4 σ θ3 _ gs ((((hd.go g1).go g2).go g3).go gs)⟩
      ·simp only[if_neg hl] at h4;exact h4.elim⟩
end
end DL
namespace L2
open PySem PySem.Spec PyProof.Rows List
end L2
namespace DL
open PySem PySem.Spec PyProof.Rows L2 List
def aI (h1:sc.kind=.function:=by rfl)(h2:sc.isCoroutine=false:=by rfl)(h3:sc.isGenerator=false:=by rfl)(h4:N.Nodup:=by decide +kernel)(h5:N.take ps.length=ps:=by rfl)
  (h6:∀x∈ps,sc.names.lookup x=Z .local\/sc.names.lookup x=Z .cell:=by decide +kernel) (h7:∀y∈sc.names,y.2≠.free:=by decide +kernel):eY N ps sc:=⟨h1,h2,h3,h4,h5,h6,h7⟩
section
variable {X:Cx}{e:T9}{es:List T9}{x:Str}{p pos:Pos}{gA:GA}{k k' n:Nat}{f:Th}{fd:UZ}{ps:List Str}{F:FD}{st:VI}{id:String}{T:String}
def JW (hc:QC X (.builtin id) F)(hm:X.mg x=Y)(hv:UL x=Z (.builtin id))(ha:QA X (e::es) gA)(hg:Gl X x:=by rfl)(hn:x≠"__name__":=by decide)(hdb:(x==("__debug__":Str))=false:=by decide)
  (h1:cA e=true:=by rfl) (h2:eV es=true:=by rfl):QE X (.Call (.Name x p) (e::es) [] pos) (aM F gA):=Ke hc hg hm hv ha hn hdb h1 h2
end
def FF (K:Tp)(mg:Str->Option Td)(x:Str)(st:VI)(ps:List Str):Prop:=∃f fd,Fn K mg x st f fd ps
def KC (K:Tp)(mg:Str->Option Td)(c:Str)(C:Th):Prop:=Kc K mg c C/\Zu K C=true/\VU K (.ref C)=true
def MF (K:Tp)(mg:Str->Option Td)(c m q:Str)(st:VI)(ps:List Str):Prop:=∃C f fd,KC K mg c C/\Mf K C m q st f fd ps
def LF (K:Tp)(mg:Str->Option Td)(x:Str)(st:VI)(ps:List Str):Prop:=∃f fd c P,Fn K mg x st f fd ps/\Vh K Tq x=Z (Z (.ref f))/\Ax K x c P
def NA (K:Tp)(mg:Str->Option Td)(c f:Str):Prop:=∃C,KC K mg c C/\hU K C f
def EX (K:Tp)(mg:Str->Option Td)(x:Str):Prop:=∃C,Ec K mg x C
def IX (K:Tp)(mg:Str->Option Td)(x:Str)(tab:List (Str×Bool)):Prop:=∃G,Ec K mg x G/\∀p∈tab,∃C,Ec K mg p.1 C/\XQ K C (.ref G)=Z p.2
def IB (K:Tp)(mg:Str->Option Td)(x:String)(tab:List (Str×Bool)):Prop:=∀p∈tab,∃C,Ec K mg p.1 C/\XQ K C (.type x)=Z p.2
def Ls {α:Type}(P:α->Prop)(l:List α):Prop:=∀t∈l,P t
section
variable {α β γ:Type}{P:α->Prop}{l:List α}{a:α}
def Ls.nil:Ls P []:=λ_ h=>by grind
def Ls.cons (h:P a)(t:Ls P l):Ls P (a::l):=λx hx=>by
 rcases Ur.mp hx with e|e
 ·rwa [e]
 ·exact t x e
end
structure RN (l c:Nat)(xs R:List Str):Prop
def rn (l c:Nat)(xs R:List Str):RN l c xs R:=⟨⟩
def Ok (P:TR)(w:TY)(K:Tp)(mg:Str->Option Td)(base:UG)(x:Str)(k n:Nat)(F:FD):Prop:=
 ∃f fd ps,eM P w K mg base (ju P w) k f fd ps (rq K n F)/\mg x=Z (.ref f)/\VU K (.ref f)=true/\f6 K fd ps []
def Om (P:TR)(w:TY)(K:Tp)(mg:Str->Option Td)(base:UG)(c m:Str)(k n:Nat)(F:FD):Prop:=
 ∃C f fd ps,eM P w K mg base (ju P w) k f fd ps (rq K n F)/\KC K mg c C/\zH K C m f/\f6 K fd ps []
section
variable {P:TR}{w:TY}{K:Tp}{mg:Str->Option Td}{base:UG}{x c m q:Str}{st:VI}{N ps:List Str}{k n:Nat}{g:GS}{F:FD}
def nD (h:Ok P w K mg base x k n F):Ok P w K mg base x k n λds M=>jD M.length (F ds M):=by
 obtain⟨f,fd,ps,h1,h2,h3,h4⟩:=h;exact⟨f,fd,ps,MK h1,h2,h3,h4⟩
def bZ (T:FF K mg x st ps)(N:List Str)(S:eY N ps (aH st))(hn:ps.length=n)
  (hb:∀(f:Th) (cdv:Td) (A:Ux) (outer:List Env) (s:Tg) (H:Hp) (E:XK),N.Nodup->bo k (A.deeper (VW x (aH st) s.heap.objs.size f cdv))->QB (iK (ju P w) P w K mg base N x (aH st) f cdv A outer s H E) (cu st) g) :
  Ok P w K mg base x (k+1) n (aU (N.length-n) g):=by
 obtain⟨f,fd,T⟩:=T;exact⟨f,fd,ps,LI T.F S hn λcdv A outer s H E hr=>hb f cdv A outer s H E S.nd hr,T.m,T.F.kp,T.b⟩
def n5 (T:MF K mg c m q st ps)(N:List Str)(S:eY N ps (aH st))(hn:ps.length=n)
  (hb:∀(f:Th) (cdv:Td) (A:Ux) (outer:List Env) (s:Tg) (H:Hp) (E:XK),N.Nodup->bo k (A.deeper (VW q (aH st) s.heap.objs.size f cdv))->QB (iK (ju P w) P w K mg base N q (aH st) f cdv A outer s H E) (cu st) g) :
  Om P w K mg base c m (k+1) n (aU (N.length-n) g):=by
 obtain⟨C,f,fd,kC,T⟩:=T;exact⟨C,f,fd,ps,LI T.F S hn λcdv A outer s H E hr=>hb f cdv A outer s H E S.nd hr,kC,T.me,T.b⟩
def RL (T:LF K mg x st ps)(N:List Str)(S:eY N ps (aH st))(hn:ps.length=n)
  (hb:∀(f c Pt:Th) (A:Ux) (outer:List Env) (s:Tg) (H:Hp) (E:XK),N.Nodup->Ax K x c Pt->bo k (A.deeper (VW x (aH st) s.heap.objs.size f (.ref c)))->QB (iK (ju P w) P w K mg base N x (aH st) f (.ref c) A outer s H E) (cu st) g) :
  Ok P w K mg base x (k+1) n (aU (N.length-n) g):=by
 obtain⟨f,fd,c,Pt,T,hns,tb⟩:=T;exact⟨f,fd,ps,Ky T.F hns tb S hn λA outer s H E hr=>hb f c Pt A outer s H E S.nd tb hr,T.m,T.F.kp,T.b⟩
end
section
variable {X:Cx}{e a o value:T9}{es:List T9}{x c m f:Str}{p p2 pos apos pos':Pos}{gA:GA}{g go gv:GE}{k k' n:Nat}{F:FD}{tab:List (Str×Bool)}{bs:List Str}
def NZ (h:Ok X.prog X.w X.K X.mg X.base x k n F)(hr:bo k' X.A)(ha:QA X (e::es) gA)(hk:k<=k':=by first|decide|omega)(hg:Gl X x:=by rfl)
  (hdb:(x==("__debug__":Str))=false:=by decide) (h1:cA e=true:=by rfl) (h2:eV es=true:=by rfl):QE X (.Call (.Name x p) (e::es) [] pos) (ah n F gA):=by
 obtain⟨f,fd,ps,h1',h2',h3,h4⟩:=h;exact Ol h1' (hr.mono hk) hg h2' h3 h4 ha hdb h1 h2
def IP (h:Om X.prog X.w X.K X.mg X.base c m k n F)(hr:bo k' X.A)(ho:QE X o go)(ha:QA X (e::es) gA)(hk:k<=k':=by first|decide|omega)(h1:cA e=true:=by rfl)(h2:eV es=true:=by rfl)
  (ht:Uy (.Call (.Attribute o m apos) (e::es) [] pos) X.env=(do
   let ov <-Uy o X.env
   WJ apos.atName
   let (f,first) <-U1 [ov] (WG ov m pl)
   Ym pos f first (Vu pos (T2 (e::es) X.env)) (Wb pos (Va [] X.env))):=by rfl):QE X (.Call (.Attribute o m apos) (e::es) [] pos) (fc c m n F go gA):=by
 obtain⟨C,f,fd,ps,a1,a2,a3,a4⟩:=h;exact Mt  a2.1 a3 a1 (hr.mono hk) a4 ho ha h1 h2 ht
def DG (h:Om X.prog X.w X.K X.mg X.base c m k n F)(hr:bo k' X.A)(ho:QE X o go)(hk:k<=k':=by first|decide|omega)
  (ht:Uy (.Call (.Attribute o m apos) [] [] pos) X.env=(do
   let ov <-Uy o X.env
   WJ apos.atName
   let (f,first) <-U1 [ov] (WG ov m pl)
   Ym pos f first (Vu pos (T2 [] X.env)) (Wb pos (Va [] X.env))):=by rfl):QE X (.Call (.Attribute o m apos) [] [] pos) (fc c m n F go ag):=by
 obtain⟨C,f,fd,ps,a1,a2,a3,a4⟩:=h;exact G6  a2.1 a3 a1 (hr.mono hk) a4 ho ht
def FZ (h:Om X.prog X.w X.K X.mg X.base c "__init__" k n F)(hr:bo k' X.A)(ha:QA X (e::es) gA)(hk:k+1<=k':=by first|decide|omega)(hg:Gl X c:=by rfl)
  (hdb:(c==("__debug__":Str))=false:=by decide) (h1:cA e=true:=by rfl) (h2:eV es=true:=by rfl):QE X (.Call (.Name c p) (e::es) [] pos) (qS c n F gA):=by
 obtain⟨C,f,fd,ps,a1,a2,a3,a4⟩:=h;exact JG a2.1 ⟨a2.2.1,a3.at_,a3.fn,a2.2.2⟩ a1 (hr.mono hk) hg a4 ha hdb h1 h2
def Jj (h:NA X.K X.mg c f)(he:QE X e g)(hb:Uw e f X.env (Uy e X.env)=Uy e X.env:=by rfl):QE X (.Attribute e f pos) (dm c f g):=by
 obtain⟨C,h1,h2⟩:=h;exact MQ h1.1 h2 he hb
def JC (h:NA X.K X.mg c f)(ho:QE X o go)(hv:QE X value gv)(hs:jc value=true:=by rfl):QS X (.Assign [.Attribute o f pos'] value pos) (gP c f go gv):=by
 obtain⟨C,h1,h2⟩:=h;exact Ni h1.1 h2 ho hv hs
def Ma (h:NA X.K X.mg c f)(ho:QE X o go)(hv:QE X value gv):QS X (.AugAssign (.Attribute o f tpos) .Add value pos) (Kb c f go gv):=by
 obtain⟨C,h1,h2⟩:=h;exact OX h1.1 h2 ho hv
def CM (h:EX X.K X.mg x)(he:QE X e g)(hg:Gl X x:=by rfl)(hc:X.calm=true:=by rfl)(h1:cA e=true:=by rfl)(hd:(x==("__debug__":Str))=false:=by decide):QS X (.Raise (Z (.Call (.Name x np) [e] [] cpos)) Y pos) (jy x g):=by
 obtain⟨C,h⟩:=h;exact Er h hg he hc h1 hd
end
section
variable {X:Cx}{x:Str}{pos px:Pos}{ge:GE}{scope:X8}{xs R:List Str}{iter elt tg:T9}{ifs:List T9}{gI:GI}{gC:GT}{sg:GG}{mk:List D->aq->bi D}{j:Nat}{y:Str}{py spos:Pos}{n:Nat}
def Gw (hS:cG scope X.env.kindOf [x] X.N X.N=true)(hm:mk=aR\/mk=dQ)(hi:QI X (.Name x px) iter gI)(hts:ER X scope [x] X.N ifs gC)(he:∀fp s H C,QE (aD X scope [x] X.N fp s H C) elt ge)
  (hc:X.calm=true:=by rfl) (hs:∀x,Um iter X.env x=pure x:=by intro _;rfl):QE X (.ListComp elt [⟨.Name x px,iter,ifs,0⟩] scope pos) (a8 gI gC ge mk):=A4 hS hm hi hts he hc hs
def FT (_:RN pos.line pos.col [x] R)(hS:cG scope X.env.kindOf [x] R X.N=true)(hm:mk=aR\/mk=dQ)(hi:QI X (.Name x px) iter gI)(hts:ER X scope [x] R ifs gC)(he:∀fp s H C,QE (aD X scope [x] R fp s H C) elt ge)
  (hc:X.calm=true:=by rfl) (hs:∀x,Um iter X.env x=pure x:=by intro _;rfl):QE X (.ListComp elt [⟨.Name x px,iter,ifs,0⟩] scope pos) (a8 gI gC ge mk):=A4 hS hm hi hts he hc hs
def zo (hS:cG scope X.env.kindOf [x] X.N X.N=true)(hm:mk=aR\/mk=dQ)(hN:X.N.Nodup)(hi:QI X (.Name x px) iter gI)(hts:ER X scope [x] X.N ifs gC)(he:∀fp s H C,QE (aD X scope [x] X.N fp s H C) elt ge)
  (hc:X.calm=true:=by rfl) (hj:X.N[j]?=Z y:=by rfl) (hy:X.env.scope.names.lookup y=Z .local:=by rfl) (hsw:V4 (.ListComp elt [⟨.Name x px,iter,ifs,0⟩] scope pos) (Z (.Name y py)) spos.line X.env=pure true:=by rfl)
  (hs:∀x,Um iter X.env x=pure x:=by intro _;rfl):QS X (.Assign [.Name y py] (.ListComp elt [⟨.Name x px,iter,ifs,0⟩] scope pos) spos) (aQ j (a8 gI gC ge mk)):=uB hS hm hN hi hts he hc hj hy hsw hs
def yY (_:RN pos.line pos.col [x] R)(hS:cG scope X.env.kindOf [x] R X.N=true)(hm:mk=aR\/mk=dQ)(hN:X.N.Nodup)(hi:QI X (.Name x px) iter gI)(hts:ER X scope [x] R ifs gC)(he:∀fp s H C,QE (aD X scope [x] R fp s H C) elt ge)
  (hc:X.calm=true:=by rfl) (hj:X.N[j]?=Z y:=by rfl) (hy:X.env.scope.names.lookup y=Z .local:=by rfl) (hsw:V4 (.ListComp elt [⟨.Name x px,iter,ifs,0⟩] scope pos) (Z (.Name y py)) spos.line X.env=pure true:=by rfl)
  (hs:∀x,Um iter X.env x=pure x:=by intro _;rfl):QS X (.Assign [.Name y py] (.ListComp elt [⟨.Name x px,iter,ifs,0⟩] scope pos) spos) (aQ j (a8 gI gC ge mk)):=uB hS hm hN hi hts he hc hj hy hsw hs
def xw (_:RN pos.line pos.col xs R)(hS:cG scope X.env.kindOf xs R X.N=true)(hm:mk=aR\/mk=dQ)(own:QO xs.length sg)(hN:X.N.Nodup)(hi:QI X tg iter gI)(hg:∀fp s H C,QG (aD X scope xs R fp s H C) tg sg)(hts:ER X scope xs R ifs gC)(he:∀fp s H C,QE (aD X scope xs R fp s H C) elt ge)
  (hn:xs.length=n:=by rfl) (hc:X.calm=true:=by rfl) (hj:X.N[j]?=Z y:=by rfl) (hy:X.env.scope.names.lookup y=Z .local:=by rfl) (hsw:V4 (.ListComp elt [⟨tg,iter,ifs,0⟩] scope pos) (Z (.Name y py)) spos.line X.env=pure true:=by rfl)
  (hs:∀x,Um iter X.env x=pure x:=by intro _;rfl):QS X (.Assign [.Name y py] (.ListComp elt [⟨tg,iter,ifs,0⟩] scope pos) spos) (aQ j (dM gI n sg gC ge mk)):=hn▸yJ xs hS hm own hN hi hg hts he hc hj hy hsw hs
end
structure Tx (tab:List (Str×VI×List Str))(mtab:List (Str×Str×Str×VI×List Str))(ls:List (Str×VI×List Str))(zs es:List Str)(rs:List (Str×List (Str×Bool)))(vt:List (Str×Bool))(nas:List (Str×Str))(cs:List (Str×Str))(ci:List (Str×Int))
  (P:TR) (w:TY) (K:Tp) (mg:Str->Option Td) (base:UG):Prop where
 f:Ls (λt=>FF K mg t.1 t.2.1 t.2.2) tab
 m:Ls (λt=>MF K mg t.1 t.2.1 t.2.2.1 t.2.2.2.1 t.2.2.2.2) mtab
 l:Ls (λt=>LF K mg t.1 t.2.1 t.2.2) ls
 z:∀x∈zs,mg x=Y
 e:∀x∈es,EX K mg x
 r:Ls (λt=>IX K mg t.1 t.2) rs
 b:IB K mg "ValueError" vt
 a:∀t∈nas,NA K mg t.1 t.2
 s:Ls (λt=>∃tk,mg t.1=Z (.str t.2 tk)) cs
 i:Ls (λt=>∃tk,mg t.1=Z (.int t.2 tk)) ci
def Bm {K:Tp}{l:List (Str×Str)}(h:∀t∈l,NA K mg t.1 t.2)(c f:Str)(e:(c,f)∈l:=by decide +kernel):NA K mg c f:=h (c,f) e
section
variable {K:Tp}{mg:Str->Option Td}{x c m q:Str}{st:VI}{ps:List Str}{l:List (Str×VI×List Str)}{l':List (Str×Str×Str×VI×List Str)}
def bY (h:Ls (λt=>FF K mg t.1 t.2.1 t.2.2) l)(i:Nat)(e:l[i]?=Z (x,st,ps):=by rfl):FF K mg x st ps:=h _ (UT e)
def Rq (h:Ls (λt=>LF K mg t.1 t.2.1 t.2.2) l)(i:Nat)(e:l[i]?=Z (x,st,ps):=by rfl):LF K mg x st ps:=h _ (UT e)
def nU (h:Ls (λt=>MF K mg t.1 t.2.1 t.2.2.1 t.2.2.2.1 t.2.2.2.2) l')(i:Nat)(e:l'[i]?=Z (c,m,q,st,ps):=by rfl):MF K mg c m q st ps:=h _ (UT e)
end
section
variable {K:Tp}{h:UG}{mg:Str->Option Td}{x c m q f':Str}{st:VI}{ps:List Str}{f C G:Th}{oc kV dc pm cd ct:Td}{od an:Option Th}{sl:Array (Option Td)}
def OI (X:K.In h)(Gm:h.Ns Tq mg)(a:Vh K Tq x=Z (Z (.ref f)))(l:K.lookup f=Z ⟨oc,od,.func (WU x x (fQ st) (cu st) (aH st) .none kV dc pm an cd ct),sl⟩)(c:Yn K cd x=true)(k:VU K (.ref f)=true)
  (b:∀(kV doc pm:Td) (an:Option Th) (cdv ct:Td) (us:List Td),us.length=ps.length->Yl (WU x x (fQ st) (cu st) (aH st) .none kV doc pm an cdv ct) ⟨us,[]⟩=pure (ps.zip us)):FF K mg x st ps:=
 ⟨f,_,qC  l c k,YB X Gm a,(qC  l c k).binds b⟩
def Pz (X:K.In h)(Gm:h.Ns Tq mg)(q:Vh K Tq c=Z (Z (.ref C)))(pg:XU K C Yy=true)(hd:Yk K C=true)(po:ZI K C=true)(sa:Vd K (.ref C) "__setattr__"=Z (Z (.builtin "object.__setattr__")))
  (mi:Zu K C=true) (kp:VU K (.ref C)=true):KC K mg c C:=⟨⟨q,YB X Gm q,pg,hd,po,sa⟩,mi,kp⟩
def P8 (kC:KC K mg c C)(a:Vd K (.ref C) m=Z (Z (.ref f)))(l:K.lookup f=Z ⟨oc,od,.func (WU m q (fQ st) (cu st) (aH st) .none kV dc pm an cd ct),sl⟩)(cc:Yn K cd q=true)(k:VU K (.ref f)=true)(n:W.isFn K (.ref f)=true)
  (b:∀(kV doc pm:Td) (an:Option Th) (cdv ct:Td) (us:List Td),us.length=ps.length->Yl (WU m q (fQ st) (cu st) (aH st) .none kV doc pm an cdv ct) ⟨us,[]⟩=pure (ps.zip us)):MF K mg c m q st ps:=
 ⟨C,f,_,kC,qC  l cc k,⟨a,n,k⟩,(qC  l cc k).binds b⟩
def Px (kC:KC K mg c C)(a:Vd K (.ref C) f'=Z Y):NA K mg c f':=⟨C,kC,a⟩
def N9 (X:K.In h)(Gm:h.Ns Tq mg)(q:Vh K Tq x=Z (Z (.ref C)))(cl:W.isClsIn K C=true)(ca:Vd K (.ref C) "__class__"=Z (Z (.builtin "object.__class__")))(sp:W.specialIn K (.builtin "object.__class__") "__get__"=Z (Z (.builtin "getset_descriptor.__get__")))(tk:W.takesIn K (.builtin "object.__class__")=Z true)
  (ob:XQ K C (.type "object")=Z true) (ga:Vd K (.ref C) "__getattribute__"=Z (Z (.builtin "BaseException.__getattribute__"))) (gh:Vd K (.ref C) "__getattr__"=Z Y) (be:XQ K C (.type "BaseException")=Z true)
  (ex:aaT K C Oz "ValueError.__new__"=true) (ty:aaX K (.ref C)=Z (.type "type")) (sf:XQ K C (.ref C)=Z true):Ec K mg x C:=⟨q,YB X Gm q,⟨cl,ca,sp,tk,ob,ga,gh,be⟩,ex,ty,sf⟩
def Pi (h:Ec K mg x C):EX K mg x:=⟨C,h⟩
def NY (h:Ec K mg x G)(t:Ls (λp=>∃C,Ec K mg p.1 C/\XQ K C (.ref G)=Z p.2) tab):IX K mg x tab:=⟨G,h,t⟩
def So (X:K.In h)(Gm:h.Ns Tq mg)(e:Vh K Tq x=Z Y):mg x=Y:=W.mg_none_of X Gm e
def OY {u:Tok->Td}(X:K.In h)(Gm:h.Ns Tq mg)(e:Vh K Tq x=Z (Z (u tk))):∃tk,mg x=Z (u tk):=⟨tk,YB X Gm e⟩
end
def OF {K:Tp}{st:VI}{oc occ kV dc pm ct:Td}
  (X:K.In h) (Gm:h.Ns Tq mg) (a:Vh K Tq x=Z (Z (.ref f))) (l:K.lookup f=Z ⟨oc,od,.func (WU x x (fQ st) (cu st) (aH st) .none kV dc pm an (.ref c) ct),sl⟩) (cc:Yn K (.ref c) x=true) (k:VU K (.ref f)=true)
  (lc:K.lookup c=Z ⟨occ,odc,.fields vs,slc⟩) (hcc:occ=.type "code") (h11:vs[11]?=Z (.ref P)) (h18:vs.getD 18 .none=.str file tf) (h7:vs.getD 7 .none=.int flags tg) (h9:vs.getD 9 .none=.bool inF) (h10:vs.getD 10 .none=.int text tt) (ne:c≠P)
  (hm:x∈cp) (un:∀y,y∈cp->y≠x->Vh K Tq y=Z Y)
  (b:∀(kV doc pm:Td) (an:Option Th) (cdv ct:Td) (us:List Td),us.length=ps.length->Yl (WU x x (fQ st) (cu st) (aH st) .none kV doc pm an cdv ct) ⟨us,[]⟩=pure (ps.zip us)):LF K mg x st ps:=
 ⟨f,_,c,P,⟨qC  l cc k,YB X Gm a,(qC  l cc k).binds b⟩,a,JI hm a l rfl lc hcc h11 h18 h7 h9 h10 ne λy hy n=>.inl (un y hy n)⟩
def MC {l:WD}{K:Tp}{st:VI}{k:Nat}(hfa:mg "law"=Z (.ref fa))(L:FF K mg "law" st ["script"])
  (h:∀(base:UG) (f:Th) (fd:UZ),Fn K mg "law" st f fd ["script"]->eM l.prog w K mg base (ju l.prog w) k f fd ["script"] (rq K 1 F))
  (hb:∀(kV doc pm:Td) (an:Option Th) (cdv ct:Td) (v:Td),Yl (WU "law" "law" (fQ st) (cu st) (aH st) .none kV doc pm an cdv ct) ⟨[v],[]⟩=pure [(("script":Str),v)]) :
  ∃fd:UZ,(∀(s:Tg) (v:Td),WY s fd ⟨[v],[]⟩ [("script",v)])/\∀base:UG,K.In base->base.Ns Tq mg->eM l.prog w K mg base (ju l.prog w) k fa fd ["script"] (rq K 1 F):=by
 obtain⟨f,fd,L⟩:=L;have e:=hfa.symm.trans L.m;cases e;refine⟨fd,λs v=>?_,λbase _ _=>h base _ fd L⟩;obtain⟨oc,od,kV,doc,pm,an,cdv,ct,osl,rfl,lk,hcd⟩:=L.F.ex;exact .of_eq (hb kV doc pm an cdv ct v)
end DL
namespace DL
open PySem PySem.Spec PyProof.Rows PySem.W L2 List
section
variable {key:Nat->Int}{N:Nat}{s:Tg}{cmp:Nat->Nat->(Bool->Tg->Prop)->Tg->Prop}
def kp (key:Nat->Int)(p:Array Nat)(k:Nat):Int:=key (p.getD k 0)
def zD (N:Nat)(p:Array Nat):Prop:=∀k,p.getD k 0<N
def up (key:Nat->Int)(p:Array Nat)(n:Nat):Prop:=∀k,k+1<n->kp key p k<=kp key p (k+1)
def FU (key:Nat->Int)(p:Array Nat)(n:Nat):Prop:=∀k,k+1<n->kp key p (k+1)<=kp key p k
def oU (key:Nat->Int)(N:Nat)(s:Tg)(cmp:Nat->Nat->(Bool->Tg->Prop)->Tg->Prop):Prop:=∀i j C,i<N->j<N->C (decide (key i<key j)) s->cmp i j C s
def vp (h:p[i]?=q[j]?):kp key p i=kp key q j:=by
 unfold kp;simp_all
def Gn (h:∀k:Nat,∃j:Nat,p[k]?=q[j]?)(i:zD N q):zD N p:=λk=>by
 obtain⟨j,e⟩:=h k;have:=i j
 simp_all
theorem J1 (h:up key p n):∀(d i:Nat),i+d<n->kp key p i<=kp key p (i+d)
 | 0,i,_=>Yu _
 | d+1,i,q=>aaR (J1 h d i (by omega)) (h (i+d) (by omega))
def sK (h:up key p n)(hij:i<=j)(hj:j<n):kp key p i<=kp key p j:=by
 have:=J1 h (j-i) i (by omega)
 grind
def rev_at (hj:j<=p.size)(k:Nat):(Z3 p i j)[k]?=if i<=k/\k<j then p[i+j-1-k]? else p[k]?:=getElem?_mirror_all hj k
def sV (hj:j<=p.size)(h:zD N p):zD N (Z3 p i j):=Gn (λk=>by
 rw[rev_at hj k];split
 ·exact⟨_,rfl⟩
 ·exact⟨_,rfl⟩) h
def tY (hj:j<=p.size)(e:∀k,i<=k->k<j->kp key p k=kp key p (j-1))(k:Nat):kp key (Z3 p i j) k=kp key p k:=by
 have h:=rev_at (i:=i) hj k
 by_cases q:i<=k/\k<j
 ·rw[if_pos q] at h;rw[vp h,e _ (by omega) (by omega),e k q.1 q.2]
 ·rw[if_neg q] at h;exact vp h
theorem zM (hc:oU key N s cmp)(hp:zD N p):∀(f n:Nat),1<=n->up key p n->(∀m,n<=m->m<=n+f->up key p m->(m<n+f->kp key p m<kp key p (m-1))->Q m s)->(kas_asc p f n).kasWp cmp Q s
 | 0,n,h1,u,h=>h n (Te _) (Te _) u (λz=>absurd z (by omega))
 | f+1,n,h1,u,h=>by
  refine hc _ _ _ (hp _) (hp _) ?_
  by_cases q:kp key p n<kp key p (n-1)
  ·rw[decide_eq_true (show key (p.getD n 0)<key (p.getD (n-1) 0) from q)];exact h n (Te _) (by omega) u λ_=>q
  ·rw[decide_eq_false (show¬key (p.getD n 0)<key (p.getD (n-1) 0) from q)];refine zM hc hp f (n+1) (by simp) (λk hk=>?_) λm a b c d=>h m (by omega) (by omega) c λz=>d (by omega)
   by_cases e:k+1<n
   ·exact u k e
   grind
theorem rT (hc:oU key N s cmp):∀(f:Nat) (p:Array Nat) (n q:Nat),zD N p->n+f<=p.size->q+1<=n->FU key p n->(∀k,n-(q+1)<=k->k<n->kp key p k=kp key p (n-1))->
  (∀p' n' q',p'.size=p.size->p'.Perm p->zD N p'->n<=n'->n'<=n+f->q'+1<=n'->FU key p' n'->(∀k,n'-(q'+1)<=k->k<n'->kp key p' k=kp key p' (n'-1))->Q (p',n',q') s)->(kas_desc f p n q).kasWp cmp Q s
 | 0,p,n,q,hp,hz,hq,hd,he,h=>h p n q rfl (VJ _) hp (Te _) (Te _) hq hd he
 | f+1,p,n,q,hp,hz,hq,hd,he,h=>by
  refine hc _ _ _ (hp _) (hp _) ?_
  by_cases c:kp key p n<kp key p (n-1)
  ·rw[decide_eq_true (show key (p.getD n 0)<key (p.getD (n-1) 0) from c)];dsimp only;rw[if_pos rfl];have hd':FU key p (n+1):=λk hk=>by
    by_cases e:k+1<n
    ·exact hd k e
    ·have:k=n-1:=by omega
     subst this;rw[show n-1+1=n by omega];omega
   by_cases z:q>0
   ·rw[if_pos z];have sm:=tY (key:=key) (p:=p) (i:=n-(q+1)) (j:=n) (by omega) he;refine rT hc f (Z3 p (n-(q+1)) n) (n+1) 0 (sV (by omega) hp) (by rw[V6];omega) (by omega) (λk hk=>by rw[sm,sm];exact hd' k hk) (λk a b=>by rw[show k=n by omega];rfl) λp' n' q' a b c1 d e g i j=>h p' n' q' (a.trans (V6 ..)) (b.trans (Yv ..)) c1 (by omega) (by omega) g i j
   ·rw[if_neg z];exact rT hc f p (n+1) 0 hp (by omega) (by omega) hd' (λk a b=>by rw[show k=n by omega];rfl) λp' n' q' a b c1 d e g i j=>h p' n' q' a b c1 (by omega) (by omega) g i j
  ·rw[decide_eq_false (show¬key (p.getD n 0)<key (p.getD (n-1) 0) from c)];dsimp only;rw[if_neg (by simp)];refine hc _ _ _ (hp _) (hp _) ?_
   by_cases c2:kp key p (n-1)<kp key p n
   ·rw[decide_eq_true (show key (p.getD (n-1) 0)<key (p.getD n 0) from c2)];dsimp only;rw[if_pos rfl];exact h p n q rfl (VJ _) hp (Te _) (by omega) hq hd he
   ·rw[decide_eq_false (show¬key (p.getD (n-1) 0)<key (p.getD n 0) from c2)];dsimp only;rw[if_neg (by simp)];have eq:kp key p n=kp key p (n-1):=by omega
    refine rT hc f p (n+1) (q+1) hp (by omega) (by omega) (λk hk=>?_) (λk a b=>?_) λp' n' q' a b c1 d e g i j=>h p' n' q' a b c1 (by omega) (by omega) g i j
    ·by_cases e:k+1<n
     ·exact hd k e
     ·have:k=n-1:=by omega
      subst this;rw[show n-1+1=n by omega];omega
    ·show _=kp key p n
     by_cases e:k<n
     ·rw[he k (by omega) e];omega
     ·rw[show k=n by omega]
def xR (hc:oU key N s cmp)(hp:zD N p)(h1:1<=n)(hn:n<=m)(hz:m<=p.size)(hd:FU key p n)
  (h:∀k p',p'.size=p.size->p'.Perm p->zD N p'->1<=k->k<=m->up key p' k->Q (k,p') s):(kas_tail3 n m p).kasWp cmp Q s:=by
 unfold kas_tail3;rw[Wh];have at':∀k,k<n->kp key (Z3 p 0 n) k=kp key p (n-1-k):=λk hk=>by
  have e:=rev_at (i:=0) (j:=n) (p:=p) (by omega) k;rw[if_pos ⟨by simp,hk⟩] at e;rw[vp e,show 0+n-1-k=n-1-k by simp]
 refine zM hc (sV (by omega) hp) _ n h1 (λk hk=>?_) λk a b c _=>h k _ (V6 ..) (Yv ..) (sV (by omega) hp) (by omega) (by omega) c
 have:=hd (n-1-(k+1)) (by omega)
 grind
def qX (hc:oU key N s cmp)(hp:zD N p)(hn:n+1<=m)(hz:m<=p.size)(hd:FU key p (n+1))
  (h:∀k p',p'.size=p.size->p'.Perm p->zD N p'->1<=k->k<=m->up key p' k->Q (k,p') s):(kas_descPart n m p).kasWp cmp Q s:=by
 unfold kas_descPart;rw[Wh];refine rT hc _ p (n+1) 0 hp (by omega) (by omega) hd (λk a b=>by grind) λp' n' q' a b c d e g i j=>?_
 dsimp only;split
 ·have sm:=tY    (j:=n') (by omega) j;exact xR hc (sV (by omega) c) (by omega) (by omega) (by rw[V6];omega) (λk hk=>by rw[sm,sm];exact i k hk) λk p2 a2 b2 c2 d2 e2 g2=>h k p2 (a2.trans ((V6 ..).trans a)) (b2.trans ((Yv ..).trans b)) c2 d2 e2 g2
 ·exact xR hc c (by omega) (by omega) (by omega) i λk p2 a2 b2 c2 d2 e2 g2=>h k p2 (a2.trans a) (b2.trans b) c2 d2 e2 g2
def Gq (hc:oU key N s cmp)(hp:zD N p)(h1:1<=m)(hz:m<=p.size)
  (h:∀k p',p'.size=p.size->p'.Perm p->zD N p'->1<=k->k<=m->up key p' k->Q (k,p') s):(kas_count m p).kasWp cmp Q s:=by
 unfold kas_count;rw[Wh];refine zM hc hp _ 1 (Te _) (λk hk=>absurd hk (by omega)) λn a b c d=>?_
 by_cases e:n=m
 ·rw[if_pos (by simp[e])];exact h n p rfl (VJ _) hp a (by omega) c
 ·rw[if_neg (by simp[e])];have lt:=d (by omega)
  by_cases z:n>1
  ·rw[if_pos z];refine hc _ _ _ (hp _) (hp _) ?_
   by_cases t:kp key p 0<kp key p (n-1)
   ·rw[decide_eq_true (show key (p.getD 0 0)<key (p.getD (n-1) 0) from t)];dsimp only;rw[if_pos rfl];exact h n p rfl (VJ _) hp a (by omega) c
   ·rw[decide_eq_false (show¬key (p.getD 0 0)<key (p.getD (n-1) 0) from t)];dsimp only;rw[if_neg (by simp)];have al:∀k,0<=k->k<n->kp key p k=kp key p (n-1):=λk _ hk=>by
     have x:=sK c (show 0<=k by omega) hk;have y:=sK c (show k<=n-1 by omega) (by omega);omega
    have sm:=tY (key:=key) (p:=p) (i:=0) (j:=n) (by omega) al;refine qX hc (sV (by omega) hp) (by omega) (by rw[V6];omega) (λk hk=>?_) λk p2 a2 b2 c2 d2 e2 g2=>h k p2 (a2.trans (V6 ..)) (b2.trans (Yv ..)) c2 d2 e2 g2
    grind
  ·rw[if_neg z];have e1:n=1:=by omega
   subst e1;refine qX hc hp (by omega) hz (λk hk=>?_) h;have:k=0:=by omega
   subst this;exact Int.le_of_lt lt
theorem tN (hc:oU key N s cmp){k:Nat}(hp:zD N p)(hu:up key p k):∀(f l r:Nat),l<=r->r<=k->r-l<=f->(∀i,i<l->kp key p i<=kp key p k)->(∀i,r<=i->i<k->kp key p k<=kp key p i)->
  (∀m,m<=k->(∀i,i<m->kp key p i<=kp key p k)->(∀i,m<=i->i<k->kp key p k<=kp key p i)->Q m s)->(kas_place p k f l r).kasWp cmp Q s
 | 0,l,r,h1,h2,h3,a,b,h=>h l (by omega) a λi x y=>b i (by omega) y
 | f+1,l,r,h1,h2,h3,a,b,h=>by
  unfold kas_place
  by_cases e:l≥r
  ·rw[if_pos e];exact h l (by omega) a λi x y=>b i (by omega) y
  ·rw[if_neg e];refine hc _ _ _ (hp _) (hp _) ?_
   by_cases t:kp key p k<kp key p ((l+r) / 2)
   ·rw[decide_eq_true (show key (p.getD k 0)<key (p.getD ((l+r) / 2) 0) from t)];dsimp only;rw[if_pos rfl];exact tN hc hp hu f l _ (by omega) (by omega) (by omega) a (λi x y=>by
     have:=sK hu x y;omega) h
   ·rw[decide_eq_false (show¬key (p.getD k 0)<key (p.getD ((l+r) / 2) 0) from t)];dsimp only;rw[if_neg (by simp)];exact tN hc hp hu f _ r (by omega) h2 (by omega) (λi x=>by
     have:=sK hu (show i<=(l+r) / 2 by omega) (by omega);omega) b h
theorem El (hc:oU key N s cmp):∀(f:Nat) (p:Array Nat) (k:Nat),zD N p->k+f=p.size->up key p k->(∀p',p'.Perm p->up key p' p.size->Q p' s)->(kas_bin f p k).kasWp cmp Q s
 | 0,p,k,hp,hz,hu,h=>h p (VJ _) (by rw[<-hz];exact hu)
 | f+1,p,k,hp,hz,hu,h=>by
  unfold kas_bin;rw[Wh];refine tN hc hp hu k 0 k (Uc _) (Te _) (by omega) (λi x=>absurd x (by omega)) (λi x y=>absurd x (by omega)) λm hm a b=>?_
  have at':=getElem?_bubble (xs:=p) (src:=k) (by omega) (k-m) (by omega);have sz:(bubble p k (k-m)).size=p.size:=bubble_size ..;have e1:k-(k-m)=m:=by omega
  rw[e1] at at';refine El hc f _ (k+1) (Gn (λi=>by
   rw[at' i];split
   ·exact⟨_,rfl⟩
   ·split
    ·exact⟨_,rfl⟩
    ·exact⟨_,rfl⟩) hp) (by rw[sz];omega) (λi hi=>?_) λp' x y=>h p' (x.trans (bubble_perm ..)) (by rw[sz] at y;exact y)
  have g:∀i,i<=k->kp key (bubble p k (k-m)) i=if i=m then kp key p k else if m<i then kp key p (i-1) else kp key p i:=λi hi=>by
   have:=at' i
   by_cases q1:i=m
   ·rw[if_pos q1] at this ⊢;exact vp this
   ·rw[if_neg q1] at this ⊢
    by_cases q2:m<i
    ·rw[if_pos ⟨q2,hi⟩] at this;rw[if_pos q2];exact vp this
    ·rw[if_neg (by omega)] at this;rw[if_neg q2];exact vp this
  rw[g i (by omega),g (i+1) (by omega)]
  by_cases q1:i=m
  ·rw[if_pos q1,if_neg (by omega),if_pos (by omega),show i+1-1=i by omega];exact b i (by omega) (by omega)
  ·rw[if_neg q1]
   by_cases q2:m<i
   ·rw[if_pos q2,if_neg (by omega),if_pos (by omega),show i+1-1=i by omega];have:=hu (i-1) (by omega);rwa [show i-1+1=i by omega] at this
   ·rw[if_neg q2]
    by_cases q3:i+1=m
    ·rw[if_pos q3];exact a i (by omega)
    ·rw[if_neg q3,if_neg (by omega)];exact hu i (by omega)
def IH (hc:oU key n s cmp)(h2:1<=n)(h:∀p:Array Nat,p.Perm (Uu (Tw n))->up key p n->Q p s):(kas_sort n).kasWp cmp Q s:=by
 unfold kas_sort;rw[Wh];have h0:zD n (Uu (Tw n)):=λk=>by
  rw[VQ,getElem?_toArray]
  by_cases q:k<n
  ·rw[XR q];exact q
  ·rw[ZD (by rw[VD];omega)];exact h2
 have hz:(Uu (Tw n)).size=n:=by simp
 refine Gq hc h0 h2 (by omega) λk p' a b c d e g=>?_
 by_cases z:k<n
 ·rw[if_pos z];have em:max k 1=k:=by omega
  rw[em];exact El hc _ p' k c (by omega) g λp2 x y=>h p2 (x.trans b) (by simp_all)
 ·rw[if_neg z];have:k=n:=by omega
  subst this;exact h p' b g
end
section
theorem oM:∀a:List Int,HT.lexLt a a=false
 | []=>rfl
 | x::a=>by rw[HT.lexLt_cons,if_pos rfl];exact oM a
theorem rR:∀a b:List Int,HT.lexLt a b=false->HT.lexLt b a=false->a=b
 | [],[],_,_=>rfl
 | [],_::_,h,_=>by cases h
 | _::_,[],_,h=>by cases h
 | x::a,y::b,h1,h2=>by
  rw[HT.lexLt_cons] at h1 h2
  by_cases e:x=y
  ·subst e;rw[if_pos rfl] at h1 h2;rw[rR a b h1 h2]
  grind
theorem ky:∀a b c:List Int,HT.lexLt a b=true->HT.lexLt b c=true->HT.lexLt a c=true
 | [],[],_,h,_=>by omega
 | [],_::_,[],_,h=>by cases h
 | [],_::_,_::_,_,_=>rfl
 | _::_,[],_,h,_=>by cases h
 | _::_,_::_,[],_,h=>by cases h
 | x::a,y::b,z::c,h1,h2=>by
  rw[HT.lexLt_cons] at h1 h2 ⊢
  by_cases e:x=y
  ·subst e;rw[if_pos rfl] at h1
   by_cases e2:x=z
   ·subst e2;rw[if_pos rfl] at h2 ⊢;exact ky a b c h1 h2
   ·rwa [if_neg e2] at h2 ⊢
  grind
def rank (zs:List (List Int))(z:List Int):Int:=(zs.countP λy=>HT.lexLt y z:Nat)
theorem B9 {p q:α->Bool}:∀{l:List α} {x:α},(∀y,p y=true->q y=true)->x∈l->p x=false->q x=true->l.countP p<l.countP q
 | a::l,x,hs,hx,h1,h2=>by
  rw[countP_cons,countP_cons];rcases Ur.mp hx with e|e
  ·subst e;have:=ZE (l:=l) (λy _=>hs y)
   grind
  ·have:=B9 hs e h1 h2
   grind
def F4 {a:List Int}(ha:a∈zs):HT.lexLt a b=decide (rank zs a<rank zs b):=by
 cases h:HT.lexLt a b with
 | true=>
  have:=B9     (λy q=>ky y a b q h) ha (oM a) h;exact(decide_eq_true (by unfold rank;omega)).symm
 | false=>
  have:=ZE (l:=zs)   λy _ q=>by
   cases h2:HT.lexLt b a with
   | true=>exact ky y b a q h2
   | false=>rwa [rR a b h h2]
  exact(decide_eq_false (by unfold rank;omega)).symm
def cx (zs:List (List Int)):List (List Int):=zs.mergeSort λa b=>!HT.lexLt b a
def fe (zs:List (List Int)):(cx zs).Perm zs:=mergeSort_perm zs _
def oQ (zs:List (List Int)):(cx zs).Pairwise λa b=>HT.lexLt b a=false:=by
 have h:=Y7 (le:=λa b=>!HT.lexLt b a) (λa b c h1 h2=>by
  simp only[Xr] at h1 h2 ⊢;cases q:HT.lexLt c a with
  | false=>rfl
  | true=>
   cases q2:HT.lexLt a b with
   | true=>rw[ky c a b q q2] at h2;omega
   | false=>have:=rR a b q2 h1;grind) (λa b=>by
  cases q:HT.lexLt b a with
  | false=>rfl
  | true=>
   cases q2:HT.lexLt a b with
   | false=>rfl
   | true=>have:=ky a b a q2 q;rw[oM] at this;cases this) zs
 exact h.imp λh=>by simpa using h
theorem k9:∀{a b:List (List Int)},a.Perm b->a.Pairwise (λx y=>HT.lexLt y x=false)->b.Pairwise (λx y=>HT.lexLt y x=false)->a=b
 | [],b,p,_,_=>(ZC p)
 | x::a,[],p,_,_=>absurd p.symm.nil_eq (by simp)
 | x::a,y::b,p,ha,hb=>by
  have e:=rR x y (by
   rcases Ur.mp (p.subset (TN ..)) with e|e
   ·rw[e];exact oM y
   simp_all) (by
   rcases Ur.mp (p.symm.subset (TN ..)) with e|e
   ·rw[e];exact oM x
   simp_all)
  subst e;rw[k9 (perm_cons x |>.mp p) (XB.mp ha).2 (XB.mp hb).2]
end
section
variable {prog:TR}{w:TY}{A:Ux}{E:Td->Tg->Prop}{s:Tg}
theorem yO {fin:Bool}:∀{vs ws:List Td} {ns ms:List Int} (i:Nat),UE vs ns->UE ws ms->fin=decide (ns.length<ms.length)->Q (HT.lexLt ns ms) s->KatLex prog w A b fin Q (vs.zip ws) i s
 | _,_,_,_,i,.nil,.nil,e,h=>by
  rw[Xq];refine kat_nil ?_;rw[e];exact h
 | _,_,_,_,i,.nil,.cons _ _ _,e,h=>by
  rw[Xq];refine kat_nil ?_;rw[e,decide_eq_true (by simp)];exact h
 | _,_,_,_,i,.cons _ _ _,.nil,e,h=>by
  rw[Yc];refine kat_nil ?_;rw[e,decide_eq_false (by simp)];exact h
 | _,_,_,_,i,.cons (ns:=ns) x t r1,.cons (ns:=ms) y u r2,e,h=>by
  rw[We];refine kat_cons (Zp ?_);rw[HT.lexLt_cons] at h
  by_cases q:x=y
  ·rw[if_pos q] at h;rw[show(x==y)=true by simp[q]];exact kat_yes (yO (i+1) r1 r2 (by rw[e];simp) h)
  ·rw[if_neg q] at h;rw[show(x==y)=false by simp[q]];refine kat_no ?_;cases (b&&i==0) with
   | true=>exact oneLt_int h
   | false=>exact kat_one _ _ (Yb (show W.BoolBack _ (.bool _) _ from h))
def lU (h:UG):List Td->List (List Int)->Prop
 | [],[]=>True
 | v::vs,z::zs=>(∃b o xs k,v=.ref b/\h.get? b=Z o/\o.cls=.type "tuple"/\o.data=.seq xs k/\UE xs.toList z/\z≠[])/\lU h vs zs
 | _,_=>False
theorem lU.length:∀{vs:List Td} {zs:List (List Int)},lU h vs zs->vs.length=zs.length
 | [],[],_=>rfl
 | [],_::_,t=>t.elim
 | _::_,[],t=>t.elim
 | _::_,_::_,t=>by rw[Ug,Ug,t.2.length]
theorem lU.keep (k:∀b o,h.get? b=Z o->h'.get? b=Z o):∀{vs:List Td} {zs:List (List Int)},lU h vs zs->lU h' vs zs
 | [],[],_=>trivial
 | [],_::_,t=>t.elim
 | _::_,[],t=>t.elim
 | _::_,_::_,⟨⟨b,o,xs,n,e,g,r⟩,t⟩=>⟨⟨b,o,xs,n,e,k _ _ g,r⟩,t.keep k⟩
theorem lU.at':∀{vs:List Td} {zs:List (List Int)} (i:Nat),lU h vs zs->i<vs.length->∃b o xs k,vs.getD i Ue=.ref b/\h.get? b=Z o/\o.data=.seq xs k/\UE xs.toList (zs.getD i [])
 | [],_,i,_,q=>absurd q (by simp)
 | _::_,[],_,t,_=>t.elim
 | _::_,_::_,0,⟨⟨b,o,xs,n,e,g,_,d,r,_⟩,_⟩,_=>⟨b,o,xs,n,e,g,d,r⟩
 | _::_,_::_,i+1,⟨_,t⟩,q=>t.at' i (by simp_all)
theorem lU.firsts:∀{vs:List Td} {zs:List (List Int)},lU h vs zs->∃fs,KatTups h vs fs/\fs.length=vs.length/\∀v∈fs,∃n t,v=Zo n t
 | [],[],_=>⟨[],.nil,rfl,λv hv=>by cases hv⟩
 | [],_::_,t=>t.elim
 | _::_,[],t=>t.elim
 | _::_,z::_,⟨⟨b,o,xs,n,e,g,c,d,r,z0⟩,t⟩=>by
  obtain⟨fs,k,l,f⟩:=t.firsts;subst e;cases r':xs.toList with
  | nil=>rw[r'] at r;cases r;simp_all
  | cons x ys=>
   rw[r'] at r;cases r with
   | cons m tk r2=>
    refine⟨Zo m tk::fs,.cons g c d (by rw[<-UK,r'];rfl) k,by simp_all,λv hv=>?_⟩;rcases Ur.mp hv with e|e
    ·exact⟨m,tk,e⟩
    simp_all
def GY (t:lU s.heap vs zs):oU (λi=>rank zs (zs.getD i [])) vs.length s (kas_ask prog w A (tuples' true) vs):=λi j C hi hj h=>by
 obtain⟨b,o,xs,k,e1,g1,d1,r1⟩:=t.at' i hi;obtain⟨c,o2,ys,k2,e2,g2,d2,r2⟩:=t.at' j hj;show Tn (TF prog w) A (keyLt' (tuples' true) (vs.getD i Ue) (vs.getD j Ue)) C (λ_ _=>False) s;rw[e1,e2];refine kat_lt g1 d1 g2 d2 (yO 0 r1 r2 (by rw[<-r1.length,<-r2.length];rfl) ?_);rwa [F4 (by
  rw[t.length] at hi;rw[Yg,Ui hi];exact Wk hi)]
def lT {a:Th}(ho:s.heap.get? a=Z (Ub "list" vs.toArray n))(t:lU s.heap vs zs)(h64:vs.length<64)
  (h:∀p:Array Nat,p.Perm (Uu (Tw vs.length))->up (λi=>rank zs (zs.getD i [])) p vs.length->P (.done (.ret .none)) {s with heap:=sortedHeap s.heap a vs (Uu (p.toList.map λi=>vs.getD i Ue))}) :
  Tn (TF prog w) A (WH.«list.sort» ⟨[.ref a],[]⟩) P E s:=by
 rw[list_sort_plain];have ha:a<s.heap.objs.size:=Tr ho;have hsz:vs.toArray.size=vs.length:=by simp
 refine Ta (listItems_at ho rfl ?_);refine Ta (YQ ho rfl ?_ (by rw[Uk,Uo];omega) (Uc _));obtain⟨e1,ho1⟩:∃e1,(s.heap.update a (T3 λ_=>#[])).get? a=Z (Ub "list" #[] e1):=⟨_,Wg ho (λ_=>#[])⟩;refine Ta (ZO ho1 rfl ?_);refine Ta (wpAny_newTuple ?_ (by show vs.length<=_;rw[Uo];omega));refine Ta (WL ?_ (Uc _));refine TV ?_;have ho6:(((s.heap.update a (T3 λ_=>#[])).push (Ub "tuple" vs.toArray 0)).push (Ub "list" #[] 0)).get? a=Z (Ub "list" #[] e1):=by
  rw[Wt _ _ _ (by rw[Y5,XN];exact TB (Wu ha)),Wt _ _ _ (by rw[XN];exact TB ha)];exact ho1
 have t6:lU (((s.heap.update a (T3 λ_=>(#[]:Array Td))).push (Ub "tuple" vs.toArray 0)).push (Ub "list" #[] 0)) vs zs:=by
  have go:∀{vs':List Td} {zs':List (List Int)},lU s.heap vs' zs'->lU (((s.heap.update a (T3 λ_=>(#[]:Array Td))).push (Ub "tuple" vs.toArray 0)).push (Ub "list" #[] 0)) vs' zs':=λ{vs'}=>by
   induction vs' with
   | nil=>intro zs' x;cases zs' <;> first|exact trivial|exact x.elim
   | cons v vs' ih=>
    intro zs' x;cases zs' with
    | nil=>exact x.elim
    | cons z zs'=>
     obtain⟨⟨b,o,xs,k,e,g,c,d,r⟩,x⟩:=x;have hb:b≠a:=λz=>by
      subst z;rw[g] at ho;cases ho;simp at c
     exact⟨⟨b,o,xs,k,e,Tc _ (Tc _ (by rw[YG _ _ _ _ hb];exact g)),c,d,r⟩,ih x⟩
  exact go t
 show Tn (TF prog w) A _ P E {s with heap:=((s.heap.update a (T3 λ_=>#[])).push (Ub "tuple" vs.toArray 0)).push (Ub "list" #[] 0)};dsimp only
 by_cases h2:vs.toArray.size<2
 ·rw[if_pos h2,if_pos h2];refine Ta (Tb ?_);rw[StateT.run_pure];refine Ta (Tb ?_);dsimp only;have e:((vs.toArray.zip vs.toArray).map λp=>p.2)=Uu ((Uu (Tw vs.length)).toList.map λi=>vs.getD i Ue):=by
   match vs,hsz,h2 with
   | [],_,_=>simp
   | [x],_,_=>simp[range_succ]
   | _::_::_,_,h2=>exact absurd h2 (by simp)
  refine Ta (ZO ho6 rfl ?_);refine Ta (YQ ho6 rfl ?_ (Uc _) (by rw[Array.size_map];show(pairsOf vs).size<=_;rw[pairsOf_size,Uo];omega));simp only[bne_self_eq_false,UB,if_false];refine Tb ?_;have:=h (Uu (Tw vs.length)) (VJ _) (λk hk=>absurd hk (by omega));rw[<-e] at this;exact this
 ·rw[if_neg h2,if_neg h2];obtain⟨fs,kt,kl,kf⟩:=t6.firsts;refine Ta (Vc (kat_kind (T:=.type "int") (Q:=λκ s'=>κ=tuples' true/\s'={s with heap:=((s.heap.update a (T3 λ_=>#[])).push (Ub "tuple" vs.toArray 0)).push (Ub "list" #[] 0)}) kt (by omega) (λv hv=>?_) rfl ⟨rfl,rfl⟩) (λκ s' hk=>?_) λ_ _ x=>x)
  ·obtain⟨m,tk,rfl⟩:=kf v hv;exact .now
  ·obtain⟨rfl,rfl⟩:=hk;refine Ta (Vc (kat_run (ks:=vs) (vs:=vs) (G:=λp s'=>p.Perm (Uu (Tw vs.length))/\up (λi=>rank zs (zs.getD i [])) p vs.length/\s'={s with heap:=((s.heap.update a (T3 λ_=>#[])).push (Ub "tuple" vs.toArray 0)).push (Ub "list" #[] 0)})
    (Q:=λst' s'=>∃p:Array Nat,arrOf st'=p.map (kas_item (vs.toArray.zip vs.toArray))/\p.size=vs.length/\failedOf st'=Y/\p.Perm (Uu (Tw vs.length))/\up (λi=>rank zs (zs.getD i [])) p vs.length/\s'={s with heap:=((s.heap.update a (T3 λ_=>#[])).push (Ub "tuple" vs.toArray 0)).push (Ub "list" #[] 0)}) rfl (by omega) h64
    (λp st' s' a1 a2 a3 a4=>⟨p,a2,a1,a3,a4⟩) (IH (GY (s:={s with heap:=((s.heap.update a (T3 λ_=>#[])).push (Ub "tuple" vs.toArray 0)).push (Ub "list" #[] 0)}) t6) (by omega) λp hp hu=>⟨hp,hu,rfl⟩)) ?_ λ_ _ e=>e)
   rintro ⟨⟨⟩,st'⟩ s' ⟨p,har,hp,hf,a4,a5,rfl⟩;dsimp only;rw[kat_snds rfl har];refine Ta (ZO ho6 rfl ?_);refine Ta (YQ ho6 rfl ?_ (Uc _) (by rw[Uk,TC,UH,hp,Uo];omega));rw[hf];simp only[bne_self_eq_false,UB,if_false];exact Tb (h p a4 a5)
def yx (hl:s.heap.IsList l vs.toArray)(t:lU s.heap vs zs)(h64:vs.length<64)
  (h:∀p:Array Nat,p.Perm (Uu (Tw vs.length))->up (λi=>rank zs (zs.getD i [])) p vs.length->Q (.ref (s.heap.objs.size+1)) {s with heap:=sortedAll s.heap vs (Uu (p.toList.map λi=>vs.getD i Ue))}) :
  Tn (TF prog w) A (call (.builtin "sorted") [.ref l]) Q E s:=by
 refine Xn kind_sorted plain_sorted entry_sorted (args_sorted1 _) ?_;unfold WH.«sorted»;refine Ta  (Tb ?_);refine Ta (collect_list hl ?_ (by rw[Uo];omega));refine Ta (WL ?_ (by rw[Uo];omega));have hsz:((s.heap.push (Ub "list" #[] 0)).update s.heap.objs.size (T3 (·++vs.toArray))).objs.size=s.heap.objs.size+1:=by
  rw[XN,Y5]
 have hoL:(((s.heap.push (Ub "list" #[] 0)).update s.heap.objs.size (T3 (·++vs.toArray))).push (Ub "list" vs.toArray 0)).get? (s.heap.objs.size+1)=Z (Ub "list" vs.toArray 0):=by
  rw[<-hsz];exact Tj _ rfl
 rw[hsz];refine Ta (TV (Ud slot_list_sort ⟨_,hoL,rfl⟩ ZY (lT hoL (t.keep (λb o q=>by
  have hlt:=Tr q;rw[Wt _ _ _ (by rw[hsz];exact TB (Wu hlt)),YG _ _ _ _ (TB hlt),Wt _ _ _ (TB hlt)];exact q)) h64 λp a1 a2=>⟨_,rfl,?_⟩) (args_list_sort _)))
 exact Tb ⟨_,rfl,h p a1 a2⟩
end
def bJ (z:List Int):D:=.tup (z.map D.int)
def o8:List D->Option (List (List Int))
 | []=>Z []
 | d::ds=>match dJ d,o8 ds with
  | some (i::z),Z zs=>Z ((i::z)::zs)
  | _,_=>Y
def yQ:FD:=λds M=>match ds with
 | [d]=>match yZ d M with
  | some xs=>match AD xs with
   | some ns=>if ns.length<64 then .ok (.lst ((L2.sortI ns).map D.int)) M else .bad
   | none=>match o8 xs with
    | some zs=>if zs.length<64 then .ok (.lst ((cx zs).map bJ)) M else .bad
    | none=>.bad
  | none=>.bad
 | _=>.bad
theorem pN {K:Tp}:∀l:List Nat,(∀i∈l,cz K θ H (f i) (g i))->aY K θ H (l.map f) (l.map g)
 | [],_=>rfl
 | i::l,h=>⟨_,_,rfl,h i (.head _),pN l λj hj=>h j (.tail _ hj)⟩
theorem pV:∀l:List Nat,(∀i∈l,aO (g i) (u i))->aS (l.map g) (l.map u)
 | [],_=>.nil
 | i::l,h=>.cons (h i (.head _)) (pV l λj hj=>h j (.tail _ hj))
def va (hp:p.Perm (Uu (Tw zs.length)))(hu:up (λi=>rank zs (zs.getD i [])) p zs.length):p.toList.map (λi=>zs.getD i [])=cx zs:=by
 have hl:=by simpa using V0.mp hp
 have hlen:p.toList.length=zs.length:=by rw[hl.length_eq,VD]
 refine k9 ?_ ?_ (oQ zs)
 ·refine(hl.map _).trans (.trans (.of_eq ?_) (fe zs).symm);apply ext_getElem
  ·simp
  ·intro i h1 h2;simp[h2]
 ·rw[pairwise_iff_getElem];intro i j hi hj hij;rw[TC] at hi hj;rw[getElem_map,getElem_map];have le:=sK hu (V3 hij) (by omega);have at':∀k (hk:k<p.toList.length),p.getD k 0=p.toList[k]:=λk hk=>by
   rw[VQ,<-UK,Ui hk];rfl
  unfold kp at le;rw[at' i hi,at' j hj] at le;dsimp only at le;rw[F4 (by
   have:=XT.mp (hl.subset (Wk hj));rw[Yg,Ui this];exact Wk this)]
  exact decide_eq_false (by omega)
section
variable {X:Cx}{af:List (Th×Obj)}{σ:L2.St}{H:Hp}{s:Tg}{θ:List Th}
theorem sQ (I:L2.Inv X af σ H s):∀{xs:List D} {zs:List (List Int)} {vs:List V} {us:List Td},o8 xs=Z zs->aY X.K θ H xs vs->aS vs us->
  lU s.heap us zs/\us.length=zs.length/\∀i,i<zs.length->cz X.K θ H (bJ (zs.getD i [])) (vs.getD i .non)/\aO (vs.getD i .non) (us.getD i Ue)
 | [],zs,vs,us,e,r,v=>by
  simp only[o8,Vq] at e;subst e;subst r;cases v;exact⟨trivial,rfl,λi h=>absurd h (by simp)⟩
 | d::xs,zs,vs,us,e,r,v=>by
  simp only[o8] at e;split at e
  ·rename_i i z zs' q1 q2;cases e;obtain⟨v1,vr,e1,r1,r2⟩:=r;subst e1;cases v with
   | cons h1 h2=>
    obtain⟨t,l,f⟩:=sQ I q2 r2 h2;obtain⟨b,eb,tb⟩:=kj q1 r1;subst eb;subst h1;obtain⟨its,rr,⟨o,ho,hc,n,hd⟩,_⟩:=I.tuple tb.sq;refine⟨⟨⟨b,o,its.toArray,n,rfl,ho,hc,hd,iR rr,by simp⟩,t⟩,by rw[Ug,Ug,l],λk hk=>?_⟩;cases k with
    | zero=>exact⟨⟨b,_,rfl,tb,jY _⟩,rfl⟩
    | succ k=>exact f k (by simpa using hk)
  ·cases e
end
section
variable {X:Cx}
def Cv:QC X (.builtin "sorted") yQ:=⟨by
 intro af s σ H xs us Q I r h;obtain⟨θ,M,ds,hw,rd,h⟩:=h;unfold yQ at h;split at h
 ·rename_i d;split at h
  ·rename_i ys q;split at h
   ·rename_i ns qn;refine Cg af s σ H xs us Q I r ⟨θ,M,_,hw,rd,?_⟩;unfold FY;simp only[q,qn];exact h
   ·rename_i qn;split at h
    ·rename_i zs qz;split at h
     ·rename_i hl;obtain⟨v,e,rv⟩:=gZ rd;obtain⟨a,vs,ea,ta,ra⟩:=yu hw rv q;subst e ea;obtain⟨u,rfl,rx⟩:=j9 r;cases rx;obtain⟨its,r',pl,hz⟩:=I.list (show oy X.K H a vs from .inl (.inl ta));obtain⟨T,lz,f⟩:=sQ I qz ra r';refine yx pl.isList T (by omega) λp hp hu=>?_
      rw[lz] at hp hu;have hpl:p.toList.Perm (Tw zs.length):=by simpa using V0.mp hp
      have es:=va hp hu;have inR:∀i∈p.toList,i<zs.length:=λi hi=>XT.mp (hpl.subset hi)
      obtain⟨c,he⟩:=sortedAll_at s.heap its (Uu (p.toList.map λi=>its.getD i Ue));have hl2:(p.toList.map λi=>vs.getD i V.non).length<=To:=by rw[TC,hpl.length_eq,VD,Uo];omega
      have fr:=I.hok.fresh (Vz s.heap.objs.size);refine⟨.ref (s.heap.objs.size+1),_,I.laid (t':=s.toks) (λ_ _=>sortedAll_old) (Vz _) (show bM X.prog X.w _ _ _ (.lst (p.toList.map λi=>vs.getD i V.non)) from⟨hl2,_,c,(pV _ λi hi=>(f i (inR i hi)).2),by simpa using he⟩),rfl,?_⟩;refine h _ θ _ (cR hw fr) (ik hw fr ?_);rw[<-es,Z4];exact pN _ λi hi=>(f i (inR i hi)).1
     ·exact h.elim
    ·exact h.elim
  ·exact h.elim
 ·exact h.elim⟩
end
end DL
namespace TS
open PySem PyProof.Rows PySem.W
section
variable {prog:TR}{w:TY}{A:Ux}{E:Td->Tg->Prop}{s:Tg}{κ:SortKind}{G:Wn->Prop}{key:Wn->Int}
structure N1 (B:Nat->Bool)(n hint la o:Nat)(st st':aaU):Prop where
 e:st'=st
 lt:la<o
 inn:hint+la<n
 yes:B (hint+la)=true
 no:hint+o<n->B (hint+o)=false
def grow {x o:Nat}(h:x+1<=o):o<2*o+1/\x+1+1<=2*o+1:=by omega
end
end TS
namespace TS
open PySem PyProof.Rows PySem.W
def leK (key:Wn->Int)(x y:Wn):Prop:=key x<=key y
structure Sm (st st':aaU):Prop where
 kind:kindOf st'=kindOf st
 arr:arrOf st'=arrOf st
 pend:pendingOf st'=pendingOf st
 fail:failedOf st'=failedOf st
structure Two (key:Wn->Int)(G:Wn->Prop)(a b:Array Wn):Prop where
 ua:a.toList.Pairwise (leK key)
 ub:b.toList.Pairwise (leK key)
 ga:∀x∈a.toList,G x
 gb:∀x∈b.toList,G x
 na:1<=a.size
 nb:1<=b.size
 first:∀y,b[0]?=Z y->∀x∈a.toList,key y<=key x
 last:∀x,a[a.size-1]?=Z x->∀y∈b.toList,key y<=key x
def Good (key:Wn->Int)(a b:Array Wn)(r:Array Wn):Prop:=r.toList.Perm (a.toList++b.toList)/\r.toList.Pairwise (leK key)
end TS
namespace TS
open PySem PyProof.Rows PySem.W
section
variable {prog:TR}{w:TY}{A:Ux}{E:Td->Tg->Prop}{s:Tg}{κ:SortKind}{G:Wn->Prop}{key:Wn->Int}
abbrev GS (key:Wn->Int)(a b:Array Wn)(st:aaU)(r:Array Wn)(st':aaU):Prop:=Good key a b r/\Sm st st'
end
end TS
namespace TS
open PySem PyProof.Rows PySem.W
end TS
namespace TS
open PySem PyProof.Rows PySem.W
end TS
namespace TS
open PySem PyProof.Rows PySem.W
section
variable {prog:TR}{w:TY}{A:Ux}{E:Td->Tg->Prop}{s:Tg}{κ:SortKind}{G:Wn->Prop}{key:Wn->Int}
inductive C2 (key:Wn->Int) (L:List Wn) (n:Nat) (st st2:aaU):Prop
 | mk (D R':List Wn) (e:st2=st) (l:D.length=n) (ne:D≠[]) (eq:D++R'=L) (up:D.Pairwise (leK key)) (br:n<L.length->∃D2 z y R2,D=D2++[z]/\R'=y::R2/\key y<key z):C2 key L n st st2
def rev_at {lo n neq:Nat}{L0 P S:List Wn}(hlo:lo=L0.length)(len:P.length+S.length=n)(ls:S.length=neq+1):lo+n-(neq+1)=L0.length+P.length:=by rw[hlo,<-len,ls,<-WM,Nat.add_sub_cancel]
end
end TS
namespace TS
open PySem PyProof.Rows PySem.W
end TS
namespace TS
open PySem PyProof.Rows PySem.W
end TS
namespace DL
open PySem PySem.Spec PyProof.Rows L2 List
def PY (x y:D)(M:aq)(i:Nat)(kvs:List (List bN×D))(k:List bN):Prop:=x=.mr i/\M[i]?=Z (.dT kvs)/\jN y=Z k
def rp {α:Type}(f:Nat->List (List bN×D)->List bN->aq->bi α)(x y:D)(M:aq):bi α:=match x with
 | .mr i=>match M[i]? with
  | some (.dT kvs)=>match jN y with
   | some k=>f i kvs k M
   | none=>.bad
  | _=>.bad
 | _=>.bad
def F6 (f:Nat->List (List bN×D)->List bN->aq->bi α)(x y:D)(M:aq):rp f x y M=.bad\/∃i kvs k,PY x y M i kvs k/\rp f x y M=f i kvs k M:=by
 cases x with
 | mr i=>
  cases q:M[i]? with
  | none=>exact .inl (by unfold rp;dsimp only;rw[q])
  | some m=>
   cases m with
   | dT kvs=>
    cases qk:jN y with
    | none=>exact .inl (by unfold rp;simp_all)
    | some k=>exact .inr ⟨i,kvs,k,⟨rfl,q,qk⟩,by unfold rp;simp_all⟩
   | _=>exact .inl (by unfold rp;simp_all)
 | _=>exact .inl rfl
def zP:F2:=rp λ_ kvs k M=>match fY kvs k with
 | some r=>.ok r M
 | none=>.bad
section
variable {K:Tp}{θ:List Th}{H:Hp}{M:aq}
def Qg {k:List bN}(hw:Wr K θ H M)(h:PY x y M i kvs k)(r1:cz K θ H x vx)(r2:cz K θ H y vy) :
  ∃a b vs,vx=.ref a/\vy=.ref b/\θ[i]?=Z a/\H a=Z (.dT vs)/\H b=Z (.tup (k.map kV))/\nH K θ H kvs vs:=by
 rw[h.1] at r1;obtain⟨a,ea,ta⟩:=r1;obtain⟨vs,hv,ra⟩:=hw.at_ i a _ ta h.2.1;obtain⟨b,eb,hb,_⟩:=EW h.2.2 r2;exact⟨a,b,vs,ea,eb,ta,hv,hb,ra⟩
end
section
variable {X:Cx}{pos:Pos}{o i e:T9}{go gi ge:GE}
def Ib (hu:X.A.units+1<XE)(ho:PE X o (tE X go))(hi:PE X i (tE X gi))(hs:CY i):PE X (.Subscript o i pos) (tE X (g2 zP go gi)):=(wb hu ho hi hs).of λσ H Q hxx=>by
 obtain⟨ρ,θ,M,hd,hw,h⟩:=hxx;refine bf hd hw (aF X θ H Q) (λc M' h=>h) (λh=>h) h λd1 M1 v1 θ1 H1 g1 r1 h1=>?_
 refine bf (hd.go g1) g1.wr (aF X θ1 H1 Q) (λc M' h=>h) (λh=>h) (aF.go g1 h1) λd2 M2 v2 θ2 H2 g2 r2 h2=>?_
 have h2:=aF.go g2 h2;unfold zP at h2;rcases F6 (λ_ kvs k M=>match fY kvs k with|some r=>bi.ok r M|none=>.bad) d1 d2 M2 with e|⟨j,kvs,k,t,e⟩
 ·rw[e] at h2;exact h2.elim
 rw[e] at h2;obtain⟨a,b,vs,ea,eb,ta,hv,hb,ra⟩:=Qg g2.wr t (r1.go g2) r2;cases q:fY kvs k with
 | none=>rw[q] at h2;exact h2.elim
 | some r=>
  rw[q] at h2;obtain⟨v,ev,rv⟩:=(mO k ra).1 r q;refine⟨a,v,ea,?_,h2 v θ2 H2 (.refl g2.wr) rv⟩;rw[eb,<-ev];exact sR.t hv hb
end
end DL
namespace DL
open PySem PySem.Spec PyProof.Rows PySem.W L2 List
def nB (h:UG)(d:Th)(es:Array V5)(ep:Nat):Prop:=∃o,h.get? d=Z o/\o.ExactDict/\o.data=.dict es ep
section
variable {prog:TR}{w:TY}{A:Ux}{E:Td->Tg->Prop}{s:Tg}{d it:Th}{es:Array V5}{ep i:Nat}
def nB.typeIs (x:nB s.heap d es ep):s.TypeIs (.ref d) "dict":=by
 obtain⟨o,ho,hc,_⟩:=x;exact⟨o,ho,hc.1⟩
def EU (hd:(d==UA)=false)(x:nB s.heap d es ep)
  (hQ:Q (.ref s.heap.objs.size) {s with heap:=s.heap.push {cls:=.type "dict_keyiterator",data:=.fields #[.ref d,.int 0 0,.int es.size 0,.int ep 0]}}):Tn (TF prog w) A (YX (.ref d)) Q E s:=by
 have T:=x.typeIs;obtain⟨o,ho,hc,hx⟩:=x;refine Xu T PySem.F.slot_dict_iter (Ud PySem.F.slot_dict_iter T PySem.F.entry_dict_iter ?_ (PySem.F.args_dict_iter_1 _));refine Ta ?_;refine Ta (WB T ?_);refine Tb ?_;show Tn _ _ (WC d >>= _) _ _ s;unfold WC;rw[if_neg (by rw[hd];exact Tv)];refine Ta (Tb (Ta (U2 ho hx (Ta (VL ho hx (Ta (T7 (Tb ⟨_,rfl,"dict_keyiterator",_,⟨_,Tj _ rfl,rfl⟩,PySem.F.slot_dict_keyiterator_next.lookup,?_⟩))))))));exact hQ
def nB.stay (x:nB h d es ep)(k:∀o,h.get? d=Z o->h'.get? d=Z o):nB h' d es ep:=by
 obtain⟨o,ho,r⟩:=x;exact⟨o,k o ho,r⟩
def DI (hit:s.heap.IsKeyIter it d i es.size ep)(x:nB s.heap d es ep)(hi:i<es.size)
  (hQ:∀h',h'.IsKeyIter it d (i+1) es.size ep->UD it s.heap h'->Q (Z es[i].key) {s with heap:=h'}):Tn (TF prog w) A (VR (.ref it)) Q E s:=by
 have T:=hit.typeIs;obtain⟨o,ho,hc,hd⟩:=hit;obtain⟨od,hod,hcd,hx⟩:=x;unfold VR;refine Ta (WK (Uh (name:=UM "__next__") T PySem.F.slot_dict_keyiterator_next (Ud PySem.F.slot_dict_keyiterator_next T PySem.F.entry_dict_keyiterator_next ?_ (PySem.F.args_dict_keyiterator_next_1 _))));refine Ta (Tb (Ta (Ta ?_)))
 first|refine Ta (U0 T (Tb ?_))|refine Ta (Vt T (Tb ?_))
 refine Ta (Xi ho hd ?_);simp only[show UN "dict_keyiterator"=false by decide,UB,if_false];show Tn _ _ (if(TU d==Ue)=true then _ else _) _ _ s;rw[if_neg (show¬((TU d==Ue)=true) from Tv)];refine Ta (Tb (Ta (U2 hod hx ?_)));rw[if_neg (by simp)];refine Ta (Tb (Ta (VL hod hx ?_)));rw[if_neg (by simp)];refine Tb ?_;simp only[show¬((i:Int)<0) from by omega,if_false,TK,Ua hi];refine Ta ?_
 first|refine Ta (U0 T (Tb ?_))|refine Ta (Vt T (Tb ?_))
 refine Ta (Yh T ?_);show Tn _ _ (aar (.ref it) 1 (VT ((i:Int)+1)) >>= _) _ _ s;refine Ta (Ws ho hd (by simp) ?_);have hit2:(s.heap.update it (aax (·.setIfInBounds 1 (VT ((i:Int)+1))))).IsKeyIter it d (i+1) es.size ep:=
  ⟨_,VN _ ho (Yd (Wj hd _)),(Zi ..).trans hc,by rw[Wj hd];simp[VT]⟩
 refine Ta (TV (Ta (Yh (s:={s with heap:=s.heap.update it (aax (·.setIfInBounds 1 (VT ((i:Int)+1))))}) hit2.typeIs ?_)));show Tn _ _ (pure es[i].key) _ _ _;exact Tb (Tb ⟨_,rfl,Tb (hQ _ hit2 (UI ..))⟩)
def Jy (hh:A.handled=Y)(hit:s.heap.IsKeyIter it d es.size es.size ep)(x:nB s.heap d es ep)
  (hQ:∀h',Xs it s.heap h'->Q Y {s with heap:=h'}):Tn (TF prog w) A (VR (.ref it)) Q E s:=by
 have T:=hit.typeIs;obtain⟨o,ho,hc,hd⟩:=hit;obtain⟨od,hod,hcd,hx⟩:=x;unfold VR;refine Ta (WK (Uh (name:=UM "__next__") T PySem.F.slot_dict_keyiterator_next (Ud PySem.F.slot_dict_keyiterator_next T PySem.F.entry_dict_keyiterator_next ?_ (PySem.F.args_dict_keyiterator_next_1 _))));refine Ta (Tb (Ta (Ta ?_)))
 first|refine Ta (U0 T (Tb ?_))|refine Ta (Vt T (Tb ?_))
 refine Ta (Xi ho hd ?_);simp only[show UN "dict_keyiterator"=false by decide,UB,if_false];show Tn _ _ (if(TU d==Ue)=true then _ else _) _ _ s;rw[if_neg (show¬((TU d==Ue)=true) from Tv)];refine Ta (Tb (Ta (U2 hod hx ?_)));rw[if_neg (by simp)];refine Ta (Tb (Ta (VL hod hx ?_)));rw[if_neg (by simp)];refine Tb ?_;simp only[show¬((es.size:Int)<0) from by omega,if_false,TK,U8 (Te es.size)];refine Ta ?_
 first|refine Ta (U0 T (Tb ?_))|refine Ta (Vt T (Tb ?_))
 show Tn _ _ (aar (.ref it) 0 .none >>= _) _ _ s;refine Ta (Ws ho hd (by simp) ?_);show Tn _ _ (aaq (.type "StopIteration") [] >>= _) _ _ _;refine Ta ?_;simp only[aaq,newTuple];refine Ta (T7 ?_ (by size_fits));refine Ta (m:=VZ _ _) (VY (a:=Ue) (by first|rfl|(simp only[VZ];rfl)) (T7 ?_ (by size_fits)));simp only[raiseNew];refine Ta (YN ?_);rw[show A.in1.handled=Y from hh];refine Ta (Tb (ZM ?_));refine Ta (XJ (T:="StopIteration") (b:=true) ⟨_,Tj _ rfl,rfl⟩ Yr (Tb (hQ _ (((UI ..).extBut.push _).push _))))
def CO (hh:A.handled=Y)(hne:d≠it):Walks prog w A it [it,d] [it] es.size (λi v=>∃e,es[i]?=Z e/\v=e.key) (λi h=>h.IsKeyIter it d i es.size ep/\nB h d es ep) where
 sub:=λb hb=>by rw[UU.mp hb];exact TN
 frame:=λ_ _ _ st hk=>⟨st.1.at λo e=>hk it TN o e,st.2.stay λo e=>hk d (T6 _ TN) o e⟩
 item:=λi s Q E hi st hQ=>DI st.1 st.2 hi λh' k1 k2=>hQ _ h' s.toks ⟨_,Ua hi,rfl⟩ ⟨k1,st.2.stay λo e=>k2.extBut d o hne e⟩ λb o hb e=>k2.extBut b o (λz=>hb (by rw[z];exact TN)) e
 done:=λs Q E st hQ=>Jy hh st.1 st.2 λh' k=>hQ h' s.toks λb o hb e=>k b o (λz=>hb (by rw[z];exact TN)) e
 self:=λ_ _ _ _ st hQ=>wpAny_pyIter_keyiter st.1 hQ
def BE (lo:(d==UA)=false):KdlSrc prog w "dict" d d es.size (λi v=>∃e,es[i]?=Z e/\v=e.key) (λh=>nB h d es ep) where
 type:=λ_ x=>x.typeIs
 there:=λ_ x=>by obtain⟨o,ho,_⟩:=x;exact⟨Tr ho,Tr ho⟩
 keep:=λ_ _ x hk=>x.stay λo e=>hk d (.inl rfl) o e
 notList:=by rfl
 notTuple:=by rfl
 hint:=λ_ _ _ _ x hq=>kdl_hint_dict x.typeIs hq
 iter:=λ_ s hh x=>⟨_,_,(λ_ _ hq=>EU lo x hq),CO hh (by obtain⟨o,ho,_⟩:=x;exact TB (Tr ho)),⟨⟨_,Tj _ rfl,rfl,rfl⟩,x.stay λo e=>Tc _ e⟩⟩
end
def uZ:bN->D
 | .inl i=>.int i
 | .inr x=>.str x
section
variable {K:Tp}{θ:List Th}{H:Hp}{M:aq}
def BA (ks:List bN):aY K θ H (ks.map uZ) (ks.map kV):=by
 induction ks with
 | nil=>rfl
 | cons k ks ih=>exact⟨_,_,rfl,by cases k <;> exact rfl,ih⟩
def xW {a:Th}(hw:Wr K θ H M)(h:H a=Z (.tup ys)):a∉θ:=λz=>by
 obtain⟨i,hi,e⟩:=Wf.mp z;have h2:i<M.length:=by rwa [<-hw.len]
 have k:=hw.at_ i a M[i] (by simp_all) (Ui h2);cases q:M[i] with
 | lst _=>rw[q] at k;obtain⟨_,z,_⟩:=k;grind
 | obj _ _=>rw[q] at k;obtain⟨_,_,_,_,z,_⟩:=k;grind
 | dK _=>rw[q] at k;obtain⟨_,z,_⟩:=k;grind
 | dT _=>rw[q] at k;obtain⟨_,z,_⟩:=k;simp_all
end
section
variable {X:Cx}
theorem yL {K:Tp}(hw:Wr K θ H M):∀{kvs:List (List bN×D)} {vs:List (List bN×V)} {ys:List (List bN×Th×Td)},nH K θ H kvs vs->Paired (λ(p:List bN×V) (q:List bN×Th×Td)=>p.1=q.1/\H q.2.1=Z (.tup (p.1.map kV))/\aO p.2 q.2.2) vs ys->aY K θ H (kvs.map λp=>.tup (p.1.map uZ)) (ys.map λq=>V.ref q.2.1)
 | [],vs,ys,ra,rel=>by
  subst ra;cases rel;rfl
 | (k,d)::fs,vs,ys,ra,rel=>by
  obtain⟨v,r,e,_,h2⟩:=ra;subst e;cases rel with
  | cons hq t=>exact⟨_,_,rfl,⟨_,_,rfl,⟨hq.2.1,xW hw hq.2.1⟩,BA k⟩,yL hw h2 t⟩
theorem zx:∀ys:List (List bN×Th×Td),aS (ys.map λq=>V.ref q.2.1) (ys.map λq=>TU q.2.1)
 | []=>.nil
 | _::ys=>.cons rfl (zx ys)
end
end DL
namespace DL
open PySem PySem.Spec PyProof.Rows PySem.W L2 List
section
variable {prog:TR}{w:TY}{A:Ux}{E:Td->Tg->Prop}{s:Tg}
def qQ {R:List Td->Tg->Prop}(K:KdlSrc prog w T r d n Pv OK)(hh:A.handled=Y)(hok:OK s.heap)(hn:n<=To)
  (h:∀(h':UG) (tk:Nat) (acc:Array Td),(∀b o,s.heap.get? b=Z o->h'.get? b=Z o)->s.heap.objs.size<=h'.objs.size->ItemsOf Pv acc n->R acc.toList {s with heap:=h',toks:=tk}) :
  Tn (TF prog w) A (collect (.ref r)) R E s:=by
 have hlt:=K.there _ hok;unfold collect;refine Ta (wpAny_runValue (U3 entry_proto_collect' ?_));rw[UC PySem.F.plain_proto_collect _];refine Ta (T7 ?_);refine Tb ⟨Vb PySem.F.plain_list_iadd _,U3 entry_list_iadd' ?_⟩;rw[UC PySem.F.plain_list_iadd _];have hS₁:(s.heap.push {cls:=.type "list",data:=.seq ([]:List Td).toArray}).get? s.heap.objs.size=Z {cls:=.type "list",data:=.seq #[]}:=Tj _ rfl;show Tn _ A.in1 (Z5 (.ref s.heap.objs.size) (.ref r) (.ref s.heap.objs.size)) _ _ _;have key:=kdl_extend (A:=A) (s:={s with heap:=s.heap.push {cls:=.type "list",data:=.seq ([]:List Td).toArray}})
  (R:=λ(q:aaO) (s':Tg)=>∃(h':UG) (tk:Nat) (acc':Array Td) (c':Nat),q=.ok (.ret (.ref s.heap.objs.size))/\s'={s with heap:=h',toks:=tk}/\
   (∀b o,s.heap.get? b=Z o->h'.get? b=Z o)/\h'.get? s.heap.objs.size=Z {cls:=.type "list",dict:=Y,data:=.seq acc' c',slots:=#[]}/\ItemsOf Pv acc' n)
  K hh (K.keep _ _ hok λb _ o e=>Tc _ e) s.heap.objs.size (VA hlt.1) (VA hlt.2) (.ref s.heap.objs.size) 0 hS₁
  (λh' tk acc' c' hk hS' hacc=>⟨h',tk,acc',c',rfl,rfl,λb o e=>hk b o (TB (Tr e)) (Tc _ e),hS',hacc⟩) hn
 refine Vc key (λfin s' x=>?_) λe s' x=>?_
 ·cases fin with
  | done f=>
   obtain⟨h',tk,acc',c',e,rfl,hk,hS',hacc⟩:=x;cases e;show Tn _ A (load s.heap.objs.size >>= _) _ _ _;exact Ta (aaf hS' (Tb (h h' tk acc' hk (V3 (Tr hS')) hacc)))
  | again c₁=>
   refine⟨x.1,Wq x.2 λq s₂ y=>?_⟩;obtain⟨h',tk,acc',c',rfl,rfl,hk,hS',hacc⟩:=y;show Tn _ A (load s.heap.objs.size >>= _) _ _ _;exact Ta (aaf hS' (Tb (h h' tk acc' hk (V3 (Tr hS')) hacc)))
 ·obtain⟨_,_,_,_,e',_⟩:=x;cases e'
end
section
variable {prog:TR}{w:TY}{A:Ux}{E:Td->Tg->Prop}{s:Tg}
def D4 (h:UE us ns):us.length=ns.length:=by
 induction h with
 | nil=>rfl
 | cons n t h ih=>simp_all
end
def xT {α:Type}:List (bN×α)->Option (List Int)
 | []=>Z []
 | (.inl n,_)::r=>(xT r).map (n::·)
 | _=>Y
section
variable {X:Cx}{af:List (Th×Obj)}{σ:L2.St}{H:Hp}{s:Tg}{θ:List Th}
theorem Ak:∀{ns:List Int} {us:List Td},aS (ns.map V.int) us->UE us ns
 | [],_,r=>by cases r;exact .nil
 | n::ns,_,r=>by
  cases r with
  | cons h t=>
   obtain⟨tk,rfl⟩:=(h);exact .cons n tk (Ak t)
def tR (I:L2.Inv X af σ H s)(hw:Wr X.K θ H M)(hk:∀b o,s.heap.get? b=Z o->h'.get? b=Z o)(hl:s.heap.objs.size<=l)(hg:h'.get? l=Z (Ub "list" (Uu out) n'))(hv:aS vs out)(hz:vs.length<=To)(hd:aY X.K θ H ds vs)
  (h:aF X θ H Q (.ok (.lst ds) M)):∃x H',L2.Inv X af σ H' {s with heap:=h',toks:=tk}/\aO x (.ref l)/\Q x H':=by
 have fr:=I.hok.fresh hl;exact⟨.ref l,_,I.laid  hk hl (show bM X.prog X.w _ _ _ (.lst vs) from⟨hz,out,n',hv,hg⟩),rfl,h _ θ _ (cR hw fr) (ik hw fr hd)⟩
theorem vC {K:Tp}:∀{kvs:List (κ×D)} {vs:List (κ×V)},nH K θ H kvs vs->kvs.map (·.1)=vs.map (·.1)
 | [],vs,r=>by
  subst r;rfl
 | (k,d)::kvs,vs,r=>by
  obtain⟨v,r',e,_,h2⟩:=r;subst e;rw[V2,V2,vC h2]
def Gf {kvs:List (bN×D)}:∀{ns:List Int},xT kvs=Z ns->kvs.map (·.1)=ns.map T1:=by
 induction kvs with
 | nil=>intro ns e;cases e;rfl
 | cons p r ih=>
  intro ns e;obtain⟨k,d⟩:=p;cases k with
  | inl n=>
   obtain⟨ms,e1,rfl⟩:=TZ.mp (e);rw[V2,ih e1];rfl
  | inr x=>cases e
end
end DL
namespace TS
open PySem PyProof.Rows PySem.W
end TS
namespace DL
open PySem PySem.Spec PyProof.Rows PySem.W L2 List
end DL
namespace DL
open PySem L2
def aG:Nat->D->Bool
 | 0,_=>false
 | f+1,d=>match d with
  | .mr _=>false
  | .tup xs=>xs.all (aG f)
  | .lst xs=>xs.all (aG f)
  | .ro xs=>xs.all (aG f)
  | _=>true
theorem cN:∀{xs:List D},(∀x∈xs,f x=Z x)->bL f xs=Z xs
 | [],_=>rfl
 | x::xs,h=>by
  unfold bL;rw[h x TN,cN λy hy=>h y (T6 _ hy)]
theorem lR:∀(f:Nat) (d:D),aG f d=true->frz n M f d=Z d
 | 0,d,h=>by cases h
 | f+1,d,h=>by
  cases d with
  | mr k=>cases h
  | tup xs=>
   show(bL (frz n M f) xs).map D.tup=_;rw[cN λx hx=>lR f x (Ti.mp h x hx)];rfl
  | lst xs=>
   show(bL (frz n M f) xs).map D.lst=_;rw[cN λx hx=>lR f x (Ti.mp h x hx)];rfl
  | ro xs=>
   show(bL (frz n M f) xs).map D.ro=_;rw[cN λx hx=>lR f x (Ti.mp h x hx)];rfl
  | _=>rfl
def Bt:MO->Bool
 | .lst xs=>xs.all (aG 30)
 | .obj _ fs=>fs.all λp=>aG 30 p.2
 | .dK fs=>fs.all λp=>aG 30 p.2
 | .dT fs=>fs.all λp=>aG 30 p.2
theorem qG:∀{fs:List (κ×D)},(∀p∈fs,f p.2=Z p.2)->uU f fs=Z fs
 | [],_=>rfl
 | (x,d)::fs,h=>by
  unfold uU;rw[h (x,d) TN,qG λy hy=>h y (T6 _ hy)]
theorem vY:∀{fs:List (Str×D)},(∀p∈fs,f p.2=Z p.2)->zc f fs=Z fs
 | [],_=>rfl
 | (x,d)::fs,h=>by
  unfold zc;rw[h (x,d) TN,vY λy hy=>h y (T6 _ hy)]
@[simp] theorem NQ (f:Nat) (i:Int):aG (f+1) (.int i)=true:=rfl
@[simp] theorem Pg (f:Nat) (i:Bool):aG (f+1) (.bl i)=true:=rfl
@[simp] theorem NM (f:Nat):aG (f+1) .non=true:=rfl
@[simp] theorem NL (f:Nat) (x:Str):aG (f+1) (.str x)=true:=rfl
theorem gF (f:Nat)(xs:List D):aG (f+1) (.tup xs)=xs.all (aG f):=rfl
def dB (f:Nat)(l:List Int):(l.map D.int).all (aG (f+1))=true:=by
 simp
def B5 (xs:List α)(x:α):wx (xs++[x]) (-1)=Z x:=by
 unfold wx Bp;rw[if_neg (by decide),if_pos (by simp;omega)];have e:(-1+((xs++[x]).length:Int)).toNat=xs.length:=by simp;omega
 rw[e];simp
def yW {t:GT}{M M1 M2:aq}(h1:t ρ M=.ok true M1)(h2:b ρ M1=.ok (.nx ρ2) M2):dZ t b (n+1) ρ M=dZ t b n ρ2 M2:=by
 rw[dZ,h1,az,if_pos rfl,h2,az]
def nS {t:GT}{M M1:aq}(h1:t ρ M=.ok false M1):dZ t b (n+1) ρ M=.ok (.nx ρ) M1:=by
 rw[dZ,h1,az,if_neg Tv]
end DL
namespace DL
open PySem L2
def aZ {a:GS}{M M1:aq}(h:a ρ M=.ok (.nx ρ1) M1):aj a b ρ M=b ρ1 M1:=by
 unfold aj;rw[h];rfl
def OS {a:GS}{M M1:aq}(h:a ρ M=.ok (.rt d) M1):aj a b ρ M=.ok (.rt d) M1:=by
 unfold aj;rw[h];rfl
def tP {t:GT}{a:GS}{M M1:aq}(h:t ρ M=.ok true M1):dD t a b ρ M=a ρ M1:=by
 unfold dD;simp_all
def m6 {t:GT}{a:GS}{M M1:aq}(h:t ρ M=.ok false M1):dD t a b ρ M=b ρ M1:=by
 unfold dD;simp_all
def cY {M M1:aq}(h:g ρ M=.ok d M1):aQ i g ρ M=.ok (.nx (ρ.set i (Z d))) M1:=by
 unfold aQ;simp_all
def cb {M M1:aq}(h:g ρ M=.ok d M1):bK g ρ M=.ok (.nx ρ) M1:=by
 unfold bK;simp_all
def iS {M M1:aq}(h:g ρ M=.ok d M1):aK g ρ M=.ok (.rt d) M1:=by
 unfold aK;rw[h,az]
def xh {a:GT}(ha:a ρ M=.ok x M)(hb:x=true->b ρ M=.ok y M):fL a b ρ M=.ok (x&&y) M:=by
 unfold fL;rw[ha];cases x with
 | true=>exact hb rfl
 | false=>rfl
def Lb {a:GT}(ha:a ρ M=.ok x M)(hb:x=false->b ρ M=.ok y M):jO a b ρ M=.ok (x||y) M:=by
 unfold jO;rw[ha];cases x with
 | true=>rfl
 | false=>exact hb rfl
def Im {a:GT}(ha:a ρ M=.ok x M):fE a ρ M=.ok (!x) M:=by
 unfold fE;simp_all
def Ea {a:GE}{M M1:aq}(ha:a ρ M=.ok (.bl x) M1):iW a ρ M=.ok x M1:=by
 unfold iW;rw[ha];rfl
def dh {a:GE}{M M1:aq}(ha:a ρ M=.ok (.bl x) M1):aJ a ρ M=.ok x M1:=by
 unfold aJ;rw[ha];rfl
def aC {a:GE}{M M1 M2:aq}(ha:a ρ M=.ok x M1)(hb:b ρ M1=.ok y M2)(h:f x y M2=o):g2 f a b ρ M=o:=by
 unfold g2;simp_all
def xt {a:GE}{M M1:aq}(ha:a ρ M=.ok x M1)(h:F [x] M1=o):aM F (aa a ag) ρ M=o:=by
 unfold aM aa ag;simp_all
def Es {a:GE}{M M1:aq}(ha:a ρ M=.ok x M1)(h:F [x] M1=o):ah 1 F (aa a ag) ρ M=o:=by
 unfold ah aa ag;simp_all
def m9 {a:GE}{M M1 M2:aq}(ha:a ρ M=.ok x M1)(hb:b ρ M1=.ok y M2)(h:F [x,y] M2=o):ah 2 F (aa a (aa b ag)) ρ M=o:=by
 unfold ah aa ag;simp_all
def BC {a:GE}{M M1 M2 M3:aq}(ha:a ρ M=.ok x M1)(hb:b ρ M1=.ok y M2)(hc:c ρ M2=.ok z M3)(h:F [x,y,z] M3=o):ah 3 F (aa a (aa b (aa c ag))) ρ M=o:=by
 unfold ah aa ag;simp_all
def OG {a:GE}{M M1 M2 M3 M4:aq}(ha:a ρ M=.ok x M1)(hb:b ρ M1=.ok y M2)(hc:c ρ M2=.ok z M3)(hd:d ρ M3=.ok u M4)(h:F [x,y,z,u] M4=o):ah 4 F (aa a (aa b (aa c (aa d ag)))) ρ M=o:=by
 unfold ah aa ag;simp_all
theorem GZ:∀xs:List D,fR (xs.map λd=>D.bl (p d))=Z (xs.map p)
 | []=>rfl
 | x::xs=>by
  show(fR (xs.map λd=>D.bl (p d))).map (p x::·)=_;rw[GZ xs];rfl
def HJ (h:ρ[i]?=Z (Z (.tup xs))):bW (ae i) ρ M=.ok ⟨xs,Y⟩ M:=by
 unfold bW ae;rw[h];rfl
def Bo (h:ρ[i]?=Z (Z (.lst xs))):bW (ae i) ρ M=.ok ⟨xs,Y⟩ M:=by
 unfold bW ae;rw[h];rfl
def sP (a b:Int)(M:aq):aW false (.int a) (.int b) M=.ok (.bl (decide (a=b))) M:=by
 show bi.ok (D.bl ((a==b) != false)) M=_
 grind
def zk (a b:Int)(M:aq):aW true (.int a) (.int b) M=.ok (.bl (!decide (a=b))) M:=by
 show bi.ok (D.bl ((a==b) != true)) M=_
 by_cases q:a=b <;> simp[q]
def Oj {a:Str}(ha:VE a=true)(hb:VE b=true)(M:aq):aW false (.str a) (.str b) M=.ok (.bl (a==b)) M:=by
 show(if(VE a&&VE b)=true then bi.ok (D.bl ((a==b) != false)) M else .bad)=_
 simp_all
def uy (M:aq)(E:List D):(M++[MO.lst E])[M.length]?=Z (.lst E):=by simp
def z7 (M:aq)(E E':List D):(M++[MO.lst E]).set M.length (.lst E')=M++[MO.lst E']:=by simp
def FS (h:E.length<1000000):uH M.length d (M++[MO.lst E])=.ok .non (M++[MO.lst (E++[d])]):=by
 unfold uH;rw[uy];dsimp only;rw[if_pos (Tu h (by decide)),z7]
def Nb {go:GE}(h1:go ρ (M++[MO.lst E])=.ok (.mr M.length) (M++[MO.lst E]))(h2:ge ρ (M++[MO.lst E])=.ok d (M++[MO.lst E]))(h:E.length<1000000) :
  gX go ge ρ (M++[MO.lst E])=.ok .non (M++[MO.lst (E++[d])]):=by
 unfold gX;rw[h1,az];dsimp only;rw[uy,h2,az,FS h]
def nL {k:Nat}(h:xs[k]?=Z d):aB (.lst xs) (.int k) M=.ok d M:=by
 unfold aB a7;dsimp only;rw[(ce   h)]
def cr {k:Nat}(h:xs[k]?=Z d):aB (.tup xs) (.int k) M=.ok d M:=by
 unfold aB a7;dsimp only;rw[(ce   h)]
def mQ:ft ag ρ M=.ok (.mr M.length) (M++[.lst []]):=by
 rfl
def iT {M M1:aq}(h:ga ρ M=.ok ds M1)(hl:ds.length<=100000:=by exact VO rfl):aP ga ρ M=.ok (.tup ds) M1:=by
 unfold aP;rw[h,az];unfold ve;rw[if_pos (bX (by omega))]
def FC {M M1:aq}(h:ga ρ M=.ok ds M1)(hl:ds.length<=100000:=by exact VO rfl):kH ga ρ M=.ok (.lst ds) M1:=by
 unfold kH;rw[h,az];unfold aR;rw[if_pos (bX (by omega))]
def bh {M M1 M2:aq}(h:g ρ M=.ok d M1)(hr:r ρ M1=.ok ds M2):aa g r ρ M=.ok (d::ds) M2:=by
 unfold aa
 simp_all
def qI {go:GE}{M M1:aq}{k:Nat}(h1:go ρ M=.ok (.mr k) M)(h2:M[k]?=Z (.lst E))(h3:ge ρ M=.ok d M1)(h4:M1[k]?=Z (.lst E1))(h:E1.length<1000000) :
  gX go ge ρ M=.ok .non (M1.set k (.lst (E1++[d]))):=by
 unfold gX;rw[h1,az];dsimp only;rw[h2];dsimp only;rw[h3,az];unfold uH;rw[h4];dsimp only;rw[if_pos (Tu h (by decide))]
def wB {M M1:aq}{n:Nat}(h:ga ρ M=.ok [.int (n:Int)] M1)(hn:n<=1000000):dO ga ρ M=.ok ⟨aX 0 n,Y⟩ M1:=by
 unfold dO;rw[h,az,zl hn]
def lY {M M1:aq}{t:mY}(h:gi ρ M=.ok t M1)(e:cn t sg b t.ds ρ M1=o):gw gi sg b ρ M=o:=by
 unfold gw
 simp_all
def Eu (h0:-1000000<=i)(h1:i<=1000000)(M:aq):m7 (.int i) (.int j) M=.ok (.int (i*j)) M:=by
 unfold m7;dsimp only;rw[if_pos (.inl ⟨(Int.lt_of_lt_of_le (by simp) h0),(Int.lt_of_le_of_lt h1 (by simp))⟩)]
def Js (h0:0<j)(h1:j<=1000000)(M:aq):iN (.int i) (.int j) M=.ok (.int (i / j)) M:=by
 have h2:j.natAbs<2 ^ 20:=by omega
 have h4:=(ZP (by omega)).mpr h2;unfold iN;dsimp only;rw[if_pos ⟨h0,by omega⟩]
def Ht (h:bH 40 d=true)(hs:rZ d d=true)(hm:∀M,now d M=d)(M:aq):aW true d d M=.ok (.bl false) M:=by
 unfold aW;rw[hm,h,hs];rfl
end DL
namespace DL
open PySem L2
def mh (n:Nat):Nat->D->Bool
 | 0,_=>false
 | f+1,d=>match d with
  | .mr k=>decide (k<n)
  | .tup xs=>xs.all (mh n f)
  | .lst xs=>xs.all (mh n f)
  | .ro xs=>xs.all (mh n f)
  | _=>true
theorem lg:∀(f:Nat) (d:D),mh n f d=true->frz n M f d=Z d
 | 0,d,h=>by cases h
 | f+1,d,h=>by
  cases d with
  | mr k=>
   show(if k<n then Z (D.mr k) else _)=_;rw[if_pos (of_decide_eq_true h)]
  | tup xs=>
   show(bL (frz n M f) xs).map D.tup=_;rw[cN λx hx=>lg f x (Ti.mp h x hx)];rfl
  | lst xs=>
   show(bL (frz n M f) xs).map D.lst=_;rw[cN λx hx=>lg f x (Ti.mp h x hx)];rfl
  | ro xs=>
   show(bL (frz n M f) xs).map D.ro=_;rw[cN λx hx=>lg f x (Ti.mp h x hx)];rfl
  | _=>rfl
theorem bA:∀(f:Nat) (d:D),aG f d=true->mh n f d=true
 | 0,d,h=>by cases h
 | f+1,d,h=>by
  cases d with
  | mr k=>cases h
  | tup xs=>exact Ti.mpr λx hx=>bA f x (Ti.mp (h) x hx)
  | lst xs=>exact Ti.mpr λx hx=>bA f x (Ti.mp (h) x hx)
  | ro xs=>exact Ti.mpr λx hx=>bA f x (Ti.mp (h) x hx)
  | _=>rfl
theorem iH (hn:n<=m):∀(f:Nat) (d:D),mh n f d=true->mh m f d=true
 | 0,d,h=>by cases h
 | f+1,d,h=>by
  cases d with
  | mr k=>exact decide_eq_true (Tu (of_decide_eq_true (h)) hn)
  | tup xs=>exact Ti.mpr λx hx=>iH hn f x (Ti.mp (h) x hx)
  | lst xs=>exact Ti.mpr λx hx=>iH hn f x (Ti.mp (h) x hx)
  | ro xs=>exact Ti.mpr λx hx=>iH hn f x (Ti.mp (h) x hx)
  | _=>rfl
def uV (n:Nat):MO->Bool
 | .lst xs=>xs.all (mh n 30)
 | .obj _ fs=>fs.all λp=>mh n 30 p.2
 | .dK fs=>fs.all λp=>mh n 30 p.2
 | .dT fs=>fs.all λp=>mh n 30 p.2
def vm (hn:n<=m)(h:uV n o=true):uV m o=true:=by
 cases o with
 | lst xs=>exact Ti.mpr λx hx=>iH hn 30 x (Ti.mp (h) x hx)
 | obj c fs=>exact Ti.mpr λx hx=>iH hn 30 x.2 (Ti.mp (h) x hx)
 | dK fs=>exact Ti.mpr λx hx=>iH hn 30 x.2 (Ti.mp (h) x hx)
 | dT fs=>exact Ti.mpr λx hx=>iH hn 30 x.2 (Ti.mp (h) x hx)
def jS (h:Bt o=true):uV n o=true:=by
 cases o with
 | lst xs=>exact Ti.mpr λx hx=>bA 30 x (Ti.mp (h) x hx)
 | obj c fs=>exact Ti.mpr λx hx=>bA 30 x.2 (Ti.mp (h) x hx)
 | dK fs=>exact Ti.mpr λx hx=>bA 30 x.2 (Ti.mp (h) x hx)
 | dT fs=>exact Ti.mpr λx hx=>bA 30 x.2 (Ti.mp (h) x hx)
theorem jW:∀{l:List MO},l.all (uV n)=true->iy n M l=Z l
 | [],_=>rfl
 | .lst xs::r,h=>by
  rw[V8,Tz] at h;unfold iy;rw[jW h.2,cN λx hx=>lg 30 x (Ti.mp h.1 x hx)]
 | .obj c fs::r,h=>by
  rw[V8,Tz] at h;unfold iy;rw[jW h.2];rw[vY λp hp=>lg 30 p.2 (Ti.mp h.1 p hp)]
 | .dK fs::r,h=>by
  rw[V8,Tz] at h;unfold iy;rw[jW h.2];rw[qG λp hp=>lg 30 p.2 (Ti.mp h.1 p hp)]
 | .dT fs::r,h=>by
  rw[V8,Tz] at h;unfold iy;rw[jW h.2,qG λp hp=>lg 30 p.2 (Ti.mp h.1 p hp)]
def bI (M:aq):Prop:=M.all (uV M.length)=true
def wl (hd:aG 30 d=true)(hM:bI M):jD M.length (.ok d (M++E))=.ok d M:=by
 unfold jD
 by_cases h:(M++E).length=M.length
 ·simp_all
 ·simp only[if_neg h];rw[aas,lR 30 d hd,jW hM]
def pE (hx:xs.all (aG 29)=true)(hM:bI M):jD M.length (.ok (.mr M.length) (M++[.lst xs]))=.ok (.lst xs) M:=by
 have f1:=jW (n:=M.length) (M:=M++[.lst xs]) hM;have f2:frz M.length (M++[.lst xs]) 30 (.mr M.length)=Z (.lst xs):=by
  show(if M.length<M.length then Z (D.mr M.length) else match (M++[MO.lst xs])[M.length]? with|some (MO.lst ys)=>(bL (frz M.length (M++[MO.lst xs]) 29) ys).map D.lst|_=>Y)=_;rw[if_neg (U9 _)];simp;rw[(cN λx h=>lR 29 x (Ti.mp hx x h))]
 show(if(M++[MO.lst xs]).length=M.length then bi.ok (D.mr M.length) (M++[MO.lst xs]) else match frz M.length (M++[MO.lst xs]) 30 (.mr M.length),iy M.length (M++[MO.lst xs]) ((M++[MO.lst xs]).take M.length) with|some d',Z M'=>.ok d' M'|_,_=>.bad)=_;rw[if_neg (by simp),aas,f1,f2]
def wy {k:Nat}{fs:List (Str×D)}(h:M[k]?=Z (.obj c fs)):lJ c (.mr k) M=Z (k,fs):=by
 unfold lJ
 simp_all
def bS {k:Nat}{fs:List (Str×D)}(h:g ρ M=.ok (.mr k) M)(hM:M[k]?=Z (.obj c fs))(hf:fs.lookup f=Z d):dm c f g ρ M=.ok d M:=by
 unfold dm;rw[h,az,wy hM]
 simp_all
def iQ {go:GE}{M M1:aq}{k:Nat}{fs:List (Str×D)}(h:go ρ M=.ok (.mr k) M)(hM:M[k]?=Z (.obj c fs))(hn:fs.lookup m=Y)
  (ha:ga ρ M=.ok ds M1) (hl:ds.length+1=n) (hF:F (.mr k::ds) M1=r):fc c m n F go ga ρ M=r:=by
 unfold fc;rw[h,az,wy hM];dsimp only;rw[if_pos hn,ha,az,if_pos hl,hF]
def AX {k:Nat}{fs:List (Str×D)}(hM:M[k]?=Z (.obj c fs))(hl:fs.length<1000):CL c f (.mr k) y M=.ok () (M.set k (.obj c (jv f y fs))):=by
 unfold CL;rw[wy hM]
 simp_all
def wR {go:GE}{M M1:aq}{k:Nat}{fs:List (Str×D)}(hv:gv ρ M=.ok y M1)(ho:go ρ M1=.ok (.mr k) M1)(hM:M1[k]?=Z (.obj c fs))(hl:fs.length<1000) :
  gP c f go gv ρ M=.ok (.nx ρ) (M1.set k (.obj c (jv f y fs))):=by
 unfold gP;rw[hv,az,ho,az,AX hM hl,az]
def J8 {go:GE}{M M1 M2:aq}{k:Nat}{fs:List (Str×D)}(ho:go ρ M=.ok (.mr k) M)(hM:M[k]?=Z (.obj c fs))(hf:fs.lookup f=Z v)(hv:gv ρ M=.ok y M1)
  (ha:AI v y M1=.ok z M2) (hM2:M2[k]?=Z (.obj c fs2)) (hl:fs2.length<1000):Kb c f go gv ρ M=.ok (.nx ρ) (M2.set k (.obj c (jv f z fs2))):=by
 unfold Kb;rw[ho,az,wy hM];dsimp only;rw[hf];dsimp only;rw[hv,az,ha,az,AX hM2 hl,az]
def Iu {k:Nat}(h:M[k]?=Z (.lst xs))(hl:xs.length+ys.length<=100000):AI (.mr k) (.lst ys) M=.ok (.mr k) (M.set k (.lst (xs++ys))):=by
 unfold AI;dsimp only;rw[h,show yZ (.lst ys) M=Z ys from rfl];dsimp only;rw[if_pos (bX (by omega))]
def zz {k:bN}(h:M[i]?=Z (.dK kvs))(hk:lK y=Z k)(hg:fY kvs k=Y)(hl:kvs.length<1000000):fI i y z M=.ok z (M.set i (.dK (kvs++[(k,z)]))):=by
 unfold fI;rw[h,hk];dsimp only;rw[hg,if_pos (Tu hl (bX (by simp)))]
def yf {k:bN}(h:M[i]?=Z (.dK kvs))(hk:lK y=Z k)(hg:fY kvs k=Z r):fI i y z M=.ok r M:=by
 unfold fI;rw[h,hk];dsimp only;rw[hg]
def xP {k:List bN}(h:M[i]?=Z (.dT kvs))(hk:jN y=Z k)(hg:fY kvs k=Y)(hl:kvs.length<1000000):fI i y z M=.ok z (M.set i (.dT (kvs++[(k,z)]))):=by
 unfold fI;rw[h,hk];dsimp only;rw[hg,if_pos (Tu hl (bX (by simp)))]
def yn {k:List bN}(h:M[i]?=Z (.dT kvs))(hk:jN y=Z k)(hg:fY kvs k=Z r):fI i y z M=.ok r M:=by
 unfold fI;rw[h,hk];dsimp only;rw[hg]
def sD {κ:Type}[DecidableEq κ](kvs:List (κ×D))(k:κ)(z:D):List (κ×D):=match fY kvs k with
 | some _=>kvs
 | none=>kvs++[(k,z)]
def Bu [DecidableEq κ](kvs:List (κ×D))(k:κ)(z:D):(sD kvs k z).length<=kvs.length+1:=by
 unfold sD;split
 ·simp
 simp
def my {M:aq}(h:M[i]?=Z o):M.set i o=M:=by
 obtain⟨hi,e⟩:=Tf.mp h;rw[<-e];exact List.set_getElem_self hi
def ut {k:bN}(h:M[i]?=Z (.dK kvs))(hk:lK y=Z k)(hl:kvs.length<1000000):∃r,fI i y z M=.ok r (M.set i (.dK (sD kvs k z))):=by
 unfold sD;cases hg:fY kvs k with
 | some r=>exact⟨r,by rw[yf h hk hg,my h]⟩
 | none=>exact⟨z,zz h hk hg hl⟩
def sW {k:List bN}(h:M[i]?=Z (.dT kvs))(hk:jN y=Z k)(hl:kvs.length<1000000):∃r,fI i y z M=.ok r (M.set i (.dT (sD kvs k z))):=by
 unfold sD;cases hg:fY kvs k with
 | some r=>exact⟨r,by rw[yn h hk hg,my h]⟩
 | none=>exact⟨z,xP h hk hg hl⟩
def mR {go:GE}(h1:go ρ M=.ok (.mr i) M)(h2:wW M[i]?=true)(h3:gy ρ M=.ok y M)(h4:gz ρ M=.ok z M)(h:fI i y z M=o):ib go gy gz ρ M=o:=by
 unfold ib;rw[h1,az]
 simp_all
end DL
namespace DL
open PySem PySem.Spec PyProof.Rows PySem.W L2 List
section
variable {prog:TR}{w:TY}{A:Ux}{E:Td->Tg->Prop}{s:Tg}{d it v:Th}{es:Array V5}{ep i:Nat}{ok ov:Td}
def FE (hd:(d==UA)=false):MeetsIn prog w (WH.«dict.items» ⟨[.ref d],[]⟩) (λ_ R s=>(∃es ep,nB s.heap d es ep)/\R (.ok (.ret (.ref s.heap.objs.size))) {s with heap:=s.heap.push {cls:=.type "dict_items",data:=.fields #[.ref d]}}):=
 .of_wp λA R s hxx=>by
  obtain⟨⟨es,ep,x⟩,h⟩:=hxx;refine Ta (Ta (WB x.typeIs ?_));refine Tb ?_;unfold WC;rw[if_neg (by rw[hd];exact Tv)];exact Ta (Tb (Ta (T7 (Tb ⟨_,rfl,h⟩))))
def Jf (hv:s.heap.IsItemsView v d)(x:nB s.heap d es ep)
  (hQ:Q (.ref s.heap.objs.size) {s with heap:=s.heap.push {cls:=.type "dict_itemiterator",data:=.fields #[.none,.bool false,.ref d,.int 0 0,.int es.size 0,.int ep 0,.none,.none]}}):Tn (TF prog w) A (YX (.ref v)) Q E s:=by
 have T:=hv.typeIs;obtain⟨ov,hov,hcv,hdv⟩:=hv;obtain⟨o,ho,hc,hdat⟩:=x;refine Xu T PySem.F.slot_dict_items_iter (Ud PySem.F.slot_dict_items_iter T PySem.F.entry_dict_items_iter ?_ (PySem.F.args_dict_items_iter_1 _));refine Ta (Tb (Ta ?_));refine Ta (UJ hov hdv  rfl (Tb (Ta ?_)));refine Ta (U2 ho hdat (Ta (VL ho hdat ?_)));simp only[show UN "dict_itemiterator"=true by rfl,if_true];refine T7 (Tb ⟨_,rfl,"dict_itemiterator",_,⟨_,Tj _ rfl,rfl⟩,PySem.F.slot_dict_itemiterator_next.lookup,?_⟩)
  (by simp only[sizeOk,YR,Uk,VM,Ug,VG,Uo];omega)
 assumption
def Hm (hit:V1 s.heap it d i es.size ep ok ov)(x:nB s.heap d es ep)(hi:i<es.size)
  (hQ:∀h',YS h' it d (i+1) es.size ep es[i].key es[i].val s.heap.objs.size->h'.get? s.heap.objs.size=Z {cls:=.type "tuple",data:=.seq #[es[i].key,es[i].val]}->(∀b o,b≠it->s.heap.get? b=Z o->h'.get? b=Z o)->Q (Z (.ref s.heap.objs.size)) {s with heap:=h'}) :
  Tn (TF prog w) A (VR (.ref it)) Q E s:=by
 obtain⟨hp,g,dr,tk,os⟩:=s;obtain⟨od,hod,hcd,hdd⟩:=x;have hT:aay ⟨hp,g,dr,tk,os⟩ (.ref it) "dict_itemiterator":=⟨_,hit,rfl⟩;unfold VR;refine Ta (WK (Uh (name:=UM "__next__") hT PySem.F.slot_dict_itemiterator_next (Ud PySem.F.slot_dict_itemiterator_next hT PySem.F.entry_dict_itemiterator_next ?_ (PySem.F.args_dict_itemiterator_next_1 _))));refine Ta (Tb (Ta (Ta ?_)))
 first|refine Ta (UX hT (Tb ?_))|refine Ta (Vj hT (Tb ?_))
 refine Ta (Xi hit rfl ?_);simp only[show UN "dict_itemiterator"=true by decide,if_true];show Tn _ _ (if(TU d==Ue)=true then _ else _) _ _ _;rw[if_neg (show¬((TU d==Ue)=true) from Tv)];refine Ta (Tb (Ta (U2 hod hdd ?_)));rw[if_neg (by simp)];refine Ta (Tb (Ta (VL hod hdd ?_)));rw[if_neg (by simp)];refine Tb ?_;simp only[show¬((i:Int)<0) from by omega,if_false,TK,Ua hi];refine Ta ?_
 first|refine Ta (UX hT (Tb ?_))|refine Ta (Vj hT (Tb ?_))
 refine Ta (Wv hT ?_);show Tn _ _ (aar (.ref it) 3 (VT ((i:Int)+1)) >>= _) _ _ ⟨hp,g,dr,tk,os⟩;refine Ta (VF hit (by simp) λh1 he1 hs1=>?_)
 replace hs1:UD it hp h1:=hs1
 replace he1:V1 h1 it d (i+1) es.size ep ok ov:=by
  have e:((i+1:Nat):Int)=(i:Int)+1:=by omega
  unfold V1;rw[e];simpa[VT] using he1
 have hT1:aay ⟨h1,g,dr,tk,os⟩ (.ref it) "dict_itemiterator":=⟨_,he1,rfl⟩;refine Ta (TV (Ta (Wv hT1 (Ta (Wv hT1 ?_)))));show Tn _ _ (Ww (.ref it) 6 es[i].key es[i].val) _ _ ⟨h1,g,dr,tk,os⟩;unfold Ww;refine Ta (wpAny_newTuple ?_);have he2:V1 (h1.push {cls:=.type "tuple",data:=.seq #[es[i].key,es[i].val]}) it d (i+1) es.size ep ok ov:=Tc _ he1;generalize hh2:h1.push {cls:=.type "tuple",data:=.seq #[es[i].key,es[i].val]}=h2 at he2;have hz1:h1.objs.size=hp.objs.size:=hs1.1;have hil:it<hp.objs.size:=Tr hit;have ht2:h2.get? hp.objs.size=Z {cls:=.type "tuple",data:=.seq #[es[i].key,es[i].val]}:=by rw[<-hh2,<-hz1];exact Tj _ rfl
 have hk2:∀b o,b≠it->hp.get? b=Z o->h2.get? b=Z o:=λb o hb e=>by rw[<-hh2];exact Tc _ (hs1.extBut b o hb e)
 show Tn _ _ (Wc (.ref it) >>= _) _ _ ⟨h2,g,dr,tk,os⟩;rw[hz1];clear hh2 he1 hs1 hT1 hz1 h1;refine Ta ?_;unfold Wc;refine Ta (UJ he2 rfl (x:=.none) rfl (Tb ?_));simp only[if_true];refine Ta (UJ he2 rfl (x:=ok) rfl (Ta (UJ he2 rfl (x:=ov) rfl ?_)));refine Ta (VF he2 (by simp) λh3 he3 hs3=>?_)
 replace hs3:UD it h2 h3:=hs3
 replace he3:V1 h3 it d (i+1) es.size ep es[i].key ov:=he3
 refine Ta (VF he3 (by simp) λh4 he4 hs4=>?_)
 replace hs4:UD it h3 h4:=hs4
 replace he4:V1 h4 it d (i+1) es.size ep es[i].key es[i].val:=he4
 refine Ta (VF he4 (by simp) λh5 he5 hs5=>?_)
 replace hs5:UD it h4 h5:=hs5
 replace he5:YS h5 it d (i+1) es.size ep es[i].key es[i].val hp.objs.size:=he5
 refine Ta (VF he5 (by simp) λh6 he6 hs6=>?_)
 replace hs6:UD it h5 h6:=hs6
 replace he6:YS h6 it d (i+1) es.size ep es[i].key es[i].val hp.objs.size:=he6
 have up:∀b o,b≠it->h2.get? b=Z o->h6.get? b=Z o:=λb o hb e=>hs6.extBut b o hb (hs5.extBut b o hb (hs4.extBut b o hb (hs3.extBut b o hb e)))
 exact Ta (Vp (Tb (Tb ⟨_,rfl,Tb (hQ h6 he6 (up _ _ (VA hil) ht2) λb o hb e=>up b o hb (hk2 b o hb e))⟩)))
def MU (hh:A.handled=Y)(hit:V1 s.heap it d i es.size ep ok ov)(x:nB s.heap d es ep)(hi:es.size<=i)(hQ:∀h',Xs it s.heap h'->Q Y {s with heap:=h'}):Tn (TF prog w) A (VR (.ref it)) Q E s:=by
 obtain⟨od,hod,hcd,hdd⟩:=x;have hT:s.TypeIs (.ref it) "dict_itemiterator":=⟨_,hit,rfl⟩;unfold VR;refine Ta (WK (Uh (name:=UM "__next__") hT PySem.F.slot_dict_itemiterator_next (Ud PySem.F.slot_dict_itemiterator_next hT PySem.F.entry_dict_itemiterator_next ?_ (PySem.F.args_dict_itemiterator_next_1 _))));refine Ta (Tb (Ta (Ta ?_)))
 first|refine Ta (UX hT (Tb ?_))|refine Ta (Vj hT (Tb ?_))
 refine Ta (Xi hit rfl ?_);simp only[show UN "dict_itemiterator"=true by decide,if_true];show Tn _ _ (if(TU d==Ue)=true then _ else _) _ _ s;rw[if_neg (show¬((TU d==Ue)=true) from Tv)];refine Ta (Tb (Ta (U2 hod hdd ?_)));rw[if_neg (by simp)];refine Ta (Tb (Ta (VL hod hdd ?_)));rw[if_neg (by simp)];refine Tb ?_;simp only[show¬((i:Int)<0) from by omega,if_false,TK,U8 hi];refine Ta ?_
 first|refine Ta (UX hT (Tb ?_))|refine Ta (Vj hT (Tb ?_))
 show Tn _ _ (aar (.ref it) 2 .none >>= _) _ _ s;refine Ta (Ws hit rfl (by simp) ?_);show Tn _ _ (aaq (.type "StopIteration") [] >>= _) _ _ _;refine Ta ?_;simp only[aaq,newTuple];refine Ta (T7 ?_ (by size_fits));refine Ta (m:=VZ _ _) (VY (a:=Ue) (by first|rfl|(simp only[VZ];rfl)) (T7 ?_ (by size_fits)));simp only[raiseNew];refine Ta (YN ?_);rw[show A.in1.handled=Y from hh];refine Ta (Tb (ZM ?_));refine Ta (XJ (T:="StopIteration") (b:=true) ⟨_,Tj _ rfl,rfl⟩ Yr (Tb (hQ _ (((UI ..).extBut.push _).push _))))
def uu:entryFor table "dict_itemiterator.__iter__"=Z WH.«dict_keyiterator.__iter__»:=entryFor_alias (id':="dict_keyiterator.__iter__") (by kernel_rfl) rfl (by decide +kernel) (by kernel_rfl)
def JB (hit:V1 s.heap it d i n ep ok ov)(h:Q (.ref it) s):Tn (TF prog w) A (YX (.ref it)) Q E s:=by
 have hT:s.TypeIs (.ref it) "dict_itemiterator":=⟨_,hit,rfl⟩;refine Xu hT PySem.F.slot_dict_itemiterator_iter (Ud PySem.F.slot_dict_itemiterator_iter hT uu ?_ (PySem.F.args_dict_itemiterator_iter_1 _));exact Tb ⟨_,rfl,"dict_itemiterator",_,hT,PySem.F.slot_dict_itemiterator_next.lookup,h⟩
end
end DL
namespace DL
open PySem PySem.Spec PyProof.Rows L2 List
def IQ {k:bN}(h:(bC prog w).is k u=true):aO (kV k) u:=by
 rcases bU (h) with⟨i,t,rfl,rfl⟩|⟨x,t,rfl,rfl⟩
 ·exact⟨t,rfl⟩
 ·exact⟨t,rfl⟩
def RC:D->D
 | .mr j=>.mr (j-1)
 | d=>d
def SW (i:Nat):D->Bool
 | .mr j=>decide (i<j)
 | d=>aG 30 d
def SS (kvs:List (bN×D)):List D:=kvs.map λp=>.tup [uZ p.1,RC p.2]
def SV (n:Nat)(x:D)(M:aq):bi mY:=match x with
 | .mr i=>match M[i]? with
  | some (.dK kvs)=>if n<=i/\(M.take i).all (uV i)=true/\(M.drop (i+1)).all Bt=true/\kvs.all (λp=>SW i p.2)=true then .ok ⟨SS kvs,Y⟩ (M.eraseIdx i) else .bad
  | _=>.bad
 | _=>.bad
section
variable {K:Tp}{θ:List Th}{H:Hp}{M:aq}{i:Nat}{a:Th}{o:Obj}{ws:List (bN×V)}
theorem s9:∀{kvs:List (κ×D)} {vs:List (κ×V)},nH K θ H kvs vs->∀{j:Nat} {k:κ} {d:D},kvs[j]?=Z (k,d)->∃v,vs[j]?=Z (k,v)/\cz K θ H d v
 | [],vs,_,j,k,d,e=>by cases e
 | (k0,d0)::kvs,vs,h,j,k,d,e=>by
  obtain⟨v,r,e1,h1,h2⟩:=h;subst e1;cases j with
  | zero=>simp_all
  | succ j=>exact s9 h2 e
end
def vO:F2:=λx y M=>match x with
 | .mr i=>match M[i]? with
  | some (.dK kvs)=>match lK y with
   | some k=>match fY kvs k with
    | some r=>.ok r M
    | none=>.bad
   | none=>.bad
  | _=>.bad
 | _=>.bad
def DF {go:GE}{k:Nat}(hr:bo k X.A)(ho:QE X o go)(hi:QE X i gi)(hs:CY i:=by intro _ _;rfl):QE X (.Subscript o i pos) (g2 vO go gi):=⟨(wb (Fg hr) ho.h hi.h hs).of λσ H Q hxx=>by
 obtain⟨ρ,θ,M,hd,hw,h⟩:=hxx;refine bf hd hw (aF X θ H Q) (λc M' h=>h) (λh=>h) h λd1 M1 v1 θ1 H1 g1 r1 h1=>?_
 refine bf (hd.go g1) g1.wr (aF X θ1 H1 Q) (λc M' h=>h) (λh=>h) (aF.go g1 h1) λd2 M2 v2 θ2 H2 g2 r2 h2=>?_
 have h2:=aF.go g2 h2;have r1:=r1.go g2;unfold vO at h2;cases d1 with
 | mr i=>
  obtain⟨a,ea,ta⟩:=r1;dsimp only at h2;cases q:M2[i]? with
  | none=>rw[q] at h2;exact h2.elim
  | some mo=>
   rw[q] at h2;cases mo with
   | dK kvs=>
    obtain⟨vs,hv,ra⟩:=g2.wr.at_ i a _ ta q;cases qk:lK d2 with
    | none=>rw[qk] at h2;exact h2.elim
    | some k=>
     rw[qk] at h2;dsimp only at h2;have ek:=Ew qk r2;cases qg:fY kvs k with
     | none=>rw[qg] at h2;exact h2.elim
     | some r=>
      rw[qg] at h2;obtain⟨v,ev,rv⟩:=(mO k ra).1 r qg;refine⟨a,v,ea,?_,h2 v θ2 H2 (.refl g2.wr) rv⟩;rw[ek,<-ev];exact sR.k hv
   | _=>exact h2.elim
 | _=>exact h2.elim⟩
def J0 (u:HO):Prop:=(∃vs,u=.dK vs)\/∃ts,u=.dT ts
def J0.no {u:HO}(h:J0 u):(∀xs,u≠.tup xs)/\(∀x,u≠.own x)/\(∀o v,u≠.frz o v)/\(∀ps,u≠.tbl ps)/\wu u=true:=by
 rcases h with⟨vs,rfl⟩|⟨ts,rfl⟩ <;> exact⟨λ_ z=>(by cases z),λ_ z=>(by cases z),λ_ _ z=>(by cases z),λ_ z=>(by cases z),rfl⟩
section
variable {X:Cx}{af:List (Th×Obj)}{σ:L2.St}{H:Hp}{s:Tg}{d:Th}{o:Obj}{u:HO}
def MN (I:L2.Inv X af σ H s)(h:H d=Z u)(hu:J0 u)(ho:s.heap.get? d=Z o):L2.Inv X af σ (bj H d (.frz o u)) s:=by
 obtain⟨n1,n2,n3,n4,_⟩:=hu.no;have nd:∀{b:Th} {v:HO},H b=Z v->v≠u->b≠d:=λ{b v} e n z=>by
  simp_all
 refine I.un  (t':=s.toks) ⟨λb o q _ _ _=>q,λb o q _ _ _=>⟨o.slots,q⟩,λb o q n _=>?_,λb o q _=>⟨o,q⟩,λb xs e=>?_,λb o v e=>?_,λb ps e=>⟨#[],?_⟩⟩ λa v e=>?_
 ·rw[ao (λz=>by grind)];exact n
 ·rw[ao (nd e λz=>n1 _ z.symm)];exact e
 ·rw[ao (nd e λz=>n3 _ _ z.symm)];exact e
 ·rw[ao (nd e λz=>n4 _ z.symm),e];simp
 ·have st:∀{w:HO},bM X.prog X.w H s.heap a w->bM X.prog X.w (bj H d (.frz o u)) s.heap a w:=λq=>q.stay (λc v _ q=>q) (λc q=>by rw[ao (nd q λz=>n2 _ z.symm)];exact q) λc xs q=>by rw[ao (nd q λz=>n1 _ z.symm)];exact q
  by_cases z:a=d
  ·subst z;rw[aV] at e;cases e;exact⟨ho,st (I.hok a _ h)⟩
  ·rw[ao z] at e;exact st (I.hok a v e)
def MW (I:L2.Inv X af σ H s)(h:H d=Z (.frz o u))(hu:J0 u)(h0:∀o v,X.H₀ d≠Z (.frz o v)):L2.Inv X af σ (bj H d u) s:=by
 have nd:∀{b:Th} {v:HO},H b=Z v->v≠.frz o u->b≠d:=λ{b v} e n z=>by
  simp_all
 have nn:∀{b:Th},H b=Y->bj H d u b=Y:=λ{b} e=>by
  rw[ao (λz=>by grind)];exact e
 have kt:∀b xs,H b=Z (.tup xs)->bj H d u b=Z (.tup xs):=λb xs e=>by
  rw[ao (nd e λz=>nomatch z)];exact e
 refine⟨I.ok,I.os,I.bare,⟨I.base.keep,I.base.slot,λb o e n hx=>nn (I.base.free b o e n hx),I.base.there,λb xs e=>kt b xs (I.base.tups b xs e),λb o' v e=>?_,λb ps e=>?_⟩,I.loc,I.cell,nn I.free,λx c e=>nn (I.freeC x c e),λp hp=>?_,λa v e=>?_,I.len⟩
 ·rw[ao (λz=>h0 o' v (by rw[<-z];exact e))];exact I.base.frzs b o' v e
 ·obtain⟨more,q⟩:=I.base.tbls b ps e;exact⟨more,by rw[ao (nd q λz=>nomatch z)];exact q⟩
 ·obtain⟨a1,a2,a3⟩:=I.pin p hp;exact⟨a1,nn a2,a3⟩
 ·have st:∀{w:HO},bM X.prog X.w H s.heap a w->bM X.prog X.w (bj H d u) s.heap a w:=λq=>q.stay (λc v _ q=>q) (λc q=>by rw[ao (nd q λz=>nomatch z)];exact q) λc xs q=>kt c xs q
  by_cases z:a=d
  ·subst z;rw[aV] at e;cases e;exact st (I.hok a _ h).2
  ·rw[ao z] at e;exact st (I.hok a v e)
end
def Qx (d:Th)(o:Obj)(u:HO)(ps:List (V×V)):It:=
 ⟨λi H=>H d=Z (.frz o u)/\i<ps.length,λi H x H'=>∃p k v,H p=Y/\ps[i]?=Z (k,v)/\H'=bj H p (.tup [k,v])/\x=.ref p,λi H=>H d=Z (.frz o u)/\ps.length<=i⟩
def Fj (p:V×V)(e:V5):Prop:=aO p.1 e.key/\aO p.2 e.val
theorem sB:∀{ps:List (V×V)} {es:List V5},Paired Fj ps es->ps.length=es.length/\∀{i:Nat} {e:V5},es[i]?=Z e->∃k v,ps[i]?=Z (k,v)/\aO k e.key/\aO v e.val
 | _,_,.nil=>⟨rfl,λe=>by cases e⟩
 | (k,v)::ps,e::es,.cons r t=>by
  obtain⟨l,g⟩:=sB t;refine⟨by simp_all,λ{i e'} q=>?_⟩;cases i with
  | zero=>cases q;exact⟨k,v,rfl,r.1,r.2⟩
  | succ i=>exact g q
def Az {P:TR}{w:TY}{K:Tp}{xs:List T9}{kt:Nat}{pos:Pos}{u:HO}{ps:List (V×V)}(d it:Th)(o:Obj)(es:Array V5)(ep:Nat)(hne:d≠it)(hx:o.ExactDict)(ho:o.data=.dict es ep)(hr:Paired Fj ps es.toList) :
  Ag P w K (.Tuple xs kt pos) (Qx d o u ps) [it] it (λi h=>∃ok ov,V1 h it d i es.size ep ok ov) where
 mem:=by simp
 obj:=λi h st c hc=>by
  obtain⟨ok,ov,he⟩:=st;rw[UU.mp hc];exact⟨_,he,λv z=>by cases z⟩
 keep:=λi h h' st k=>st.imp λok x=>x.imp λov he=>k it (by simp) _ he
 item:=by
  intro X hP hw hK hc i af s σ H E I hf st hg;subst hP hw hK;obtain⟨ok,ov,he⟩:=st;obtain⟨hd,hi⟩:=hg;obtain⟨l,gp⟩:=sB hr;have l:ps.length=es.size:=l.trans UH;have g:=(show bM X.prog X.w H s.heap d (.frz o u) from I.hok d _ hd).1;have hi':i<es.size:=l▸hi;obtain⟨k,v,ex,rk,rv⟩:=gp (i:=i) (e:=es[i]) (by rw[UK];exact Ua hi');have hel:it<s.heap.objs.size:=Tr he;refine Hm he ⟨o,g,hx,ho⟩ hi' λh' hout hT hk=>⟨_,rfl,?_⟩
  refine wpAny_letOwnedTupleGo_items hout λh2 he2 hs2=>?_
  have hT2:h2.get? s.heap.objs.size=Z {cls:=.type "tuple",data:=.seq #[es[i].key,es[i].val]}:=(hs2.2 _ (VA hel)).trans hT;have fr:H s.heap.objs.size=Y:=I.hok.fresh (Te _);have new:bM X.prog X.w (bj H s.heap.objs.size (.tup [k,v])) h2 s.heap.objs.size (.tup [k,v]):=
   ⟨TL (by decide:2<=1000) (by rw[Uo];decide),[es[i].key,es[i].val],.cons rk (.cons rv .nil),⟨_,hT2,rfl,_,rfl⟩⟩
  have I2:=oY (t':=s.toks) I hf (λc o hc q=>(hs2.2 c (λz=>hc (by simp[z]))).trans (hk c o (λz=>hc (by simp[z])) q)) (Te _) new;refine⟨.ref s.heap.objs.size,_,I2,rfl,⟨_,k,v,fr,ex,rfl,rfl⟩,⟨_,_,he2⟩,λc hc=>?_⟩;rw[UU.mp hc,ao (TB hel)];exact(hf it (by simp)).1
 done:=by
  intro X hP hw hK hc i af s σ H E I hf st hg;subst hP hw hK;obtain⟨ok,ov,he⟩:=st;obtain⟨hd,hi⟩:=hg;obtain⟨l,_⟩:=sB hr;have l:ps.length=es.size:=l.trans UH;have g:=(show bM X.prog X.w H s.heap d (.frz o u) from I.hok d _ hd).1;exact MU (show X.A.handled=Y from I.ok.hd hc) he ⟨o,g,hx,ho⟩ (by omega) λh' hb=>⟨rfl,vP (t':=s.toks) I hf λc o hc q=>hb c o (λz=>hc (by simp[z])) q⟩
 self:=λA i s Q E st h=>by
  obtain⟨ok,ov,he⟩:=st;exact JB he h
def wn (H:Hp)(u:HO)(ps:List (V×V)):Prop:=
 (∃vs,u=.dK vs/\ps=vs.map λp=>(kV p.1,p.2))\/∃ts,u=.dT ts/\Paired (λ(p:V×V) (q:List bN×V)=>(∃b,p.1=.ref b/\H b=Z (.tup (q.1.map kV)))/\p.2=q.2) ps ts
section
variable {prog:TR}{w:TY}{H:Hp}{h:UG}{d:Th}
theorem tQ:∀{es:List V5} {ws:List (bN×Td)} {vs:List (bN×V)},Pairs (bC prog w) es ws->KV vs ws->Paired Fj (vs.map λp=>(kV p.1,p.2)) es
 | _,_,vs,.nil,r=>by cases r;exact .nil
 | _,_,vs,.cons hk hv t,r=>by
  cases r with
  | @cons p q _ _ h1 h2=>
   obtain⟨e,rv⟩:=h1;exact .cons ⟨IQ (by rwa [e]),by rwa [hv]⟩ (tQ t h2)
theorem uj:∀{ts:List (List bN×V)} {xs:List (List bN×Th×Td)},Paired (λ(p:List bN×V) (q:List bN×Th×Td)=>p.1=q.1/\H q.2.1=Z (.tup (p.1.map kV))/\aO p.2 q.2.2) ts xs->
  ∃ps,Paired (λ(p:V×V) (q:List bN×V)=>(∃b,p.1=.ref b/\H b=Z (.tup (q.1.map kV)))/\p.2=q.2) ps ts/\Paired Fj ps (xs.map (aad (WE (bC prog w))))
 | _,_,.nil=>⟨[],.nil,.nil⟩
 | _,_,.cons (a:=p) (b:=q) r t=>by
  obtain⟨ps,h1,h2⟩:=uj t;exact⟨(.ref q.2.1,p.2)::ps,.cons ⟨⟨q.2.1,rfl,r.2.1⟩,rfl⟩ h1,.cons ⟨rfl,r.2.2⟩ h2⟩
def Hq {u:HO}(hu:J0 u)(hok:bM prog w H h d u):(d==UA)=false/\∃o es ep ps,h.get? d=Z o/\o.ExactDict/\o.data=.dict es ep/\Paired Fj ps es.toList/\wn H u ps:=by
 rcases hu with⟨vs,rfl⟩|⟨ts,rfl⟩
 ·obtain⟨z,lo,ws,rel,hof⟩:=hok;obtain⟨o,es,ep,g,h3,h4,h5,h6,h7⟩:=hof;exact⟨lo,o,es,ep,_,g,h3,h4,tQ h6 rel,.inl ⟨vs,rfl,rfl⟩⟩
 ·obtain⟨z,lo,xs,rel,o,es,ep,g,h2,h3,h4,_⟩:=hok;obtain⟨ps,h5,h6⟩:=uj   rel;exact⟨lo,o,es,ep,ps,g,h2,h3,by rwa [h4],.inr ⟨ts,rfl,h5⟩⟩
end
def E7 {X:Cx}{e:T9}{te:TE}{es:List T9}(he:PE X e te)(hbase:Uw e "items" X.env (Uy e X.env)=Uy e X.env:=by rfl)(hline:(apos.endLine==cpos.line)=true:=by rfl) :
  PI X (.Tuple es kt tp) (.Call (.Attribute e "items" apos) [] [] cpos) (λσ H R=>te σ H λx H1=>∃d u,x=.ref d/\H1 d=Z u/\J0 u/\∀o ps,wn H1 u ps->(∀o v,X.H₀ d≠Z (.frz o v))->R (Qx d o u ps) (bj H1 d (.frz o u))):=by
 intro af s σ H R I h;refine XH hbase hline (bQ (he af s σ H _ I h) λv s1 hxx=>?_);obtain⟨x,H1,I1,r1,d,u,rfl,hd,hu,q1⟩:=hxx;have r1:v=.ref d:=r1;subst r1;obtain⟨lo,o,ents,ep,ps,g,h3,h4,rel,po⟩:=Hq hu (I1.hok d _ hd);refine⟨"dict","dict.items",PySem.F.plainAttrs_dict,PySem.F.slot_dict_items,PySem.F.type_dict_items,⟨o,g,h3.1⟩,λb eb=>by cases eb;exact⟨o,g,h3.2.1⟩,VC rfl (PySem.evalArgs_none ?_)⟩;refine W3 PySem.F.slot_dict_items ⟨o,g,h3.1⟩ PySem.F.entry_dict_items (PySem.F.args_dict_items_1 _) (FE lo) ⟨⟨ents,ep,o,g,h3,h4⟩,?_⟩;have raw:nB (s1.heap.push {cls:=.type "dict_items",data:=.fields #[.ref d]}) d ents ep:=⟨o,Tc _ g,h3,h4⟩;refine Jf (s:={s1 with heap:=s1.heap.push {cls:=.type "dict_items",data:=.fields #[.ref d]}}) ⟨_,Tj _ rfl,rfl,rfl⟩ raw ?_;have I2:=MN I1 hd hu g;have hlt:d<s1.heap.objs.size:=Tr g;have I3:=I2.kept (h':=(s1.heap.push {cls:=.type "dict_items",data:=.fields #[.ref d]}).push {cls:=.type "dict_itemiterator",data:=.fields #[.none,.bool false,.ref d,.int 0 0,.int ents.size 0,.int ep 0,.none,.none]}) (t':=s1.toks) λb u e=>Tc _ (Tc _ e)
 have sz:(s1.heap.push {cls:=.type "dict_items",data:=.fields #[.ref d]}).objs.size=s1.heap.objs.size+1:=Wo ..;refine⟨_,[_],_,_,_,rfl,I3,Az d _ o ents ep (by rw[sz];exact TB (Wu hlt)) h3 h4 rel,⟨.none,.none,Tj _ rfl⟩,λb hb=>?_,q1 o ps po λo' v e=>?_⟩
 ·have hb:b=(s1.heap.push {cls:=.type "dict_items",data:=.fields #[.ref d]}).objs.size:=UU.mp hb;have le:s1.heap.objs.size<=b:=by rw[hb,sz];exact Vz _
  exact I2.fpOk le (I2.hok.fresh le)
 ·have z:=I1.base.frzs d o' v e;rw[hd] at z;exact hu.no.2.2.1 _ _ (T4 z)
def iF (d:D)(M:aq):Option (List (D×D)):=match d with
 | .mr i=>match M[i]? with
  | some (.dK kvs)=>Z (kvs.map λp=>(uZ p.1,p.2))
  | some (.dT kvs)=>Z (kvs.map λp=>(.tup (p.1.map uZ),p.2))
  | _=>Y
 | _=>Y
def iI (p:D×D):D:=.tup [p.1,p.2]
def fH (n:Nat)(sg:GG)(ge:GE)(g:GE):GE:=λρ M=>(g ρ M).bind λd M1=>match iF d M1 with
 | some ds=>if ds.all (λp=>(dJ p.2).isSome)=true then
   match aT ⟨ds.map iI,Y⟩ n sg bq ge (ds.map iI) (TH ρ.length Y) [] with
   | .ok es _=>if es.all (λe=>(dJ e).isSome)=true/\es.length<=To then .ok (.lst es) M1 else .bad
   | _=>.bad
  else .bad
 | none=>.bad
section
variable {K:Tp}{θ θ':List Th}{H H':Hp}{M:aq}{d:Th}
theorem A6:∀{ds:List D} {ks:List Int},oC ds=Z ks->ds=ks.map D.int
 | [],ks,h=>by cases h;rfl
 | x::ds,ks,h=>by
  cases x with
  | int i=>
   obtain⟨r,e,rfl⟩:=TZ.mp (h);rw[A6 e];rfl
  | _=>cases h
def zq (h:(dJ x).isSome=true)(r:cz K θ H x v)(hk:∀b xs,H b=Z (.tup xs)->H' b=Z (.tup xs)/\b∉θ'):cz K θ' H' x v:=by
 obtain⟨ks,e⟩:=Xx.mp h;obtain⟨b,rfl,t⟩:=kj e r;cases x with
 | tup ds=>
  have ed:=A6 (e);subst ed;exact⟨b,_,rfl,hk b _ t.1,jY _⟩
 | _=>cases e
theorem yD (hk:∀b xs,H b=Z (.tup xs)->H' b=Z (.tup xs)/\b∉θ'):∀{xs:List D} {vs:List V},xs.all (λe=>(dJ e).isSome)=true->aY K θ H xs vs->aY K θ' H' xs vs
 | [],vs,_,r=>r
 | x::xs,vs,h,r=>by
  rw[V8,Tz] at h;obtain⟨v,vr,e,r1,r2⟩:=r;exact⟨v,vr,e,zq h.1 r1 hk,yD hk h.2 r2⟩
def AH {ds:List (D×D)}(hw:Wr K θ H M)(hM:M[i]?=Z m)(ha:θ[i]?=Z d)(hp:iF (.mr i) M=Z ds) :
  ∃u,H d=Z u/\J0 u/\∀ps,wn H u ps->ps.length=ds.length/\∀(j:Nat) (p:D×D),ds[j]?=Z p->∃k v,ps[j]?=Z (k,v)/\(∀H2:Hp,(∀b xs,H b=Z (.tup xs)->H2 b=Z (.tup xs))->cz K [] H2 p.1 k)/\cz K θ H p.2 v:=by
 have at_:=hw.at_ i d m ha hM;unfold iF at hp;dsimp only at hp;rw[hM] at hp;cases m with
 | dK kvs=>
  cases hp;obtain⟨vs,e,r⟩:=at_;refine⟨_,e,.inl ⟨vs,rfl⟩,λps po=>?_⟩;rcases po with⟨vs',q,rfl⟩|⟨ts,q,_⟩
  ·cases q;refine⟨by rw[TC,TC,gO r],λj p ej=>?_⟩;rw[Us] at ej;obtain⟨⟨k,x⟩,ek,rfl⟩:=TZ.mp ej;obtain⟨v,ev,rv⟩:=s9 r ek;exact⟨kV k,v,by rw[Us,ev];rfl,λ_ _=>by cases k <;> exact rfl,rv⟩
  ·cases q
 | dT kvs=>
  cases hp;obtain⟨vs,e,r⟩:=at_;refine⟨_,e,.inr ⟨vs,rfl⟩,λps po=>?_⟩;rcases po with⟨vs',q,_⟩|⟨ts,q,pr⟩
  ·cases q
  ·cases q;have get:∀{ps:List (V×V)} {ts:List (List bN×V)},Paired (λ(p:V×V) (q:List bN×V)=>(∃b,p.1=.ref b/\H b=Z (.tup (q.1.map kV)))/\p.2=q.2) ps ts->ps.length=ts.length/\∀(j:Nat) (q:List bN×V),ts[j]?=Z q->∃b,ps[j]?=Z (.ref b,q.2)/\H b=Z (.tup (q.1.map kV)):=λ{ps ts} h=>by
    induction h with
    | nil=>exact⟨rfl,λj q e=>by cases e⟩
    | @cons p q ps ts r t ih=>
     refine⟨by rw[Ug,Ug,ih.1],λj q' e=>?_⟩;cases j with
     | zero=>
      cases e;obtain⟨⟨b,e1,e2⟩,e3⟩:=r;exact⟨b,by rw[<-e1,<-e3];rfl,e2⟩
     | succ j=>exact ih.2 j q' e
   obtain⟨g1,g2⟩:=get pr;refine⟨by rw[g1,TC,gO r],λj p ej=>?_⟩;rw[Us] at ej;obtain⟨⟨k,x⟩,ek,rfl⟩:=TZ.mp ej;obtain⟨v,ev,rv⟩:=s9 r ek;obtain⟨b,eb,hb⟩:=g2 j _ ev;exact⟨_,_,eb,λH2 q=>⟨b,_,rfl,⟨q _ _ hb,Wm⟩,BA k⟩,rv⟩
 | _=>cases hp
end
section
variable {X:Cx}{scope:X8}{xs R:List Str}{sg:GG}{e elt:T9}{tes:List T9}{pos apos cpos tp:Pos}{kt:Nat}{g ge:GE}
def C9 (hS:cG scope X.env.kindOf xs R X.N=true)(hc:X.calm=true)(he0:PE X e (tE X g))(own:xM xs.length sg)(hg:∀fp s H C,PG (aD X scope xs R fp s H C) (.Tuple tes kt tp) (tG (aD X scope xs R fp s H C) sg))
  (he:∀fp s H C,PE (aD X scope xs R fp s H C) elt (tE (aD X scope xs R fp s H C) ge))
  (hbase:Uw e "items" X.env (Uy e X.env)=Uy e X.env:=by rfl) (hline:(apos.endLine==cpos.line)=true:=by rfl)
  (hs:∀x,Um (.Call (.Attribute e "items" apos) [] [] cpos) X.env x=pure x:=by intro _;rfl) :
  PE X (.ListComp elt [⟨.Tuple tes kt tp,.Call (.Attribute e "items" apos) [] [] cpos,[],0⟩] scope pos) (tE X (fH xs.length sg ge g)):=by
 have S:=cj.of hS;intro af s σ H Q I h;obtain⟨ρ,θ,M,hd,hw,h⟩:=h;rw[eval_ListComp];refine wpAny_comprehension_free (use:=Y) rfl hs (lu (S.cells I)) S.kind S.lnames ?_;refine bQ (E7 (es:=tes) (kt:=kt) (tp:=tp) he0 hbase hline af s σ H (λJ H2=>∃i M1 θ1 H1 d u o ds ps,J=Qx d o u ps/\H2=bj H1 d (.frz o u)/\g ρ M=.ok (.mr i) M1/\Go X.K θ H θ1 H1 M1/\θ1[i]?=Z d/\H1 d=Z u/\J0 u/\(∀o v,X.H₀ d≠Z (.frz o v))/\iF (.mr i) M1=Z ds/\
   ps.length=ds.length/\∀(j:Nat) (p:D×D),ds[j]?=Z p->∃k v,ps[j]?=Z (k,v)/\(∀H2:Hp,(∀b xs,H1 b=Z (.tup xs)->H2 b=Z (.tup xs))->cz X.K [] H2 p.1 k)/\cz X.K θ1 H1 p.2 v) I ?_) λv s1 h1=>bQ h1 λitv s2 h2=>?_
 ·refine⟨ρ,θ,M,hd,hw,?_⟩;cases q:g ρ M with
  | bad=>unfold fH at h;rw[q] at h;exact h
  | err c M1=>unfold fH at h;rw[q] at h;exact h
  | ok dx M1=>
   intro v θ1 H1 g1 r1;unfold fH at h;rw[q] at h;have h:aF X θ H Q (match iF dx M1 with
    | some ds=>if ds.all (λp=>(dJ p.2).isSome)=true then
      match aT ⟨ds.map iI,Y⟩ xs.length sg bq ge (ds.map iI) (TH ρ.length Y) [] with
      | .ok es _=>if es.all (λe=>(dJ e).isSome)=true/\es.length<=To then .ok (.lst es) M1 else .bad
      | _=>.bad
     else .bad
    | none=>.bad):=h
   cases qp:iF dx M1 with
   | none=>rw[qp] at h;exact h.elim
   | some ds=>
    cases dx with
    | mr i=>
     obtain⟨d,rfl,ta⟩:=r1;obtain⟨m,em⟩:∃m,M1[i]?=Z m:=by
      cases q:M1[i]? with
      | some m=>exact⟨m,rfl⟩
      | none=>unfold iF at qp;dsimp only at qp;rw[q] at qp;cases qp
     obtain⟨u,hu,du,pd⟩:=AH g1.wr em ta qp;refine⟨d,u,rfl,hu,du,λo ps po h0=>?_⟩;obtain⟨l1,l2⟩:=pd ps po;exact⟨i,M1,θ1,H1,d,u,o,ds,ps,rfl,rfl,rfl,g1,ta,hu,du,h0,qp,l1,l2⟩
    | _=>cases qp
 obtain⟨it,fp,tn,J,H2,rfl,I2,T,st2,f2,i,M1,θ1,H1,d,u,o,ds,ps,rfl,rfl,qg,g1,ta,hu,du,h0,qp,l1,l2⟩:=h2;unfold fH at h;rw[qg] at h;have h:aF X θ H Q (match iF (.mr i) M1 with
  | some ds=>if ds.all (λp=>(dJ p.2).isSome)=true then
    match aT ⟨ds.map iI,Y⟩ xs.length sg bq ge (ds.map iI) (TH ρ.length Y) [] with
    | .ok es _=>if es.all (λe=>(dJ e).isSome)=true/\es.length<=To then .ok (.lst es) M1 else .bad
    | _=>.bad
   else .bad
  | none=>.bad):=h
 rw[qp] at h;dsimp only at h
 by_cases hv:ds.all (λp=>(dJ p.2).isSome)=true
 case neg=>rw[if_neg hv] at h;exact h.elim
 rw[if_pos hv] at h;cases q:aT ⟨ds.map iI,Y⟩ xs.length sg bq ge (ds.map iI) (TH ρ.length Y) [] with
 | bad=>rw[q] at h;exact h.elim
 | err c Mx=>exact(iE _ _ q).elim
 | ok es Mend=>
  rw[q] at h;dsimp only at h
  by_cases hes:es.all (λe=>(dJ e).isSome)=true/\es.length<=To
  case neg=>rw[if_neg hes] at h;exact h.elim
  rw[if_pos hes] at h;have nd:∀{b:Th} {v:HO},H1 b=Z v->v≠u->b≠d:=λ{b v} e n z=>by
   rw[z,hu] at e;exact n (T4 e).symm
  have hw2:Wr X.K [] (bj H1 d (.frz o u)) []:=⟨rfl,nodup_nil,λi a m e=>(by cases e),g1.wr.tb.at_ hu du.no.2.2.2.2⟩;have up0:∀b xs,H1 b=Z (.tup xs)->bj H1 d (.frz o u) b=Z (.tup xs)/\b∉([]:List Th):=λb xs e=>⟨by rw[ao (nd e λz=>du.no.1 _ z.symm)];exact e,Wm⟩
  have hJ:G4 X.K (Qx d o u ps) [] (bj H1 d (.frz o u)) ⟨ds.map iI,Y⟩:=by
   intro θ3 H3 M3 g3 _ j;have hz:H3 d=Z (.frz o u):=g3.keep d _ aV Wm (by intro _ z;cases z);refine⟨λdd e=>?_,λhl=>⟨hz,by rw[l1];rw[TC] at hl;exact hl⟩⟩;have e:(ds.map iI)[j]?=Z dd:=e;rw[Us] at e;obtain⟨p,ep,rfl⟩:=TZ.mp e;obtain⟨k,v,ev,r1,r2⟩:=l2 j p ep;have r2':cz X.K [] (bj H1 d (.frz o u)) p.2 v:=zq (Ti.mp hv p (UT ep)) r2 up0;have r1':cz X.K [] (bj H1 d (.frz o u)) p.1 k:=r1 _ λb xs e=>(up0 b xs e).1
   refine⟨⟨hz,(Tf.mp ev).1⟩,λx H4 y=>?_⟩;obtain⟨a,k',v',na,e2,eH,ex⟩:=y;rw[ev] at e2;cases e2;subst eH ex;exact⟨cR g3.wr na,gH (ds:=[p.1,p.2]) g3.wr na ⟨_,_,rfl,r1'.go g3,_,_,rfl,r2'.go g3,rfl⟩⟩
  refine nN (θ1:=[]) (M1:=[]) (ρ:=TH ρ.length Y) (RR:=λacc C=>compPost (TF X.prog X.w) X.A X.xe Y (EP X af σ Q) acc C) S hc I2 T st2 f2 hw2 ⟨by rw[Zw,hd.len],λi d e=>by rw[Y0] at e;split at e <;> cases e⟩ hJ q hes.2 (λC=>yl fp s2 _ C) own (λC=>hg fp s2 _ C) (λC=>he fp s2 _ C) ?_;intro acc C s' H' θ' vs m IX hnC fC g' na rd;refine⟨m,hnC,λh' sb=>?_⟩;have I3:L2.Inv X af σ (bj H' acc (.lst vs)) {s' with heap:=h',toks:=s'.toks}:=IX.turned (it:=C) (λb o hb e=>(sb.2 b hb).trans e) fC.1 fC.2.1 fC.2.2.2.1 fC.2.2.2.2.1 fC.2.2.2.2.2;have hzd:H' d=Z (.frz o u):=g'.keep d _ aV Wm (by intro _ z;cases z);have da:d≠acc:=λz=>by rw[<-z,hzd] at na;cases na
  have I4:=MW I3 (by rw[ao da];exact hzd) du h0;generalize hHf:bj (bj H' acc (.lst vs)) d u=Hf at I4;have eA:Hf acc=Z (.lst vs):=by rw[<-hHf,ao (Uj da),aV]
  have eD:Hf d=Z u:=by rw[<-hHf,aV]
  have up:∀{b:Th} {v:HO},H' b=Z v->v≠.frz o u->Hf b=Z v:=λ{b v} e n=>by
   have h1:b≠d:=λz=>by rw[z,hzd] at e;exact n (T4 e).symm
   have h2:b≠acc:=λz=>by rw[z,na] at e;cases e
   rw[<-hHf,ao h1,ao h2];exact e
  have nfz:∀{v:HO},(∀o v',v≠.frz o v')->v≠.frz o u:=λq=>q _ _
  have agree:∀b v,H1 b=Z v->(∀ps,v≠.tbl ps)->Hf b=Z v:=λb v e n=>by
   by_cases z:b=d
   ·rw[z] at e ⊢;rw[hu] at e;rw[eD];exact e
   ·have e2:H' b=Z v:=g'.keep b v (by rw[ao z];exact e) Wm n;have h2:b≠acc:=λz=>by rw[z,na] at e2;cases e2
    rw[<-hHf,ao z,ao h2];exact e2
  have tk:∀b ps,H1 b=Z (.tbl ps)->∃ps',Hf b=Z (.tbl ps'):=λb ps e=>by
   obtain⟨ps',e2⟩:=g'.tkeep b ps (by rw[ao (nd e λz=>du.no.2.2.2.1 _ z.symm)];exact e);exact⟨ps',up e2 (by intro z;cases z)⟩
  have gr:Grow θ1 H1 θ1 Hf:=⟨⟨[],(Xc _).symm,λ_ z=>by cases z⟩,λb v e _ n=>agree b v e n,tk⟩;have tb:=g'.wr.tb;have tb2:m3 X.K Hf:=by
   refine⟨λx hx c P e=>?_,λx hx c P e=>?_⟩
   ·obtain⟨ps,a1,a2,a3⟩:=tb.tab x hx c P e;refine⟨ps,up a1 (by intro z;cases z),a2,λpos cv q=>?_⟩;obtain⟨c',e1,e2⟩:=a3 pos cv q;exact⟨c',e1,up e2 (by intro z;cases z)⟩
   ·obtain⟨bm,ob,a1,a2,a3⟩:=tb.bm x hx c P e;refine⟨bm,ob,a1,up a2 λz=>?_,a3⟩;unfold QJ at z;injection z with z1 z2
    rcases du with⟨vs,e⟩|⟨ts,e⟩ <;> (rw[e] at z2;cases z2)
  have wr:Wr X.K θ1 Hf M1:=⟨g1.wr.len,g1.wr.nd,λj a m e1 e2=>by
   obtain⟨v,ev,pv⟩:=g1.wr.plain e1;exact(g1.wr.at_ j a m e1 e2).grow gr ((agree a v ev λps z=>by subst z;cases pv).trans ev.symm),tb2⟩
  have nA:acc∉θ1:=λz=>by
   obtain⟨j,hj,e⟩:=Wf.mp z;obtain⟨v,ev,pv⟩:=g1.wr.plain (i:=j) (by rw[Ui hj,e]);have e2:H' acc=Z v:=g'.keep acc v (by rw[ao (Uj da)];exact ev) Wm λps z=>by subst z;cases pv
   rw[na] at e2;cases e2
  have ri:aY X.K θ1 Hf es vs:=yD (λb xs e=>by
   have e2:=up e (by intro z;cases z);exact⟨e2,xW wr e2⟩) hes.1 rd
  exact⟨.ref acc,_,I4,rfl,(aF.go g1 h) _ θ1 Hf ⟨gr,wr⟩ ⟨acc,vs,rfl,⟨eA,nA⟩,ri⟩⟩
end
section
variable {X:Cx}{scope:X8}{xs R:List Str}{sg:GG}{e elt:T9}{tes:List T9}{pos apos cpos tp:Pos}{kt n:Nat}{g ge:GE}
def AT (_:RN pos.line pos.col xs R)(hS:cG scope X.env.kindOf xs R X.N=true)(own:QO xs.length sg)(he0:QE X e g)(hg:∀fp s H C,QG (aD X scope xs R fp s H C) (.Tuple tes kt tp) sg)(he:∀fp s H C,QE (aD X scope xs R fp s H C) elt ge)
  (hn:xs.length=n:=by rfl) (hc:X.calm=true:=by rfl) (hbase:Uw e "items" X.env (Uy e X.env)=Uy e X.env:=by rfl) (hline:(apos.endLine==cpos.line)=true:=by rfl)
  (hs:∀x,Um (.Call (.Attribute e "items" apos) [] [] cpos) X.env x=pure x:=by intro _;rfl) :
  QE X (.ListComp elt [⟨.Tuple tes kt tp,.Call (.Attribute e "items" apos) [] [] cpos,[],0⟩] scope pos) (fH n sg ge g):=hn▸⟨C9 hS hc he0.h own.h (λfp s H C=>(hg fp s H C).h) (λfp s H C=>(he fp s H C).h) hbase hline hs⟩
end
end DL
namespace DL
open PySem PySem.Spec PyProof.Rows PySem.W L2 List
section
variable {prog:TR}{w:TY}{A:Ux}{E:Td->Tg->Prop}{s:Tg}
def A7 {Rz:Array Td->Prop}(hcol:∀R:List Td->Tg->Prop,(∀(h':UG) (tk:Nat),(∀b o,s.heap.get? b=Z o->h'.get? b=Z o)->s.heap.objs.size<=h'.objs.size->R vs {s with heap:=h',toks:=tk})->Tn (TF prog w) A.in1 (collect x) R E s)(h64:vs.length<64)
  (hs:∀(s':Tg) (a:Th),(∀b o,s.heap.get? b=Z o->s'.heap.get? b=Z o)->s'.heap.get? a=Z (Ub "list" vs.toArray 0)->∀P:Fin->Tg->Prop,(∀out,Rz out->P (.done (.ret .none)) {s' with heap:=sortedHeap s'.heap a vs out})->Tn (TF prog w) A.in1.in1 (WH.«list.sort» ⟨[.ref a],[]⟩) P E s')
  (h:∀(out:Array Td) (h':UG) (tk l n':Nat),Rz out->(∀b o,s.heap.get? b=Z o->h'.get? b=Z o)->s.heap.objs.size<=l->h'.get? l=Z (Ub "list" out n')->Q (.ref l) {s with heap:=h',toks:=tk}) :
  Tn (TF prog w) A (call (.builtin "sorted") [x]) Q E s:=by
 refine Xn kind_sorted plain_sorted entry_sorted (args_sorted1 _) ?_;unfold WH.«sorted»;refine Ta  (Tb ?_);refine Ta (hcol _ λh1 tk keep1 hs1=>?_);refine Ta (WL ?_ (by rw[Uo];omega));have hoL:(h1.push (Ub "list" vs.toArray 0)).get? h1.objs.size=Z (Ub "list" vs.toArray 0):=Tj _ rfl;have keep2:∀b o,s.heap.get? b=Z o->(h1.push (Ub "list" vs.toArray 0)).get? b=Z o:=λb o e=>Tc _ (keep1 b o e)
 refine Ta (TV (Ud slot_list_sort ⟨_,hoL,rfl⟩ ZY (hs {s with heap:=h1.push (Ub "list" vs.toArray 0),toks:=tk} _ keep2 hoL _ λout ho=>⟨_,rfl,?_⟩) (args_list_sort _)));obtain⟨e,he⟩:=sortedHeap_at (out:=out) hoL;exact Tb ⟨_,rfl,h out _ tk h1.objs.size e ho (λb o q=>by
  rw[sortedHeap_old (TB (Tr (keep1 b o q))) (Tr (keep2 b o q))];exact keep2 b o q) hs1 he⟩
end
def mP:FD:=λds M=>match ds with
 | [.mr i]=>match M[i]? with
  | some (.dK kvs)=>match xT kvs with
   | some ns=>if ns.length<64 then .ok (.lst ((L2.sortI ns).map D.int)) M else .bad
   | none=>.bad
  | some (.dT kvs)=>match o8 (kvs.map λp=>.tup (p.1.map uZ)) with
   | some zs=>if zs.length<64 then .ok (.lst ((cx zs).map bJ)) M else .bad
   | none=>.bad
  | _=>.bad
 | _=>.bad
section
variable {X:Cx}
def Jb (hc:X.calm=true):QC X (.builtin "sorted") mP:=⟨by
 intro af s σ H xs us Q I r h;obtain⟨θ,M,ds,hw,rd,h⟩:=h;unfold mP at h;split at h
 ·rename_i i;obtain⟨v,e,a,ea,ta⟩:=gZ rd;subst e ea;obtain⟨u,rfl,rx⟩:=j9 r;have rx:u=.ref a:=rx;subst rx;split at h
  ·rename_i kvs qm;split at h
   ·rename_i ns qn;split at h
    ·rename_i hl;obtain⟨vs,hv,ra⟩:=hw.at_ i a _ ta qm;obtain⟨z,lo,ws,rel,hof⟩:=(show bM X.prog X.w H s.heap a (.dK vs) from I.hok a _ hv);have kk:ws.map (·.1)=ns.map T1:=by rw[<-rel.keys,<-vC ra];exact Gf qn
     obtain⟨o,es,ep,ho,hx,hd,hks,hpr,hn⟩:=hof;have el:∀{es:List V5} {ws:List (bN×Td)} {ns:List Int},Pairs (bC X.prog X.w) es ws->ws.map (·.1)=ns.map T1->UE (es.map (·.key)) ns:=by
      intro es ws ns q
      induction q generalizing ns with
      | nil=>intro e;cases ns with
       | nil=>exact .nil
       | cons _ _=>cases e
      | cons hq hv t ih=>
       intro e;cases ns with
       | nil=>cases e
       | cons n ns=>
        rw[V2,V2] at e;obtain⟨e1,e2⟩:=YJ e;rw[e1] at hq;rcases bU (show tW (T1 n) _=true from hq) with⟨i,t',ei,ek⟩|⟨_,_,ex,_⟩
        ·cases ei;rw[V2,ek];exact .cons _ _ (ih e2)
        ·cases ex
     have ia:=el hpr kk;have li:=D4 ia;rw[TC,UH] at li;refine A7 (vs:=es.toList.map (·.key)) (Rz:=λout=>∃ns',UE out.toList ns'/\ns'.Perm ns/\ns'.Pairwise (·<=·)) (λR q=>qQ (BE lo) (show X.A.handled=Y from I.ok.hd hc) ⟨o,ho,hx,hd⟩ (by rw[li,Uo];omega) λh' tk acc k1 k2 hacc=>?_) (by rw[TC,UH,li];exact hl)
      (λs' b k hb P q=>list_sort_tree hb ia (by rw[TC,UH,li];exact hl) λout ns' a1 a2 a3=>q out ⟨ns',a1,a2,a3⟩) λout h' tk l n' ok k hll g=>?_
     ·have e:acc.toList=es.toList.map (·.key):=by
       apply ext_getElem?;intro j;rw[UK,Us,UK]
       by_cases hj:j<acc.size
       ·obtain⟨e',he,hv⟩:=hacc.2 j _ (Ua hj);rw[Ua hj,hv,he];rfl
       ·rw[U8 (by omega),U8 (by rw[<-hacc.1];omega)];rfl
      rw[e];exact q h' tk k1 k2
     ·obtain⟨ns',a1,a2,a3⟩:=ok;have es:ns'=L2.sortI ns:=L2.sort_uniq (a2.trans (L2.sortI_perm ns).symm) a3 (L2.sortI_le ns);subst es;have lm:(L2.sortI ns).length=ns.length:=(L2.sortI_perm ns).length_eq;refine tR (vs:=(L2.sortI ns).map V.int) (out:=out.toList) I hw k hll (by rw[Array.toArray_toList];exact g) ?_ (by rw[TC,lm,Uo];omega) (jY _) h;exact Ab a1
    ·exact h.elim
   ·exact h.elim
  ·rename_i kvs qm;split at h
   ·rename_i zs qz;split at h
    ·rename_i hl;obtain⟨vs,hv,ra⟩:=hw.at_ i a _ ta qm;obtain⟨z,lo,ys,rel,o,es,ep,h1,h2,h3,h4,_⟩:=(show bM X.prog X.w H s.heap a (.dT vs) from I.hok a _ hv);obtain⟨T,lz,f⟩:=sQ I qz (yL hw ra rel) (zx ys);rw[TC] at lz;have sz:es.size=ys.length:=by rw[<-UH,h4,TC]
     refine A7 (vs:=ys.map λq=>TU q.2.1) (Rz:=λout=>∃p:List Nat,p.Perm (Tw zs.length)/\p.map (λi=>zs.getD i [])=cx zs/\out=Uu (p.map λi=>(ys.map λq=>TU q.2.1).getD i Ue)) (λR q=>qQ (BE lo) (show X.A.handled=Y from I.ok.hd hc) ⟨o,h1,h2,h3⟩ (by rw[sz,Uo];omega) λh' tk acc k1 k2 hacc=>?_) (by rw[TC];omega)
      (λs' b k hb P q=>lT hb (T.keep k) (by rw[TC];omega) λp hp hu=>q _ ⟨p.toList,?_,?_,rfl⟩) λout h' tk l n' ok k hll g=>?_
     ·have e:acc.toList=ys.map λq=>TU q.2.1:=by
       apply ext_getElem?;intro j;rw[UK,Us]
       by_cases hj:j<acc.size
       ·obtain⟨e',he,hx⟩:=hacc.2 j _ (Ua hj);rw[Ua hj,hx];rw[<-UK,h4,Us] at he;obtain⟨y,hy,rfl⟩:=TZ.mp he;rw[hy];rfl
       ·rw[U8 (by omega),ZD (by rw[<-sz,<-hacc.1];omega)];rfl
      rw[e];exact q h' tk k1 k2
     ·rw[TC,lz] at hp;simpa using V0.mp hp
     ·rw[TC,lz] at hp hu;exact va hp hu
     ·obtain⟨p,hpl,es2,rfl⟩:=ok;have inR:∀i∈p,i<zs.length:=λi hi=>XT.mp (hpl.subset hi)
      refine tR (vs:=p.map λi=>(ys.map λq=>V.ref q.2.1).getD i V.non) I hw k hll g (pV _ λi hi=>(f i (inR i hi)).2) (by rw[TC,hpl.length_eq,VD,Uo];omega) ?_ h;rw[<-es2,Z4];exact pN _ λi hi=>(f i (inR i hi)).1
    ·exact h.elim
   ·exact h.elim
  ·exact h.elim
 ·exact h.elim⟩
end
end DL
namespace DL
open PySem PySem.Spec PyProof.Rows L2 List
def RE (xs ys:List D):List D:=xs.zipWith (λx y=>D.tup [x,y]) ys
section
variable {X:Cx}{k:Nat}{o i e a b:T9}{go gi ge:GE}{gA:GA}{pos p:Pos}
def S4 (hr:bo k X.A):X.A.units+1<XE:=UW (YD (by decide) _) hr.units
def Hx (hr:bo k X.A)(ho:QE X o go)(hi:QE X i gi)(hs:CY i:=by intro _ _;rfl):QE X (.Subscript o i pos) (g2 zP go gi):=⟨Ib (S4 hr) ho.h hi.h hs⟩
end
end DL
namespace DL
open PySem PySem.Spec PyProof.Rows L2 List
open AutoSeq1 (wpAny_loadPart')
def S5 (ds:List D)(M:aq):bi mY:=match ds with
 | [.lst xs,.lst ys]=>if xs.length=ys.length then .ok ⟨lO (RE xs ys),Y⟩ M else .bad
 | _=>.bad
def qY (d:D)(M:aq):D:=match now d M with
 | .lst xs=>.lst (xs.map λx=>now x M)
 | d=>d
def Ki (neg:Bool):F2:=λx y M=>if bH 40 (qY x M)&&bH 40 (qY y M) then .ok (.bl (rZ (qY x M) (qY y M) != neg)) M else .bad
section
variable {X:Cx}
theorem og (I:Inv X af σ H s)(hw:Wr X.K θ H M):∀(ds:List D) (n:Nat) (vs:List V) (us:List Td),bn n (ds.map λx=>now x M)=true->aY X.K θ H ds vs->aS vs us->∃as,ReadsAll s.heap us (pc (ds.map λx=>now x M)) as
 | [],n,vs,us,h,r,q=>by subst r;cases q;exact⟨_,.nil⟩
 | d::ds,n,vs,us,h,r,q=>by
  have h:=TJ.mp (h);obtain⟨v,rr,e,r1,r2⟩:=r;subst e;cases q with
  | cons q1 q2=>
   obtain⟨as,R1⟩:=jR I hw h.1 r1 q1;obtain⟨bs,R2⟩:=og I hw ds n rr _ h.2 r2 q2;exact⟨_,.cons R1 R2⟩
def vZ (I:Inv X af σ H s)(hw:Wr X.K θ H M)(h:bH n (qY d M)=true)(r:cz X.K θ H d v)(q:aO v u):∃as,Reads s.heap u (tU (qY d M)) as:=by
 cases d with
 | mr k=>
  obtain⟨a,e,ta⟩:=r;subst e;cases q;cases qm:M[k]? with
  | none=>
   have e:qY (.mr k) M=.mr k:=by simp[qY,now,qm]
   rw[e] at h;cases n <;> exact ff h
  | some m=>
   cases m with
   | lst xs=>
    have e:qY (.mr k) M=.lst (xs.map λx=>now x M):=by simp[qY,now,qm]
    rw[e] at h ⊢;cases n with
    | zero=>exact ff h
    | succ n=>
     obtain⟨vs,hv,ra⟩:=hw.at_ k a _ ta qm;obtain⟨its,rv,⟨o,m,h1,h2,_,h3⟩,_⟩:=I.list (X:=X) (xs:=vs) (.inl (.inl hv));obtain⟨as,R⟩:=og I hw xs n vs its h ra rv;exact⟨_,.list h1 h2 h3 (by simpa using R)⟩
   | _=>
    have e:qY (.mr k) M=.mr k:=by simp[qY,now,qm]
    rw[e] at h;cases n <;> exact ff h
 | lst xs=>
  have e:qY (.lst xs) M=.lst (xs.map λx=>now x M):=rfl;cases n with
  | zero=>exact ff h
  | succ n=>
   obtain⟨a,vs,e,ta,ra⟩:=r;subst e;cases q;obtain⟨its,rv,⟨o,m,h1,h2,_,h3⟩,_⟩:=I.list (ta.sq (K:=X.K));obtain⟨as,R⟩:=og I hw xs n vs its h ra rv;exact⟨_,.list h1 h2 h3 (by simpa using R)⟩
 | _=>exact sZ I _ n v u h r q
def L6 (hu:X.A.units+64<XE):oz X (T8 .NotEq) (rD X (Ki true)):=by
 intro af s σ H x y v u Q I rx ry h;obtain⟨θ,M,dx,dy,hw,r1,r2,h⟩:=h;unfold Ki at h;split at h
 ·rename_i hc;rw[Tz] at hc;obtain⟨as,R1⟩:=vZ I hw hc.1 r1 rx;obtain⟨bs,R2⟩:=vZ I hw hc.2 r2 ry;have l1:=kZ _ _ hc.1;refine SeqAt.compareNe_reads R1 R2 l1.1 (kZ _ _ hc.2).1 (by have:min (tU (qY dx M)).depth (tU (qY dy M)).depth<=(tU (qY dx M)).depth:=ZV _ _;omega) ?_;rw[sd _ _ _ _ hc.1 hc.2];refine⟨.bl _,H,I,rfl,?_⟩;have:=h _ θ H (.refl hw) rfl
  simp_all
 ·exact h.elim
def PB {k:Nat}(hr:bo k X.A):Q2 X (T8 .NotEq) (Ki true):=⟨L6 hr.units⟩
end
end DL
namespace DL
open PySem L2
inductive Wp {α:Type}:bi α->(α->aq->Prop)->Prop where
 | ok {a:α} {M:aq} {Q:α->aq->Prop} (h:Q a M):Wp (.ok a M) Q
def sG (c:Bool)(A B:Prop):Prop:=(c=true->A)/\(c=false->B)
section
variable {α β:Type}{M M1:aq}{ρ:dY}{Q:α->aq->Prop}{A B P:Prop}{c:Bool}
def cy {o:bi α}{a:α}(e:o=.ok a M)(h:Q a M):Wp o Q:=e▸.ok h
def Lk {a:α}(h:Q a M):Wp (.ok a M) Q:=.ok h
def Wp.eq {o:bi α}(h:Wp o Q):∃a M,o=.ok a M/\Q a M:=by
 cases h with
 | ok h=>exact⟨_,_,rfl,h⟩
def Wp.imp {R:α->aq->Prop}{o:bi α}(h:Wp o Q)(i:∀a M,Q a M->R a M):Wp o R:=by
 cases h with
 | ok h=>exact .ok (i _ _ h)
def Wp.is {o:bi α}{a:α}(h:Wp o λd N=>d=a/\N=M):o=.ok a M:=by
 cases h with
 | ok h=>rw[h.1,h.2]
def aA {o:bi β}{f:β->aq->bi α}(h:Wp o λa M=>Wp (f a M) Q):Wp (o.bind f) Q:=by
 cases h with
 | ok h=>exact h
def vD {a b:bi α}(h:sG c (Wp a Q) (Wp b Q)):Wp (if c=true then a else b) Q:=by
 cases c
 ·exact h.2 rfl
 ·exact h.1 rfl
def JZ {n:Nat}{ds:List D}{o b:bi α}(e:ds.length=n)(h:Wp o Q):Wp (if ds.length=n then o else b) Q:=by rwa [if_pos e]
def Kq {b:Bool}(e:c=b)(h:sG b A B):sG c A B:=e▸h
def Ox (h:A):sG true A B:=⟨λ_=>h,nofun⟩
def OD (h:B):sG false A B:=⟨nofun,λ_=>h⟩
def Sw (h:sG c B A):sG (!c) A B:=by cases c <;> exact⟨λ_=>(by first|exact h.1 rfl|exact h.2 rfl|contradiction),λ_=>(by first|exact h.1 rfl|exact h.2 rfl|contradiction)⟩
def JF [Decidable P](h1:P->A)(h2:¬P->B):sG (decide P) A B:=⟨λe=>h1 (of_decide_eq_true e),λe=>h2 (of_decide_eq_false e)⟩
def Pe [Decidable P](p:P)(h:A):sG (decide P) A B:=JF (λ_=>h) λn=>absurd p n
def Pf [Decidable P](p:¬P)(h:B):sG (decide P) A B:=JF (λn=>absurd n p) λ_=>h
end
section
variable {M:aq}{ρ:dY}{Q:D->aq->Prop}{R:Fl->aq->Prop}
def aN {k:Nat}{g:GS}{ds:List D}(h:Wp (g (n6 k ds) M) λf M1=>match f with | .rt d=>Q d M1 | .nx _=>Q .non M1|_=>False):Wp (aU k g ds M) Q:=by
 refine aA (h.imp λf M1 h=>?_);cases f <;> first|exact .ok h|exact h.elim
def uz {n:Nat}{o:bi D}(h:Wp o λd M1=>Wp (jD n (.ok d M1)) Q):Wp (jD n o) Q:=by
 cases h with
 | ok h=>exact h
def Pq {ds:List D}(hl:ds.length<=100000)(h:Q (.tup ds) M):Wp (ve ds M) Q:=by
 unfold ve;rw[if_pos (bX (by omega))];exact .ok h
def FW {ds:List D}(hl:ds.length<=100000)(h:Q (.lst ds) M):Wp (aR ds M) Q:=by
 unfold aR;rw[if_pos (bX (by omega))];exact .ok h
def P6 {ds:List D}(hl:ds.length<=100000)(h:Q (.mr M.length) (M++[.lst ds])):Wp (dQ ds M) Q:=by
 unfold dQ;rw[if_pos (bX (by omega))];exact .ok h
def PX {a b:GE}(h:Wp (a ρ M) λx M1=>∃c,x=.bl c/\sG c (Wp (b ρ M1) Q) (Q (.bl false) M1)):Wp (fM a b ρ M) Q:=by
 refine aA (h.imp λx M1 h=>?_);obtain⟨c,rfl,h⟩:=h;cases c
 ·exact .ok (h.2 rfl)
 ·exact h.1 rfl
def Sl {a b:GE}(h:Wp (a ρ M) λx M1=>∃c,x=.bl c/\sG c (Q (.bl true) M1) (Wp (b ρ M1) Q)):Wp (QM a b ρ M) Q:=by
 refine aA (h.imp λx M1 h=>?_);obtain⟨c,rfl,h⟩:=h;cases c
 ·exact h.2 rfl
 ·exact .ok (h.1 rfl)
def Pb {i j:Int}(h:Q (.bl (decide (i=j))) M):Wp (aW false (.int i) (.int j) M) Q:=cy (sP i j M) h
def Qc {i j:Int}(h:Q (.bl (!decide (i=j))) M):Wp (aW true (.int i) (.int j) M) Q:=cy (zk i j M) h
def Py {a b:Str}(r:Bool)(e:(VE a&&VE b&&((a==b)==r))=true)(h:Q (.bl r) M):Wp (aW false (.str a) (.str b) M) Q:=by
 simp only[Tz,beq_iff_eq] at e;refine cy ((Oj e.1.1 e.1.2 M).trans ?_) h;have:(a==b)=r:=by rw[<-e.2]
 rw[this]
def PJ {i j:Int}(h:(-18446744073709551616<i/\i<18446744073709551616)\/(-18446744073709551616<j/\j<18446744073709551616))(k:Q (.int (i*j)) M):Wp (m7 (.int i) (.int j) M) Q:=by
 have e:m7 (.int i) (.int j) M=.ok (.int (i*j)) M:=by
  unfold m7
  simp_all
 exact cy e k
def Ng {i j:Int}(h0:0<j)(h1:j<=1000000)(k:Q (.int (i / j)) M):Wp (iN (.int i) (.int j) M) Q:=by
 have h2:j.natAbs<2 ^ 20:=by omega
 have h3:j.natAbs≠0:=by omega
 have:=(ZP h3).mpr h2;unfold iN;dsimp only;rw[if_pos ⟨h0,by omega⟩];exact .ok k
def O5 {i j:Int}(h0:0<j)(k:Q (.int (i % j)) M):Wp (jV (.int i) (.int j) M) Q:=by
 unfold jV;dsimp only;rw[if_pos h0];exact .ok k
def LC {a b:List D}(hl:a.length+b.length<=100000)(k:Q (.tup (a++b)) M):Wp (bx (.tup a) (.tup b) M) Q:=by
 unfold bx;dsimp only;rw[if_pos (bX (by omega))];exact .ok k
def KP {j:Int}{Q:mY->aq->Prop}(hl:j<=1000000)(h0:0<=j)(k:Q ⟨aX 0 j.toNat,Y⟩ M):Wp (z6 [.int j] M) Q:=by
 obtain⟨n,rfl⟩:=Ts h0;rw[TK] at k;have e:=zl (n:=n) (by omega) M;exact cy e k
def N8 {go ge:GE}(h:Wp (go ρ M) λo M1=>∃k xs,o=.mr k/\M1[k]?=Z (.lst xs)/\Wp (ge ρ M1) λd M2=>Wp (uH k d M2) Q):Wp (gX go ge ρ M) Q:=by
 refine aA (h.imp λo M1 h=>?_);obtain⟨k,xs,rfl,e,h⟩:=h;dsimp only;rw[e];exact aA h
def Lg {L:List D}{d:D}(hl:L.length<1000000)(h:Q .non (M++[.lst (L++[d])])):Wp (uH M.length d (M++[.lst L])) Q:=cy (FS hl) h
def Od {gi:GI}{ge:GE}(p:D->Bool)(h:Wp (gi ρ M) λt M1=>t.m=Y/\t.ds.length<=100000/\(∀x∈t.ds,Wp (ge (Z x::ρ) M1) λd M2=>d=.bl (p x)/\M2=M1)/\Q (.bl (t.ds.all p)) M1):Wp (aM rH (aa (a8 gi bq ge aR) ag) ρ M) Q:=by
 obtain⟨⟨ds,m⟩,M1,e,h1,h2,h3,h4⟩:=h.eq;cases h1;unfold aM aa a8;rw[e];refine aA (aA (aA (Lk (aA ?_))));have c:=oO (ds0:=ds) (ge:=ge) (ρ:=ρ) (f:=λd=>D.bl (p d)) (M:=M1) ds λx hx=>by
  obtain⟨d,M2,e,r1,r2⟩:=(h3 x hx).eq;rw[e,r1,r2]
 refine cy c (FW (by rw[TC];exact h2) (aA (Lk (Lk ?_))));show Wp (match fR (ds.map λd=>D.bl (p d)) with|some bs=>bi.ok (D.bl (bs.all id)) M1|none=>.bad) Q;rw[GZ];dsimp only;rw[List.all_map];exact .ok h4
end
section
variable {M:aq}{ρ:dY}{Q:Fl->aq->Prop}
def NU {s:GG}{g:GE}(h:Wp (g ρ M) λd M1=>∃ρ1,s d ρ=Z ρ1/\Q (.nx ρ1) M1):Wp (dR s g ρ M) Q:=by
 refine aA (h.imp λd M1 h=>?_);obtain⟨ρ1,e,h⟩:=h;rw[e];exact .ok h
def GC {a b:GS}(P:Fl->aq->Prop)(h1:Wp (a ρ M) P)(h2:∀f N,P f N->Wp (match f with | .nx ρ=>b ρ N | .rt d=>.ok (.rt d) N | .bk ρ=>.ok (.bk ρ) N | .ct ρ=>.ok (.ct ρ) N) Q):Wp (aj a b ρ M) Q:=aA (h1.imp h2)
def J7 {a b:GS}(i:Nat)(h1:Wp (a ρ M) λf N=>∃v:Int,f=.nx (ρ.set i (Z (.int v)))/\N=M)(h2:∀v:Int,Wp (b (ρ.set i (Z (.int v))) M) Q):Wp (aj a b ρ M) Q:=aA (h1.imp λf N h=>by
 obtain⟨v,rfl,rfl⟩:=h;exact h2 v)
def Qm {t:GT}{a b:GS}(P:Prop)[Decidable P](h:Wp (t ρ M) λc N=>c=decide P/\N=M)(h1:P->Wp (a ρ M) Q)(h2:¬P->Wp (b ρ M) Q):Wp (dD t a b ρ M) Q:=aA (h.imp λc N h=>by
 obtain⟨rfl,rfl⟩:=h;exact vD (JF h1 h2))
def EB {s:GG}{body:GS}(I:Nat->dY->aq->Prop){ds0:List D}(ds:List D)(k:Nat)(h0:I k ρ M)
  (ht:∀j d ρ M,ds[j]?=Z d->I (k+j) ρ M->∃ρ1,s d ρ=Z ρ1/\Wp (body ρ1 M) λf M2=>match f with | .nx ρ2=>I (k+j+1) ρ2 M2 | .ct ρ2=>I (k+j+1) ρ2 M2 | .bk ρ2=>Q (.nx ρ2) M2 | .rt d=>Q (.rt d) M2)
  (he:∀ρ M,I (k+ds.length) ρ M->Q (.nx ρ) M):Wp (cn ⟨ds0,Y⟩ s body ds ρ M) Q:=by
 induction ds generalizing k ρ M with
 | nil=>exact .ok (he _ _ h0)
 | cons d ds ih=>
  obtain⟨ρ1,e,h⟩:=ht 0 d ρ M rfl h0;unfold cn;rw[show(⟨ds0,Y⟩:mY).ok M=true from rfl,if_pos rfl,e];have go:∀ρ M,I (k+1) ρ M->Wp (cn ⟨ds0,Y⟩ s body ds ρ M) Q:=λρ M h=>ih (k+1) h (λj d ρ M e h=>by
   have:=ht (j+1) d ρ M (by simpa using e) (by rwa [WM,X4 1 j] at h);rwa [show k+(j+1)+1=k+1+j+1 by omega] at this) λρ M h=>he ρ M (by rwa [Ug,X4 ds.length 1,<-WM])
  refine aA (h.imp λf M2 h=>?_);cases f with
  | nx ρ2=>exact go _ _ h
  | ct ρ2=>exact go _ _ h
  | bk ρ2=>exact .ok h
  | rt d=>exact .ok h
def Eh {α:Type}{s:GG}{body:GS}(f:α->D){xs:List α}(I:Nat->dY->aq->Prop)(h0:I 0 ρ M)
  (ht:∀j x ρ M,xs[j]?=Z x->I j ρ M->∃ρ1,s (f x) ρ=Z ρ1/\Wp (body ρ1 M) λf M2=>match f with | .nx ρ2=>I (j+1) ρ2 M2 | .ct ρ2=>I (j+1) ρ2 M2 | .bk ρ2=>Q (.nx ρ2) M2 | .rt d=>Q (.rt d) M2)
  (he:∀ρ M,I xs.length ρ M->Q (.nx ρ) M):Wp (cn ⟨xs.map f,Y⟩ s body (xs.map f) ρ M) Q:=by
 refine EB I (xs.map f) 0 h0 (λj d ρ M e h=>?_) λρ M h=>he ρ M (by rwa [Uq,TC] at h)
 rw[Uq] at h ⊢;rw[Us] at e;cases g:xs[j]? with
 | none=>rw[g] at e;cases e
 | some x=>
  rw[g] at e;cases e;exact ht j x ρ M g h
def xx {s:GG}{body:GS}(I:Nat->dY->aq->Prop){n:Nat}(h0:I 0 ρ M)
  (ht:∀j ρ M,j<n->I j ρ M->∃ρ1,s (.int j) ρ=Z ρ1/\Wp (body ρ1 M) λf M2=>match f with | .nx ρ2=>I (j+1) ρ2 M2 | .ct ρ2=>I (j+1) ρ2 M2 | .bk ρ2=>Q (.nx ρ2) M2 | .rt d=>Q (.rt d) M2)
  (he:∀ρ M,I n ρ M->Q (.nx ρ) M):Wp (cn ⟨aX 0 n,Y⟩ s body (aX 0 n) ρ M) Q:=by
 have l:(aX 0 n).length=n:=by unfold aX;rw[TC,VD]
 refine EB I (aX 0 n) 0 h0 (λj d ρ M e h=>?_) λρ M h=>he ρ M (by rwa [Uq,l] at h)
 have hj:j<n:=by rw[<-l];exact(Tf.mp e).1
 unfold aX at e;rw[Us,XR hj] at e;cases e;rw[Uq] at h ⊢;have:=ht j ρ M hj h;rwa [<-X5 (j:Int)] at this
def MT {P:aq->Prop}{G:D->Prop}{ge:GE}{ds0:List D}{Q:List D->aq->Prop}(ds:List D)(h0:P M)(h:∀x∈ds,∀M,P M->Wp (ge (Z x::ρ) M) λd N=>P N/\G d)(k:∀es N,P N->es.length=ds.length->(∀e∈es,G e)->Q es N):Wp (bE ⟨ds0,Y⟩ bq ge ds ρ M) Q:=by
 have⟨es,M',p,l,q,e⟩:=xU (ds0:=ds0) (ge:=ge) (ρ:=ρ) (P:=P) (Q:=G) ds (λd hd M hM=>by
  have⟨a,N,e,p,g⟩:=(h d hd M hM).eq;exact⟨a,N,p,g,e⟩) M h0
 exact cy e (k es M' p l q)
theorem Ep {α:Type}{f:α->D}{P:α->Prop}:∀{es:List D},(∀e∈es,∃a,e=f a/\P a)->∃as:List α,es=as.map f/\∀a∈as,P a
 | [],_=>⟨[],rfl,λ_ z=>by grind⟩
 | e::es,h=>by
  obtain⟨a,ea,pa⟩:=h e (TN ..);obtain⟨as,eas,pas⟩:=Ep λe' he=>h e' (T6 _ he)
  exact⟨a::as,by simp_all,λb hb=>(Ur.mp hb).elim (λq=>q▸pa) (pas b)⟩
def oN {α:Type}(f:α->D)(P:aq->Prop)(G:α->Prop){ge:GE}{n:Nat}{Q:List D->aq->Prop}(h0:P M)(h:∀x M,P M->Wp (ge (Z x::ρ) M) λd N=>P N/\∃a,d=f a/\G a)(k:∀(as:List α) N,P N->(as.map f).length=n->as.length=n->(∀a∈as,G a)->Q (as.map f) N):Wp (bE ⟨aX 0 n,Y⟩ bq ge (aX 0 n) ρ M) Q:=
 MT (aX 0 n) h0 (λx _=>h x) λes N p l q=>by
  obtain⟨as,rfl,g⟩:=Ep q;have l:(as.map f).length=n:=by rw[l];unfold aX;rw[TC,VD]
  exact k as N p l (by rwa [TC] at l) g
def xF (f:Nat->D){ge:GE}{n:Nat}{Q:List D->aq->Prop}(h:∀j,j<n->Wp (ge (Z (.int j)::ρ) M) λd N=>d=f j/\N=M)(k:Q ((Tw n).map f) M):Wp (bE ⟨aX 0 n,Y⟩ bq ge (aX 0 n) ρ M) Q:=by
 have c:=oO (ds0:=aX 0 n) (ge:=ge) (ρ:=ρ) (M:=M) (f:=λd=>match d with | .int i=>f i.toNat|d=>d) (aX 0 n) λd hd=>by
  unfold aX at hd;obtain⟨j,hj,rfl⟩:=Zk.mp hd;rw[X5];exact(h j (XT.mp hj)).is
 refine cy c ?_;unfold aX;rw[Z4];rwa [show(Tw n).map ((λd=>match d with|D.int i=>f i.toNat|d=>d) ∘ λk:Nat=>D.int (0+(k:Int)))=(Tw n).map f from List.map_congr_left λj _=>by simp]
def He {α:Type}(f:α->D)(p:α->D){ge:GE}{xs:List α}{Q:List D->aq->Prop}(h:∀x,x∈xs->Wp (ge (Z (f x)::ρ) M) λd N=>d=p x/\N=M)(k:Q (xs.map p) M):Wp (bE ⟨xs.map f,Y⟩ bq ge (xs.map f) ρ M) Q:=by
 have c:∀(ds0:List D) (ys:List α),(∀x∈ys,x∈xs)->bE ⟨ds0,Y⟩ bq ge (ys.map f) ρ M=.ok (ys.map p) M:=λds0 ys=>by
  induction ys with
  | nil=>exact λ_=>rfl
  | cons y ys ih=>
   intro hs;have e:=(h y (hs y TN)).is;have i:=ih λx hx=>hs x (T6 _ hx)
   rw[V2];unfold bE;rw[l7,if_pos rfl,show bq (Z (f y)::ρ) M=.ok true M from rfl];dsimp only;rw[e];dsimp only;rw[i];rfl
 exact cy (c _ xs λ_ h=>h) k
end
class Rl (G:Prop) (P:outParam Prop):Prop where
 r:P->G
def S3 {G P:Prop}[r:Rl G P](h:P):G:=r.r h
structure Ev {α:Type}(o:bi α)(Q:α->aq->Prop):Prop where
 h:Wp o Q
def Ev.r {α:Type}{o:bi α}{Q:α->aq->Prop}{a:α}{M:aq}(e:o=.ok a M)(h:Q a M):Ev o Q:=⟨cy e h⟩
def Ev.rl {α:Type}{o:bi α}{Q:α->aq->Prop}:Rl (Wp o Q) (Ev o Q):=⟨λh=>h.h⟩
structure Al (gi:GI)(ge:GE)(ρ:dY)(M:aq)(Q:D->aq->Prop):Prop where
 h:Wp (aM rH (aa (a8 gi bq ge aR) ag) ρ M) Q
structure Ar (c p:Prop):Prop where
 c:c
 p:p
inductive NH:D->(Bool->Prop)->Prop where
 | mk {c:Bool} {P:Bool->Prop} (h:P c):NH (.bl c) P
inductive Sg {α:Type}:Option α->(α->Prop)->Prop where
 | mk {o:Option α} {a:α} {P:α->Prop} (e:o=Z a) (h:P a):Sg o P
inductive QN:Str->Str->(Bool->Prop)->Prop where
 | mk {a b:Str} {P:Bool->Prop} (r:Bool) (e:(VE a&&VE b&&((a==b)==r))=true) (h:P r):QN a b P
inductive Q8:D->aq->(Nat->Prop)->Prop where
 | mk {k:Nat} {M:aq} {P:Nat->Prop} {xs:List D} (e:M[k]?=Z (.lst xs)) (h:P k):Q8 (.mr k) M P
inductive Rf:List D->(D->D->Prop)->Prop where
 | mk {a b:D} {P:D->D->Prop} (h:P a b):Rf [a,b] P
section
variable {A B P:Prop}{c:Bool}
instance r_fn:Rl (sG (!c) A B) (sG c B A):=⟨λh=>Sw h⟩
instance r_bl {P:Bool->Prop}:Rl (NH (.bl c) P) (P c):=⟨λh=>.mk h⟩
instance r_tw {a b:D} {P:D->D->Prop}:Rl (Rf [a,b] P) (P a b):=⟨λh=>.mk h⟩
end
section
variable {α β:Type}{M:aq}{Q:α->aq->Prop}{o:bi β}{f:β->aq->bi α}{a b:bi α}{c:Bool}{n:Nat}{ds:List D}{v:α}
instance r_ok:Rl (Wp (.ok v M) Q) (Q v M):=⟨λh=>.ok h⟩
end
section
variable {ρ:dY}{M:aq}{Q:D->aq->Prop}{R:Fl->aq->Prop}{S:Bool->aq->Prop}{T:List D->aq->Prop}{U:mY->aq->Prop}{a b g:GE}{r:GA}{s u:GS}{t v:GT}{i j n:Nat}{d x y:D}{f:F2}{F:FD}{z w:Int}{ds es:List D}{sg:GG}{gi:GI}{k:Bool}
instance r_var:Rl (Wp (ae i ρ M) Q) (Ev (ae i ρ M) Q):=Ev.rl
instance r_g2:Rl (Wp (g2 f a b ρ M) Q) (Wp (a ρ M) λx N=>Wp (b ρ N) λy N=>Wp (f x y N) Q):=⟨λh=>aA (h.imp λ_ _ h=>aA h)⟩
instance r_cons:Rl (Wp (aa a r ρ M) T) (Wp (a ρ M) λx N=>Wp (r ρ N) λds N=>T (x::ds) N):=⟨λh=>aA (h.imp λ_ _ h=>aA (h.imp λ_ _ h=>.ok h))⟩
instance r_drop:Rl (Wp (bK g ρ M) R) (Wp (g ρ M) λ_ N=>R (.nx ρ) N):=⟨λh=>aA (h.imp λ_ _ h=>.ok h)⟩
instance r_if:Rl (Wp (dD t s u ρ M) R) (Wp (t ρ M) λc N=>sG c (Wp (s ρ N) R) (Wp (u ρ N) R)):=⟨λh=>aA (h.imp λ_ _ h=>vD h)⟩
instance r_ife:Rl (Wp (Em t a b ρ M) Q) (Wp (t ρ M) λc N=>sG c (Wp (a ρ N) Q) (Wp (b ρ N) Q)):=⟨λh=>aA (h.imp λ_ _ h=>vD h)⟩
instance r_asg:Rl (Wp (dR sg g ρ M) R) (Wp (g ρ M) λd N=>Sg (sg d ρ) λρ=>R (.nx ρ) N):=⟨λh=>NU (h.imp λ_ _ ⟨e,h⟩=>⟨_,e,h⟩)⟩
instance r_tst:Rl (Wp (aJ g ρ M) S) (Wp (g ρ M) λd N=>NH d λc=>S c N):=⟨λh=>aA (h.imp λ_ _ ⟨h⟩=>.ok h)⟩
instance r_tru:Rl (Wp (iW g ρ M) S) (Wp (g ρ M) λd N=>Ev (Pm d N) S):=⟨λh=>aA (h.imp λ_ _ h=>h.h)⟩
instance r_blt:Rl (Wp (aM F r ρ M) Q) (Wp (r ρ M) λds N=>Wp (F ds N) Q):=⟨λh=>aA h⟩
instance r_call:Rl (Wp (ah n F r ρ M) Q) (Wp (r ρ M) λds N=>Ar (ds.length=n) (Wp (F ds N) Q)):=⟨λh=>aA (h.imp λ_ _ h=>JZ h.c h.p)⟩
instance r_tup:Rl (Wp (aP r ρ M) Q) (Wp (r ρ M) λds N=>Ar (ds.length<=100000) (Q (.tup ds) N)):=⟨λh=>aA (h.imp λ_ _ h=>Pq h.c h.p)⟩
instance r_lst:Rl (Wp (kH r ρ M) Q) (Wp (r ρ M) λds N=>Ar (ds.length<=100000) (Q (.lst ds) N)):=⟨λh=>aA (h.imp λ_ _ h=>FW h.c h.p)⟩
instance r_mut:Rl (Wp (ft r ρ M) Q) (Wp (r ρ M) λds N=>Ar (ds.length<=100000) (Q (.mr N.length) (N++[.lst ds]))):=⟨λh=>aA (h.imp λ_ _ h=>P6 h.c h.p)⟩
instance r_not:Rl (Wp (FA t ρ M) Q) (Wp (t ρ M) λc N=>Q (.bl (!c)) N):=⟨λh=>aA (h.imp λ_ _ h=>.ok h)⟩
instance r_notT:Rl (Wp (fE t ρ M) S) (Wp (t ρ M) λc N=>S (!c) N):=⟨λh=>aA (h.imp λ_ _ h=>.ok h)⟩
instance r_andT:Rl (Wp (fL t v ρ M) S) (Wp (t ρ M) λc N=>sG c (Wp (v ρ N) S) (S false N)):=⟨λh=>aA (h.imp λ_ _ h=>vD ⟨h.1,λe=>.ok (h.2 e)⟩)⟩
instance r_orT:Rl (Wp (jO t v ρ M) S) (Wp (t ρ M) λc N=>sG c (S true N) (Wp (v ρ N) S)):=⟨λh=>aA (h.imp λ_ _ h=>vD ⟨λe=>.ok (h.1 e),h.2⟩)⟩
instance r_and:Rl (Wp (fM a b ρ M) Q) (Wp (a ρ M) λx N=>NH x λc=>sG c (Wp (b ρ N) Q) (Q (.bl false) N)):=⟨λh=>PX (h.imp λ_ _ ⟨h⟩=>⟨_,rfl,h⟩)⟩
instance r_or:Rl (Wp (QM a b ρ M) Q) (Wp (a ρ M) λx N=>NH x λc=>sG c (Q (.bl true) N) (Wp (b ρ N) Q)):=⟨λh=>Sl (h.imp λ_ _ ⟨h⟩=>⟨_,rfl,h⟩)⟩
instance r_par:Rl (Wp (Gy i j r ρ M) R) (Wp (r ρ M) λds N=>Rf ds λd e=>R (.nx ((ρ.set i (Z d)).set j (Z e))) N):=⟨λh=>aA (h.imp λ_ _ ⟨h⟩=>.ok h)⟩
instance r_for:Rl (Wp (gw gi sg s ρ M) R) (Wp (gi ρ M) λt N=>Wp (cn t sg s t.ds ρ N) R):=⟨λh=>aA h⟩
instance r_its:Rl (Wp (bW g ρ M) U) (Wp (g ρ M) λd N=>Ev (F1 d N) U):=⟨λh=>aA (h.imp λ_ _ h=>h.h)⟩
instance r_rng:Rl (Wp (dO r ρ M) U) (Wp (r ρ M) λd N=>Wp (z6 d N) U):=⟨λh=>aA h⟩
instance r_rng1:Rl (Wp (z6 [.int z] M) U) (Ar (0<=z/\z<=1000000) (U ⟨aX 0 z.toNat,Y⟩ M)):=⟨λh=>KP h.c.2 h.c.1 h.p⟩
instance r_eqI:Rl (Wp (aW false (.int z) (.int w) M) Q) (Q (.bl (decide (z=w))) M):=⟨Pb⟩
instance r_neI:Rl (Wp (aW true (.int z) (.int w) M) Q) (Q (.bl (!decide (z=w))) M):=⟨Qc⟩
instance r_addT:Rl (Wp (bx (.tup ds) (.tup es) M) Q) (Ar (ds.length+es.length<=100000) (Q (.tup (ds++es)) M)):=⟨λh=>LC h.c h.p⟩
instance r_addI:Rl (Wp (bx (.int z) (.int w) M) Q) (Q (.int (z+w)) M):=⟨λh=>.ok h⟩
instance r_mul:Rl (Wp (m7 (.int z) (.int w) M) Q) (Ar ((-18446744073709551616<z/\z<18446744073709551616)\/(-18446744073709551616<w/\w<18446744073709551616)) (Q (.int (z*w)) M)):=⟨λh=>PJ h.c h.p⟩
instance r_fdiv:Rl (Wp (iN (.int z) (.int w) M) Q) (Ar (0<w/\w<=1000000) (Q (.int (z / w)) M)):=⟨λh=>Ng h.c.1 h.c.2 h.p⟩
instance r_mod:Rl (Wp (jV (.int z) (.int w) M) Q) (Ar (0<w) (Q (.int (z % w)) M)):=⟨λh=>O5 h.c h.p⟩
instance r_neg:Rl (Wp (sj g ρ M) Q) (Wp (g ρ M) λx N=>Ev (match x with | .int i=>.ok (.int (-i)) N|_=>.bad) Q):=⟨λh=>aA (h.imp λ_ _ h=>h.h)⟩
instance r_isi {T:String}:Rl (Wp (mZ T g ρ M) Q) (Wp (g ρ M) λd N=>Ev (match MR d N with|some t=>.ok (.bl (Fo t T)) N|none=>.bad) Q):=⟨λh=>aA (h.imp λ_ _ h=>h.h)⟩
instance r_sl {l h:GO}:Rl (Wp (re g l h ρ M) Q) (Wp (g ρ M) λx N=>Wp (l ρ N) λa N=>Wp (h ρ N) λb N=>Ev (AM x a b N) Q):=⟨λh=>aA (h.imp λ_ _ h=>aA (h.imp λ_ _ h=>aA (h.imp λ_ _ h=>h.h)))⟩
instance r_part {O:Option Int->aq->Prop}:Rl (Wp (dn g ρ M) O) (Wp (g ρ M) λd N=>Ev (match d with | .int i=>.ok (Z i) N|_=>.bad) O):=⟨λh=>aA (h.imp λ_ _ h=>h.h)⟩
instance r_nopart {O:Option Int->aq->Prop}:Rl (Wp (bD ρ M) O) (O Y M):=⟨λh=>.ok h⟩
instance r_sub:Rl (Wp (gD x y M) Q) (Ev (gD x y M) Q):=Ev.rl
instance r_lt:Rl (Wp (uC x y M) Q) (Ev (uC x y M) Q):=Ev.rl
instance r_le:Rl (Wp (xG x y M) Q) (Ev (xG x y M) Q):=Ev.rl
instance r_gt:Rl (Wp (zE x y M) Q) (Ev (zE x y M) Q):=Ev.rl
instance r_ge:Rl (Wp (DB x y M) Q) (Ev (DB x y M) Q):=Ev.rl
instance r_ix:Rl (Wp (aB x y M) Q) (Ev (aB x y M) Q):=Ev.rl
instance r_len0:Rl (Wp (cq ds M) Q) (Ev (cq ds M) Q):=Ev.rl
instance r_min:Rl (Wp (zT ds M) Q) (Ev (zT ds M) Q):=Ev.rl
instance r_list:Rl (Wp (rB ds M) Q) (Ev (rB ds M) Q):=Ev.rl
instance r_int:Rl (Wp (Ck ds M) Q) (Ev (Ck ds M) Q):=Ev.rl
instance r_tuple:Rl (Wp (dj ds M) Q) (Ev (dj ds M) Q):=Ev.rl
instance r_app:Rl (Wp (gX a b ρ M) Q) (Wp (a ρ M) λo N=>Q8 o N λk=>Wp (b ρ N) λd N=>Wp (uH k d N) Q):=⟨λh=>N8 (h.imp λ_ _ ⟨e,h⟩=>⟨_,_,rfl,e,h⟩)⟩
instance (priority:=high) r_all:Rl (Wp (aM rH (aa (a8 gi bq a aR) ag) ρ M) Q) (Al gi a ρ M Q):=⟨λh=>h.h⟩
instance r_comp {mk:List D->aq->bi D}:Rl (Wp (a8 gi bq a mk ρ M) Q) (Wp (gi ρ M) λt N=>Wp (bE t bq a t.ds ρ N) λes N=>Wp (mk es N) Q):=⟨λh=>aA (h.imp λ_ _ h=>aA h)⟩
instance r_mklst:Rl (Wp (aR ds M) Q) (Ar (ds.length<=100000) (Q (.lst ds) M)):=⟨λh=>FW h.c h.p⟩
instance r_ssub:Rl (Wp (ki a b g ρ M) R) (Wp (g ρ M) λx N=>Wp (a ρ N) λo N=>Wp (b ρ N) λi N=>Ev (u4 o i x N) λ_ N=>R (.nx ρ) N):=⟨λh=>aA (h.imp λ_ _ h=>aA (h.imp λ_ _ h=>aA (h.imp λ_ _ h=>aA (h.h.imp λ_ _ h=>.ok h))))⟩
instance r_enum:Rl (Wp (xK r ρ M) U) (Wp (r ρ M) λds N=>Ev (Mi ds N) U):=⟨λh=>aA (h.imp λ_ _ h=>h.h)⟩
instance r_in:Rl (Wp (Aq k x y M) Q) (Ev (Aq k x y M) Q):=Ev.rl
instance r_rev:Rl (Wp (JL g ρ M) Q) (Wp (g ρ M) λx N=>Ev (match x with | .tup xs=>.ok (.tup xs.reverse) N|_=>.bad) Q):=⟨λh=>aA (h.imp λ_ _ h=>h.h)⟩
instance r_ch {f':F2} {e:GE}:Rl (Wp (CA f f' a b e ρ M) Q) (Wp (a ρ M) λx N=>Wp (b ρ N) λy N=>Wp (f x y N) λz N=>NH z λc=>sG c (Wp (e ρ N) λw N=>Wp (f' y w N) Q) (Q (.bl false) N)):=⟨λh=>aA (h.imp λ_ _ h=>aA (h.imp λ_ _ h=>aA (h.imp λ_ _ h=>by
 cases h with
 | mk h=>
  rename_i c;cases c
  ·exact .ok (h.2 rfl)
  ·exact aA (h.1 rfl))))⟩
instance r_slc {e h:GE}:Rl (Wp (Hj a e h g ρ M) R) (Wp (g ρ M) λx N=>Wp (a ρ N) λo N=>Wp (e ρ N) λl N=>Wp (h ρ N) λu N=>Wp (iZ o x l u N) λ_ N=>R (.nx ρ) N):=⟨λh=>aA (h.imp λ_ _ h=>aA (h.imp λ_ _ h=>aA (h.imp λ_ _ h=>aA (h.imp λ_ _ h=>aA (h.imp λ_ _ h=>.ok h)))))⟩
instance r_dix {tab:List (Str×Int)}:Rl (Wp (Jq tab g ρ M) Q) (Wp (g ρ M) λd N=>Ev (match d with | .str x=>(match jH (iU [] (uS tab)) (WI x) with|some (.int i)=>.ok (.int i) N|_=>.bad)|_=>.bad) Q):=⟨λh=>aA (h.imp λ_ _ h=>h.h)⟩
instance r_listM {xs:List D}:Rl (Wp (tj [.tup xs] M) Q) (Q (.mr M.length) (M++[.lst xs])):=⟨λh=>cy rfl h⟩
instance r_eqS {p q:Str}:Rl (Wp (aW false (.str p) (.str q) M) Q) (QN p q λr=>Q (.bl r) M):=⟨λ⟨_,e,h⟩=>Py _ e h⟩
instance r_appE:Rl (Wp (uH M.length d (M++[.lst ds])) Q) (Ar (ds.length<1000000) (Q .non (M++[.lst (ds++[d])]))):=⟨λh=>Lg h.c h.p⟩
end
def zL {xs:List D}{d:D}{i:Int}{M:aq}(h:wx xs i=Z d):aB (.lst xs) (.int i) M=.ok d M:=by
 unfold aB a7
 simp_all
def tM (ys:List Int)(lo hi:Int){i:Int}{M:aq}{Q:D->aq->Prop}(hi0:0<=i/\i<(ys.length:Int))(h:∀y∈ys,lo<=y/\y<=hi)(k:∀y,lo<=y->y<=hi->Q (.int y) M):Ev (aB (.lst (ys.map D.int)) (.int i) M) Q:=by
 obtain⟨n,rfl⟩:=Ts hi0.1;have hn:n<ys.length:=by omega
 have hy:=h _ (Wk hn);exact Ev.r (zL (ce (v:=.int ys[n]) (by simp[hn]))) (k _ hy.1 hy.2)
def B0 (G:D->Prop){xs:List D}{i:Int}{M:aq}{Q:D->aq->Prop}(hi0:0<=i/\i<(xs.length:Int))(h:∀y∈xs,G y)(k:∀y,G y->Q y M):Ev (aB (.lst xs) (.int i) M) Q:=by
 obtain⟨n,rfl⟩:=Ts hi0.1;have hn:n<xs.length:=by omega
 exact Ev.r (zL (ce (v:=xs[n]) (by simp[hn]))) (k _ (h _ (Wk hn)))
def qL {α:Type}{f:α->D}{xs:List α}(d0:α){i:Int}{M:aq}{Q:D->aq->Prop}(h:0<=i/\i<(xs.length:Int))(k:Q (f (xs.getD i.toNat d0)) M):Ev (aB (.tup (xs.map f)) (.int i) M) Q:=by
 obtain⟨n,rfl⟩:=Ts h.1;have hn:n<xs.length:=by omega
 refine Ev.r (cr (k:=n) (d:=f xs[n]) (by simp[hn])) ?_;simpa[hn] using k
def nE {α:Type}(f:α->D){gi:GI}{ge:GE}{ρ:dY}{M:aq}{Q:D->aq->Prop}{xs:List α}(hl:xs.length<=100000)(hi:gi ρ M=.ok ⟨xs.map f,Y⟩ M)(h:∀x,x∈xs->Wp (ge (Z (f x)::ρ) M) λd N=>d=.bl true/\N=M)(k:Q (.bl true) M):Al gi ge ρ M Q:=
 ⟨Od (λ_=>true) (cy hi ⟨rfl,by rwa [TC],λx hx=>by
  obtain⟨y,hy,rfl⟩:=Zk.mp hx;exact h y hy,by rwa [show(xs.map f).all (λ_=>true)=true by simp]⟩)⟩
class Pu {α:Type} (g:dY->aq->bi α):Prop
section
variable {a b:GE}{r:GA}{i j:Nat}{d:D}{t:GT}{s:GG}{k:Bool}
instance u_var:Pu (ae i) where
instance u_c:Pu (gC d) where
instance u_ix [Pu a]:Pu (g2 aB a (gC d)) where
instance u_add [Pu a] [Pu b]:Pu (g2 bx a b) where
instance u_sub [Pu a] [Pu b]:Pu (g2 gD a b) where
instance u_lt [Pu a] [Pu b]:Pu (g2 uC a b) where
instance u_le [Pu a] [Pu b]:Pu (g2 xG a b) where
instance u_gt [Pu a] [Pu b]:Pu (g2 zE a b) where
instance u_ge [Pu a] [Pu b]:Pu (g2 DB a b) where
instance u_is [Pu a] [Pu b]:Pu (g2 (ww k) a b) where
instance u_nil:Pu ag where
instance u_cons [Pu a] [Pu r]:Pu (aa a r) where
instance u_tst [Pu a]:Pu (aJ a) where
instance u_not [Pu t]:Pu (fE t) where
instance u_set [Pu a]:Pu (aQ i a) where
instance u_ret [Pu a]:Pu (aK a) where
instance u_asg [Pu a]:Pu (dR s a) where
instance u_par [Pu r]:Pu (Gy i j r) where
instance u_next:Pu aL where
end
section
variable {ρ ρ1:dY}{M N:aq}{Q:D->aq->Prop}{R:Fl->aq->Prop}{s u:GS}{t:GT}{a b g:GE}{r:GA}{F:FD}{n i:Nat}{c:Bool}{ds:List D}{P A B:Prop}
def rF (e:s ρ M=.ok (.nx ρ1) N)(h:Wp (u ρ1 N) R):Wp (aj s u ρ M) R:=aA (cy e h)
def RW [Pu s](h:Wp (aj s u ρ M) R):Wp (aj s u ρ M) R:=h
def Rv [Pu t](h:Wp (dD t s u ρ M) R):Wp (dD t s u ρ M) R:=h
def KQ [Pu r](h:Wp (ah n F r ρ M) Q):Wp (ah n F r ρ M) Q:=h
def Qd [Pu r](h:Wp (aM F r ρ M) Q):Wp (aM F r ρ M) Q:=h
def PU {α:Type}{g:dY->aq->bi α}{Q:α->aq->Prop}[Pu g](h:Wp (g ρ M) Q):Wp (g ρ M) Q:=h
def vc (h:Wp (s ρ M) λf N=>Wp (match f with | .nx ρ=>u ρ N | .rt d=>.ok (.rt d) N | .bk ρ=>.ok (.bk ρ) N | .ct ρ=>.ok (.ct ρ) N) R):Wp (aj s u ρ M) R:=aA h
def BI (h:Wp (g ρ M) λd N=>R (.nx (ρ.set i (Z d))) N):Wp (aQ i g ρ M) R:=aA (h.imp λ_ _ h=>.ok h)
def PL (h:Wp (g ρ M) λd N=>R (.rt d) N):Wp (aK g ρ M) R:=aA (h.imp λ_ _ h=>.ok h)
def P4 (e:t ρ M=.ok c N)(h:sG c (Wp (s ρ N) R) (Wp (u ρ N) R)):Wp (dD t s u ρ M) R:=aA (cy e (vD h))
def xq (e:r ρ M=.ok ds N)(l:ds.length=n)(h:Wp (F ds N) Q):Wp (ah n F r ρ M) Q:=aA (cy e (JZ l h))
def M8 (e:r ρ M=.ok ds N)(h:Wp (F ds N) Q):Wp (aM F r ρ M) Q:=aA (cy e h)
end
end DL
namespace K13
open PySem PySem.Spec PyProof.Rows L2 DL List
open D renaming int → I,tup → U,mr → R,str → S,bl → G
open bi renaming ok → O
def top (i:Nat):VI:=PySem.Challenge.pw_glowrow_k13_whole_two_beams.main.body.getD i (.Pass ⟨0,0,0,0⟩)
abbrev JR:VI:=top 67
abbrev TX:=Tx (("_law_draw",top 50,["tape","many"])::("is_whole",top 8,["thing"])::("is_within",top 9,["thing","low","high"])::("is_frame",top 11,["thing"])::("is_ink",top 16,["thing"])::("is_ink_row",top 17,["thing"])::("is_ink_block",top 18,["thing","most"])::("is_shape",top 19,["thing"])::("is_book",top 35,["thing"])::("is_shape_number",top 36,["book","thing"])::("is_place_pair",top 34,["thing"])::("is_rank",top 33,["thing"])::("is_turn",top 20,["thing"])::("is_mover",top 37,["book","thing"])::("are_movers",top 38,["book","thing"])::("is_hue",top 32,["thing"])::("are_pots",top 39,["thing"])::("is_stand",top 40,["thing"])::("check_begin",top 47,["frame","stand"])::("_law_size",top 51,["tape","most"])::("_law_frame",top 52,["tape","most"])::("_law_inks",top 53,["tape","wide","thin"])::("_law_inked",top 54,["tape","most"])::("_law_far",top 55,["tape","size"])::("_law_mover",top 56,["tape","frame","shapes"])::("_law_stand",top 57,["tape","frame","movers_most"])::("_law_deed",top 58,["tape","frame","stand"])::("row_ticks",top 12,["frame"])::("ticks_of",top 13,["frame"])::("mover_behind",top 44,["mover","word","parts"])::("is_mover_deed",top 42,["stand","word","parts"])::("is_deed",top 41,["stand","thing"])::("with_part",top 45,["things","at","part"])::("stand_behind",top 43,["stand","deed"])::("_law_behind",top 59,["stand","deed"])::("_law_lying",top 61,["stand","row"])::("_law_strip",top 60,["shape","turn","row"])::("_law_taken",top 62,["frame","stand","row"])::("_law_cover",top 63,["row_here","x"])::("_law_ink",top 64,["row_here","x"])::("_law_laid",top 65,["frame","stand","timed","many"])::("place_of",top 14,["frame","tick"])::("strip_of",top 21,["shape","turn","row"])::("strip_taken",top 28,["stand","number","row"])::("floor_inks",top 27,["frame","stand","row"])::("lying_on",top 23,["stand","row"])::("kept_on",top 24,["frame","stand","row"])::("taken",top 26,["frame","stand","row"])::("lost_on",top 25,["frame","stand","row"])::("covers_at",top 29,["row_taken","x"])::("_law_seen_right",top 66,["beam","seen","many"])::[])
 (("Beam","__init__","Beam.__init__",df (top 48) 0,["self","frame","stand"])::("Beam","is_over","Beam.is_over",df (top 48) 3,["self"])::("Beam","deed","Beam.deed",df (top 48) 4,["self","deed"])::("Beam","take_row","Beam.take_row",df (top 48) 7,["self","row"])::("Beam","keep_touches","Beam.keep_touches",df (top 48) 9,["self","numbers","row","spot"])::("Beam","keep_grounds","Beam.keep_grounds",df (top 48) 10,["self","numbers","row","spot"])::("Beam","lay_spot","Beam.lay_spot",df (top 48) 8,["self","row","spot"])::("Beam","go_tick","Beam.go_tick",df (top 48) 6,["self"])::("Beam","go","Beam.go",df (top 48) 5,["self","many"])::("Beam","tick","Beam.tick",df (top 48) 1,["self"])::("Beam","stand","Beam.stand",df (top 48) 2,["self"])::("Beam","picture","Beam.picture",df (top 48) 11,["self"])::("Beam","touches","Beam.touches",df (top 48) 12,["self"])::("Beam","grounds","Beam.grounds",df (top 48) 13,["self"])::("Beam","lost","Beam.lost",df (top 48) 14,["self"])::[])
 [("ink_shown",top 30,["floor_ink","covers"])]
 ("all"::"bool"::"divmod"::"enumerate"::"int"::"isinstance"::"len"::"list"::"max"::"min"::"range"::"sorted"::"tuple"::[]) ["NoDeed","NoFrame","NoStand","NoTick","Over"]
 ([]) []
 (("Beam","ahead")::("Beam","first_grounds")::("Beam","first_touches")::("Beam","frame")::("Beam","laid_rows")::("Beam","lost_pairs")::("Beam","row_taken")::("Beam","standing")::[]) [] []
set_option hygiene false
local macro_rules | `(tactic| walk_at "o") => `(tactic| first | with_reducible exact PH | with_reducible exact q_addM | with_reducible exact Ov | with_reducible exact P1 | with_reducible exact Mo | with_reducible exact PP | with_reducible exact N2 | with_reducible exact RQ | with_reducible exact SA | with_reducible exact RY | with_reducible exact Sj | with_reducible exact Rr | with_reducible exact Hr | with_reducible exact Ra | with_reducible exact q_notin | with_reducible exact q_mulT | with_reducible exact q_inA | ((with_reducible show Q2 _ _ (dIn _)); first | exact q_din hr | exact q_dnotin hr) | ((with_reducible show Q2 _ _ (Ki _)); first | exact q_eqL hr | exact PB hr) | ((with_reducible show Q2 _ (T8 .Eq) _); exact Sv hr) | exact Q9 hr)
local macro_rules | `(tactic| walk_at "c") => `(tactic| first | ((with_reducible refine Qi ?_); rfl) | ((with_reducible refine Gx)) | ((with_reducible refine NS)) | ((with_reducible refine q_lenT)) | ((with_reducible refine Of)) | ((with_reducible refine q_listT ?_); rfl) | ((with_reducible refine Jv)) | ((with_reducible refine Mz)) | ((with_reducible refine q_max ?_); rfl) | ((with_reducible refine OM ?_); rfl) | ((with_reducible refine q_sorted)) | ((with_reducible refine Cv)) | ((with_reducible refine Hw)))
local macro_rules | `(tactic| walk_at "b") => `(tactic| with_reducible first | exact Boot.«all» | exact Boot.«bool» | exact Boot.«divmod» | exact Boot.«enumerate» | exact Boot.«int» | exact Boot.«isinstance» | exact Boot.«len» | exact Boot.«list» | exact Boot.«max» | exact Boot.«min» | exact Boot.«range» | exact Boot.«sorted» | exact Boot.«tuple»)
local macro_rules | `(tactic| walk_at "E") => `(tactic| first
  | ((with_reducible show QE _ _ (fH _ _ _ _));refine AT (by assumption) (by kernel_rfl) ?_ ?_ ?_ ?_)
  | ((with_reducible show QE _ _ (aM mP _));refine JW (Jb rfl) (T.z _ (by decide +kernel)) (by walk_at "b") ?_)
  | ((with_reducible show QE _ _ (ae _));exact qv _)
  | ((with_reducible show QE _ _ (gC _));first|exact LO|exact Mn|exact ND|exact PK)
  | ((with_reducible show QE _ _ (g2 zP _ _));refine Hx hr ?_ ?_)
  | ((with_reducible show QE _ _ (g2 vO _ _));refine DF hr ?_ ?_)
  | ((with_reducible show QE _ _ (g2 aB _ _));refine OV ?_ ?_)
  | ((with_reducible show QE _ _ (g2 _ _ _));first|refine Oi (by walk_at "o") ?_ ?_|refine K7 (by walk_at "o") ?_ ?_|refine qe_cmpI (by walk_at "o") ?_ ?_)
  | ((with_reducible show QE _ _ (ah _ _ _));refine NZ (by assumption) hr ?_)
  | ((with_reducible show QE _ _ (aP _));refine Mu ?_)
  | ((with_reducible show QE _ _ (mZ _ _));refine NX (by first|exact .inl rfl|exact .inr (.inl rfl)|exact .inr (.inr (.inl rfl))|exact .inr (.inr (.inr (.inl rfl)))|exact .inr (.inr (.inr (.inr rfl)))) (by walk_at "b") (by rfl) (T.z _ (by decide +kernel)) (by rfl) (T.z _ (by decide +kernel)) ?_)
  | ((with_reducible show QE _ _ (aM tH _));refine Ke (Ly (k:=0) (hr.mono (by decide))) (by rfl) (T.z _ (by decide +kernel)) (by walk_at "b") ?_)
  | ((with_reducible show QE _ _ (aM _ _));first|refine JW (by walk_at "c") (T.z _ (by decide +kernel)) (by walk_at "b") ?_|refine PD (by walk_at "c") (by rfl) (T.z _ (by decide +kernel)) (by walk_at "b") ?_)
  | ((with_reducible show QE _ _ (kH _));refine L3 ?_)
  | ((with_reducible show QE _ _ (ft _));refine KY ?_)
  | ((with_reducible show QE _ _ (sj _));refine KA ?_)
  | ((with_reducible show QE _ _ (FA _));refine Nu ?_)
  | ((with_reducible show QE _ _ (CA _ _ _ _ _));refine GQ (by walk_at "o") (by walk_at "o") ?_ ?_ ?_)
  | ((with_reducible show QE _ _ (Em _ _ _));refine OO ?_ ?_ ?_)
  | ((with_reducible show QE _ _ (re _ _ _));refine Gv ?_ ?_ ?_)
  | ((with_reducible show QE _ _ (JL _));refine K6 rfl ?_)
  | ((with_reducible show QE _ _ (a8 _ _ _ _));first|refine FT (by assumption) (by kernel_rfl) (by first|exact .inl rfl|exact .inr rfl) ?_ ?_ ?_|refine Gw (by kernel_rfl) (by first|exact .inl rfl|exact .inr rfl) ?_ ?_ ?_)
  | ((with_reducible show QE _ _ (dM _ _ _ _ _ _));refine qe_compTR (by assumption) (by kernel_rfl) (by first|exact .inl rfl|exact .inr rfl) ?_ ?_ ?_ ?_ ?_)
  | ((with_reducible show QE _ _ (dm _ _ _));refine Jj (Bm T.a _ _) ?_)
  | ((with_reducible show QE _ _ (fc _ _ _ _ _ ag));refine DG (by assumption) hr ?_)
  | ((with_reducible show QE _ _ (fc _ _ _ _ _ _));refine IP (by assumption) hr ?_ ?_)
  | ((with_reducible show QE _ _ (qS _ _ _ ag));refine qe_make0A (by assumption) hr)
  | ((with_reducible show QE _ _ (qS _ _ _ _));refine FZ (by assumption) hr ?_)
  | ((with_reducible show QE _ _ (gX _ _));refine Dx ?_ ?_)
  | ((with_reducible show QE _ _ (ib _ _ _));refine CN hr ?_ ?_ ?_)
  | ((with_reducible show QE _ _ (Cq _));refine CV ?_)
  | ((with_reducible show QE _ _ (vL));exact G7)
  | ((with_reducible show QE _ _ (vT));exact HA)
  | ((with_reducible show QE _ _ (Jq _ _));refine Lm hr ?_ ?_)
  | ((with_reducible show QE _ _ (IV _));refine KN ?_)
  | ((with_reducible show QE _ _ (v7 _ _));refine HB ?_)
  | ((with_reducible show QE _ _ (xL _ _));refine JA (px:="cover") (N:=["cover"]) (by assumption) (k:=0) (hr.mono (by decide)) (by rfl) (T.z _ (by decide +kernel)) (by walk_at "b") ⟨rfl,rfl,rfl,by decide +kernel,rfl,by decide +kernel,by decide +kernel⟩ ?_ λ_ _ _ _ _ _ _ hr=>?_))
local macro_rules | `(tactic| walk_at "S") => `(tactic| first
  | ((with_reducible show QS _ _ (aK _));refine MS ?_)
  | ((with_reducible show QS _ _ (dD _ _ _));refine Oq ?_ ?_ ?_)
  | ((with_reducible show QS _ _ (aQ _ (a8 _ _ _ _)));first|refine yY (by assumption) (by kernel_rfl) (by first|exact .inl rfl|exact .inr rfl) nd ?_ ?_ ?_|refine zo (by kernel_rfl) (by first|exact .inl rfl|exact .inr rfl) nd ?_ ?_ ?_|refine qs_setC _ nd ?_)
  | ((with_reducible show QS _ _ (aQ _ (dM _ _ _ _ _ _)));first|refine xw (by assumption) (by kernel_rfl) (by first|exact .inl rfl|exact .inr rfl) ?_ nd ?_ ?_ ?_ ?_|refine qs_setC _ nd ?_)
  | ((with_reducible show QS _ _ (aQ _ _));refine M7 _ nd ?_)
  | ((with_reducible show QS _ _ (dR _ _));refine K3 ?_ ?_)
  | ((with_reducible show QS _ _ (gw _ _ _));refine LH Zm ?_ ?_ ?_)
  | ((with_reducible show QS _ _ (bK _));refine Hk ?_)
  | ((with_reducible show QS _ _ (ki _ _ _));refine Mm ?_ ?_ ?_)
  | ((with_reducible show QS _ _ (aL));first|exact qs_pass|exact qs_doc)
  | ((with_reducible show QS _ _ (qF _ _ _));refine FP Zm ?_ ?_)
  | ((with_reducible show QS _ _ (jy _ _));refine CM (T.e _ (by decide +kernel)) ?_)
  | ((with_reducible show QS _ _ (Gy _ _ _));refine K1 nd ?_)
  | ((with_reducible show QS _ _ (gP _ _ _ _));first|refine JC (Bm T.a _ _) ?_ ?_|refine qs_fldCA (Bm T.a _ _) ?_ ?_)
  | ((with_reducible show QS _ _ (Kb _ _ _ _));refine Ma (Bm T.a _ _) ?_ ?_)
  | ((with_reducible show QS _ _ (Hj _ _ _ _));refine MZ ?_ ?_ ?_ ?_))
local macro_rules | `(tactic| walk_at "Q") => `(tactic| first
  | ((with_reducible show QE _ _ _);first|walk_at "E"|refine Nd ?_|refine K4 ?_ ?_|refine Pw ?_ ?_|refine qe_fstr1 ?_)
  | ((with_reducible show QA _ _ _);first|exact NE|refine R4 ?_ ?_)
  | ((with_reducible show QT _ _ _);first
  | ((with_reducible show QT _ _ (aJ (CA _ _ _ _ _)));refine D3 (by walk_at "o") (by walk_at "o") ?_ ?_ ?_)
  | ((with_reducible show QT _ _ (aJ _));first|refine Lu (by walk_at "o") ?_ ?_|refine JK (by walk_at "o") ?_ ?_)
  | ((with_reducible show QT _ _ (fE _));refine Nq ?_)
  | ((with_reducible show QT _ _ (iW _));refine LZ ?_)
  | ((with_reducible show QT _ _ (fL _ _));refine O0 ?_)
  | ((with_reducible show QT _ _ (jO _ _));refine O0 ?_))
  | ((with_reducible show QB _ _ _);first|exact LV|refine Mq ?_|refine Ie ?_ ?_)
  | ((with_reducible show QS _ _ _);walk_at "S")
  | ((with_reducible show QW _ _ _);first|refine Nn ?_ ?_|refine OW ?_ ?_|refine Ik ?_|refine Le ?_)
  | ((with_reducible show QI _ _ _ _);first|((with_reducible show QI _ _ _ (dO _));refine Pp (by rfl) (T.z _ (by decide +kernel)) ?_)|((with_reducible show QI _ _ _ (gRng2 _));refine qi_r2 (by rfl) (T.z _ (by decide +kernel)) ?_)|((with_reducible show QI _ _ _ (xK _));refine IJ (by rfl) (T.z _ (by decide +kernel)) (by walk_at "b") ?_)|((with_reducible show QI _ _ _ (gEz _));refine qi_ez (by rfl) (T.z _ (by decide +kernel)) (by walk_at "b") (by rfl) (T.z _ (by decide +kernel)) (by walk_at "b") ?_)|refine Lw ?_)
  | ((with_reducible show QG _ _ _);first|exact qn _ nd|exact SR _ (by kernel_rfl) |refine Kw ?_|refine Ii ?_)
  | ((with_reducible show PN _ _ _);first|exact HV|refine Pa ?_ ?_)
  | ((with_reducible show Qa _ _ _);first|exact II|refine O6 ?_ ?_)
  | ((with_reducible show QP _ _ _);first|exact JE|refine HH ?_)
  | ((with_reducible show ER _ _ _ _ _ _);first|exact C3|refine Dq ?_)
  | ((with_reducible show QO _ _);first|exact qo_one _ _|exact KO _|refine qo_tupG ?_)
  | ((with_reducible show QOs _ _);first|exact qos_nil|refine qos_c ?_ ?_)
  | ((with_reducible show QF _ _ _);first|exact MY|refine RB ?_ ?_)
  | ((with_reducible show QD _ _ _ _ _);first|exact Kz|refine RU ?_)
  | intro _)
local macro_rules | `(tactic| walk_at "R") => `(tactic| repeat' walk_at "Q")
section
variable {P:TR}{w:TY}{K:Tp}{mg:Str->Option Td}{base:UG}
def lN:GS:=(aj (aQ 2 (gC (I 2305843009213693951))) (aj (dD (aJ (g2 uC (g2 aB (ae 0) (gC (I 2))) (ae 1))) (aj (aQ 3 (gC (I 0))) (aj (dD (aJ (g2 zE (aM cq (aa (g2 aB (ae 0) (gC (I 0))) ag)) (gC (I 0)))) (aQ 3 (g2 aB (g2 aB (ae 0) (gC (I 0))) (g2 jV (g2 aB (ae 0) (gC (I 1))) (aM cq (aa (g2 aB (ae 0) (gC (I 0))) ag))))) aL) (aj (dD (jO (aJ (g2 DB (g2 aB (ae 0) (gC (I 1))) (aM cq (aa (g2 aB (ae 0) (gC (I 0))) ag)))) (aJ (g2 uC (ae 3) (g2 DV (gC (I 10)) (gC (I 18)))))) (aj (aQ 3 (g2 jV (g2 bx (ae 3) (g2 m7 (gC (I 1000003)) (g2 aB (ae 0) (gC (I 1))))) (ae 2))) (aj (aQ 3 (g2 jV (g2 bx (g2 bx (g2 m7 (ae 3) (ae 3)) (g2 m7 (gC (I 1181783497276652981)) (ae 3))) (gC (I 2049848353892358983))) (ae 2))) (aQ 3 (g2 jV (g2 bx (g2 m7 (ae 3) (ae 3)) (gC (I 1442695040888963407))) (ae 2))))) aL) (aj (ki (ae 0) (gC (I 1)) (g2 bx (g2 aB (ae 0) (gC (I 1))) (gC (I 1)))) (ki (ae 0) (gC (I 2)) (ae 3)))))) aL) (aj (aQ 4 (g2 jV (g2 aB (ae 0) (gC (I 2))) (ae 1))) (aj (ki (ae 0) (gC (I 2)) (g2 iN (g2 aB (ae 0) (gC (I 2))) (ae 1))) (aK (ae 4))))))
def aw:FD:=aU 3 lN
variable (T:TX P w K mg base)
include T
def b9:Ok P w K mg base "_law_draw" 1 2 aw:=bZ (bY T.f 0 rfl) ["tape","many","prime","cell","found"] aI rfl λf _ A _ s H E nd hr=>by delta lN;walk_at "R"
def nM:GS:=(aK (fM (mZ "int" (ae 0)) (FA (aJ (mZ "bool" (ae 0))))))
def tF:FD:=aU 0 nM
def zn:Ok P w K mg base "is_whole" 1 1 tF:=bZ (bY T.f 1 rfl) ["thing"] aI rfl λf _ A _ s H E nd hr=>by delta nM;walk_at "R"
def lX:GS:=(aK (fM (ah 1 tF (aa (ae 0) ag)) (CA xG xG (ae 1) (ae 0) (ae 2))))
def bB:FD:=aU 0 lX
def cL:Ok P w K mg base "is_within" 2 3 bB:=bZ (bY T.f 2 rfl) ["thing","low","high"] aI rfl λf _ A _ s H E nd hr=>by have:=zn T;delta lX;walk_at "R"
def nP:GS:=(aj (dD (jO (fE (iW (mZ "tuple" (ae 0)))) (aJ (g2 (aW true) (aM cq (aa (ae 0) ag)) (gC (I 4))))) (aK (gC (G false))) aL) (aj (dR (b8 [1,2,3,4]) (ae 0)) (aK (fM (ah 3 bB (aa (ae 1) (aa (gC (I 1)) (aa (gC (I 40)) ag)))) (fM (ah 3 bB (aa (ae 2) (aa (gC (I 1)) (aa (gC (I 40)) ag)))) (fM (ah 3 bB (aa (ae 3) (aa (gC (I 0)) (aa (gC (I 20)) ag)))) (ah 3 bB (aa (ae 4) (aa (gC (I 0)) (aa (gC (I 12)) ag))))))))))
def ou:FD:=aU 4 nP
def yj:Ok P w K mg base "is_frame" 3 1 ou:=bZ (bY T.f 3 rfl) ["thing","wide","high","gap","most"] aI rfl λf _ A _ s H E nd hr=>by have:=cL T;delta nP;walk_at "R"
def oB:GS:=(aK (ah 3 bB (aa (ae 0) (aa (gC (I 0)) (aa (gC (I 15)) ag)))))
def tB:FD:=aU 0 oB
def vX:Ok P w K mg base "is_ink" 3 1 tB:=bZ (bY T.f 4 rfl) ["thing"] aI rfl λf _ A _ s H E nd hr=>by have:=cL T;delta oB;walk_at "R"
def jQ:GE:=(ah 1 tB (aa (ae 0) ag))
def lD:GS:=(aK (fM (mZ "tuple" (ae 0)) (aM rH (aa (a8 (bW (ae 0)) bq jQ aR) ag))))
def kF:FD:=aU 0 lD
def uT:Ok P w K mg base "is_ink_row" 4 1 kF:=bZ (bY T.f 5 rfl) ["thing"] aI rfl λf _ A _ s H E nd hr=>by have:=vX T;delta lD jQ;walk_at "R"
def hO:GE:=(ah 1 kF (aa (ae 0) ag))
def g5:GE:=(g2 (aW false) (aM cq (aa (ae 0) ag)) (ae 3))
def iP:GS:=(aj (dD (jO (fE (iW (mZ "tuple" (ae 0)))) (fE (aJ (CA xG xG (gC (I 1)) (aM cq (aa (ae 0) ag)) (ae 1))))) (aK (gC (G false))) aL) (aj (dD (fE (iW (aM rH (aa (a8 (bW (ae 0)) bq hO aR) ag)))) (aK (gC (G false))) aL) (aj (aQ 2 (aM cq (aa (g2 aB (ae 0) (gC (I 0))) ag))) (aK (fM (CA xG xG (gC (I 1)) (ae 2) (ae 1)) (aM rH (aa (a8 (bW (ae 0)) bq g5 aR) ag)))))))
def fF:FD:=aU 1 iP
def lL:Ok P w K mg base "is_ink_block" 5 2 fF:=bZ (bY T.f 6 rfl) ["thing","most","length"] aI rfl λf _ A _ s H E nd hr=>by have:=uT T;delta iP hO g5;walk_at "R"
def n9:GS:=(aK (ah 2 fF (aa (ae 0) (aa (gC (I 8)) ag))))
def sH:FD:=aU 0 n9
def yB:Ok P w K mg base "is_shape" 6 1 sH:=bZ (bY T.f 7 rfl) ["thing"] aI rfl λf _ A _ s H E nd hr=>by have:=lL T;delta n9;walk_at "R"
def nT:GE:=(ah 1 sH (aa (ae 0) ag))
def qA:GS:=(aK (fM (mZ "tuple" (ae 0)) (fM (g2 xG (aM cq (aa (ae 0) ag)) (gC (I 8))) (aM rH (aa (a8 (bW (ae 0)) bq nT aR) ag)))))
def qx:FD:=aU 0 qA
def Ac:Ok P w K mg base "is_book" 7 1 qx:=bZ (bY T.f 8 rfl) ["thing"] aI rfl λf _ A _ s H E nd hr=>by have:=yB T;delta qA nT;walk_at "R"
def dH:GS:=(aK (QM (g2 (ww false) (ae 1) (gC .non)) (ah 3 bB (aa (ae 1) (aa (gC (I 0)) (aa (g2 gD (aM cq (aa (ae 0) ag)) (gC (I 1))) ag))))))
def cM:FD:=aU 0 dH
def iD:Ok P w K mg base "is_shape_number" 3 2 cM:=bZ (bY T.f 9 rfl) ["book","thing"] aI rfl λf _ A _ s H E nd hr=>by have:=cL T;delta dH;walk_at "R"
def gq:GE:=(ah 3 bB (aa (ae 0) (aa (sj (gC (I 1000))) (aa (gC (I 1000)) ag))))
def hV:GS:=(aK (fM (mZ "tuple" (ae 0)) (fM (g2 (aW false) (aM cq (aa (ae 0) ag)) (gC (I 2))) (aM rH (aa (a8 (bW (ae 0)) bq gq aR) ag)))))
def cB:FD:=aU 0 hV
def d8:Ok P w K mg base "is_place_pair" 3 1 cB:=bZ (bY T.f 10 rfl) ["thing"] aI rfl λf _ A _ s H E nd hr=>by have:=cL T;delta hV gq;walk_at "R"
def kz:GS:=(aK (ah 3 bB (aa (ae 0) (aa (gC (I 0)) (aa (gC (I 3)) ag)))))
def p5:FD:=aU 0 kz
def ui:Ok P w K mg base "is_rank" 3 1 p5:=bZ (bY T.f 11 rfl) ["thing"] aI rfl λf _ A _ s H E nd hr=>by have:=cL T;delta kz;walk_at "R"
def jZ:GS:=(aK (ah 3 bB (aa (ae 0) (aa (gC (I 0)) (aa (gC (I 3)) ag)))))
def p7:FD:=aU 0 jZ
def uA:Ok P w K mg base "is_turn" 3 1 p7:=bZ (bY T.f 12 rfl) ["thing"] aI rfl λf _ A _ s H E nd hr=>by have:=cL T;delta jZ;walk_at "R"
def ow:GS:=(aj (dD (jO (fE (iW (mZ "tuple" (ae 1)))) (aJ (g2 (aW true) (aM cq (aa (ae 1) ag)) (gC (I 5))))) (aK (gC (G false))) aL) (aj (dR (b8 [2,3,4,5,6]) (ae 1)) (aK (fM (ah 2 cM (aa (ae 0) (aa (ae 2) ag))) (fM (ah 1 cB (aa (aP (aa (ae 3) (aa (ae 4) ag))) ag)) (fM (ah 1 p5 (aa (ae 5) ag)) (ah 1 p7 (aa (ae 6) ag))))))))
def oh:FD:=aU 5 ow
def zf:Ok P w K mg base "is_mover" 4 2 oh:=bZ (bY T.f 13 rfl) ["book","thing","shape","x","y","rank","turn"] aI rfl λf _ A _ s H E nd hr=>by have:=iD T;have:=d8 T;have:=ui T;have:=uA T;delta ow;walk_at "R"
def jx:GE:=(ah 2 oh (aa (ae 1) (aa (ae 0) ag)))
def lh:GS:=(aK (fM (mZ "tuple" (ae 1)) (fM (g2 xG (aM cq (aa (ae 1) ag)) (gC (I 12))) (aM rH (aa (a8 (bW (ae 1)) bq jx aR) ag)))))
def kQ:FD:=aU 0 lh
def uW:Ok P w K mg base "are_movers" 5 2 kQ:=bZ (bY T.f 14 rfl) ["book","thing"] aI rfl λf _ A _ s H E nd hr=>by have:=zf T;delta lh jx;walk_at "R"
def oZ:GS:=(aK (ah 3 bB (aa (ae 0) (aa (gC (I 0)) (aa (gC (I 63)) ag)))))
def tX:FD:=aU 0 oZ
def vV:Ok P w K mg base "is_hue" 3 1 tX:=bZ (bY T.f 15 rfl) ["thing"] aI rfl λf _ A _ s H E nd hr=>by have:=cL T;delta oZ;walk_at "R"
def mj:GE:=(ah 1 tX (aa (ae 0) ag))
def oi:GS:=(aK (fM (mZ "tuple" (ae 0)) (fM (g2 (aW false) (aM cq (aa (ae 0) ag)) (gC (I 16))) (aM rH (aa (a8 (bW (ae 0)) bq mj aR) ag)))))
def nY:FD:=aU 0 oi
def yt:Ok P w K mg base "are_pots" 4 1 nY:=bZ (bY T.f 16 rfl) ["thing"] aI rfl λf _ A _ s H E nd hr=>by have:=vV T;delta oi mj;walk_at "R"
def nV:GS:=(aj (dD (jO (fE (iW (mZ "tuple" (ae 0)))) (aJ (g2 (aW true) (aM cq (aa (ae 0) ag)) (gC (I 5))))) (aK (gC (G false))) aL) (aj (dR (b8 [1,2,3,4,5]) (ae 0)) (aj (dD (fE (fL (iW (ah 2 fF (aa (ae 1) (aa (gC (I 16)) ag)))) (fL (iW (ah 1 cB (aa (ae 2) ag))) (iW (ah 1 nY (aa (ae 5) ag)))))) (aK (gC (G false))) aL) (aK (fM (ah 1 qx (aa (ae 3) ag)) (ah 2 kQ (aa (ae 3) (aa (ae 4) ag))))))))
def nJ:FD:=aU 5 nV
def yw:Ok P w K mg base "is_stand" 8 1 nJ:=bZ (bY T.f 17 rfl) ["thing","floor","shift","book","movers","pots"] aI rfl λf _ A _ s H E nd hr=>by have:=lL T;have:=Ac T;have:=d8 T;have:=uW T;have:=yt T;delta nV;walk_at "R"
def jw:GS:=(aj (dD (fE (iW (ah 1 ou (aa (ae 0) ag)))) (jy "NoFrame" (gC (S "that is no frame"))) aL) (dD (fE (iW (ah 1 nJ (aa (ae 1) ag)))) (jy "NoStand" (gC (S "that is no stand"))) aL))
def cP:FD:=aU 0 jw
def t9:Ok P w K mg base "check_begin" 9 2 cP:=bZ (bY T.f 18 rfl) ["frame","stand"] aI rfl λf _ A _ s H E nd hr=>by have:=yj T;have:=yw T;delta jw;walk_at "R"
def eU:GS:=(aj (bK (ah 2 cP (aa (ae 1) (aa (ae 2) ag)))) (aj (gP "Beam" "frame" (ae 0) (ae 1)) (aj (gP "Beam" "standing" (ae 0) (ae 2)) (aj (gP "Beam" "ahead" (ae 0) (gC (I 0))) (aj (gP "Beam" "row_taken" (ae 0) (aP (aa (aP ag) (aa (aP ag) ag)))) (aj (gP "Beam" "laid_rows" (ae 0) (ft ag)) (aj (gP "Beam" "first_touches" (ae 0) vT) (aj (gP "Beam" "first_grounds" (ae 0) vL) (gP "Beam" "lost_pairs" (ae 0) (ft ag))))))))))
def eW:FD:=aU 0 eU
def pQ:Om P w K mg base "Beam" "__init__" 10 3 eW:=n5 (nU T.m 0 rfl) ["self","frame","stand"] aI rfl λf _ A _ s H E nd hr=>by have:=t9 T;delta eU;walk_at "R"
def mI:GS:=(aK (g2 bx (gC (I 1)) (g2 aB (kH (aa (ah 2 aw (aa (ae 0) (aa (aM zT (aa (ae 1) (aa (gC (I 6)) ag))) ag))) (aa (ah 2 aw (aa (ae 0) (aa (ae 1) ag))) (aa (g2 gD (ae 1) (gC (I 1))) ag)))) (g2 iN (g2 m7 (ah 2 aw (aa (ae 0) (aa (gC (I 8)) ag))) (gC (I 3))) (gC (I 10))))))
def fm:FD:=aU 0 mI
def oG:Ok P w K mg base "_law_size" 2 2 fm:=bZ (bY T.f 19 rfl) ["tape","most"] aI rfl λf _ A _ s H E nd hr=>by have:=b9 T;delta mI;walk_at "R"
def kE:GS:=(aj (aQ 2 (g2 aB (kH (aa (gC (I 0)) (aa (ah 2 aw (aa (ae 0) (aa (gC (I 21)) ag))) ag))) (ah 2 aw (aa (ae 0) (aa (gC (I 2)) ag))))) (aK (aP (aa (ah 2 fm (aa (ae 0) (aa (ae 1) ag))) (aa (ah 2 fm (aa (ae 0) (aa (ae 1) ag))) (aa (ae 2) (aa (ah 2 aw (aa (ae 0) (aa (gC (I 13)) ag))) ag)))))))
def lC:FD:=aU 1 kE
def uN:Ok P w K mg base "_law_frame" 3 2 lC:=bZ (bY T.f 20 rfl) ["tape","most","gap"] aI rfl λf _ A _ s H E nd hr=>by have:=b9 T;have:=oG T;delta kE;walk_at "R"
def kK:GE:=(g2 m7 (ah 2 aw (aa (ae 1) (aa (gC (I 16)) ag))) (aM Ck (aa (g2 zE (ah 2 aw (aa (ae 1) (aa (ae 3) ag))) (gC (I 0))) ag)))
def lS:GS:=(aK (aM dj (aa (a8 (dO (aa (ae 1) ag)) bq kK aR) ag)))
def mB:FD:=aU 0 lS
def xa:Ok P w K mg base "_law_inks" 2 3 mB:=bZ (bY T.f 21 rfl) ["tape","wide","thin"] aI rfl λf _ A _ s H E nd hr=>by have:=b9 T;delta lS kK;walk_at "R"
def jP:GE:=(ah 3 mB (aa (ae 1) (aa (ae 3) (aa (ae 4) ag))))
def kI:GS:=(aj (aQ 2 (ah 2 fm (aa (ae 0) (aa (ae 1) ag)))) (aj (aQ 3 (g2 bx (gC (I 1)) (ah 2 aw (aa (ae 0) (aa (gC (I 4)) ag))))) (aK (aM dj (aa (a8 (dO (aa (ah 2 fm (aa (ae 0) (aa (ae 1) ag))) ag)) bq jP aR) ag)))))
def ij:FD:=aU 2 kI
def uO:Ok P w K mg base "_law_inked" 3 2 ij:=bZ (bY T.f 22 rfl) ["tape","most","wide","thin"] aI rfl λf _ A _ s H E nd hr=>by have:=b9 T;have:=oG T;have:=xa T;delta kI jP;walk_at "R"
def nO:GS:=(aK (g2 aB (kH (aa (g2 gD (ah 2 aw (aa (ae 0) (aa (g2 bx (ae 1) (gC (I 16))) ag))) (gC (I 8))) (aa (g2 gD (ah 2 aw (aa (ae 0) (aa (gC (I 2001)) ag))) (gC (I 1000))) ag))) (g2 iN (ah 2 aw (aa (ae 0) (aa (gC (I 8)) ag))) (gC (I 7)))))
def dU:FD:=aU 0 nO
def l0:Ok P w K mg base "_law_far" 2 2 dU:=bZ (bY T.f 23 rfl) ["tape","size"] aI rfl λf _ A _ s H E nd hr=>by have:=b9 T;delta nO;walk_at "R"
def kB:GS:=(aj (aQ 3 (gC .non)) (aj (dD (fL (aJ (g2 zE (ae 2) (gC (I 0)))) (aJ (g2 zE (ah 2 aw (aa (ae 0) (aa (gC (I 8)) ag))) (gC (I 0))))) (aQ 3 (ah 2 aw (aa (ae 0) (aa (ae 2) ag)))) aL) (aK (aP (aa (ae 3) (aa (ah 2 dU (aa (ae 0) (aa (g2 aB (ae 1) (gC (I 0))) ag))) (aa (ah 2 dU (aa (ae 0) (aa (g2 aB (ae 1) (gC (I 1))) ag))) (aa (ah 2 aw (aa (ae 0) (aa (gC (I 4)) ag))) (aa (ah 2 aw (aa (ae 0) (aa (gC (I 4)) ag))) ag)))))))))
def io:FD:=aU 1 kB
def nu:Ok P w K mg base "_law_mover" 3 3 io:=bZ (bY T.f 24 rfl) ["tape","frame","shapes","shape"] aI rfl λf _ A _ s H E nd hr=>by have:=b9 T;have:=l0 T;delta kB;walk_at "R"
def jE:GE:=(ah 2 ij (aa (ae 1) (aa (gC (I 8)) ag)))
def jJ:GE:=(ah 3 io (aa (ae 1) (aa (ae 2) (aa (aM cq (aa (ae 7) ag)) ag))))
def jL:GE:=(ah 2 aw (aa (ae 1) (aa (gC (I 64)) ag)))
def kA:GS:=(aj (aQ 3 (ah 2 ij (aa (ae 0) (aa (gC (I 16)) ag)))) (aj (aQ 4 (aP (aa (ah 2 dU (aa (ae 0) (aa (gC (I 9)) ag))) (aa (ah 2 dU (aa (ae 0) (aa (gC (I 9)) ag))) ag)))) (aj (aQ 5 (g2 aB (kH (aa (ah 2 aw (aa (ae 0) (aa (gC (I 4)) ag))) (aa (ah 2 aw (aa (ae 0) (aa (gC (I 9)) ag))) ag))) (g2 iN (ah 2 aw (aa (ae 0) (aa (gC (I 4)) ag))) (gC (I 3))))) (aj (aQ 6 (aM dj (aa (a8 (dO (aa (ae 5) ag)) bq jE aR) ag))) (aj (aQ 7 (aM dj (aa (a8 (dO (aa (ah 2 aw (aa (ae 0) (aa (g2 bx (ae 2) (gC (I 1))) ag))) ag)) bq jJ aR) ag))) (aK (aP (aa (ae 3) (aa (ae 4) (aa (ae 6) (aa (ae 7) (aa (aM dj (aa (a8 (dO (aa (gC (I 16)) ag)) bq jL aR) ag)) ag))))))))))))
def kD:FD:=aU 5 kA
def uK:Ok P w K mg base "_law_stand" 4 3 kD:=bZ (bY T.f 25 rfl) ["tape","frame","movers_most","floor","shift","shapes","book","movers"] aI rfl λf _ A _ s H E nd hr=>by have:=b9 T;have:=uO T;have:=l0 T;have:=nu T;delta kA jE jJ jL;walk_at "R"
def mF:GS:=(aj (aQ 3 (ah 2 aw (aa (ae 0) (aa (gC (I 8)) ag)))) (aj (dD (jO (aJ (g2 uC (ae 3) (gC (I 2)))) (aJ (g2 (aW false) (g2 aB (ae 2) (gC (I 3))) (aP ag)))) (aj (aQ 4 (kH (aa (aP (aa (gC (S "shift")) (aa (ah 2 dU (aa (ae 0) (aa (gC (I 9)) ag))) (aa (ah 2 dU (aa (ae 0) (aa (gC (I 9)) ag))) ag)))) (aa (aP (aa (gC (S "pot")) (aa (ah 2 aw (aa (ae 0) (aa (gC (I 16)) ag))) (aa (ah 2 aw (aa (ae 0) (aa (gC (I 64)) ag))) ag)))) ag)))) (aK (g2 aB (ae 4) (g2 jV (ae 3) (gC (I 2)))))) aL) (aj (aQ 5 (ah 2 aw (aa (ae 0) (aa (aM cq (aa (g2 aB (ae 2) (gC (I 3))) ag)) ag)))) (aj (aQ 6 (ah 3 io (aa (ae 0) (aa (ae 1) (aa (aM cq (aa (g2 aB (ae 2) (gC (I 2))) ag)) ag))))) (aj (dD (aJ (g2 uC (ae 3) (gC (I 5)))) (aK (aP (aa (gC (S "move")) (aa (ae 5) (aa (g2 aB (ae 6) (gC (I 1))) (aa (g2 aB (ae 6) (gC (I 2))) ag)))))) aL) (aK (g2 aB (kH (aa (aP (aa (gC (S "shape")) (aa (ae 5) (aa (g2 aB (ae 6) (gC (I 0))) ag)))) (aa (aP (aa (gC (S "rank")) (aa (ae 5) (aa (g2 aB (ae 6) (gC (I 3))) ag)))) (aa (aP (aa (gC (S "turn")) (aa (ae 5) (aa (g2 aB (ae 6) (gC (I 4))) ag)))) ag)))) (g2 gD (ae 3) (gC (I 5))))))))))
def je:FD:=aU 4 mF
def xA:Ok P w K mg base "_law_deed" 4 3 je:=bZ (bY T.f 26 rfl) ["tape","frame","stand","way","some","number","mover"] aI rfl λf _ A _ s H E nd hr=>by have:=b9 T;have:=l0 T;have:=nu T;delta mF;walk_at "R"
def qU:GS:=(aj (dR (b8 [1,2,3,4]) (ae 0)) (aK (g2 bx (ae 1) (ae 3))))
def jj:FD:=aU 4 qU
def oJ:Ok P w K mg base "row_ticks" 1 1 jj:=bZ (bY T.f 27 rfl) ["frame","wide","high","gap","most"] aI rfl λf _ A _ s H E nd hr=>by delta qU;walk_at "R"
def kU:GS:=(aj (dR (b8 [1,2,3,4]) (ae 0)) (aK (g2 m7 (ae 2) (ah 1 jj (aa (ae 0) ag)))))
def gf:FD:=aU 4 kU
def mM:Ok P w K mg base "ticks_of" 2 1 gf:=bZ (bY T.f 28 rfl) ["frame","wide","high","gap","most"] aI rfl λf _ A _ s H E nd hr=>by have:=oJ T;delta kU;walk_at "R"
def fN:GS:=(aK (g2 (aW false) (dm "Beam" "ahead" (ae 0)) (ah 1 gf (aa (dm "Beam" "frame" (ae 0)) ag))))
def iC:FD:=aU 0 fN
def rJ:Om P w K mg base "Beam" "is_over" 3 1 iC:=n5 (nU T.m 1 rfl) ["self"] aI rfl λf _ A _ s H E nd hr=>by have:=mM T;delta fN;walk_at "R"
def cX:GS:=(aj (dR (b8 [3,4,5,6,7]) (ae 0)) (aj (dD (aJ (g2 (aW false) (ae 1) (gC (S "move")))) (aK (aP (aa (ae 3) (aa (g2 aB (ae 2) (gC (I 0))) (aa (g2 aB (ae 2) (gC (I 1))) (aa (ae 6) (aa (ae 7) ag))))))) aL) (aj (dD (aJ (g2 (aW false) (ae 1) (gC (S "shape")))) (aK (aP (aa (g2 aB (ae 2) (gC (I 0))) (aa (ae 4) (aa (ae 5) (aa (ae 6) (aa (ae 7) ag))))))) aL) (aj (dD (aJ (g2 (aW false) (ae 1) (gC (S "rank")))) (aK (aP (aa (ae 3) (aa (ae 4) (aa (ae 5) (aa (g2 aB (ae 2) (gC (I 0))) (aa (ae 7) ag))))))) aL) (aK (aP (aa (ae 3) (aa (ae 4) (aa (ae 5) (aa (ae 6) (aa (g2 aB (ae 2) (gC (I 0))) ag)))))))))))
def mK:FD:=aU 5 cX
def rE:Ok P w K mg base "mover_behind" 1 3 mK:=bZ (bY T.f 29 rfl) ["mover","word","parts","shape","x","y","rank","turn"] aI rfl λf _ A _ s H E nd hr=>by delta cX;walk_at "R"
def cC:GS:=(aj (dR (b8 [3,4,5,6,7]) (ae 0)) (aj (dD (fE (iW (ah 3 bB (aa (g2 aB (ae 2) (gC (I 0))) (aa (gC (I 0)) (aa (g2 gD (aM cq (aa (ae 6) ag)) (gC (I 1))) ag)))))) (aK (gC (G false))) aL) (aj (dD (aJ (g2 (aW false) (ae 1) (gC (S "move")))) (aK (ah 1 cB (aa (re (ae 2) (dn (gC (I 1))) bD) ag))) aL) (aj (dD (aJ (g2 (aW true) (aM cq (aa (ae 2) ag)) (gC (I 2)))) (aK (gC (G false))) aL) (aj (dD (aJ (g2 (aW false) (ae 1) (gC (S "shape")))) (aK (ah 2 cM (aa (ae 5) (aa (g2 aB (ae 2) (gC (I 1))) ag)))) aL) (aj (dD (aJ (g2 (aW false) (ae 1) (gC (S "rank")))) (aK (ah 1 p5 (aa (g2 aB (ae 2) (gC (I 1))) ag))) aL) (aK (fM (g2 (aW false) (ae 1) (gC (S "turn"))) (ah 1 p7 (aa (g2 aB (ae 2) (gC (I 1))) ag))))))))))
def lH:FD:=aU 5 cC
def pZ:Ok P w K mg base "is_mover_deed" 4 3 lH:=bZ (bY T.f 30 rfl) ["stand","word","parts","floor","shift","book","movers","pots"] aI rfl λf _ A _ s H E nd hr=>by have:=cL T;have:=iD T;have:=d8 T;have:=ui T;have:=uA T;delta cC;walk_at "R"
def pU:GS:=(aj (dD (jO (fE (iW (mZ "tuple" (ae 1)))) (aJ (g2 uC (aM cq (aa (ae 1) ag)) (gC (I 3))))) (aK (gC (G false))) aL) (aj (Gy 2 3 (aa (g2 aB (ae 1) (gC (I 0))) (aa (re (ae 1) (dn (gC (I 1))) bD) ag))) (aj (dD (aJ (g2 (aW false) (ae 2) (gC (S "shift")))) (aK (ah 1 cB (aa (ae 3) ag))) aL) (aj (dD (aJ (g2 (aW false) (ae 2) (gC (S "pot")))) (aK (fM (g2 (aW false) (aM cq (aa (ae 3) ag)) (gC (I 2))) (fM (ah 1 tB (aa (g2 aB (ae 3) (gC (I 0))) ag)) (ah 1 tX (aa (g2 aB (ae 3) (gC (I 1))) ag))))) aL) (aK (ah 3 lH (aa (ae 0) (aa (ae 2) (aa (ae 3) ag)))))))))
def pT:FD:=aU 2 pU
def AR:Ok P w K mg base "is_deed" 5 2 pT:=bZ (bY T.f 31 rfl) ["stand","thing","word","parts"] aI rfl λf _ A _ s H E nd hr=>by have:=vX T;have:=d8 T;have:=vV T;have:=pZ T;delta pU;walk_at "R"
def l8:GS:=(aK (g2 bx (g2 bx (re (ae 0) bD (dn (ae 1))) (aP (aa (ae 2) ag))) (re (ae 0) (dn (g2 bx (ae 1) (gC (I 1)))) bD)))
def gM:FD:=aU 0 l8
def wG:Ok P w K mg base "with_part" 1 3 gM:=bZ (bY T.f 32 rfl) ["things","at","part"] aI rfl λf _ A _ s H E nd hr=>by delta l8;walk_at "R"
def iJ:GS:=(aj (dD (fE (iW (ah 2 pT (aa (ae 0) (aa (ae 1) ag))))) (jy "NoDeed" (gC (S "that is no deed of the stand"))) aL) (aj (dR (b8 [2,3,4,5,6]) (ae 0)) (aj (aQ 7 (g2 aB (ae 1) (gC (I 0)))) (aj (dD (aJ (g2 (aW false) (ae 7) (gC (S "shift")))) (aK (aP (aa (ae 2) (aa (re (ae 1) (dn (gC (I 1))) bD) (aa (ae 4) (aa (ae 5) (aa (ae 6) ag))))))) aL) (aj (dD (aJ (g2 (aW false) (ae 7) (gC (S "pot")))) (aK (aP (aa (ae 2) (aa (ae 3) (aa (ae 4) (aa (ae 5) (aa (ah 3 gM (aa (ae 6) (aa (g2 aB (ae 1) (gC (I 1))) (aa (g2 aB (ae 1) (gC (I 2))) ag)))) ag))))))) aL) (aj (aQ 8 (g2 aB (ae 1) (gC (I 1)))) (aj (aQ 9 (ah 3 mK (aa (g2 aB (ae 5) (ae 8)) (aa (ae 7) (aa (re (ae 1) (dn (gC (I 2))) bD) ag))))) (aK (aP (aa (ae 2) (aa (ae 3) (aa (ae 4) (aa (ah 3 gM (aa (ae 5) (aa (ae 8) (aa (ae 9) ag)))) (aa (ae 6) ag))))))))))))))
def fD:FD:=aU 8 iJ
def rP:Ok P w K mg base "stand_behind" 6 2 fD:=bZ (bY T.f 33 rfl) ["stand","deed","floor","shift","book","movers","pots","word","number","mover"] aI rfl λf _ A _ s H E nd hr=>by have:=rE T;have:=AR T;have:=wG T;delta iJ;walk_at "R"
def jb:GS:=(aj (dD (iW (fc "Beam" "is_over" 1 iC (ae 0) ag)) (jy "Over" (gC (S "no tick is left to do a deed ahead of"))) aL) (gP "Beam" "standing" (ae 0) (ah 2 fD (aa (dm "Beam" "standing" (ae 0)) (aa (ae 1) ag)))))
def fj:FD:=aU 0 jb
def wF:Om P w K mg base "Beam" "deed" 7 2 fj:=n5 (nU T.m 2 rfl) ["self","deed"] aI rfl λf _ A _ s H E nd hr=>by have:=rJ T;have:=rP T;delta jb;walk_at "R"
def gL:GS:=(aj (dR (b8 [2,3,4,5,6]) (ae 0)) (aj (dD (aJ (g2 (aW false) (g2 aB (ae 1) (gC (I 0))) (gC (S "shift")))) (aK (aP (aa (ae 2) (aa (re (ae 1) (dn (gC (I 1))) bD) (aa (ae 4) (aa (ae 5) (aa (ae 6) ag))))))) aL) (aj (dD (aJ (g2 (aW false) (g2 aB (ae 1) (gC (I 0))) (gC (S "pot")))) (aK (aP (aa (ae 2) (aa (ae 3) (aa (ae 4) (aa (ae 5) (aa (g2 bx (g2 bx (re (ae 6) bD (dn (g2 aB (ae 1) (gC (I 1))))) (aP (aa (g2 aB (ae 1) (gC (I 2))) ag))) (re (ae 6) (dn (g2 bx (g2 aB (ae 1) (gC (I 1))) (gC (I 1)))) bD)) ag))))))) aL) (aj (aQ 7 (aM tj (aa (g2 aB (ae 5) (g2 aB (ae 1) (gC (I 1)))) ag))) (aj (dD (aJ (g2 (aW false) (g2 aB (ae 1) (gC (I 0))) (gC (S "move")))) (Hj (ae 7) (gC (I 1)) (gC (I 3)) (kH (aa (g2 aB (ae 1) (gC (I 2))) (aa (g2 aB (ae 1) (gC (I 3))) ag)))) (ki (ae 7) (Jq [("shape",0),("rank",3),("turn",4)] (g2 aB (ae 1) (gC (I 0)))) (g2 aB (ae 1) (gC (I 2))))) (aK (aP (aa (ae 2) (aa (ae 3) (aa (ae 4) (aa (g2 bx (g2 bx (re (ae 5) bD (dn (g2 aB (ae 1) (gC (I 1))))) (aP (aa (aM dj (aa (ae 7) ag)) ag))) (re (ae 5) (dn (g2 bx (g2 aB (ae 1) (gC (I 1))) (gC (I 1)))) bD)) (aa (ae 6) ag))))))))))))
def gG:FD:=λds M=>jD M.length (aU 6 gL ds M)
def lQ:Ok P w K mg base "_law_behind" 1 2 gG:=nD (F:=aU 6 gL) <| bZ (bY T.f 34 rfl) ["stand","deed","floor","shift","book","movers","pots","mover"] aI rfl λf _ A _ s H E nd hr=>by delta gL;walk_at "R"
def jB:GS:=(aj (dR (b8 [4,5,6,7,8]) (g2 aB (g2 aB (ae 0) (gC (I 3))) (ae 3))) (dD (fL (aJ (g2 (ww true) (ae 4) (gC .non))) (fL (aJ (g2 xG (ae 6) (ae 1))) (aJ (g2 uC (ae 1) (g2 bx (ae 6) (aM cq (aa (g2 aB (g2 aB (ae 0) (gC (I 2))) (ae 4)) ag))))))) (bK (gX (ae 2) (ae 3))) aL))
def il:GS:=(aj (aQ 2 (ft ag)) (aj (gw (dO (aa (aM cq (aa (g2 aB (ae 0) (gC (I 3))) ag)) ag)) (dL 3) jB) (aK (ae 2))))
def d7:FD:=λds M=>jD M.length (aU 7 il ds M)
def ng:Ok P w K mg base "_law_lying" 1 2 d7:=nD (F:=aU 7 il) <| bZ (bY T.f 35 rfl) ["stand","row","found","number","shape","x","y","rank","turn"] aI rfl λf _ A _ s H E nd hr=>by delta il jB;walk_at "R"
def gJ:GE:=(g2 aB (g2 aB (ae 1) (ae 3)) (g2 gD (g2 gD (aM cq (aa (g2 aB (ae 1) (ae 3)) ag)) (gC (I 1))) (ae 0)))
def kW:GS:=(aj (dD (aJ (g2 (aW false) (g2 iN (ae 1) (gC (I 2))) (gC (I 1)))) (aQ 2 (g2 gD (g2 gD (aM cq (aa (ae 0) ag)) (gC (I 1))) (ae 2))) aL) (aj (dD (aJ (g2 (aW false) (g2 jV (ae 1) (gC (I 2))) (gC (I 0)))) (aK (g2 aB (ae 0) (ae 2))) aL) (aK (aM dj (aa (a8 (dO (aa (aM cq (aa (g2 aB (ae 0) (ae 2)) ag)) ag)) bq gJ aR) ag)))))
def kX:FD:=aU 0 kW
def uR:Ok P w K mg base "_law_strip" 1 3 kX:=bZ (bY T.f 36 rfl) ["shape","turn","row"] aI rfl λf _ A _ s H E nd hr=>by delta kW gJ;walk_at "R"
def jC:GS:=(aj (dR (b8 [8,9,10,11,12]) (g2 aB (g2 aB (ae 1) (gC (I 3))) (ae 7))) (bK (gX (ae 6) (aP (aa (ae 7) (aa (ae 9) (aa (ae 11) (aa (ah 3 kX (aa (g2 aB (g2 aB (ae 1) (gC (I 2))) (ae 8)) (aa (ae 12) (aa (g2 gD (ae 2) (ae 10)) ag)))) ag))))))))
def jI:GE:=(g2 aB (ae 6) (g2 jV (g2 bx (ae 0) (g2 aB (ae 5) (gC (I 0)))) (aM cq (aa (ae 6) ag))))
def ie:GS:=(aj (dR (b8 [3,4]) (re (ae 1) bD (dn (gC (I 2))))) (aj (aQ 5 (g2 aB (ae 3) (g2 jV (g2 bx (ae 2) (g2 aB (ae 4) (gC (I 1)))) (aM cq (aa (ae 3) ag))))) (aj (aQ 6 (ft ag)) (aj (gw (bW (re (ah 2 d7 (aa (ae 1) (aa (ae 2) ag))) bD (dn (g2 aB (ae 0) (gC (I 3)))))) (dL 7) jC) (aK (aP (aa (aM dj (aa (a8 (dO (aa (g2 aB (ae 0) (gC (I 0))) ag)) bq jI aR) ag)) (aa (aM dj (aa (ae 6) ag)) ag))))))))
def iq:FD:=λds M=>jD M.length (aU 10 ie ds M)
def u5:Ok P w K mg base "_law_taken" 2 3 iq:=nD (F:=aU 10 ie) <| bZ (bY T.f 37 rfl) ["frame","stand","row","floor","shift","inks","strips","number","shape","x","y","rank","turn"] aI rfl λf _ A _ s H E nd hr=>by have:=ng T;have:=uR T;have:=rn 337 18 ["x"] ["frame","stand","row","floor","shift","inks","strips","number","shape","x.","y","rank","turn"];delta ie jC jI;walk_at "R"
def jK:GS:=(dD (fL (aJ (g2 xG (ae 4) (ae 1))) (fL (aJ (g2 uC (ae 1) (g2 bx (ae 4) (aM cq (aa (ae 6) ag))))) (aJ (g2 (aW true) (g2 aB (ae 6) (g2 gD (ae 1) (ae 4))) (gC (I 0)))))) (bK (gX (ae 2) (aP (aa (ae 5) (aa (g2 gD (gC (I 0)) (ae 3)) (aa (g2 aB (ae 6) (g2 gD (ae 1) (ae 4))) ag)))))) aL)
def iu:GS:=(aj (aQ 2 (ft ag)) (aj (gw (bW (g2 aB (ae 0) (gC (I 1)))) (b8 [3,4,5,6]) jK) (aK (ae 2))))
def eE:FD:=λds M=>jD M.length (aU 5 iu ds M)
def nj:Ok P w K mg base "_law_cover" 1 2 eE:=nD (F:=aU 5 iu) <| bZ (bY T.f 38 rfl) ["row_here","x","found","number","left","rank","inks"] aI rfl λf _ A _ s H E nd hr=>by delta iu jK;walk_at "R"
def ji:GE:=(ae 0)
def jh:GT:=(aJ (g2 zE (g2 aB (ae 0) (gC (I 0))) (gC (I 0))))
def nC:GS:=(aj (aQ 2 (ah 2 eE (aa (ae 0) (aa (ae 1) ag)))) (aj (aQ 3 (a8 (bW (ae 2)) jh ji aR)) (aj (dD (aJ (g2 (aW true) (ae 3) (kH ag))) (aK (g2 aB (aM tH (aa (ae 3) ag)) (gC (I 2)))) aL) (aj (dD (jO (aJ (g2 (aW true) (g2 aB (g2 aB (ae 0) (gC (I 0))) (ae 1)) (gC (I 0)))) (aJ (g2 (aW false) (ae 2) (kH ag)))) (aK (g2 aB (g2 aB (ae 0) (gC (I 0))) (ae 1))) aL) (aK (g2 aB (aM tH (aa (ae 2) ag)) (gC (I 2))))))))
def f7:FD:=aU 2 nC
def yR:Ok P w K mg base "_law_ink" 2 2 f7:=bZ (bY T.f 39 rfl) ["row_here","x","found","above"] aI rfl λf _ A _ s H E nd hr=>by have:=nj T;delta nC ji jh;walk_at "R"
def fU:GS:=(aj (aQ 1 (ah 2 gG (aa (ae 1) (aa (g2 aB (g2 aB (ae 2) (ae 6)) (gC (I 1))) ag)))) (aQ 6 (g2 bx (ae 6) (gC (I 1)))))
def cK:GT:=(fL (aJ (g2 uC (ae 6) (aM cq (aa (ae 2) ag)))) (aJ (g2 (aW false) (g2 aB (g2 aB (ae 2) (ae 6)) (gC (I 0))) (ae 7))))
def ii:GE:=(aP (aa (ae 9) (aa (ae 0) ag)))
def fX:GE:=(g2 gD (gC (I 0)) (g2 aB (ae 0) (gC (I 1))))
def kM:GS:=(bK (ib (g2 aB (ae 4) (gC (I 1))) (aP (aa (g2 aB (ae 10) (ae 11)) (aa (ae 12) ag))) (aP (aa (ae 8) (aa (ae 9) ag)))))
def d5:GS:=(aj (gw (bW (re (ae 10) (dn (g2 bx (ae 11) (gC (I 1)))) bD)) (dL 12) kM) (dD (aJ (g2 (aW true) (g2 aB (g2 aB (ae 5) (gC (I 0))) (ae 9)) (gC (I 0)))) (bK (ib (g2 aB (ae 4) (gC (I 2))) (g2 aB (ae 10) (ae 11)) (aP (aa (ae 8) (aa (ae 9) ag))))) aL))
def fB:GS:=(aj (qF 5000 cK fU) (aj (aQ 8 (g2 iN (ae 7) (g2 bx (g2 aB (ae 0) (gC (I 0))) (g2 aB (ae 0) (gC (I 2)))))) (aj (aQ 9 (g2 jV (ae 7) (g2 bx (g2 aB (ae 0) (gC (I 0))) (g2 aB (ae 0) (gC (I 2)))))) (aj (dD (aJ (g2 (aW false) (ae 9) (gC (I 0)))) (aj (aQ 5 (ah 3 iq (aa (ae 0) (aa (ae 1) (aa (ae 8) ag))))) (aj (bK (gX (g2 aB (ae 4) (gC (I 0))) (ft ag))) (ki (ae 4) (gC (I 3)) (g2 bx (g2 aB (ae 4) (gC (I 3))) (a8 (bW (re (ah 2 d7 (aa (ae 1) (aa (ae 8) ag))) (dn (g2 aB (ae 0) (gC (I 3)))) bD)) bq ii aR))))) aL) (dD (aJ (g2 uC (ae 9) (g2 aB (ae 0) (gC (I 0))))) (aj (bK (gX (g2 aB (g2 aB (ae 4) (gC (I 0))) (sj (gC (I 1)))) (g2 aB (g2 aB (ae 1) (gC (I 4))) (ah 2 f7 (aa (ae 5) (aa (ae 9) ag)))))) (aj (aQ 10 (a8 (bW (ah 2 eE (aa (ae 5) (aa (ae 9) ag)))) bq fX aR)) (gw (dO (aa (aM cq (aa (ae 10) ag)) ag)) (dL 11) d5))) aL)))))
def jd:GS:=(aj (aQ 4 (ft (aa (ft ag) (aa vT (aa vL (aa (kH ag) (aa (ae 1) ag))))))) (aj (aQ 5 (gC .non)) (aj (aQ 6 (gC (I 0))) (aj (gw (dO (aa (ae 3) ag)) (dL 7) fB) (aj (ki (ae 4) (gC (I 4)) (ae 1)) (aK (ae 4)))))))
def mD:FD:=aU 9 jd
def xv:Ok P w K mg base "_law_laid" 3 4 mD:=bZ (bY T.f 40 rfl) ["frame","stand","timed","many","seen","row_here","at","tick","row","x","numbers","k","other"] aI rfl λf _ A _ s H E nd hr=>by have:=lQ T;have:=ng T;have:=u5 T;have:=nj T;have:=yR T;delta jd fU cK ii fX kM d5 fB;walk_at "R"
def ox:GS:=(aj (dD (jO (aJ (g2 uC (ae 1) (gC (I 0)))) (aJ (g2 DB (ae 1) (ah 1 gf (aa (ae 0) ag))))) (jy "NoTick" (v7 [(gC (S "the frame has no tick ")),(IV (ae 1))] Yy)) aL) (aj (dR (b8 [2,3,4,5]) (ae 0)) (aj (dR (b8 [6,7]) (aM GL (aa (ae 1) (aa (ah 1 jj (aa (ae 0) ag)) ag)))) (aj (dD (aJ (g2 DB (ae 7) (ae 2))) (aK (aP (aa (ae 6) (aa (gC .non) ag)))) aL) (aK (aP (aa (ae 6) (aa (ae 7) ag))))))))
def lB:FD:=aU 6 ox
def zi:Ok P w K mg base "place_of" 3 2 lB:=bZ (bY T.f 41 rfl) ["frame","tick","wide","high","gap","most","row","spot"] aI rfl λf _ A _ s H E nd hr=>by have:=oJ T;have:=mM T;delta ox;walk_at "R"
def nQ:GS:=(aj (dD (jO (aJ (g2 uC (ae 2) (gC (I 0)))) (aJ (g2 DB (ae 2) (aM cq (aa (ae 0) ag))))) (aK (aP ag)) aL) (aj (aQ 3 (Em (aJ (g2 (Aq false) (ae 1) (aP (aa (gC (I 2)) (aa (gC (I 3)) ag))))) (g2 aB (ae 0) (g2 gD (g2 gD (aM cq (aa (ae 0) ag)) (gC (I 1))) (ae 2))) (g2 aB (ae 0) (ae 2)))) (aK (Em (aJ (g2 (Aq false) (ae 1) (aP (aa (gC (I 1)) (aa (gC (I 3)) ag))))) (JL (ae 3)) (ae 3)))))
def nG:FD:=aU 1 nQ
def zC:Ok P w K mg base "strip_of" 1 3 nG:=bZ (bY T.f 42 rfl) ["shape","turn","row","strip"] aI rfl λf _ A _ s H E nd hr=>by delta nQ;walk_at "R"
def jA:GS:=(aj (dR (b8 [3,4,5,6,7]) (ae 0)) (aj (dR (b8 [8,9,10,11,12]) (g2 aB (ae 6) (ae 1))) (aK (aP (aa (ae 1) (aa (ae 9) (aa (ae 11) (aa (ah 3 nG (aa (g2 aB (ae 5) (ae 8)) (aa (ae 12) (aa (g2 gD (ae 2) (ae 10)) ag)))) ag))))))))
def jF:FD:=aU 10 jA
def tJ:Ok P w K mg base "strip_taken" 2 3 jF:=bZ (bY T.f 43 rfl) ["stand","number","row","floor","shift","book","movers","pots","shape","x","y","rank","turn"] aI rfl λf _ A _ s H E nd hr=>by have:=zC T;delta jA;walk_at "R"
def jz:GE:=(g2 aB (ae 14) (g2 jV (g2 bx (ae 0) (ae 9)) (aM cq (aa (ae 14) ag))))
def lA:GS:=(aj (dR (b8 [3,4,5,6]) (ae 0)) (aj (dR (MG [(dL 7),(b8 [8,9]),(dL 10),(dL 11),(dL 12)]) (ae 1)) (aj (aQ 13 (g2 aB (ae 7) (g2 jV (g2 bx (ae 2) (ae 9)) (aM cq (aa (ae 7) ag))))) (aK (aM dj (aa (a8 (dO (aa (ae 3) ag)) bq jz aR) ag))))))
def kR:FD:=aU 11 lA
def uE:Ok P w K mg base "floor_inks" 1 3 kR:=bZ (bY T.f 44 rfl) ["frame","stand","row","wide","high","gap","most","floor","across","down","book","movers","pots","inks"] aI rfl λf _ A _ s H E nd hr=>by delta lA jz;walk_at "R"
def mG:GS:=(dD (fL (aJ (g2 (ww true) (ae 9) (gC .non))) (aJ (CA xG uC (ae 11) (ae 1) (g2 bx (ae 11) (aM cq (aa (g2 aB (ae 4) (ae 9)) ag)))))) (bK (gX (ae 7) (ae 8))) aL)
def kS:GS:=(aj (dR (b8 [2,3,4,5,6]) (ae 0)) (aj (aQ 7 (ft ag)) (aj (gw (xK (aa (ae 5) ag)) (MG [(dL 8),(b8 [9,10,11,12,13])]) mG) (aK (ae 7)))))
def lF:FD:=λds M=>jD M.length (aU 12 kS ds M)
def rg:Ok P w K mg base "lying_on" 1 2 lF:=nD (F:=aU 12 kS) <| bZ (bY T.f 45 rfl) ["stand","row","floor","shift","book","movers","pots","told","number","shape","x","y","rank","turn"] aI rfl λf _ A _ s H E nd hr=>by delta kS mG;walk_at "R"
def qq:GS:=(aj (dR (b8 [3,4,5,6]) (ae 0)) (aK (re (ah 2 lF (aa (ae 1) (aa (ae 2) ag))) bD (dn (ae 6)))))
def pK:FD:=aU 4 qq
def zX:Ok P w K mg base "kept_on" 2 3 pK:=bZ (bY T.f 46 rfl) ["frame","stand","row","wide","high","gap","most"] aI rfl λf _ A _ s H E nd hr=>by have:=rg T;delta qq;walk_at "R"
def tL:GE:=(ah 3 jF (aa (ae 2) (aa (ae 0) (aa (ae 3) ag))))
def xl:GS:=(aj (aQ 3 (a8 (bW (ah 3 pK (aa (ae 0) (aa (ae 1) (aa (ae 2) ag))))) bq tL aR)) (aK (aP (aa (ah 3 kR (aa (ae 0) (aa (ae 1) (aa (ae 2) ag)))) (aa (aM dj (aa (ae 3) ag)) ag)))))
def rW:FD:=aU 1 xl
def EK:Ok P w K mg base "taken" 3 3 rW:=bZ (bY T.f 47 rfl) ["frame","stand","row","strips"] aI rfl λf _ A _ s H E nd hr=>by have:=tJ T;have:=uE T;have:=zX T;delta xl tL;walk_at "R"
def p6:GS:=(aj (dR (b8 [3,4,5,6]) (ae 0)) (aK (re (ah 2 lF (aa (ae 1) (aa (ae 2) ag))) (dn (ae 6)) bD)))
def kr:FD:=aU 4 p6
def zO:Ok P w K mg base "lost_on" 2 3 kr:=bZ (bY T.f 48 rfl) ["frame","stand","row","wide","high","gap","most"] aI rfl λf _ A _ s H E nd hr=>by have:=rg T;delta p6;walk_at "R"
def cV:GE:=(aP (aa (ae 2) (aa (ae 0) ag)))
def eZ:GS:=(aj (gP "Beam" "row_taken" (ae 0) (ah 3 rW (aa (dm "Beam" "frame" (ae 0)) (aa (dm "Beam" "standing" (ae 0)) (aa (ae 1) ag))))) (aj (bK (gX (dm "Beam" "laid_rows" (ae 0)) (ft ag))) (Kb "Beam" "lost_pairs" (ae 0) (a8 (bW (ah 3 kr (aa (dm "Beam" "frame" (ae 0)) (aa (dm "Beam" "standing" (ae 0)) (aa (ae 1) ag))))) bq cV aR))))
def eR:FD:=aU 0 eZ
def pR:Om P w K mg base "Beam" "take_row" 4 2 eR:=n5 (nU T.m 3 rfl) ["self","row"] aI rfl λf _ A _ s H E nd hr=>by have:=EK T;have:=zO T;delta eZ cV;walk_at "R"
def d9:GS:=(dD (fL (aJ (CA xG uC (ae 6) (ae 1) (g2 bx (ae 6) (aM cq (aa (ae 8) ag))))) (aJ (g2 (aW true) (g2 aB (ae 8) (g2 gD (ae 1) (ae 6))) (gC (I 0))))) (bK (gX (ae 4) (aP (aa (ae 7) (aa (ae 5) (aa (g2 aB (ae 8) (g2 gD (ae 1) (ae 6))) ag)))))) aL)
def gQ:GS:=(aj (dR (b8 [2,3]) (ae 0)) (aj (aQ 4 (ft ag)) (aj (gw (bW (ae 3)) (b8 [5,6,7,8]) d9) (aK (ae 4)))))
def jf:FD:=λds M=>jD M.length (aU 7 gQ ds M)
def wc:Ok P w K mg base "covers_at" 1 2 jf:=nD (F:=aU 7 gQ) <| bZ (bY T.f 49 rfl) ["row_taken","x","inks","strips","told","number","left","rank","strip"] aI rfl λf _ A _ s H E nd hr=>by delta gQ d9;walk_at "R"
def cE:GS:=(bK (ib (dm "Beam" "first_touches" (ae 0)) (aP (aa (ae 5) (aa (ae 6) ag))) (aP (aa (ae 2) (aa (ae 3) ag)))))
def cJ:GS:=(gw (bW (re (ae 1) (dn (g2 bx (ae 4) (gC (I 1)))) bD)) (dL 6) cE)
def cT:GS:=(gw (xK (aa (ae 1) ag)) (b8 [4,5]) cJ)
def eN:FD:=aU 3 cT
def mE:Om P w K mg base "Beam" "keep_touches" 1 4 eN:=n5 (nU T.m 4 rfl) ["self","numbers","row","spot","at","one","other"] aI rfl λf _ A _ s H E nd hr=>by delta cT cE cJ;walk_at "R"
def dN:GS:=(bK (ib (dm "Beam" "first_grounds" (ae 0)) (ae 4) (aP (aa (ae 2) (aa (ae 3) ag)))))
def cS:GS:=(gw (bW (ae 1)) (dL 4) dN)
def eI:FD:=aU 1 cS
def mL:Om P w K mg base "Beam" "keep_grounds" 1 4 eI:=n5 (nU T.m 5 rfl) ["self","numbers","row","spot","number"] aI rfl λf _ A _ s H E nd hr=>by delta cS dN;walk_at "R"
def eG:GE:=(aP (aa (sj (g2 aB (ae 0) (gC (I 0)))) (aa (g2 aB (ae 0) (gC (I 1))) ag)))
def i9:GS:=(aj (dD (iW (ae 1)) (aj (dR (b8 [2,3,4]) (xL (G2 0 eG) (ae 1))) (dD (jO (aJ (g2 DB (ae 2) (gC (I 1)))) (aJ (g2 (aW false) (ae 0) (gC (I 0))))) (aK (ae 4)) aL)) aL) (aK (ae 0)))
def dS:FD:=aU 3 i9
def wj:Ok P w K mg base "ink_shown" 3 2 dS:=RL (Rq T.l 0 rfl) ["floor_ink","covers","rank","number","ink"] aI rfl λf _ _ A _ s H E nd tb hr=>by delta i9 eG;walk_at "R"
def eC:GE:=(ae 1)
def eX:GS:=(aj (dR (b8 [3,4]) (dm "Beam" "row_taken" (ae 0))) (aj (aQ 5 (ah 2 jf (aa (dm "Beam" "row_taken" (ae 0)) (aa (ae 2) ag)))) (aj (dR (b8 [6,7,8,9,10]) (dm "Beam" "standing" (ae 0))) (aj (bK (gX (g2 aB (dm "Beam" "laid_rows" (ae 0)) (sj (gC (I 1)))) (g2 aB (ae 10) (ah 2 dS (aa (g2 aB (ae 3) (ae 2)) (aa (ae 5) ag)))))) (aj (aQ 11 (dM (bW (ae 5)) 3 (b8 [0,1,2]) bq eC aR)) (aj (bK (fc "Beam" "keep_touches" 4 eN (ae 0) (aa (ae 11) (aa (ae 1) (aa (ae 2) ag))))) (dD (aJ (g2 (aW true) (g2 aB (ae 3) (ae 2)) (gC (I 0)))) (bK (fc "Beam" "keep_grounds" 4 eI (ae 0) (aa (ae 11) (aa (ae 1) (aa (ae 2) ag))))) aL)))))))
def dq:FD:=aU 9 eX
def qt:Om P w K mg base "Beam" "lay_spot" 4 3 dq:=n5 (nU T.m 6 rfl) ["self","row","spot","inks","strips","covers","floor","shift","book","movers","pots","numbers"] aI rfl λf _ A _ s H E nd hr=>by have:=wc T;have:=mE T;have:=mL T;have:=wj T;have:=rn 229 18 ["rank","number","ink"] ["self","row","spot","inks","strips","covers","floor","shift","book","movers","pots","numbers"];delta eX eC;walk_at "R"
def cU:GS:=(aj (dR (b8 [1,2]) (ah 2 lB (aa (dm "Beam" "frame" (ae 0)) (aa (dm "Beam" "ahead" (ae 0)) ag)))) (aj (dD (aJ (g2 (aW false) (ae 2) (gC (I 0)))) (bK (fc "Beam" "take_row" 2 eR (ae 0) (aa (ae 1) ag))) aL) (aj (dD (aJ (g2 (ww true) (ae 2) (gC .non))) (bK (fc "Beam" "lay_spot" 3 dq (ae 0) (aa (ae 1) (aa (ae 2) ag)))) aL) (Kb "Beam" "ahead" (ae 0) (gC (I 1))))))
def dX:FD:=aU 2 cU
def rN:Om P w K mg base "Beam" "go_tick" 5 1 dX:=n5 (nU T.m 7 rfl) ["self","row","spot"] aI rfl λf _ A _ s H E nd hr=>by have:=zi T;have:=pR T;have:=qt T;delta cU;walk_at "R"
def iB:GS:=(bK (fc "Beam" "go_tick" 1 dX (ae 0) ag))
def gu:GT:=(aJ (g2 uC (dm "Beam" "ahead" (ae 0)) (ae 2)))
def mT:GS:=(aj (aQ 2 (g2 bx (dm "Beam" "ahead" (ae 0)) (ae 1))) (aj (dD (aJ (g2 zE (ae 2) (ah 1 gf (aa (dm "Beam" "frame" (ae 0)) ag)))) (jy "Over" (gC (S "fewer ticks are left than that"))) aL) (qF 5000 gu iB)))
def iA:FD:=aU 1 mT
def As:Om P w K mg base "Beam" "go" 6 2 iA:=n5 (nU T.m 8 rfl) ["self","many","end"] aI rfl λf _ A _ s H E nd hr=>by have:=mM T;have:=rN T;delta mT iB gu;walk_at "R"
def js:GS:=(aK (dm "Beam" "ahead" (ae 0)))
def gU:FD:=aU 0 js
def xg:Om P w K mg base "Beam" "tick" 1 1 gU:=n5 (nU T.m 9 rfl) ["self"] aI rfl λf _ A _ s H E nd hr=>by delta js;walk_at "R"
def h8:GS:=(aK (dm "Beam" "standing" (ae 0)))
def fV:FD:=aU 0 h8
def uM:Om P w K mg base "Beam" "stand" 1 1 fV:=n5 (nU T.m 10 rfl) ["self"] aI rfl λf _ A _ s H E nd hr=>by delta h8;walk_at "R"
def dA:GE:=(aM rB (aa (ae 0) ag))
def fJ:GS:=(aK (a8 (bW (dm "Beam" "laid_rows" (ae 0))) bq dA dQ))
def cW:FD:=aU 0 fJ
def lI:Om P w K mg base "Beam" "picture" 1 1 cW:=n5 (nU T.m 11 rfl) ["self"] aI rfl λf _ A _ s H E nd hr=>by delta fJ dA;walk_at "R"
def gV:GE:=(g2 bx (ae 0) (ae 1))
def fA:GS:=(aK (aM yQ (aa (fH 2 (b8 [0,1]) gV (dm "Beam" "first_touches" (ae 0))) ag)))
def fG:FD:=aU 0 fA
def rM:Om P w K mg base "Beam" "touches" 1 1 fG:=n5 (nU T.m 12 rfl) ["self"] aI rfl λf _ A _ s H E nd hr=>by have:=rn 247 22 ["pair","place"] ["self"];delta fA gV;walk_at "R"
def gY:GE:=(g2 bx (aP (aa (ae 0) ag)) (ae 1))
def fW:GS:=(aK (aM yQ (aa (fH 2 (b8 [0,1]) gY (dm "Beam" "first_grounds" (ae 0))) ag)))
def fP:FD:=aU 0 fW
def rL:Om P w K mg base "Beam" "grounds" 1 1 fP:=n5 (nU T.m 13 rfl) ["self"] aI rfl λf _ A _ s H E nd hr=>by have:=rn 250 22 ["number","place"] ["self"];delta fW gY;walk_at "R"
def jm:GS:=(aK (aM tj (aa (dm "Beam" "lost_pairs" (ae 0)) ag)))
def gN:FD:=aU 0 jm
def ph:Om P w K mg base "Beam" "lost" 1 1 gN:=n5 (nU T.m 14 rfl) ["self"] aI rfl λf _ A _ s H E nd hr=>by delta jm;walk_at "R"
def dg:GE:=(g2 bx (ae 0) (g2 zP (g2 aB (ae 2) (gC (I 1))) (ae 0)))
def de:GE:=(g2 bx (aP (aa (ae 0) ag)) (g2 vO (g2 aB (ae 2) (gC (I 2))) (ae 0)))
def cO:GS:=(aj (aQ 3 (a8 (bW (aM mP (aa (g2 aB (ae 1) (gC (I 1))) ag))) bq dg aR)) (aj (aQ 4 (a8 (bW (aM mP (aa (g2 aB (ae 1) (gC (I 2))) ag))) bq de aR)) (aj (dD (jO (aJ (g2 (aW true) (fc "Beam" "tick" 1 gU (ae 0) ag) (ae 2))) (jO (aJ (g2 (aW true) (fc "Beam" "stand" 1 fV (ae 0) ag) (g2 aB (ae 1) (gC (I 4))))) (aJ (g2 (Ki true) (fc "Beam" "picture" 1 cW (ae 0) ag) (g2 aB (ae 1) (gC (I 0))))))) (aK (gC (G false))) aL) (aK (fM (g2 (aW false) (fc "Beam" "touches" 1 fG (ae 0) ag) (ae 3)) (fM (g2 (aW false) (fc "Beam" "grounds" 1 fP (ae 0) ag) (ae 4)) (g2 (aW false) (fc "Beam" "lost" 1 gN (ae 0) ag) (g2 aB (ae 1) (gC (I 3))))))))))
def fT:FD:=λds M=>jD M.length (aU 2 cO ds M)
def oj:Ok P w K mg base "_law_seen_right" 2 3 fT:=nD (F:=aU 2 cO) <| bZ (bY T.f 50 rfl) ["beam","seen","many","touches","grounds"] aI rfl λf _ A _ s H E nd hr=>by have:=xg T;have:=uM T;have:=lI T;have:=rM T;have:=rL T;have:=ph T;delta cO dg de;walk_at "R"
def xu:GS:=(aj (bK (gX (ae 2) (ah 2 lC (aa (ae 1) (aa (gC (I 6)) ag))))) (bK (gX (ae 3) (ah 3 kD (aa (ae 1) (aa (g2 aB (ae 2) (ae 4)) (aa (gC (I 5)) ag)))))))
def wL:GE:=(qS "Beam" 3 eW (aa (g2 aB (ae 3) (ae 0)) (aa (g2 aB (ae 4) (ae 0)) ag)))
def AV:GS:=(dD (aJ (g2 (aW false) (ae 14) (g2 aB (ae 7) (ae 4)))) (ki (ae 13) (gC (I 4)) (ah 2 gG (aa (g2 aB (ae 13) (gC (I 4))) (aa (ae 11) ag)))) aL)
def sv:GS:=(aj (aQ 13 (ah 4 mD (aa (g2 aB (ae 2) (ae 4)) (aa (g2 aB (ae 3) (ae 4)) (aa (g2 aB (ae 6) (ae 4)) (aa (g2 aB (ae 7) (ae 4)) ag)))))) (aj (gw (bW (g2 aB (ae 6) (ae 4))) (b8 [14,11]) AV) (aj (dD (fE (iW (ah 3 fT (aa (g2 aB (ae 5) (ae 4)) (aa (ae 13) (aa (g2 aB (ae 7) (ae 4)) ag)))))) (aK (gC (G false))) aL) (aj (bK (Cq (fc "Beam" "picture" 1 cW (g2 aB (ae 5) (ae 4)) ag))) (bK (Cq (fc "Beam" "lost" 1 gN (g2 aB (ae 5) (ae 4)) ag)))))))
def wk:GS:=(aj (aQ 9 (ah 2 aw (aa (ae 1) (aa (gC (I 2)) ag)))) (aj (aQ 10 (g2 gD (g2 m7 (g2 aB (g2 aB (ae 2) (ae 9)) (gC (I 1))) (g2 bx (g2 aB (g2 aB (ae 2) (ae 9)) (gC (I 0))) (g2 aB (g2 aB (ae 2) (ae 9)) (gC (I 2))))) (g2 aB (ae 7) (ae 9)))) (aj (dD (fL (aJ (g2 (aW false) (ah 2 aw (aa (ae 1) (aa (gC (I 2)) ag))) (gC (I 0)))) (aJ (g2 zE (ae 10) (gC (I 0))))) (aj (aQ 11 (ah 3 je (aa (ae 1) (aa (g2 aB (ae 2) (ae 9)) (aa (g2 aB (ae 3) (ae 9)) ag))))) (aj (bK (fc "Beam" "deed" 2 fj (g2 aB (ae 5) (ae 9)) (aa (ae 11) ag))) (bK (gX (g2 aB (ae 6) (ae 9)) (aP (aa (g2 aB (ae 7) (ae 9)) (aa (ae 11) ag))))))) (dD (aJ (g2 zE (ae 10) (gC (I 0)))) (aj (aQ 12 (aM zT (aa (ae 10) (aa (g2 bx (gC (I 1)) (ah 2 aw (aa (ae 1) (aa (gC (I 9)) ag)))) ag)))) (aj (bK (fc "Beam" "go" 2 iA (g2 aB (ae 5) (ae 9)) (aa (ae 12) ag))) (ki (ae 7) (ae 9) (g2 bx (g2 aB (ae 7) (ae 9)) (ae 12))))) aL)) (gw (dO (aa (gC (I 2)) ag)) (dL 4) sv))))
def Ej:GS:=(aj (aQ 1 (ft (aa (aM rB (aa (ae 0) ag)) (aa (gC (I 0)) (aa (gC (I 0)) ag))))) (aj (aQ 2 (ft ag)) (aj (aQ 3 (ft ag)) (aj (gw (dO (aa (gC (I 2)) ag)) (dL 4) xu) (aj (dD (aJ (g2 (aW false) (ah 2 aw (aa (ae 1) (aa (gC (I 2)) ag))) (gC (I 0)))) (aj (ki (ae 2) (gC (I 1)) (g2 aB (ae 2) (gC (I 0)))) (ki (ae 3) (gC (I 1)) (g2 aB (ae 3) (gC (I 0))))) aL) (aj (aQ 5 (a8 (dO (aa (gC (I 2)) ag)) bq wL aR)) (aj (aQ 6 (kH (aa (ft ag) (aa (ft ag) ag)))) (aj (aQ 7 (ft (aa (gC (I 0)) (aa (gC (I 0)) ag)))) (aj (gw (dO (aa (g2 bx (gC (I 1)) (ah 2 aw (aa (ae 1) (aa (g2 aB (kH (aa (gC (I 20)) (aa (gC (I 60)) ag))) (g2 iN (ah 2 aw (aa (ae 1) (aa (gC (I 4)) ag))) (gC (I 3)))) ag)))) ag)) (dL 8) wk) (aK (gC (G true))))))))))))
def yK:FD:=aU 14 Ej
def Lv{f:Th}{fd:UZ} (F:Fn K mg "law" JR f fd ["script"]):eM P w K mg base (ju P w) 12 f fd ["script"] (rq K 1 yK):=LI F.F (N:=["script","tape","frames","stands","k","beams","timed","gone","turn","at","left","deed","many","seen","tick"]) aI rfl λ_ A _ s H E hr=>by
 have nd:(["script","tape","frames","stands","k","beams","timed","gone","turn","at","left","deed","many","seen","tick"]:List Str).Nodup:=by decide +kernel
 have:=b9 T;have:=pQ T;have:=uN T;have:=uK T;have:=xA T;have:=wF T;have:=lQ T;have:=xv T;have:=As T;have:=lI T;have:=ph T;have:=oj T;have:=rn 392 12 ["k"] ["script","tape","frames","stands","k.","beams","timed","gone","turn","at","left","deed","many","seen","tick"];delta Ej xu wL AV sv wk;walk_at "R"
end
end K13
section
open PySem PySem.W PyProof.Rows
local macro_rules | `(tactic| o_head $H) => `(tactic| (
 refine holds_open (q:=K13.VV) (loose:=[]) (Xt:=(λs=>xlAt K13.VV [] s&&recOk (aaN (aac (Wl PySem.Challenge.rw_glowrow_k13_whole_two_beams))) s)) (XP:=XL K13.VV []) (Yf:=Hook.obs $H) (Ya:=Hook.val $H) (YP:=Hook.says $H) (N:=7376) ?hl (Hook.of $H) (Hook.keeps $H) (λs e=>xl_of s (TJ.mp e).1) XL.keeps (by rfl) (by rfl) (by rfl) (λs e=>recFacts_of (TJ.mp e).2) (by rfl) (by first|assumption|decide +kernel) (by decide +kernel) ⟨rfl,rfl,rfl,rfl,rfl,by decide +kernel⟩ ?hw ?hc;
 (case hl=>
  refine Hd.left_km (boot_open (by kernel_rfl) rfl (λs=>by kernel_rfl)) (λw=>by kernel_rfl) K13.h1 K13.h2 K13.h3 ?_;intro w os;unfold Hd.RT;rw[W.Fast.te15732481512506401174,W.Fast.te2530740449226627131];kernel_rfl)))
set_option hygiene false
local macro_rules | `(tactic| walk_at "us") => `(tactic| first | rfl | (exfalso; simp at hl; done) | (cases us with | nil => (first | rfl | cases hl) | cons _ us => walk_at "us"))
local macro_rules | `(tactic| walk_at "kc") => `(tactic| refine' DL.Pz KX G ?y0 ?y1 ?y2 ?y3 ?y4 ?y5 ?y6; (case y0 => k_is); (case y1 => k_is); (case y2 => k_is); (case y3 => k_is); (case y4 => k_is); (case y5 => k_is); (case y6 => k_is))
local macro_rules | `(tactic| walk_at "ec") => `(tactic| refine' DL.N9 KX G ?w0 ?w1 ?w2 ?w3 ?w4 ?w5 ?w6 ?w7 ?w8 ?w9 ?w10 ?w11; (case w0 => k_is); (case w1 => k_is); (case w2 => k_is); (case w3 => k_is); (case w4 => k_is); (case w5 => k_is); (case w6 => k_is); (case w7 => k_is); (case w8 => k_is); (case w9 => k_exc); (case w10 => k_is); (case w11 => k_is))
local macro_rules | `(tactic| walk_at "ff") => `(tactic| (refine' DL.OI KX G ?x0 ?x1 ?x2 ?x3 ?x4; (case x0 => k_is); (case x1 => k_is); (case x2 => k_is); (case x3 => k_is); (case x4 => (intro _ _ _ _ _ _ us hl; walk_at "us"))))
local macro_rules | `(tactic| walk_at "mf") => `(tactic| (refine' DL.P8 ?x0 ?x1 ?x2 ?x3 ?x4 ?x5 ?x6; (case x0 => walk_at "kc"); (case x1 => k_is); (case x2 => k_is); (case x3 => k_is); (case x4 => k_is); (case x5 => k_is); (case x6 => (intro _ _ _ _ _ _ us hl; walk_at "us"))))
local macro_rules | `(tactic| walk_at "im") => `(tactic| (refine' DL.im_mk ?v0 ?v1; (case v0 => walk_at "ec"); (case v1 => k_is)))
local macro_rules | `(tactic| walk_at "lf") => `(tactic| (refine' DL.OF KX G ?x0 ?x1 ?x2 ?x3 ?x4 ?x5 ?x6 ?x7 ?x8 ?x9 ?x10 ?x11 ?x12 ?x13 ?x14; (case x0 => k_is); (case x1 => k_is); (case x2 => k_is); (case x3 => k_is); (case x4 => k_is); (case x5 => rfl); (case x6 => rfl); (case x7 => rfl); (case x8 => rfl); (case x9 => rfl); (case x10 => rfl); (case x11 => decide); (case x12 => decide); (case x13 => (refine DL.ya (fun z => absurd rfl z) (fun _ => ?y_table_within) (fun _ => ?y_slots_given) (fun _ => ?y_cast_on_slots); (case y_table_within => k_is); (case y_slots_given => k_is); (case y_cast_on_slots => k_is))); (case x14 => (intro _ _ _ _ _ _ us hl; walk_at "us"))))
set_option maxRecDepth 100000 in
set_option maxHeartbeats 0 in
def K13.pre (ht:∀ns:List Int,ns.length<=63->∃M',K13.yK [.ro (ns.map DL.D.int)] []=.ok (.bl true) M'):PySem.Challenge.rw_glowrow_k13_whole_two_beams.Holds:=by
 w_on;refine holds_law (Hd.said_of K13.s1 K13.s2 K13.s3 K13.s4) λsaid=>?_;k_head;(case hw=>w_witness2)
 k_fill
 refine DL.Hy (l:=PySem.Challenge.rw_glowrow_k13_whole_two_beams) (n:=63) (k:=12) (x:="script") (F:=K13.yK) rfl (by decide) rfl ⟨rfl,by decide,by decide⟩ (λw h Y=>W.km_in_of Y) ?F ?T ht
 case F=>
  intro w mg fa h KX G hmg;refine DL.MC (st:=K13.JR) hmg ?L (λbase f fd L=>K13.Lv ?TT L) (λ_ _ _ _ _ _ _=>rfl)
  (case TT=>
   refine DL.Tx.mk ?q0 ?q1 ?q2 ?q3 ?q4 ?q5 ?q6 ?q7 ?q8 ?q9
   (case q0=>((repeat (refine' DL.Ls.cons ?x ?_;(case x=>(walk_at "ff"))));exact DL.Ls.nil))
   (case q1=>((repeat (refine' DL.Ls.cons ?x ?_;(case x=>(walk_at "mf"))));exact DL.Ls.nil))
   (case q2=>((repeat (refine' DL.Ls.cons ?x ?_;(case x=>(walk_at "lf"))));exact DL.Ls.nil))
   (case q3=>((repeat (refine' DL.Ls.cons ?x ?_;(case x=>(refine' DL.So KX G ?x0;(case x0=>k_is)))));exact DL.Ls.nil))
   (case q4=>((repeat (refine' DL.Ls.cons ?x ?_;(case x=>(refine' DL.Pi ?x0;(case x0=>walk_at "ec")))));exact DL.Ls.nil))
   (case q5=>((repeat (refine' DL.Ls.cons ?x ?_;(case x=>(refine' DL.NY ?u0 ?u1;(case u0=>walk_at "ec");(case u1=>((repeat (refine' DL.Ls.cons ?u2 ?_;(case u2=>walk_at "im")));exact DL.Ls.nil))))));exact DL.Ls.nil))
   (case q6=>((repeat (refine' DL.Ls.cons ?x ?_;(case x=>(walk_at "im"))));exact DL.Ls.nil))
   (case q7=>((repeat (refine' DL.Ls.cons ?x ?_;(case x=>(refine' DL.Px ?x0 ?x1;(case x0=>walk_at "kc");(case x1=>k_is)))));exact DL.Ls.nil))
   (case q8=>((repeat (refine' DL.Ls.cons ?x ?_;(case x=>(refine' DL.OY (u:=PySem.Value.str _) KX G ?x0;(case x0=>k_is)))));exact DL.Ls.nil))
   (case q9=>((repeat (refine' DL.Ls.cons ?x ?_;(case x=>(refine' DL.OY (u:=PySem.Value.int _) KX G ?x0;(case x0=>k_is)))));exact DL.Ls.nil)))
  (case L=>walk_at "ff")
 case T=>
  intro w;refine' DL.Il (DL.Dc (x:="ink_shown") ?yV (DL.KW ?wI ?xm ?xc ?wt ?wY) ?zr DL.FO) (DL.ya (.inr ⟨_,.head _,rfl⟩) (.inl ?e_table_within) (.inl ?e_slots_given) (.inl ?e_cast_on_slots)) ?bm ?bl
  (case yV=>rfl)
  (case wI=>k_is)
  (case xm=>k_is)
  (case xc=>rfl)
  (case wt=>k_is)
  (case wY=>rfl)
  (case zr=>kernel_rfl)
  (case e_table_within=>k_is)
  (case e_slots_given=>k_is)
  (case e_cast_on_slots=>k_is)
  (case bm=>k_is)
  (case bl=>kernel_rfl)
end
namespace K13
open PySem PySem.Spec PyProof.Rows L2 DL List
open D renaming int → I,tup → U,mr → R,str → S,bl → G
open bi renaming ok → O
set_option hygiene false
local macro_rules | `(tactic| simp_arith!) => `(tactic| first
  | ((fail_if_success fail_if_success with_reducible apply RW);refine rF rfl ?_)
  | with_reducible refine vc ?_
  | ((fail_if_success fail_if_success with_reducible apply PU);refine cy rfl ?_)
  | ((fail_if_success fail_if_success with_reducible apply Rv);refine P4 rfl ?_)
  | ((fail_if_success fail_if_success with_reducible apply KQ);refine xq rfl rfl ?_)
  | ((fail_if_success fail_if_success with_reducible apply Qd);refine M8 rfl ?_)
  | with_reducible refine BI ?_
  | with_reducible refine PL ?_
  | with_reducible refine Ox ?_
  | with_reducible refine OD ?_
  | ((with_reducible apply Pe);first|omega|assumption|exact of_decide_eq_true rfl)
  | ((with_reducible apply Pf);first|omega|assumption|exact of_decide_eq_false rfl)
  | with_reducible refine JF (λhc=>?_) (λhc=>?_)
  | refine S3 ?_
  | ((with_reducible apply Ev.r);first|with_reducible assumption|exact rfl|exact cr rfl|exact nL (by assumption)|exact cr (by assumption))
  | ((with_reducible apply Ar.mk);first|exact VO rfl|omega|rfl)
  | ((with_reducible apply Sg.mk);exact rfl)
  | ((with_reducible apply Q8.mk);first|exact uy _ _|assumption)
  | ((with_reducible apply ObP.mk);exact ob_at (by assumption))
  | ((with_reducible apply QN.mk true);decide +kernel)
  | ((with_reducible apply QN.mk false);decide +kernel)
  | with_reducible refine cy (by assumption) ?_
  | ((with_reducible show sG _ _ _);first|refine Kq (b:=true) rfl (Ox ?_)|refine Kq (b:=false) rfl (OD ?_))
  | simp_all_arith!)
local macro_rules | `(tactic| simp_all_arith) => `(tactic| repeat' simp_arith!)
local macro_rules | `(tactic| simp_arith) => `(tactic| repeat' (fail_if_success with_reducible show Wp (aj _ _ _ _) _); simp_arith!)
def tp (l:List Int)(i c:Int):MO:=.lst [.lst (l.map I),I i,I c]
def cw (l:List Int)(rest:aq)(M:aq):Prop:=∃i c,0<=i/\M=tp l i c::rest
def D5 {l:List Int}{k:Int}(h0:0<=k)(h1:k<l.length):∃v,wx (l.map I) k=Z (I v):=by
 obtain⟨n,rfl⟩:=Ts h0;exact⟨l[n],ce (by simp)⟩
section
variable {l:List Int}{rest M:aq}{Q:D->aq->Prop}
def tD {many:Int}(t:cw l rest M)(hm:0<many)(h2:many<=1000000)(k:∀f M',0<=f->f<many->cw l rest M'->Q (I f) M'):Wp (aw [R 0,I many] M) Q:=by
 obtain⟨i,c,hi,rfl⟩:=t;refine aN ?_;unfold lN;refine aA ?_;simp_arith;refine GC (λf N=>∃i c x3,0<=i/\f=.nx [Z (R 0),Z (I many),Z (I 2305843009213693951),x3,Y]/\N=tp l i c::rest) ?_ λf N h=>?_
 ·simp_arith
  ·refine aA ?_;simp_arith;refine J7 3 ?_ λv=>?_
   ·simp_all_arith
    ·obtain⟨v,hv⟩:=D5 (l:=l) (k:=i % ((l.map I).length:Int)) (UO _ (by omega)) (by rw[TC] at hc ⊢;exact UP _ hc);exact Ev.r (zL hv) ⟨v,rfl,rfl⟩
    ·exact⟨0,rfl,rfl⟩
   ·refine J7 3 ?_ λv=>?_
    ·have po:∀M,DV (I 10) (I 18) M=O (I (10 ^ 18)) M:=λM=>by
      unfold DV;dsimp only;rw[if_pos (by decide)];rfl
     simp_all_arith
     ·exact⟨_,rfl,rfl⟩
     refine cy (po _) ?_
     simp_all_arith
     ·exact⟨_,rfl,rfl⟩
     ·exact⟨v,rfl,rfl⟩
    ·simp_all_arith
     exact⟨i+1,v,_,by omega,rfl,rfl⟩
  ·exact⟨i,c,_,hi,rfl,rfl⟩
 ·obtain⟨i,c,x3,hi,rfl,rfl⟩:=h
  simp_all_arith
  exact k _ _ (UO _ (by omega)) (UP _ hm) ⟨i,c / many,hi,rfl⟩
local macro_rules | `(tactic| simp_all_arith!) => `(tactic| with_reducible refine tD (by assumption) (by omega) (by omega) fun v M q0 q1 t => ?_)
def wZ {most:Int}(t:cw l rest M)(hm:1<=most)(hm2:most<=1000)(k:∀f M',1<=f->f<=most->cw l rest M'->Q (I f) M'):Wp (fm [R 0,I most] M) Q:=by
 refine aN ?_;unfold mI
 simp_all_arith
 refine tM [_,_,_] 0 (most-1) (by simp;omega) (by simp;omega) λy h0 h1=>?_
 simp_all_arith
 exact k _ _ (by omega) (by omega) t
def Mh {wide thin:Int}(t:cw l rest M)(hw:0<=wide/\wide<=1000)(ht:1<=thin/\thin<=1000)(k:∀(ks:List Int) M',(ks.length:Int)=wide->(∀k∈ks,0<=k/\k<=15)->cw l rest M'->Q (U (ks.map I)) M'):Wp (mB [R 0,I wide,I thin] M) Q:=by
 refine aN ?_;unfold lS kK
 simp_all_arith
 refine oN I (cw l rest) (λk=>0<=k/\k<=15) t (λx M t=>?_) λks N t l1 l2 h=>?_
 ·simp_all_arith
  exact⟨t,_,rfl,by split <;> omega⟩
 ·simp_all_arith
  exact k ks _ (by omega) h t
def bu (rs:List (List Int)):D:=U (rs.map λr=>D.tup (r.map I))
def o3 (most:Int)(rs:List (List Int)):Prop:=1<=rs.length/\(rs.length:Int)<=most/\∃w:Nat,1<=w/\(w:Int)<=most/\∀r∈rs,r.length=w/\∀k∈r,0<=k/\k<=15
def A2 {most:Int}(t:cw l rest M)(hm:1<=most)(hm2:most<=1000)(k:∀rs M',o3 most rs->cw l rest M'->Q (bu rs) M'):Wp (ij [R 0,I most] M) Q:=by
 refine aN ?_;unfold kI jP
 simp_all_arith
 refine wZ t hm hm2 λwide M a b t=>?_
 simp_all_arith
 refine wZ t hm hm2 λhigh M c d t=>?_
 simp_all_arith
 refine oN (λr:List Int=>D.tup (r.map I)) (cw l rest) (λr=>r.length=wide.toNat/\∀k∈r,0<=k/\k<=15) t (λx M t=>?_) λrs N t l1 l2 h=>?_
 ·simp_all_arith
  refine Mh t (by omega) (by omega) λks M le h t=>?_
  exact⟨t,ks,rfl,by omega,h⟩
 ·simp_all_arith
  exact k rs _ ⟨by omega,by omega,wide.toNat,by omega,by omega,h⟩ t
def vd {size:Int}(t:cw l rest M)(hm:0<=size)(hm2:size<=900)(k:∀f M',(-1000<=f/\f<=1000)->cw l rest M'->Q (I f) M'):Wp (dU [R 0,I size] M) Q:=by
 refine aN ?_;unfold nO
 simp_all_arith
 refine tM [_,_] (-1000) 1000 (by simp;omega) (by simp;omega) λy h0 h1=>?_
 simp_all_arith
 exact k _ _ ⟨h0,h1⟩ t
def HG {most:Int}(t:cw l rest M)(hm:1<=most)(hm2:most<=1000)(k:∀w h g m M',(1<=w/\w<=most)->(1<=h/\h<=most)->(0<=g/\g<=20)->(0<=m/\m<=12)->cw l rest M'->Q (U [I w,I h,I g,I m]) M'):Wp (lC [R 0,I most] M) Q:=by
 refine aN ?_;unfold kE
 simp_all_arith
 refine tM [_,_] 0 20 (by simp;omega) (by simp;omega) λg g0 g1=>?_
 simp_all_arith
 refine wZ t hm hm2 λw M a b t=>?_
 simp_all_arith
 refine wZ t hm hm2 λh M c d t=>?_
 simp_all_arith
 exact k w h g v _ ⟨a,b⟩ ⟨c,d⟩ ⟨g0,g1⟩ (by omega) t
structure Mv where
 shape:Option Nat
 x:Int
 y:Int
 rank:Int
 turn:Int
def Mv.d (m:Mv):D:=U [match m.shape with|some k=>I k|none=>.non,I m.x,I m.y,I m.rank,I m.turn]
structure CP (n:Nat)(m:Mv):Prop where
 s:∀k,m.shape=Z k->k<n
 x:-1000<=m.x/\m.x<=1000
 y:-1000<=m.y/\m.y<=1000
 r:0<=m.rank/\m.rank<=3
 t:0<=m.turn/\m.turn<=3
def A5 {w h:Int}{more:List D}{n:Nat}(t:cw l rest M)(hw:0<=w/\w<=900)(hh:0<=h/\h<=900)(hn:n<=1000)(k:∀m M',CP n m->cw l rest M'->Q m.d M'):Wp (io [R 0,U (I w::I h::more),I n] M) Q:=by
 refine aN ?_;unfold kB;refine aA ?_;simp_arith;refine GC (λf N=>∃s:Option Nat,(∀k,s=Z k->k<n)/\cw l rest N/\f=.nx [Z (R 0),Z (U (I w::I h::more)),Z (I n),Z (match s with|some k=>I k|none=>.non)]) ?_ λf N e=>?_
 ·simp_all_arith
  ·obtain⟨j,rfl⟩:=Ts q0;exact⟨Z j,λk e=>by cases e;omega,t,rfl⟩
  ·exact⟨Y,nofun,t,rfl⟩
  ·exact⟨Y,nofun,t,rfl⟩
 ·obtain⟨s,hs,t,rfl⟩:=e
  simp_all_arith
  refine vd t hw.1 hw.2 λx M hx t=>?_
  simp_all_arith
  refine vd t hh.1 hh.2 λy M hy t=>?_
  simp_all_arith
  rename_i r _ hr0 hr1 _;exact k ⟨s,x,y,r,v⟩ _ ⟨hs,hx,hy,by dsimp only;omega,by dsimp only;omega⟩ t
structure bV where
 floor:List (List Int)
 sx:Int
 sy:Int
 book:List (List (List Int))
 movers:List Mv
 pots:List Int
def bV.d (s:bV):D:=U [bu s.floor,U [I s.sx,I s.sy],U (s.book.map bu),U (s.movers.map Mv.d),U (s.pots.map I)]
structure a9 (most:Int)(s:bV):Prop where
 floor:o3 16 s.floor
 sx:-1000<=s.sx/\s.sx<=1000
 sy:-1000<=s.sy/\s.sy<=1000
 bl:s.book.length<=8
 book:∀b∈s.book,o3 8 b
 ml:(s.movers.length:Int)<=most
 movers:∀m∈s.movers,CP s.book.length m
 pl:s.pots.length=16
 pots:∀k∈s.pots,0<=k/\k<=63
def G5 {w h mm:Int}{more:List D}(t:cw l rest M)(hw:0<=w/\w<=900)(hh:0<=h/\h<=900)(hm:0<=mm/\mm<=900)(k:∀s M',a9 mm s->cw l rest M'->Q s.d M'):Wp (kD [R 0,U (I w::I h::more),I mm] M) Q:=by
 refine aN ?_;unfold kA jE jJ jL
 simp_all_arith
 refine A2 t (by decide) (by decide) λfl M fo t=>?_
 simp_all_arith
 refine vd t (by decide) (by decide) λsx M hx t=>?_
 simp_all_arith
 refine vd t (by decide) (by decide) λsy M hy t=>?_
 simp_all_arith
 refine tM [_,_] 0 8 (by simp;omega) (by simp;omega) λg g0 g1=>?_
 simp_all_arith
 refine oN bu (cw l rest) (o3 8) t (λx M t=>?_) λbk N t l1 l2 hb=>?_
 ·simp_all_arith
  exact A2 t (by decide) (by decide) λfl M fo t=>⟨t,fl,rfl,fo⟩
 simp_all_arith
 refine oN Mv.d (cw l rest) (CP bk.length) t (λx M t=>?_) λms N t l3 l4 hs=>?_
 ·simp_all_arith
  rw[TC];exact A5 t hw hh (by omega) λm M ok t=>⟨t,m,rfl,ok⟩
 simp_all_arith
 refine oN I (cw l rest) (λk=>0<=k/\k<=63) t (λx M t=>?_) λps N t l5 l6 hp=>?_
 ·simp_all_arith
  exact⟨t,_,rfl,by omega⟩
 simp_all_arith
 exact k ⟨fl,sx,sy,bk,ms,ps⟩ _ ⟨fo,hx,hy,by dsimp only;omega,hb,by dsimp only;omega,hs,l6,hp⟩ t
end
def CF {x:Int}(h0:0<x)(h1:x<=1000000):x.natAbs.log2<9000:=by
 have h2:x.natAbs<2 ^ 20:=by omega
 have:=(ZP (by omega)).mpr h2;omega
def IY {M M1 M2:aq}(hi:gi ρ M=O ⟨ds,Y⟩ M1)(he:bE ⟨ds,Y⟩ bq ge ds ρ M1=O es M2)(hl:es.length<=1000000):a8 gi bq ge aR ρ M=O (.lst es) M2:=by
 unfold a8;rw[hi,az,he,az];unfold aR;rw[if_pos (bX hl)]
theorem eJ:ag ρ M=O [] M:=rfl
def IT (h:0<j)(M:aq):jV (I i) (I j) M=O (I (i % j)) M:=by
 unfold jV
 simp_all
def xC {go:GE}{M M1:aq}(h:g ρ M=O x M)(h2:(go ρ M).bind (λo M2=>(gi ρ M2).bind λi M3=>(u4 o i x M3).bind λ_ M4=>O (Fl.nx ρ) M4)=O (Fl.nx ρ) M1):ki go gi g ρ M=O (.nx ρ) M1:=by
 unfold ki
 simp_all
def HX {a:GT}{M M1:aq}(ha:a ρ M=O false M1):fL a b ρ M=O false M1:=by
 unfold fL
 simp_all
theorem oo {W:Nat->dY->aq->Prop}:∀(ds:List D) (i:Nat),(∀j d,ds[j]?=Z d->∀ρ M,W (i+j) ρ M->∃ρ1 ρ2 M2,s d ρ=Z ρ1/\body ρ1 M=O (.nx ρ2) M2/\W (i+j+1) ρ2 M2)->∀ρ M,W i ρ M->
  ∃ρ' M',W (i+ds.length) ρ' M'/\cn ⟨ds0,Y⟩ s body ds ρ M=O (.nx ρ') M'
 | [],i,h,ρ,M,hW=>⟨ρ,M,hW,rfl⟩
 | d::ds,i,h,ρ,M,hW=>by
  obtain⟨ρ1,ρ2,M2,e1,e2,h2⟩:=h 0 d rfl ρ M hW;obtain⟨ρ',M',h3,e3⟩:=oo (ds0:=ds0)   ds (i+1) (λj d' hd ρ M hW=>by
   have e:i+1+j=i+(j+1):=by omega
   rw[e] at hW ⊢;exact h (j+1) d' hd ρ M hW) ρ2 M2 h2
  refine⟨ρ',M',?_,by simp[cn,l7,e1,e2,e3]⟩
  grind
def sA {lo:Int}(h:(aX lo n)[j]?=Z d):j<n/\d=I (lo+j):=by
 unfold aX at h;rw[Us] at h;cases q:(Tw n)[j]? with
 | none=>simp_all
 | some k=>
  rw[q] at h;obtain⟨hj,ek⟩:=Tf.mp q;rw[VD] at hj
  simp_all
def yH (s:bV)(row:Int)(m:Mv):Bool:=match m.shape with
 | none=>false
 | some k=>decide (m.y<=row)&&decide (row<m.y+((s.book.getD k []).length:Int))
def ot (s:bV)(row:Int):Nat->List Int
 | 0=>[]
 | n+1=>ot s row n++(match s.movers[n]? with|some m=>if yH s row m then [(n:Int)] else []|none=>[])
theorem ke (s:bV)(row:Int):∀n,(ot s row n).length<=n
 | 0=>Te _
 | n+1=>by
  have:=ke s row n;unfold ot;split
  ·split <;> simp <;> omega
  ·simp;omega
def bz (s:bV)(row:Int):List Int:=ot s row s.movers.length
abbrev IU (rs:List (List Int)):D:=U (rs.map λr=>D.tup (r.map I))
def l9 (rs:List (List Int))(way:Int)(n:Nat):List Int:=
 let r:=if way=2\/way=3 then rs.getD (rs.length-1-n) [] else rs.getD n []
 if way=1\/way=3 then r.reverse else r
def N6 {way:Int}(h0:0<=way)(h1:way<4):way=0\/way=1\/way=2\/way=3:=by omega
theorem mH:∀{j:Nat} {n:Int},n∈ot s row j->∃i:Nat,n=i/\i<j/\∃m,s.movers[i]?=Z m/\yH s row m=true
 | 0,n,h=>by cases h
 | j+1,n,h=>by
  rcases Xp.mp h with z|z
  ·obtain⟨i,e,hi,r⟩:=mH z;exact⟨i,e,by omega,r⟩
  ·split at z
   ·rename_i m hm;split at z
    ·rename_i hl;exact⟨j,by simpa using z,by simp,m,hm,hl⟩
    simp_all
   simp_all
def ym (xs:List Int)(lo hi:Option Int):∃ys:List Int,g9 (xs.map I) lo hi=ys.map I/\ys.length<=xs.length/\∀y∈ys,y∈xs:=by
 refine⟨(xs.drop (HT.sIx xs.length 0 lo)).take (HT.sIx xs.length xs.length hi-HT.sIx xs.length 0 lo),by simp[g9],?_,λy hy=>mem_of_mem_drop (mem_of_mem_take hy)⟩;rw[WZ,Y2];omega
def bc (s:bV)(row n:Int):D:=match s.movers[n.toNat]? with
 | some m=>U [I n,I m.x,I m.rank,U ((l9 (s.book.getD (m.shape.getD 0) []) m.turn (row-m.y).toNat).map I)]
 | none=>.non
def bd (s:bV)(row:Int):List Int:=s.floor.getD ((row+s.sy) % (s.floor.length:Int)).toNat []
def cH (s:bV)(row x:Int):Int:=(bd s row).getD ((x+s.sx) % ((bd s row).length:Int)).toNat 0
def oq (s:bV)(m row:Int):List D:=(g9 ((bz s row).map I) Y (Z m)).map λd=>match d with | .int n=>bc s row n|d=>d
def bv (s:bV)(w m row:Int):D:=U [U ((Tw w.toNat).map λ(x:Nat)=>I (cH s row x)),U (oq s m row)]
def zW (n:Int):aG 28 (bc s row n)=true:=by
 unfold bc;split
 ·rename_i m _;simp only[gF,V8,all_nil,(dB 25 (l9 (s.book.getD (m.shape.getD 0) []) m.turn (row-m.y).toNat))];rfl
 rfl
def N5 {a:GE}(ha:a ρ M=O (I x) M)(hb:b ρ M=O (I y) M)(hc:x<=y->c ρ M=O (I z) M):CA xG uC a b c ρ M=O (G (decide (x<=y)&&decide (y<z))) M:=by
 unfold CA;rw[ha,az,hb,az];show(bi.ok (D.bl (decide (x<=y))) M).bind _=_;rw[az]
 by_cases q:x<=y
 ·rw[decide_eq_true q,hc q];rfl
 ·rw[decide_eq_false q];rfl
def su {M M1:aq}(h:g ρ M=O d M1)(h2:sg d ρ=Z ρ1):dR sg g ρ M=O (.nx ρ1) M1:=by
 unfold dR;rw[h,az,h2]
def S6 (o:Option Nat):D:=match o with|some k=>I k|none=>.non
def DY (ok:a9 mm s)(hm:mm<=900)(hM:bI M):lF [s.d,I row] M=O (.lst ((bz s row).map I)) M:=by
 have lm:=ok.ml;refine Wp.is (uz (aN ?_));unfold kS mG
 simp_all_arith
 refine EB (λi ρ N=>∃y0 y1 y2 y3 y4 y5,ρ=[Z s.d,Z (I row),Z (bu s.floor),Z (U [I s.sx,I s.sy]),Z (U (s.book.map bu)),Z (U (s.movers.map Mv.d)),Z (U (s.pots.map I)),Z (R M.length),y0,y1,y2,y3,y4,y5]/\N=M++[.lst ((ot s row i).map I)]) _ 0 ⟨_,_,_,_,_,_,rfl,rfl⟩ (λj d ρ N hd e=>?_) λρ N e=>?_
 ·obtain⟨y0,y1,y2,y3,y4,y5,rfl,rfl⟩:=e;obtain⟨dx,ex,rfl⟩:=qH hd;rw[Uq];rw[Us] at ex;cases gm:s.movers[j]? with
  | none=>rw[gm] at ex;cases ex
  | some m=>
   rw[gm] at ex;cases ex;have hj:=(Tf.mp gm).1;have om:=(ok.movers _ (UT gm)).s;have ey:ot s row (j+1)=ot s row j++(if yH s row m then [(j:Int)] else []):=by rw[ot,gm]
   have l1:((ot s row j).map I).length<1000:=by have:=ke s row j;rw[TC];omega
   unfold yH at ey;refine⟨[Z s.d,Z (I row),Z (bu s.floor),Z (U [I s.sx,I s.sy]),Z (U (s.book.map bu)),Z (U (s.movers.map Mv.d)),Z (U (s.pots.map I)),Z (R M.length),Z (I j),Z (S6 m.shape),Z (I m.x),Z (I m.y),Z (I m.rank),Z (I m.turn)],rfl,?_⟩;cases hs:m.shape with
   | none=>
    rw[hs] at ey
    simp_all_arith
    exact⟨_,_,_,_,_,_,rfl,by rw[ey];simp⟩
   | some k=>
    have hk:=om k hs;rw[hs] at ey;have gb:(s.book.map bu)[k]?=Z (bu s.book[k]):=by rw[Us,Ui hk];rfl
    have e:s.book.getD k []=s.book[k]:=by simp[hk]
    have lb:(s.book[k].map λr=>D.tup (r.map I)).length=s.book[k].length:=TC _;simp only[e] at ey
    simp_all_arith <;> exact⟨_,_,_,_,_,_,rfl,by first|(rw[ey,if_pos (by simp;omega)];simp)|(rw[ey,if_neg (by simp;omega)];simp)⟩
 ·obtain⟨y0,y1,y2,y3,y4,y5,rfl,rfl⟩:=e;rw[kJ,TC,Uq]
  simp_all_arith
  exact cy (pE (dB 28 _) hM) ⟨rfl,rfl⟩
def EC {rs:List (List Int)}{way:Int}{n:Nat}{M:aq}(h0:0<=way)(h1:way<4)(hn:n<rs.length) :
  nG [IU rs,I way,I n] M=O (U ((l9 rs way n).map I)) M:=by
 have ls:(rs.map λr=>D.tup (r.map I)).length=rs.length:=TC _;have a1:aB (IU rs) (I n) M=O (U ((rs.getD n []).map I)) M:=(qL (f:=λr:List Int=>D.tup (r.map I)) (Q:=λd N=>d=U ((rs.getD n []).map I)/\N=M) [] (by omega) ⟨by rw[TK],rfl⟩).h.is;have a2:aB (IU rs) (I (((rs.map λr=>D.tup (r.map I)).length:Int)-1-n)) M=O (U ((rs.getD (rs.length-1-n) []).map I)) M:=(qL (f:=λr:List Int=>D.tup (r.map I)) (Q:=λd N=>d=U ((rs.getD (rs.length-1-n) []).map I)/\N=M) [] (by omega) ⟨by rw[ls,show((rs.length:Int)-1-n).toNat=rs.length-1-n by omega],rfl⟩).h.is;refine Wp.is (aN ?_);unfold nQ;rcases N6 h0 h1 with rfl|rfl|rfl|rfl <;> simp_all_arith
 ·exact⟨rfl,rfl⟩
 ·exact⟨congrArg D.tup map_reverse.symm,rfl⟩
 ·exact⟨rfl,rfl⟩
 ·exact⟨congrArg D.tup map_reverse.symm,rfl⟩
def Dy (ok:a9 mm s)(hn:n∈bz s row):jF [s.d,I n,I row] M=O (bc s row n) M:=by
 obtain⟨i,rfl,hi,m,gm,lz⟩:=mH hn;have om:=ok.movers m (UT gm);have gd:(s.movers.map Mv.d)[i]?=Z m.d:=by rw[Us,gm];rfl
 unfold yH at lz;unfold Mv.d at gd;cases hs:m.shape with
 | none=>rw[hs] at lz;cases lz
 | some k=>
  rw[hs] at lz gd;have hk:=om.s k hs;have ge:s.book.getD k []=s.book[k]:=by simp[hk]
  have gb:(s.book.map bu)[k]?=Z (IU s.book[k]):=by rw[Us,Ui hk];rfl
  simp only[ge,Tz,decide_eq_true_eq] at lz;obtain⟨r,hr⟩:=Ts (by omega:0<=row-m.y);have ls:=EC (rs:=s.book[k]) (way:=m.turn) (n:=r) (M:=M) om.t.1 (by have:=om.t.2;omega) (by omega);rw[<-hr] at ls;refine Wp.is (aN ?_);unfold jA
  simp_all_arith
  refine⟨?_,rfl⟩;unfold bc;rw[TK,gm];simp only[hs,ZF,ge,show(row-m.y).toNat=r by omega]
def Cm (ok:a9 mm s)(hw:1<=w/\w<=900) :
  kR [U [I w,I hh,I g,I m],s.d,I row] M=O (U ((Tw w.toNat).map λ(x:Nat)=>I (cH s row x))) M:=by
 obtain⟨f1,f2,fw,f3,f4,f5⟩:=ok.floor;have hfl:0<=(row+s.sy) % (s.floor.length:Int)/\(row+s.sy) % (s.floor.length:Int)<s.floor.length:=⟨UO _ (by omega),UP _ (by omega)⟩;have lw:(bd s row).length=fw:=by
  unfold bd;have h:((row+s.sy) % (s.floor.length:Int)).toNat<s.floor.length:=by omega
  rw[Vx,Ui h];exact(f5 _ (Wk h)).1
 have lf:(s.floor.map λr=>D.tup (r.map I)).length=s.floor.length:=TC _;have lr:((bd s row).map I).length=(bd s row).length:=TC _;have hix:aB (bu s.floor) (I ((row+s.sy) % ((s.floor.map λr=>D.tup (r.map I)).length:Int))) M=O (U ((bd s row).map I)) M:=by
  rw[lf];exact(qL (f:=λr:List Int=>D.tup (r.map I)) (Q:=λd N=>d=U ((bd s row).map I)/\N=M) [] hfl ⟨rfl,rfl⟩).h.is
 refine Wp.is (aN ?_);unfold lA jz
 simp_all_arith
 refine xF (λ(x:Nat)=>I (cH s row x)) (λx hx=>?_) ?_
 ·have hix:aB (U ((bd s row).map I)) (I (((x:Int)+s.sx) % (((bd s row).map I).length:Int))) M=O (I (cH s row x)) M:=by
   rw[lr];exact(qL (f:=I) (Q:=λd N=>d=I (cH s row x)/\N=M) 0 ⟨UO _ (by omega),UP _ (by omega)⟩ ⟨rfl,rfl⟩).h.is
  simp_all_arith
  exact⟨rfl,rfl⟩
 ·have l2:((Tw w.toNat).map λ(x:Nat)=>I (cH s row x)).length=w.toNat:=by simp
  simp_all_arith
  exact⟨rfl,rfl⟩
def Gc (ok:a9 mm s)(hm:mm<=900)(hM:bI M) :
  pK [U [I w,I hh,I g,I m],s.d,I row] M=O (.lst (g9 ((bz s row).map I) Y (Z m))) M:=by
 have e:=DY (row:=row) ok hm hM;refine Wp.is (aN ?_);unfold qq
 simp_all_arith
 exact⟨rfl,rfl⟩
def GJ (ok:a9 mm s)(hm:mm<=900)(hw:1<=w/\w<=900)(hmo:0<=m/\m<=12)(hM:bI M) :
  rW [U [I w,I hh,I g,I m],s.d,I row] M=O (bv s w m row) M:=by
 obtain⟨ys,ey,ly,qy⟩:=ym (bz s row) Y (Z m);have ll:(bz s row).length<=900:=by
  have:=ke s row s.movers.length;have:=ok.ml;unfold bz;omega
 have etk:oq s m row=ys.map (bc s row):=by unfold oq;rw[ey,Z4];rfl
 have ek:=Gc (w:=w) (hh:=hh) (g:=g) (m:=m) (row:=row) ok hm hM;rw[ey] at ek;have ef:=Cm (w:=w) (hh:=hh) (g:=g) (m:=m) (row:=row) (M:=M) ok hw;have l1:(ys.map (bc s row)).length<=900:=by rw[TC];omega
 unfold bv;rw[etk];refine Wp.is (aN ?_);unfold xl tL
 simp_all_arith
 refine He I (bc s row) (λn hn=>?_) ?_
 ·have e:=Dy (row:=row) (M:=M) ok (qy n hn)
  simp_all_arith
  exact⟨rfl,rfl⟩
 ·simp_all_arith
  exact⟨rfl,rfl⟩
structure Sn where
 n:Int
 x:Int
 r:Int
 ks:List Int
def Sn.d (s:Sn):D:=U [I s.n,I s.x,I s.r,U (s.ks.map I)]
def cg (x:Int)(s:Sn):Int:=if s.x<=x/\x<s.x+(s.ks.length:Int) then s.ks.getD (x-s.x).toNat 0 else 0
def eP (x:Int)(ss:List Sn):List Sn:=ss.filter λs=>cg x s != 0
def pq (x:Int)(s:Sn):D:=U [I s.r,I s.n,I (cg x s)]
def mS (x:Int)(ss:List Sn):(eP x ss).length<=ss.length:=length_filter_le _ _
def xZ {ss:List Sn}(h:ss[j]?=Z s):eP x (ss.take (j+1))=eP x (ss.take j)++(if cg x s=0 then [] else [s]):=by
 rw[take_succ,h];unfold eP
 by_cases hz:cg x s=0 <;> simp[hz]
def za {s:Sn}(h1:s.x<=x)(h2:x<s.x+(s.ks.length:Int)):∃i:Nat,x-s.x=i/\wx (s.ks.map I) (i:Int)=Z (I (cg x s)):=by
 obtain⟨i,hi⟩:=Ts (by omega:0<=x-s.x);have hl:i<s.ks.length:=by omega
 refine⟨i,hi,?_⟩;have e:cg x s=s.ks[i]:=by
  unfold cg
  simp_all
 exact ce (by simp_all)
def vW (h:¬(s.x<=x/\x<s.x+(s.ks.length:Int))):cg x s=0:=by unfold cg;rw[if_neg h]
def B6 (h:∀s,aG 29 (f s)=true)(l:List Sn):(l.map f).all (aG 29)=true:=by
 simp_all
def EY (hE:E.length<1000) :
  d9 [x0,Z (I x),x2,x3,Z (R M.length),Z (I s.n),Z (I s.x),Z (I s.r),Z (U (s.ks.map I))] (M++[.lst E]) =
   O (.nx [x0,Z (I x),x2,x3,Z (R M.length),Z (I s.n),Z (I s.x),Z (I s.r),Z (U (s.ks.map I))]) (M++[.lst (E++if cg x s=0 then [] else [pq x s])]):=by
 unfold d9;have ln:aM cq (aa (ae 8) ag) [x0,Z (I x),x2,x3,Z (R M.length),Z (I s.n),Z (I s.x),Z (I s.r),Z (U (s.ks.map I))] (M++[.lst E])=O (I (s.ks.length:Int)) (M++[.lst E]):=by
  refine xt (a:=ae 8) rfl ?_;show bi.ok (I ((s.ks.map I).length:Int)) _=_;rw[TC]
 have c1:=dh (N5 (a:=ae 6) (b:=ae 1) (y:=x) (z:=s.x+(s.ks.length:Int)) rfl rfl λ_=>aC (f:=bx) (a:=ae 6) rfl ln rfl)
 by_cases h:s.x<=x/\x<s.x+(s.ks.length:Int)
 ·obtain⟨i,hi,ai⟩:=za h.1 h.2;have ix:g2 aB (ae 8) (g2 gD (ae 1) (ae 6)) [x0,Z (I x),x2,x3,Z (R M.length),Z (I s.n),Z (I s.x),Z (I s.r),Z (U (s.ks.map I))] (M++[.lst E])=O (I (cg x s)) (M++[.lst E]):=by
   refine aC (f:=aB) (a:=ae 8) (y:=I (x-s.x)) rfl rfl ?_;rw[hi];show(match wx (s.ks.map I) (i:Int) with|some d=>bi.ok d (M++[MO.lst E])|none=>.bad)=_;rw[ai]
  have t:=xh c1 λ_=>dh (aC (f:=aW true) ix (b:=gC (I 0)) (y:=I 0) rfl (zk (cg x s) 0 _))
  rw[decide_eq_true h.1,decide_eq_true h.2] at t
  by_cases hz:cg x s=0
  ·rw[decide_eq_true hz] at t;rw[if_pos hz,Xc];exact(m6 t).trans rfl
  ·rw[decide_eq_false hz] at t;rw[if_neg hz];exact(tP t).trans (cb (Nb (go:=ae 4) (d:=pq x s) rfl (iT (bh rfl (bh rfl (bh ix rfl))) (by simp)) (by omega)))
 ·have hz:=vW h;have b:(decide (s.x<=x)&&decide (x<s.x+(s.ks.length:Int)))=false:=by
   rw[<-Bool.decide_and];exact decide_eq_false h
  rw[b] at c1;rw[if_pos hz,Xc];exact(m6 ((xh (y:=true) c1 λz=>by cases z).trans rfl)).trans rfl
def zR {ss:List Sn}(hs:ss.length<=900)(hM:bI M) :
  jf [U [fl,U (ss.map Sn.d)],I x] M=O (.lst ((eP x ss).map (pq x))) M:=by
 obtain⟨ρ',M',⟨x5,x6,x7,x8,rfl,rfl⟩,ef⟩:=oo (ds0:=ss.map Sn.d) (s:=b8 [5,6,7,8]) (body:=d9)
  (W:=λi ρ N=>∃x5 x6 x7 x8,ρ=[Z (U [fl,U (ss.map Sn.d)]),Z (I x),Z fl,Z (U (ss.map Sn.d)),Z (R M.length),x5,x6,x7,x8]/\N=M++[.lst ((eP x (ss.take i)).map (pq x))])
  (ss.map Sn.d) 0 (λj d hd ρ N hW=>by
   obtain⟨x5,x6,x7,x8,rfl,rfl⟩:=hW;rw[Uq];rw[Us] at hd;cases gs:ss[j]? with
   | none=>rw[gs] at hd;cases hd
   | some s=>
   rw[gs] at hd;cases hd;rw[xZ gs];have ll:((eP x (ss.take j)).map (pq x)).length<1000:=by
    rw[TC];exact UW (mS x _) (by rw[WZ];omega)
   have e:=EY (x0:=Z (U [fl,U (ss.map Sn.d)])) (x2:=Z fl) (x3:=Z (U (ss.map Sn.d))) (x:=x) (s:=s) (M:=M) ll;refine⟨_,_,_,rfl,e,_,_,_,_,rfl,?_⟩;rw[aaL]
   by_cases hz:cg x s=0
   ·rw[if_pos hz,if_pos hz];rfl
   ·rw[if_neg hz,if_neg hz];rfl)
  [Z (U [fl,U (ss.map Sn.d)]),Z (I x),Z fl,Z (U (ss.map Sn.d)),Z (R M.length),Y,Y,Y,Y] (M++[.lst []]) ⟨_,_,_,_,rfl,rfl⟩
 have e0:(0:Nat)+(ss.map Sn.d).length=ss.length:=by simp
 rw[e0,take_length] at ef;have rt:=pE (M:=M) (xs:=(eP x ss).map (pq x)) (B6 (λ_=>rfl) _) hM;show jD M.length (ck (gQ [Z (U [fl,U (ss.map Sn.d)]),Z (I x),Y,Y,Y,Y,Y,Y,Y] M))=_;unfold gQ;have a1:dR (b8 [2,3]) (ae 0) [Z (U [fl,U (ss.map Sn.d)]),Z (I x),Y,Y,Y,Y,Y,Y,Y] M=O (.nx [Z (U [fl,U (ss.map Sn.d)]),Z (I x),Z fl,Z (U (ss.map Sn.d)),Y,Y,Y,Y,Y]) M:=rfl;have s4:∀b:GS,aj (aQ 4 (ft ag)) b [Z (U [fl,U (ss.map Sn.d)]),Z (I x),Z fl,Z (U (ss.map Sn.d)),Y,Y,Y,Y,Y] M=b [Z (U [fl,U (ss.map Sn.d)]),Z (I x),Z fl,Z (U (ss.map Sn.d)),Z (R M.length),Y,Y,Y,Y] (M++[.lst []]):=λb=>aZ (cY mQ)
 have kf:gw (bW (ae 3)) (b8 [5,6,7,8]) d9 [Z (U [fl,U (ss.map Sn.d)]),Z (I x),Z fl,Z (U (ss.map Sn.d)),Z (R M.length),Y,Y,Y,Y] (M++[.lst []])=_:=lY (t:=⟨ss.map Sn.d,Y⟩) (HJ rfl) ef;rw[aZ a1,s4,aZ kf];exact rt
def zJ (a b:Sn):Prop:=b.r<a.r\/(a.r=b.r/\a.n<=b.n)
def K9:G2 0 eG [pq x s] M=O (U [I (-s.r),I s.n]) M:=by
 rfl
def Qk (a b c d:Int):HT.lexLt [a,b] [c,d]=decide (a<c\/(a=c/\b<d)):=by
 by_cases h1:a<c <;> by_cases h2:a=c <;> by_cases h3:b<d <;> simp[HT.lexLt,h1,h2,h3] <;> omega
def BP (b:Sn):∀s∈[b],zJ b s:=λs hs=>by
 rcases Ur.mp hs with z|z
 ·subst z;exact .inr ⟨rfl,Yu _⟩
 grind
theorem Ai:∀(cs:List Sn) (b:Sn),∃b',b'∈b::cs/\(∀s∈b::cs,zJ b' s)/\qT (G2 0 eG) (cs.map (pq x)) (pq x b) [-b.r,b.n] M=O (pq x b') M
 | [],b=>⟨b,TN ..,BP b,rfl⟩
 | s::r,b=>by
  have hk:=K9 (x:=x) (s:=s) (M:=M);have hi:dJ (U [I (-s.r),I s.n])=Z [-s.r,s.n]:=rfl
  by_cases h:-s.r < -b.r\/(-s.r=-b.r/\s.n<b.n)
  ·obtain⟨b',h1,h2,h3⟩:=Ai (x:=x) (M:=M) r s;refine⟨b',T6 _ h1,λt ht=>?_,?_⟩
   ·rcases Ur.mp ht with z|z
    ·subst z;have:=h2 s (TN ..);unfold zJ at *;omega
    ·exact h2 t z
   ·rw[V2];unfold qT;rw[hk];dsimp only;rw[hi];dsimp only;rw[Qk,if_pos (decide_eq_true h)];exact h3
  ·obtain⟨b',h1,h2,h3⟩:=Ai (x:=x) (M:=M) r b;have hb:=h2 b (TN ..);refine⟨b',?_,λt ht=>?_,?_⟩
   ·rcases Ur.mp h1 with z|z
    ·exact z▸TN ..
    ·exact T6 _ (T6 _ z)
   ·rcases Ur.mp ht with z|z
    ·exact z▸hb
    ·rcases Ur.mp z with z|z
     ·subst z;unfold zJ at *;omega
     ·exact h2 t (T6 _ z)
   ·rw[V2];unfold qT;rw[hk];dsimp only;rw[hi];dsimp only;rw[Qk,if_neg (by simpa using h)];exact h3
def Eb:(cs=[]/\dS [I fl,.lst (cs.map (pq x))] M=O (I fl) M)\/
  ∃b∈cs,(∀s∈cs,zJ b s)/\dS [I fl,.lst (cs.map (pq x))] M=O (I (if 1<=b.r\/fl=0 then cg x b else fl)) M:=by
 cases cs with
 | nil=>
  exact .inl ⟨rfl,rfl⟩
 | cons s r=>
  obtain⟨b,h1,h2,h3⟩:=Ai (x:=x) (M:=M) r s;refine .inr ⟨b,h1,h2,?_⟩;have hg:∀ρ,xL (G2 0 eG) (ae 1) (Z (I fl)::Z (.lst (pq x s::r.map (pq x)))::ρ) M=O (U [I b.r,I b.n,I (cg x b)]) M:=λρ=>by
   assumption
  rw[V2];show ck (i9 [Z (I fl),Z (.lst (pq x s::r.map (pq x))),Y,Y,Y] M)=_;unfold i9;have t:=Lb (dh (aC (f:=DB) (a:=ae 2) (b:=gC (I 1)) (ρ:=[Z (I fl),Z (.lst (pq x s::r.map (pq x))),Z (I b.r),Z (I b.n),Z (I (cg x b))]) (x:=I b.r) (M:=M) rfl rfl rfl)) λ_=>dh (aC  (a:=ae 0) (b:=gC (I 0)) (x:=I fl) rfl rfl (sP fl 0 M))
  have run:∀{o},_=o->dD (iW (ae 1)) (aj (dR (b8 [2,3,4]) (xL (G2 0 eG) (ae 1))) (dD (jO (aJ (g2 DB (ae 2) (gC (I 1)))) (aJ (g2 (aW false) (ae 0) (gC (I 0))))) (aK (ae 4)) aL)) aL [Z (I fl),Z (.lst (pq x s::r.map (pq x))),Y,Y,Y] M=o:=λ{o} ho=>((tP (M1:=M) rfl).trans (aZ (su (hg [Y,Y,Y]) rfl))).trans ho
  by_cases q:1<=b.r\/fl=0
  ·rw[if_pos q,OS (run ((tP (t.trans (by rw[<-aat,decide_eq_true q]))).trans (iS rfl)))];rfl
  ·rw[if_neg q,aZ (run ((m6 (t.trans (by rw[<-aat,decide_eq_false q]))).trans rfl))];rfl
mutual
theorem pe:∀(d:D) (n:Nat),bH n d=true->rZ d d=true
 | .non,n,h=>rfl
 | .bl a,n,h=>beq_self_eq_true a
 | .int a,n,h=>beq_self_eq_true a
 | .str a,n,h=>beq_self_eq_true a
 | .tup xs,n,h=>by
  cases n with
  | zero=>exact ff h
  | succ n=>exact mV xs n h
 | .lst xs,n,h=>by
  cases n with
  | zero=>exact ff h
  | succ n=>exact mV xs n h
 | .ro xs,n,h=>by
  cases n with
  | zero=>exact ff h
  | succ n=>exact mV xs n h
 | .mr a,n,h=>by cases n <;> exact ff h
 | .exc a,n,h=>by cases n <;> exact ff h
 | .any,n,h=>by cases n <;> exact ff h
theorem mV:∀(ds:List D) (n:Nat),bn n ds=true->iY ds ds=true
 | [],n,h=>rfl
 | d::ds,n,h=>
  have h:=TJ.mp (show(bH n d&&bn n ds)=true from h)
  TJ.mpr ⟨pe d n h.1,mV ds n h.2⟩
end
theorem cQ {n:Nat}:∀{ds:List D},(∀d∈ds,bH n d=true)->bn n ds=true
 | [],_=>rfl
 | d::ds,h=>TJ.mpr ⟨h d mem_cons_self,cQ λe he=>h e (mem_cons_of_mem _ he)⟩
structure ig (w h g m:Int):Prop where
 w:1<=w/\w<=40
 h:1<=h/\h<=40
 g:0<=g/\g<=20
 m:0<=m/\m<=12
def bP (w h g m:Int):D:=U [I w,I h,I g,I m]
def t4 {lo hi i:Int}{M:aq}(h:lo<=i/\i<=hi):bB [I i,I lo,I hi] M=O (G true) M:=by
 refine Wp.is (aN ?_);unfold lX
 simp_all_arith
 refine aN ?_;unfold nM
 simp_all_arith
 exact⟨by rw[decide_eq_true h.2],rfl⟩
local macro_rules | `(tactic| simp_all_arith!) => `(tactic| ((with_reducible refine cy (t4 ?_) ?_); omega))
section
variable {M:aq}
def Jw {w h g m:Int}(f:ig w h g m):ou [bP w h g m] M=O (G true) M:=by
 have:=f.w;have:=f.h;have:=f.g;have:=f.m;refine Wp.is (aN ?_);unfold nP
 simp_all_arith
 exact⟨rfl,rfl⟩
def DS {r:List Int}(h:∀k∈r,0<=k/\k<=15)(hl:r.length<=1000):kF [U (r.map I)] M=O (G true) M:=by
 refine Wp.is (aN ?_);unfold lD jQ
 simp_all_arith
 refine nE I (by omega) rfl (λk hk=>?_) ⟨rfl,rfl⟩;have:=h k hk
 simp_all_arith
 refine aN ?_;unfold oB
 simp_all_arith
 exact⟨rfl,rfl⟩
def AY {most:Int}{rs:List (List Int)}(h:o3 most rs)(hm:most<=16):fF [bu rs,I most] M=O (G true) M:=by
 obtain⟨h1,h2,w,h3,h4,h5⟩:=h;have ls:(rs.map λr=>D.tup (r.map I)).length=rs.length:=length_map _;refine Wp.is (aN ?_);unfold iP hO g5
 simp_all_arith
 refine nE (λr:List Int=>D.tup (r.map I)) (by omega) rfl (λr hr=>?_) ?_
 ·have e:=DS (M:=M) (h5 r hr).2 (by have:=(h5 r hr).1;omega)
  simp_all_arith
  exact⟨rfl,rfl⟩
 simp_all_arith
 obtain⟨r0,rt,rfl⟩:=exists_cons_of_length_pos h1;have hw:(r0.map I).length=w:=by rw[length_map];exact(h5 r0 mem_cons_self).1
 refine Ev.r (cr (k:=0) rfl) ?_
 simp_all_arith
 refine nE (λr:List Int=>D.tup (r.map I)) (by omega) rfl (λr hr=>?_) ⟨rfl,rfl⟩;have e:(r.map I).length=w:=by rw[length_map];exact(h5 r hr).1
 simp_all_arith
 exact⟨by rw[e,hw];simp,rfl⟩
def xr {x y:Int}(hx:-1000<=x/\x<=1000)(hy:-1000<=y/\y<=1000):cB [U [I x,I y]] M=O (G true) M:=by
 refine Wp.is (aN ?_);unfold hV gq
 simp_all_arith
 refine nE I (xs:=[x,y]) (by simp) rfl (λk hk=>?_) ⟨rfl,rfl⟩;have:-1000<=k/\k<=1000:=by
  simp only[mem_cons,not_mem_nil,or_false] at hk;rcases hk with rfl|rfl <;> assumption
 simp_all_arith
 exact⟨rfl,rfl⟩
def J4 {bk:List D}:cM [U bk,.non] M=O (G true) M:=by
 refine Wp.is (aN ?_);unfold dH
 simp_all_arith
 exact⟨rfl,rfl⟩
def Kt {bk:List D}{k:Nat}(h:k<bk.length):cM [U bk,I k] M=O (G true) M:=by
 refine Wp.is (aN ?_);unfold dH
 simp_all_arith
 exact⟨rfl,rfl⟩
def G9 {bk:List D}{m:Mv}(h:CP bk.length m):oh [U bk,m.d] M=O (G true) M:=by
 have e:=xr (M:=M) h.x h.y;have:=h.r;have:=h.t;have n0:=J4 (M:=M) (bk:=bk);refine Wp.is (aN ?_);unfold ow Mv.d;cases hs:m.shape with
 | none=>
  simp_all_arith
  refine aN ?_;unfold kz
  simp_all_arith
  refine aN ?_;unfold jZ
  simp_all_arith
  exact⟨rfl,rfl⟩
 | some k=>
  have n1:=Kt (M:=M) (h.s k hs)
  simp_all_arith
  refine aN ?_;unfold kz
  simp_all_arith
  refine aN ?_;unfold jZ
  simp_all_arith
  exact⟨rfl,rfl⟩
def G8 {mm:Int}{s:bV}(ok:a9 mm s)(hm:mm<=12):nJ [s.d] M=O (G true) M:=by
 have:=ok.bl;have:=ok.ml;have:=ok.pl;have lb:(s.book.map bu).length=s.book.length:=length_map _;have lm:(s.movers.map Mv.d).length=s.movers.length:=length_map _;have lp:(s.pots.map I).length=s.pots.length:=length_map _;have e1:=AY (M:=M) ok.floor (by decide);have e2:=xr (M:=M) ok.sx ok.sy;have e3:nY [U (s.pots.map I)] M=O (G true) M:=by
  refine Wp.is (aN ?_);unfold oi mj
  simp_all_arith
  refine nE I (by omega) rfl (λk hk=>?_) ⟨rfl,rfl⟩;have:=ok.pots k hk
  simp_all_arith
  refine aN ?_;unfold oZ
  simp_all_arith
  exact⟨rfl,rfl⟩
 have e4:qx [U (s.book.map bu)] M=O (G true) M:=by
  refine Wp.is (aN ?_);unfold qA nT
  simp_all_arith
  refine nE bu (by omega) rfl (λb hb=>?_) ⟨rfl,rfl⟩
  simp_all_arith
  refine aN ?_;unfold n9
  simp_all_arith
  exact cy (AY (ok.book b hb) (by decide)) ⟨rfl,rfl⟩
 have e5:kQ [U (s.book.map bu),U (s.movers.map Mv.d)] M=O (G true) M:=by
  refine Wp.is (aN ?_);unfold lh jx
  simp_all_arith
  refine nE Mv.d (by omega) rfl (λm hm=>?_) ⟨rfl,rfl⟩;have e:=G9 (M:=M) (bk:=s.book.map bu) (lb▸ok.movers m hm)
  simp_all_arith
  exact⟨rfl,rfl⟩
 refine Wp.is (aN ?_);unfold nV
 simp_all_arith
 exact⟨rfl,rfl⟩
def G0 {w h g m mm:Int}{s:bV}(f:ig w h g m)(ok:a9 mm s)(hm:mm<=12):cP [bP w h g m,s.d] M=O .non M:=by
 have e1:=Jw (M:=M) f;have e2:=G8 (M:=M) ok hm;refine Wp.is (aN ?_);unfold jw
 simp_all_arith
 exact⟨rfl,rfl⟩
end
def uh (xs:List D)(k:Nat):g9 xs (Z (k:Int)) Y=xs.drop k:=by
 unfold g9;rw[HT.sIx_nat,HT.sIx_none]
 by_cases h:k<=xs.length
 ·rw[ZZ h];exact take_of_length_le (by simp)
 ·rw[Nat.min_eq_right (by omega),drop_eq_nil_of_le (Te _),drop_eq_nil_of_le (by omega),take_nil]
def se (xs:List D)(k:Nat):g9 xs Y (Z (k:Int))=xs.take k:=by
 unfold g9;rw[HT.sIx_nat,HT.sIx_none];simp
inductive Dd where
 | shift (x y:Int)|pot (k h:Int)|move (i:Nat) (x y:Int)|shape (i:Nat) (o:Option Nat)|rank (i:Nat) (r:Int)|turn (i:Nat) (t:Int)
def xH (o:Option Nat):D:=match o with|some k=>I k|none=>.non
def Dd.d:Dd->D
 | .shift x y=>U [S "shift",I x,I y]
 | .pot k h=>U [S "pot",I k,I h]
 | .move i x y=>U [S "move",I i,I x,I y]
 | .shape i o=>U [S "shape",I i,xH o]
 | .rank i r=>U [S "rank",I i,I r]
 | .turn i t=>U [S "turn",I i,I t]
def kN (s:bV):Dd->Prop
 | .shift x y=>(-1000<=x/\x<=1000)/\(-1000<=y/\y<=1000)
 | .pot k h=>(0<=k/\k<=15)/\(0<=h/\h<=63)
 | .move i x y=>i<s.movers.length/\(-1000<=x/\x<=1000)/\(-1000<=y/\y<=1000)
 | .shape i o=>i<s.movers.length/\∀k,o=Z k->k<s.book.length
 | .rank i r=>i<s.movers.length/\(0<=r/\r<=3)
 | .turn i t=>i<s.movers.length/\(0<=t/\t<=3)
def lG (s:bV)(i:Nat)(f:Mv->Mv):bV:=match s.movers[i]? with
 | some m=>{s with movers:=s.movers.set i (f m)}
 | none=>s
def a6 (s:bV):Dd->bV
 | .shift x y=>{s with sx:=x,sy:=y}
 | .pot k h=>{s with pots:=s.pots.set k.toNat h}
 | .move i x y=>lG s i λm=>{m with x:=x,y:=y}
 | .shape i o=>lG s i λm=>{m with shape:=o}
 | .rank i r=>lG s i λm=>{m with rank:=r}
 | .turn i t=>lG s i λm=>{m with turn:=t}
local macro_rules | `(tactic| simp_all_arith!) => `(tactic| ((with_reducible refine cy (t4 ?_) ?_); omega))
def CK {s:bV}{dd:Dd}{M:aq}(h:kN s dd):pT [s.d,dd.d] M=O (G true) M:=by
 have lm:(s.movers.map Mv.d).length=s.movers.length:=length_map _;have lb:(s.book.map bu).length=s.book.length:=length_map _;refine Wp.is (aN ?_);unfold pU;cases dd with
 | shift x y=>
  simp_all_arith
  exact cy (xr h.1 h.2) ⟨rfl,rfl⟩
 | pot k hu=>
  have:=h.1;have:=h.2
  simp_all_arith
  refine aN ?_;unfold oB
  simp_all_arith
  refine aN ?_;unfold oZ
  simp_all_arith
  exact⟨rfl,rfl⟩
 | move i x y=>
  have:=h.1
  simp_all_arith
  refine aN ?_;unfold cC
  simp_all_arith
  exact cy (xr h.2.1 h.2.2) ⟨rfl,rfl⟩
 | shape i o=>
  have:=h.1
  simp_all_arith
  refine aN ?_;unfold cC
  simp_all_arith
  cases o with
  | none=>exact cy J4 ⟨rfl,rfl⟩
  | some k=>exact cy (Kt (by rw[lb];exact h.2 k rfl)) ⟨rfl,rfl⟩
 | rank i r=>
  have:=h.1;have:=h.2
  simp_all_arith
  refine aN ?_;unfold cC
  simp_all_arith
  refine aN ?_;unfold kz
  simp_all_arith
  exact⟨rfl,rfl⟩
 | turn i r=>
  have:=h.1;have:=h.2
  simp_all_arith
  refine aN ?_;unfold cC
  simp_all_arith
  refine aN ?_;unfold jZ
  simp_all_arith
  exact⟨rfl,rfl⟩
def zh (m:Mv):m.d=U [xH m.shape,I m.x,I m.y,I m.rank,I m.turn]:=by
 rfl
local macro_rules | `(tactic| simp_all_arith!) => `(tactic| with_reducible refine tD (by assumption) (by omega) (by omega) fun v M q0 q1 t => ?_)
def Si {s:bV}{M:aq}:aW false (U (s.movers.map Mv.d)) (U []) M=O (G (decide (s.movers=[]))) M:=by
 have cm:bn 39 (s.movers.map Mv.d)=true:=cQ λd hd=>by
  obtain⟨m,_,rfl⟩:=mem_map.mp hd;rw[zh];have:bH 38 (xH m.shape)=true:=by cases m.shape <;> rfl
  simp[this]
 unfold aW;show(if(bn 39 (s.movers.map Mv.d)&&true)=true then bi.ok (D.bl (rZ (U (s.movers.map Mv.d)) (U []) != false)) M else .bad)=_;rw[cm,if_pos (by rfl),Yq,show rZ (U (s.movers.map Mv.d)) (U [])=decide (s.movers=[]) by cases s.movers <;> simp]
def Dn {l:List Int}{rest M:aq}{Q:D->aq->Prop}{w h:Int}{more:List D}{s:bV}{mm:Int}(t:cw l rest M)(ok:a9 mm s)(hm:mm<=900)(hw:0<=w/\w<=900)(hh:0<=h/\h<=900)(k:∀dd M',kN s dd->cw l rest M'->Q dd.d M'):Wp (je [R 0,U (I w::I h::more),s.d] M) Q:=by
 have ml:=ok.ml;have bl:=ok.bl;have lm:(s.movers.map Mv.d).length=s.movers.length:=length_map _;have lb:(s.book.map bu).length=s.book.length:=length_map _;refine aN ?_;unfold mF;refine aA ?_;simp_arith;refine aA (Qm (v<2\/s.movers=[]) ?_ (λ_=>?_) λno=>?_)
 ·simp_all_arith
  ·exact⟨by simp[hc],rfl⟩
  ·refine cy Si ?_
   simp_all_arith
   simp[hc]
 ·simp_all_arith
  refine vd t (by decide) (by decide) λx M hx t=>?_
  simp_all_arith
  refine vd t (by decide) (by decide) λy M hy t=>?_
  simp_all_arith
  rename_i p _ p0 p1 _;refine B0 (λd=>∃dd:Dd,d=dd.d/\kN s dd) (by simp;omega) (by
   simp only[mem_cons,not_mem_nil,or_false,forall_eq_or_imp,forall_eq];exact⟨⟨.shift x y,rfl,hx,hy⟩,⟨.pot p v,rfl,⟨p0,by omega⟩,q0,by omega⟩⟩) λd hd=>?_
  obtain⟨dd,rfl,hd⟩:=hd
  simp_all_arith
  exact k dd _ hd t
 ·have m0:0<s.movers.length:=length_pos_iff.mpr λe=>no (.inr e)
  simp_all_arith
  rename_i way _ w0 w1 _;rw[lb];rw[lm] at q1;obtain⟨j,rfl⟩:=Ts q0;refine A5 t hw hh (by omega) λm M mk t=>?_
  have hj:j<s.movers.length:=by omega
  have:¬way<2:=λe=>no (.inl e)
  simp_all_arith
  ·exact k (.move j m.x m.y) _ ⟨hj,mk.x,mk.y⟩ t
  ·refine B0 (λd=>∃dd:Dd,d=dd.d/\kN s dd) (by simp;omega) (by
    simp only[mem_cons,not_mem_nil,or_false,forall_eq_or_imp,forall_eq];exact⟨⟨.shape j m.shape,rfl,hj,mk.s⟩,⟨.rank j m.rank,rfl,hj,mk.r⟩,⟨.turn j m.turn,rfl,hj,mk.t⟩⟩) λd hd=>?_
   obtain⟨dd,rfl,hd⟩:=hd
   simp_all_arith
   exact k dd _ hd t
def o7 {s:bV}{mm:Int}{i:Nat}{f:Mv->Mv}(ok:a9 mm s)(hf:∀m,CP s.book.length m->CP s.book.length (f m)):a9 mm (lG s i f):=by
 unfold lG;split
 ·rename_i m hm;refine⟨ok.floor,ok.sx,ok.sy,ok.bl,ok.book,by simpa using ok.ml,λm' h'=>?_,ok.pl,ok.pots⟩;rcases mem_or_eq_of_mem_set h' with q|q
  ·exact ok.movers m' q
  ·rw[q];exact hf m (ok.movers m (mem_of_getElem? hm))
 omega
def kY {s:bV}{mm:Int}{dd:Dd}(ok:a9 mm s)(h:kN s dd):a9 mm (a6 s dd):=by
 cases dd with
 | shift x y=>exact⟨ok.floor,h.1,h.2,ok.bl,ok.book,ok.ml,ok.movers,ok.pl,ok.pots⟩
 | pot k hu=>
  refine⟨ok.floor,ok.sx,ok.sy,ok.bl,ok.book,ok.ml,ok.movers,by simpa[a6] using ok.pl,λq hq=>?_⟩;rcases mem_or_eq_of_mem_set hq with z|z
  ·exact ok.pots q z
  ·rw[z];exact h.2
 | move i x y=>exact o7 ok λm hm=>⟨hm.s,h.2.1,h.2.2,hm.r,hm.t⟩
 | shape i o=>exact o7 ok λm hm=>⟨h.2,hm.x,hm.y,hm.r,hm.t⟩
 | rank i r=>exact o7 ok λm hm=>⟨hm.s,hm.x,hm.y,h.2,hm.t⟩
 | turn i t=>exact o7 ok λm hm=>⟨hm.s,hm.x,hm.y,hm.r,h.2⟩
def qB (xs:List D)(i:Nat)(x:D)(h:i<xs.length):xs.take i++[x]++xs.drop (i+1)=xs.set i x:=by
 rw[set_eq_take_append_cons_drop,if_pos h];simp
def rA {xs:List D}{i:Nat}{x:D}{M:aq}(h:i<xs.length)(hl:xs.length<=2000):gM [U xs,I i,x] M=O (U (xs.set i x)) M:=by
 rw[<-qB xs i x h];refine Wp.is (aN ?_);unfold l8
 simp_all_arith
 rw[se];refine Ar.mk (by simp;omega) ?_
 simp_all_arith
 rw[show g9 xs (Z ((i:Int)+1)) Y=xs.drop (i+1) from uh xs (i+1)];refine Ar.mk (by simp;omega) ?_
 simp_all_arith
 exact⟨rfl,rfl⟩
def vU (n:Nat)(rs:List (List Int)):aG (n+3) (bu rs)=true:=by
 unfold bu;rw[gF,all_map,all_eq_true];intro r _;exact dB n r
def HW (n:Nat)(m:Mv):aG (n+2) m.d=true:=by
 unfold Mv.d;cases m.shape <;> rfl
def dP (s:bV):aG 30 s.d=true:=by
 have p2:(s.book.map bu).all (aG 28)=true:=by
  rw[all_map,all_eq_true];intro b _;exact vU 25 b
 have p3:(s.movers.map Mv.d).all (aG 28)=true:=by
  rw[all_map,all_eq_true];intro m _;exact HW 26 m
 unfold bV.d;simp only[gF,all_cons,all_nil,(vU 26 s.floor),p2,p3,(dB 27 s.pots)];rfl
def oR {s:bV}{i:Nat}{m:Mv}{f:Mv->Mv}(gm:s.movers[i]?=Z m):(lG s i f).d=U [bu s.floor,U [I s.sx,I s.sy],U (s.book.map bu),U ((s.movers.map Mv.d).set i (f m).d),U (s.pots.map I)]:=by
 have e:lG s i f={s with movers:=s.movers.set i (f m)}:=by unfold lG;rw[gm]
 rw[e];unfold bV.d;simp
def Ay {s:bV}{mm:Int}{dd:Dd}{M:aq}(ok:a9 mm s)(hm:mm<=900)(h:kN s dd):fD [s.d,dd.d] M=O (a6 s dd).d M:=by
 have id1:=CK (M:=M) h;have ml:=ok.ml;have hl:(s.movers.map Mv.d).length<=2000:=by rw[length_map];omega
 have mv:∀(i:Nat) (hi:i<s.movers.length),∃m,s.movers[i]?=Z m/\(s.movers.map Mv.d)[i]?=Z (U [xH m.shape,I m.x,I m.y,I m.rank,I m.turn]):=λi hi=>
  ⟨s.movers[i],getElem?_eq_getElem hi,by rw[getElem?_map,getElem?_eq_getElem hi,<-zh];rfl⟩
 have wp:∀{i:Nat} {x:D},i<s.movers.length->gM [U (s.movers.map Mv.d),I i,x] M=O (U ((s.movers.map Mv.d).set i x)) M:=λh=>rA (by rwa [length_map]) hl
 refine Wp.is (aN ?_);unfold iJ;cases dd with
 | shift x y=>
  simp_all_arith
  exact⟨rfl,rfl⟩
 | pot k hu=>
  obtain⟨kn,rfl⟩:=Ts h.1.1;have hk:=h.1.2;have w:=rA (xs:=s.pots.map I) (i:=kn) (x:=I hu) (M:=M) (by rw[length_map,ok.pl];omega) (by rw[length_map,ok.pl];omega)
  simp_all_arith
  refine⟨?_,rfl⟩;show _=D.tup [bu s.floor,U [I s.sx,I s.sy],U (s.book.map bu),U (s.movers.map Mv.d),U ((s.pots.set kn hu).map I)];rw[map_set]
 | move i x y=>
  obtain⟨m,gm,am⟩:=mv i h.1
  simp_all_arith
  refine aN ?_;unfold cX
  simp_all_arith
  refine cy (wp h.1) ?_
  simp_all_arith
  exact⟨(oR (f:=λm=>{m with x:=x,y:=y}) gm).symm,rfl⟩
 | shape i o=>
  obtain⟨m,gm,am⟩:=mv i h.1
  simp_all_arith
  refine aN ?_;unfold cX
  simp_all_arith
  refine cy (wp h.1) ?_
  simp_all_arith
  exact⟨((oR (f:=λm=>{m with shape:=o}) gm).trans (by rw[zh])).symm,rfl⟩
 | rank i r=>
  obtain⟨m,gm,am⟩:=mv i h.1
  simp_all_arith
  refine aN ?_;unfold cX
  simp_all_arith
  refine cy (wp h.1) ?_
  simp_all_arith
  exact⟨((oR (f:=λm=>{m with rank:=r}) gm).trans (by rw[zh])).symm,rfl⟩
 | turn i t=>
  obtain⟨m,gm,am⟩:=mv i h.1
  simp_all_arith
  refine aN ?_;unfold cX
  simp_all_arith
  refine cy (wp h.1) ?_
  simp_all_arith
  exact⟨((oR (f:=λm=>{m with turn:=t}) gm).trans (by rw[zh])).symm,rfl⟩
def put:List (Nat×MO)->aq->aq
 | [],M=>M
 | p::cs,M=>put cs (M.set p.1 p.2)
theorem BM:∀(cs:List (Nat×MO)) (M:aq),(put cs M).length=M.length
 | [],M=>rfl
 | p::cs,M=>(BM cs _).trans length_set
theorem wq {i:Nat}:∀{cs:List (Nat×MO)} {M:aq},i∉cs.map (·.1)->(put cs M)[i]?=M[i]?
 | [],M,_=>rfl
 | p::cs,M,h=>by
  rw[map_cons,mem_cons,not_or] at h;rw[put,wq h.2,getElem?_set_ne (Uj h.1)]
theorem FG {i:Nat}{o:MO}:∀{cs:List (Nat×MO)} {M:aq},(cs.map (·.1)).Nodup->(i,o)∈cs->i<M.length->(put cs M)[i]?=Z o
 | p::cs,M,n,h,l=>by
  rw[map_cons,nodup_cons] at n;rw[put];rcases mem_cons.mp h with e|e
  ·subst e;rw[wq n.1];exact getElem?_set_self l
  ·exact FG n.2 e (by rwa [length_set])
theorem Ca {i:Nat}{o:MO}:∀{cs:List (Nat×MO)} {M:aq},i∉cs.map (·.1)->(put cs M).set i o=put cs (M.set i o)
 | [],M,_=>rfl
 | p::cs,M,h=>by
  rw[map_cons,mem_cons,not_or] at h;rw[put,Ca h.2,set_comm _ _ (Uj h.1)];rfl
theorem wK {i:Nat}{o o':MO}:∀{cs:List (Nat×MO)} {M:aq} {k:Nat},(cs.map (·.1)).Nodup->cs[k]?=Z (i,o')->(put cs M).set i o=put (cs.set k (i,o)) M
 | p::cs,M,0,n,h=>by
  rw[map_cons,nodup_cons] at n;cases h;rw[put,Ca n.1,List.set_set];rfl
 | p::cs,M,k+1,n,h=>by
  rw[map_cons,nodup_cons] at n;exact wK (cs:=cs) (k:=k) n.2 h
theorem Bl {E:aq}:∀{cs:List (Nat×MO)} {M:aq},(∀i∈cs.map (·.1),i<M.length)->put cs M++E=put cs (M++E)
 | [],M,_=>rfl
 | p::cs,M,h=>by
  rw[put,Bl (λi hi=>by rw[length_set];exact h i (mem_cons_of_mem _ hi)),put,List.set_append_left _ _ (h p.1 mem_cons_self)]
theorem Bg {i:Nat}{o:MO}:∀{cs:List (Nat×MO)} {M:aq},put (cs++[(i,o)]) M=(put cs M).set i o
 | [],M=>rfl
 | p::cs,M=>Bg (cs:=cs)
theorem xN:∀{cs:List (Nat×MO)} {M:aq},(∀p∈cs,M[p.1]?=Z p.2)->put cs M=M
 | [],M,_=>rfl
 | p::cs,M,h=>by
  rw[put,my (h p mem_cons_self)];exact xN λq hq=>h q (mem_cons_of_mem _ hq)
theorem BO {x:MO}:∀{cs:List (Nat×MO)} {M:aq},x∈put cs M->x∈M\/∃p∈cs,p.2=x
 | [],M,h=>.inl h
 | p::cs,M,h=>by
  rcases BO (cs:=cs) h with q|⟨c,q,e⟩
  ·rcases mem_or_eq_of_mem_set q with q|q
   ·exact .inl q
   ·exact .inr ⟨p,mem_cons_self,q.symm⟩
  ·exact .inr ⟨c,mem_cons_of_mem _ q,e⟩
structure Bs where
 st:D
 t:Int
 tk:D
 rows:List (List Int)
 tch:List (List bN×D)
 grd:List (bN×D)
 lost:List D
structure Pl where
 b:Nat
 r:Nat
 t:Nat
 g:Nat
 l:Nat
 rf:List Nat
def Pl.all (L:Pl):List Nat:=L.b::L.r::L.t::L.g::L.l::L.rf
def Pl.more (L:Pl)(n k:Nat):Pl:={L with rf:=L.rf++(Tw k).map (n+·)}
structure Pl.In (L:Pl)(n k:Nat):Prop where
 nd:L.all.Nodup
 lt:∀i∈L.all,i<n
 rl:L.rf.length=k
def cF (fr:D)(L:Pl)(B:Bs):List (Str×D):=[("frame",fr),("standing",B.st),("ahead",I B.t),("row_taken",B.tk),("laid_rows",R L.r),("first_touches",R L.t),("first_grounds",R L.g),("lost_pairs",R L.l)]
def iV (r:List Int):MO:=.lst (r.map I)
def dG (fr:D)(L:Pl)(B:Bs):List (Nat×MO):=(L.b,.obj "Beam" (cF fr L B))::(L.r,.lst (L.rf.map D.mr))::(L.t,.dT B.tch)::(L.g,.dK B.grd)::(L.l,.lst B.lost)::L.rf.zip (B.rows.map iV)
def av (M:aq)(fr:D)(L:Pl)(B:Bs):aq:=put (dG fr L B) M
def zS (M:aq)(k:Nat):aq:=M++TH k (.lst [])
section
variable {M:aq}{fr:D}{B:Bs}{L:Pl}
def pY (v:L.In M.length B.rows.length):(dG fr L B).map (·.1)=L.all:=by
 show L.b::L.r::L.t::L.g::L.l::(L.rf.zip (B.rows.map iV)).map Prod.fst=_;rw[ZG (by rw[length_map,v.rl];exact Te _)];rfl
def nW (v:L.In M.length B.rows.length){i:Nat}{o:MO}(h:(i,o)∈dG fr L B):(av M fr L B)[i]?=Z o:=FG (by rw[pY v];exact v.nd) h (v.lt i (by rw[<-pY (fr:=fr) v];exact mem_map.mpr ⟨_,h,rfl⟩))
def iX (v:L.In M.length B.rows.length):(av M fr L B)[L.b]?=Z (.obj "Beam" (cF fr L B)):=nW v (by simp[dG])
def Nt (v:L.In M.length B.rows.length):(av M fr L B)[L.r]?=Z (.lst (L.rf.map D.mr)):=nW v (by simp[dG])
def PQ (v:L.In M.length B.rows.length):(av M fr L B)[L.t]?=Z (.dT B.tch):=nW v (by simp[dG])
def N0 (v:L.In M.length B.rows.length):(av M fr L B)[L.g]?=Z (.dK B.grd):=nW v (by simp[dG])
def Rt (v:L.In M.length B.rows.length):(av M fr L B)[L.l]?=Z (.lst B.lost):=nW v (by simp[dG])
def KG {i j:Nat}{r:List Int}(h:B.rows[i]?=Z r)(hj:L.rf[i]?=Z j):(j,iV r)∈dG fr L B:=by
 refine mem_cons_of_mem _ (mem_cons_of_mem _ (mem_cons_of_mem _ (mem_cons_of_mem _ (mem_cons_of_mem _ (mem_of_getElem? (i:=i) ?_)))));rw[V7,getElem?_map,h];exact⟨hj,rfl⟩
def GH {i j:Nat}{r:List Int}(v:L.In M.length B.rows.length)(h:B.rows[i]?=Z r)(hj:L.rf[i]?=Z j):(av M fr L B)[j]?=Z (iV r):=nW v (KG h hj)
def Ks {i:Nat}(v:L.In M.length B.rows.length)(h:i∉L.all):(av M fr L B)[i]?=M[i]?:=wq (by rwa [pY v])
def sY:(av M fr L B).length=M.length:=BM _ _
theorem mz:(cF fr L B).lookup ("frame":Str)=Z fr:=rfl
theorem xI:(cF fr L B).lookup ("standing":Str)=Z B.st:=rfl
theorem AK:(cF fr L B).lookup ("ahead":Str)=Z (I B.t):=rfl
theorem JX:(cF fr L B).lookup ("row_taken":Str)=Z B.tk:=rfl
theorem wD:(cF fr L B).lookup ("laid_rows":Str)=Z (R L.r):=rfl
theorem FR:(cF fr L B).lookup ("first_touches":Str)=Z (R L.t):=rfl
theorem E9:(cF fr L B).lookup ("first_grounds":Str)=Z (R L.g):=rfl
theorem BG:(cF fr L B).lookup ("lost_pairs":Str)=Z (R L.l):=rfl
def nI (v:L.In M.length B.rows.length)(k:Nat){i:Nat}{o o':MO}(h:(dG fr L B)[k]?=Z (i,o')):(av M fr L B).set i o=put ((dG fr L B).set k (i,o)) M:=wK (by rw[pY v];exact v.nd) h
def Qb {t:Int}(v:L.In M.length B.rows.length):(av M fr L B).set L.b (.obj "Beam" (jv "ahead" (I t) (cF fr L B)))=av M fr L {B with t:=t}:=nI v 0 rfl
def Lq {tk:D}(v:L.In M.length B.rows.length):(av M fr L B).set L.b (.obj "Beam" (jv "row_taken" tk (cF fr L B)))=av M fr L {B with tk:=tk}:=nI v 0 rfl
def LA {st:D}(v:L.In M.length B.rows.length):(av M fr L B).set L.b (.obj "Beam" (jv "standing" st (cF fr L B)))=av M fr L {B with st:=st}:=nI v 0 rfl
def Ds (v:L.In M.length B.rows.length):(av M fr L B).set L.b (.obj "Beam" (jv "lost_pairs" (R L.l) (cF fr L B)))=av M fr L B:=my (iX v)
def JH {x:List (List bN×D)}(v:L.In M.length B.rows.length):(av M fr L B).set L.t (.dT x)=av M fr L {B with tch:=x}:=nI v 2 rfl
def Ih {x:List (bN×D)}(v:L.In M.length B.rows.length):(av M fr L B).set L.g (.dK x)=av M fr L {B with grd:=x}:=nI v 3 rfl
def E6 {x:List D}(v:L.In M.length B.rows.length):(av M fr L B).set L.l (.lst x)=av M fr L {B with lost:=x}:=nI v 4 rfl
def HQ {i j:Nat}{r r0:List Int}(v:L.In M.length B.rows.length)(h:B.rows[i]?=Z r0)(hj:L.rf[i]?=Z j):(av M fr L B).set j (iV r)=av M fr L {B with rows:=B.rows.set i r}:=by
 refine(nI v (i+5) (o':=iV r0) ?_).trans ?_
 ·show(L.rf.zip (B.rows.map iV))[i]?=_;rw[V7,getElem?_map,h];exact⟨hj,rfl⟩
 ·show put (_::_::_::_::_::(L.rf.zip (B.rows.map iV)).set i (j,iV r)) M=put (_::_::_::_::_::L.rf.zip ((B.rows.set i r).map iV)) M;have e:(L.rf.zip (B.rows.map iV)).set i (j,iV r)=L.rf.zip ((B.rows.set i r).map iV):=by
   apply ext_getElem?;intro k;rw[List.getElem?_set,map_set]
   by_cases q:i=k
   ·subst q;have l1:=(Tf.mp hj).1;have l2:=(Tf.mp h).1;rw[if_pos rfl,if_pos (by rw[List.length_zip,length_map];omega)];symm;rw[V7];exact⟨hj,getElem?_set_self (by rwa [length_map])⟩
   ·rw[if_neg q];simp only[List.zip,getElem?_zipWith,getElem?_set_ne q]
  rw[e];rfl
def D1 (v:L.In M.length B.rows.length):(L.more M.length 1).In (M++[MO.lst []]).length (B.rows++[[]]).length:=by
 have e:(L.more M.length 1).all=L.all++[M.length]:=rfl;refine⟨?_,?_,?_⟩
 ·rw[e,nodup_append];exact⟨v.nd,by simp,λa ha b hb=>by rw[mem_singleton] at hb;subst hb;exact TB (v.lt a ha)⟩
 ·rw[e];intro i hi;rw[length_append,length_singleton];rcases mem_append.mp hi with q|q
  ·exact Wu (v.lt i q)
  ·rw[mem_singleton] at q;omega
 ·show(L.rf++[M.length+0]).length=_;rw[length_append,length_append,v.rl];rfl
def Ic (v:L.In M.length B.rows.length):(av M fr L B++[MO.lst []]).set L.r (MO.lst (L.rf.map D.mr++[D.mr (av M fr L B).length]))=av (M++[.lst []]) fr (L.more M.length 1) {B with rows:=B.rows++[[]]}:=by
 have kl:=pY (fr:=fr) v;have e0:av M fr L B++[MO.lst []]=put (dG fr L B) (M++[.lst []]):=Bl (λi hi=>v.lt i (by rwa [<-kl]));rw[sY,e0,wK (k:=1) (o':=.lst (L.rf.map D.mr)) (by rw[kl];exact v.nd) rfl];have e1:dG fr (L.more M.length 1) {B with rows:=B.rows++[[]]}=(dG fr L B).set 1 (L.r,.lst (L.rf.map D.mr++[R M.length]))++[(M.length,.lst [])]:=by
  show(_::(L.r,MO.lst ((L.rf++[M.length]).map D.mr))::_::_::_::(L.rf++[M.length]).zip ((B.rows++[[]]).map iV))=_::_::_::_::_::(L.rf.zip (B.rows.map iV)++[_]);rw[map_append,map_append,List.zip_append (by rw[length_map,v.rl])];rfl
 have ns:M.length∉((dG fr L B).set 1 (L.r,MO.lst (L.rf.map D.mr++[D.mr M.length]))).map (·.1):=by
  intro h;have e2:((dG fr L B).set 1 (L.r,MO.lst (L.rf.map D.mr++[D.mr M.length]))).map (·.1)=(dG fr L B).map (·.1):=rfl;rw[e2,kl] at h;exact U9 _ (v.lt _ h)
 show _=put (dG fr (L.more M.length 1) {B with rows:=B.rows++[[]]}) _;rw[e1,Bg,my];rw[wq ns,getElem?_append_right (Te _),U6];rfl
structure Bs.Pure (B:Bs):Prop where
 st:aG 30 B.st=true
 tk:aG 30 B.tk=true
 tch:∀p∈B.tch,aG 30 p.2=true
 grd:∀p∈B.grd,aG 30 p.2=true
 lost:∀p∈B.lost,aG 30 p=true
def ka (h0:bI M)(hf:aG 30 fr=true)(v:L.In M.length B.rows.length)(p:B.Pure):bI (av M fr L B):=by
 unfold bI;rw[sY];refine all_eq_true.mpr λx hx=>?_
 have f:∀i∈L.all,mh M.length 30 (R i)=true:=λi hi=>decide_eq_true (v.lt i hi)
 rcases BO hx with q|⟨c,q,rfl⟩
 ·exact all_eq_true.mp h0 x q
 ·unfold dG at q;simp only[mem_cons] at q;rcases q with rfl|rfl|rfl|rfl|rfl|q
  ·show(cF fr L B).all (λp=>mh M.length 30 p.2)=true;unfold cF;simp only[all_cons,all_nil,Tz];exact⟨bA 30 _ hf,bA 30 _ p.st,rfl,bA 30 _ p.tk,f _ (by simp[Pl.all]),f _ (by simp[Pl.all]),f _ (by simp[Pl.all]),f _ (by simp[Pl.all]),trivial⟩
  ·refine all_eq_true.mpr λx hx=>?_
   obtain⟨i,hi,rfl⟩:=mem_map.mp hx;exact f i (by simp[Pl.all,hi])
  ·exact all_eq_true.mpr λx hx=>bA 30 _ (p.tch x hx)
  ·exact all_eq_true.mpr λx hx=>bA 30 _ (p.grd x hx)
  ·exact all_eq_true.mpr λx hx=>bA 30 _ (p.lost x hx)
  ·obtain⟨r,_,e⟩:=mem_map.mp (of_mem_zip q).2;rw[<-e];exact jS (dB 29 r)
end
theorem qR {w h g m:Int}{M:aq}:jj [bP w h g m] M=O (I (w+g)) M:=rfl
def jM {w h g m:Int}{M:aq}(k:ig w h g m):gf [bP w h g m] M=O (I (h*(w+g))) M:=by
 show ck (kU [Z (bP w h g m),Y,Y,Y,Y] M)=_;unfold kU;rw[aZ rfl,iS (aC rfl (Es rfl qR) (Eu   (by have:=k.h;omega) (by have:=k.h;omega) M))];rfl
def nK (w g t:Int):D:=if t % (w+g)<w then U [I (t / (w+g)),I (t % (w+g))] else U [I (t / (w+g)),.non]
def F8 {w h g m t:Int}{M:aq}(f:ig w h g m)(h0:0<=t)(h1:t<h*(w+g)):lB [bP w h g m,I t] M=O (nK w g t) M:=by
 have e:=qR (w:=w) (h:=h) (g:=g) (m:=m) (M:=M);have e2:=jM (M:=M) f;have p:0<w+g:=by have:=f.w;have:=f.g;omega
 have dv:GL [I t,I (w+g)] M=O (U [I (t / (w+g)),I (t % (w+g))]) M:=by
  unfold GL;dsimp only;rw[if_pos ⟨p,CF p (by have:=f.w;have:=f.g;omega)⟩]
 refine Wp.is (aN ?_);unfold ox nK
 simp_all_arith
 ·exact⟨by rw[if_neg (by omega)],rfl⟩
 ·exact⟨by rw[if_pos (by omega)],rfl⟩
def jG (xs:List Int)(lo hi:Option Int):List Int:=(xs.drop (HT.sIx xs.length 0 lo)).take (HT.sIx xs.length xs.length hi-HT.sIx xs.length 0 lo)
def o4 (xs:List Int)(lo hi:Option Int):g9 (xs.map I) lo hi=(jG xs lo hi).map I:=by simp[g9,jG]
def pJ (xs:List Int)(lo hi:Option Int):(jG xs lo hi).length<=xs.length:=by
 unfold jG;rw[length_take,length_drop];omega
def yP {xs:List Int}{lo hi:Option Int}{y:Int}(h:y∈jG xs lo hi):y∈xs:=mem_of_mem_drop (mem_of_mem_take h)
def rG (s:bV)(row n:Int):Sn:=match s.movers[n.toNat]? with
 | some m=>⟨n,m.x,m.rank,l9 (s.book.getD (m.shape.getD 0) []) m.turn (row-m.y).toNat⟩
 | none=>⟨n,0,0,[]⟩
def bG (s:bV)(m row:Int):List Sn:=(jG (bz s row) Y (Z m)).map (rG s row)
def FX {s:bV}{row n:Int}(h:n∈bz s row):bc s row n=(rG s row n).d:=by
 obtain⟨i,rfl,hi,m,gm,lz⟩:=mH h;unfold bc rG;rw[TK,gm];rfl
def C7 (s:bV)(m row:Int):oq s m row=(bG s m row).map Sn.d:=by
 unfold oq bG;rw[o4,map_map,map_map];apply map_congr_left;intro n hn;exact FX (yP hn)
def rY (s:bV)(w row:Int):List Int:=(Tw w.toNat).map λ(x:Nat)=>cH s row x
def pL (s:bV)(w m row:Int):bv s w m row=U [U ((rY s w row).map I),U ((bG s m row).map Sn.d)]:=by
 unfold bv;rw[C7];unfold rY;rw[map_map];rfl
def wz {s:bV}{row mm:Int}(ok:a9 mm s)(hm:mm<=12):(bz s row).length<=12:=by
 have:=ke s row s.movers.length;have:=ok.ml;unfold bz;omega
def wN {s:bV}{m row mm:Int}(ok:a9 mm s)(hm:mm<=12):(bG s m row).length<=12:=by
 unfold bG;rw[length_map];exact TL (pJ _ _ _) (wz ok hm)
def uw (s:bV)(w m row:Int):aG 30 (bv s w m row)=true:=by
 rw[pL];have b:((bG s m row).map Sn.d).all (aG 28)=true:=all_eq_true.mpr λx hx=>by
  obtain⟨q,_,rfl⟩:=mem_map.mp hx;unfold Sn.d;simp only[gF,all_cons,all_nil,(dB 25 q.ks)];rfl
 simp only[gF,all_cons,all_nil,(dB 27 (rY s w row)),b];rfl
def Bn {s:bV}{w row mm:Int}(ok:a9 mm s):∀k∈rY s w row,0<=k/\k<=15:=by
 intro k hk;obtain⟨x,_,rfl⟩:=mem_map.mp hk;obtain⟨f1,f2,fw,f3,f4,f5⟩:=ok.floor;unfold cH;have fr:∀k∈bd s row,0<=k/\k<=15:=by
  intro k hk;unfold bd at hk;rw[Vx] at hk;cases q:s.floor[((row+s.sy) % (s.floor.length)).toNat]? with
  | none=>simp_all
  | some r=>
   rw[q] at hk;exact(f5 r (mem_of_getElem? q)).2 k hk
 rw[Vx];cases q:(bd s row)[((↑x+s.sx) % ((bd s row).length)).toNat]? with
 | none=>simp
 | some r=>exact fr r (mem_of_getElem? q)
def Cy {rs:List (List Int)}{way:Int}{n:Nat}(h:∀r∈rs,∀k∈r,0<=k/\k<=15):∀k∈l9 rs way n,0<=k/\k<=15:=by
 have g:∀(i:Nat),∀k∈rs.getD i [],0<=k/\k<=15:=by
  intro i k hk;rw[Vx] at hk;cases q:rs[i]? with
  | none=>simp_all
  | some r=>rw[q] at hk;exact h r (mem_of_getElem? q) k hk
 intro k hk;unfold l9 at hk;dsimp only at hk;split at hk
 ·rw[mem_reverse] at hk;split at hk
  ·exact g _ k hk
  ·exact g _ k hk
 ·split at hk
  ·exact g _ k hk
  ·exact g _ k hk
def FN {s:bV}{m row mm x:Int}(ok:a9 mm s):∀q∈bG s m row,0<=cg x q/\cg x q<=15:=by
 intro q hq;obtain⟨n,_,rfl⟩:=mem_map.mp hq;have a:∀k∈(rG s row n).ks,0<=k/\k<=15:=by
  intro k hk;unfold rG at hk;split at hk
  ·refine Cy (λr hr k hk=>?_) k hk;rename_i m' _ _;rw[Vx] at hr;cases e:s.book[m'.shape.getD 0]? with
   | none=>simp_all
   | some b=>
    rw[e] at hr;obtain⟨b1,b2,bw,b3,b4,b5⟩:=ok.book b (mem_of_getElem? e);exact(b5 r hr).2 k hk
  simp_all
 unfold cg;split
 ·rw[Vx];cases e:(rG s row n).ks[(x-(rG s row n).x).toNat]? with
  | none=>simp
  | some k=>exact a k (mem_of_getElem? e)
 simp
def ja (x fl:Int)(cs:List Sn)(k:Int):Prop:=(cs=[]/\k=fl)\/∃b∈cs,(∀s∈cs,zJ b s)/\k=if 1<=b.r\/fl=0 then cg x b else fl
def EF {x fl:Int}{cs:List Sn}{M:aq}:∃k,ja x fl cs k/\dS [I fl,.lst (cs.map (pq x))] M=O (I k) M:=by
 rcases Eb   with⟨e,h⟩|⟨b,hb,hl,h⟩
 ·exact⟨fl,.inl ⟨e,rfl⟩,h⟩
 ·exact⟨_,.inr ⟨b,hb,hl,rfl⟩,h⟩
def ja.rng {x fl k:Int}{cs:List Sn}(h:ja x fl cs k)(hf:0<=fl/\fl<=15)(hc:∀q∈cs,0<=cg x q/\cg x q<=15):0<=k/\k<=15:=by
 rcases h with⟨_,rfl⟩|⟨b,hb,_,rfl⟩
 ·omega
 ·split
  ·exact hc b hb
  omega
def Ed {s:bV}{w h g m row mm:Int}{M:aq}(ok:a9 mm s)(hm:mm<=12)(hM:bI M):kr [bP w h g m,s.d,I row] M=O (.lst ((jG (bz s row) (Z m) Y).map I)) M:=by
 have e:=DY (row:=row) ok (by omega) hM;refine Wp.is (aN ?_);unfold p6
 simp_all_arith
 exact⟨by rw[o4],rfl⟩
def o6 {M E:aq}(h:bI M)(hE:E.all (uV (M.length+E.length))=true):bI (M++E):=by
 unfold bI;rw[length_append,all_append,hE,Bool.and_true];exact all_eq_true.mpr λx hx=>vm (Vw _ _) (all_eq_true.mp h x hx)
def ma {M:aq}{o:MO}(h:bI M)(hp:Bt o=true):bI (M++[o]):=o6 h (by rw[all_cons,jS hp];rfl)
def xj {fr:D}{L:Pl}{B:Bs}:(cF fr L B).length<1000:=by show 8<1000;simp
def hZ (row:Int)(ns:List Int):List D:=ns.map λn=>D.tup [I row,I n]
def IW {M:aq}{L:Pl}{B:Bs}{s:bV}{w h g m row mm:Int}(v:L.In M.length B.rows.length)(h0:bI M)(p:B.Pure)(hs:B.st=s.d)(ok:a9 mm s)(hm:mm<=12)(f:ig w h g m)(hl:B.lost.length<=90000)(hr:B.rows.length<100000) :
  eR [R L.b,I row] (av M (bP w h g m) L B)=O .non (av (M++[.lst []]) (bP w h g m) (L.more M.length 1) {B with tk:=bv s w m row,rows:=B.rows++[[]],lost:=B.lost++hZ row (jG (bz s row) (Z m) Y)}):=by
 have pf:aG 30 (bP w h g m)=true:=rfl;have et:=GJ (w:=w) (hh:=h) (g:=g) (m:=m) (row:=row) ok (by omega) (by have:=f.w;omega) f.m (ka (fr:=bP w h g m) h0 pf v p);show ck (eZ [Z (R L.b),Z (I row)] _)=_;unfold eZ;have q0:=iX (fr:=bP w h g m) v;have c1:=BC (F:=rW) (o:=O (bv s w m row) (av M (bP w h g m) L B)) (bS (g:=ae 0) (ρ:=[Z (R L.b),Z (I row)]) (f:="frame") rfl q0 mz) (bS (g:=ae 0) (f:="standing") rfl q0 xI) (c:=ae 1) rfl (by rw[hs];exact et);rw[aZ (wR (c:="Beam") (f:="row_taken") (go:=ae 0) (fs:=cF (bP w h g m) L B) c1 rfl q0 xj),Lq v];have v1:L.In M.length ({B with tk:=bv s w m row}:Bs).rows.length:=v;generalize hB1:({B with tk:=bv s w m row}:Bs)=B1 at *;have p1:B1.Pure:=by rw[<-hB1];exact⟨p.st,uw s w m row,p.tch,p.grd,p.lost⟩
 have hs1:B1.st=s.d:=by rw[<-hB1];exact hs
 have a1:=qI (go:=dm "Beam" "laid_rows" (ae 0)) (ρ:=[Z (R L.b),Z (I row)]) (bS rfl (iX (fr:=bP w h g m) v1) wD) (Nt v1) mQ (by rw[getElem?_append_left (by rw[sY];exact v1.lt _ (by simp[Pl.all]))];exact Nt v1) (by rw[length_map,v1.rl,<-hB1];show B.rows.length<1000000;omega);rw[Ic v1] at a1;rw[aZ (cb a1)];have v2:=D1 v1;have h2:bI (M++[MO.lst []]):=ma h0 rfl;generalize hB2:({B1 with rows:=B1.rows++[[]]}:Bs)=B2;rw[show(B1.rows++[[]])=B2.rows by rw[<-hB2]] at v2;have p2:B2.Pure:=by rw[<-hB2];exact⟨p1.st,p1.tk,p1.tch,p1.grd,p1.lost⟩
 have hs2:B2.st=s.d:=by rw[<-hB2];exact hs1
 have hl2:B2.lost=B.lost:=by rw[<-hB2,<-hB1]
 generalize hM2:M++[MO.lst []]=M2 at *;have eb:L.b=(L.more M.length 1).b:=rfl;rw[eb];generalize hL2:L.more M.length 1=L2 at *;have sh2:=ka (fr:=bP w h g m) h2 pf v2 p2;have el:=Ed (w:=w) (h:=h) (g:=g) (m:=m) (row:=row) ok hm sh2;have ll:(jG (bz s row) (Z m) Y).length<=12:=TL (pJ _ _ _) (wz ok hm);have q2:=iX (fr:=bP w h g m) v2;have c2:=BC (F:=kr) (o:=O (.lst ((jG (bz s row) (Z m) Y).map I)) (av M2 (bP w h g m) L2 B2)) (bS (g:=ae 0) (ρ:=[Z (R L2.b),Z (I row)]) rfl q2 mz) (bS (g:=ae 0) rfl q2 xI) (c:=ae 1) rfl (by rw[hs2];exact el);have ec:=oO (ds0:=(jG (bz s row) (Z m) Y).map I) (ge:=cV) (ρ:=[Z (R L2.b),Z (I row)]) (f:=λd=>U [I row,d]) (M:=av M2 (bP w h g m) L2 B2) ((jG (bz s row) (Z m) Y).map I) (λd hd=>rfl);have em:((jG (bz s row) (Z m) Y).map I).map (λd=>D.tup [I row,d])=hZ row (jG (bz s row) (Z m) Y):=by rw[map_map];rfl
 rw[em] at ec;generalize jG (bz s row) (Z m) Y=ls at *;have gv:a8 (bW (ah 3 kr (aa (dm "Beam" "frame" (ae 0)) (aa (dm "Beam" "standing" (ae 0)) (aa (ae 1) ag))))) bq cV aR [Z (R L2.b),Z (I row)] (av M2 (bP w h g m) L2 B2)=O (.lst (hZ row ls)) (av M2 (bP w h g m) L2 B2):=by
  unfold a8 bW;rw[c2,az];show((bE ⟨ls.map I,Y⟩ bq cV (ls.map I) _ _).bind _)=_;rw[ec,az];unfold aR;rw[if_pos (bX (by unfold hZ;rw[length_map];omega))]
 have au:=Iu (ys:=hZ row ls) (Rt (fr:=bP w h g m) v2) (by rw[hl2];unfold hZ;rw[length_map];omega);rw[E6 v2] at au;rw[J8 (c:="Beam") (f:="lost_pairs") (go:=ae 0) (ρ:=[Z (R L2.b),Z (I row)]) rfl q2 BG gv au (iX (B:={B2 with lost:=B2.lost++hZ row ls}) v2) xj];have fin:=Ds (M:=M2) (fr:=bP w h g m) (L:=L2) (B:={B2 with lost:=B2.lost++hZ row ls}) v2;show bi.ok D.non ((av M2 (bP w h g m) L2 {B2 with lost:=B2.lost++hZ row ls}).set L2.b (.obj "Beam" (jv "lost_pairs" (R L2.l) (cF (bP w h g m) L2 {B2 with lost:=B2.lost++hZ row ls}))))=_;rw[fin,<-hB2,<-hB1]
theorem kq {κ α:Type}[DecidableEq κ](key:α->κ)(z:D):∀(os:List α) (acc:List (κ×D)),(os.foldl (λa o=>sD a (key o) z) acc).length<=acc.length+os.length
 | [],acc=>Te _
 | o::os,acc=>by
  have:=kq key z os (sD acc (key o) z);have:=Bu acc (key o) z
  grind
def D6 {κ:Type}[DecidableEq κ]{acc:List (κ×D)}{k:κ}{z:D}(hz:aG 30 z=true)(h:∀p∈acc,aG 30 p.2=true):∀p∈sD acc k z,aG 30 p.2=true:=by
 unfold sD;split
 ·omega
 ·intro p hp;rcases mem_append.mp hp with q|q
  ·exact h p q
  ·rw[mem_singleton] at q;rwa [q]
theorem pM {κ α:Type}[DecidableEq κ](key:α->κ){z:D}(hz:aG 30 z=true):∀(os:List α) (acc:List (κ×D)),(∀p∈acc,aG 30 p.2=true)->∀p∈os.foldl (λa o=>sD a (key o) z) acc,aG 30 p.2=true
 | [],acc,h=>h
 | o::os,acc,h=>pM key hz os _ (D6 hz h)
def fK (ns:List Int)(z:D)(g:List (bN×D)):List (bN×D):=ns.foldl (λa n=>sD a (T1 n) z) g
def fZ (n:Int)(os:List Int)(z:D)(t:List (List bN×D)):List (List bN×D):=os.foldl (λa o=>sD a [T1 n,T1 o] z) t
def b0 (ns:List Int)(z:D)(t0:List (List bN×D)):Nat->List (List bN×D)
 | 0=>t0
 | j+1=>match ns[j]? with
  | some n=>fZ n (ns.drop (j+1)) z (b0 ns z t0 j)
  | none=>b0 ns z t0 j
theorem mW (ns:List Int)(z:D)(t0:List (List bN×D)):∀j,(b0 ns z t0 j).length<=t0.length+j*ns.length
 | 0=>by show t0.length<=_;simp
 | j+1=>by
  have ih:=mW ns z t0 j;have e:(j+1)*ns.length=j*ns.length+ns.length:=Nat.succ_mul _ _;unfold b0;split
  ·rename_i n _;have:=kq (κ:=List bN) (λo=>[T1 n,T1 o]) z (ns.drop (j+1)) (b0 ns z t0 j);unfold fZ;rw[length_drop] at this;omega
  grind
theorem tu {ns:List Int}{z:D}{t0:List (List bN×D)}(hz:aG 30 z=true)(h:∀p∈t0,aG 30 p.2=true):∀j,∀p∈b0 ns z t0 j,aG 30 p.2=true
 | 0=>h
 | j+1=>by
  have ih:=tu (ns:=ns) hz h j;unfold b0;split
  ·exact pM _ hz _ _ ih
  omega
def yF {ns:List Int}{j:Nat}(hj:j<ns.length):g9 (ns.map I) (Z ((j:Int)+1)) Y=(ns.drop (j+1)).map I:=by
 rw[o4];unfold jG;rw[show((j:Int)+1)=((j+1:Nat)) from by rfl,HT.sIx_nat,HT.sIx_none,ZZ (by omega),take_of_length_le (by simp)]
def Ae {M:aq}{L:Pl}{B:Bs}{fr:D}{ns:List Int}{row x:Int}(v:L.In M.length B.rows.length)(hl:B.grd.length+ns.length<1000000) :
  eI [R L.b,.lst (ns.map I),I row,I x] (av M fr L B)=O .non (av M fr L {B with grd:=fK ns (U [I row,I x]) B.grd}):=by
 obtain⟨ρ',M',⟨x4,rfl,rfl⟩,ef⟩:=oo (ds0:=ns.map I) (s:=dL 4) (body:=dN)
  (W:=λi ρ N=>∃x4,ρ=[Z (R L.b),Z (.lst (ns.map I)),Z (I row),Z (I x),x4]/\N=av M fr L {B with grd:=fK (ns.take i) (U [I row,I x]) B.grd})
  (ns.map I) 0 (λj d hd ρ N hW=>by
   obtain⟨x4,rfl,rfl⟩:=hW;rw[Uq];rw[getElem?_map] at hd;cases gs:ns[j]? with
   | none=>rw[gs] at hd;cases hd
   | some n=>
   rw[gs] at hd;cases hd;have e1:fK (ns.take (j+1)) (U [I row,I x]) B.grd=sD (fK (ns.take j) (U [I row,I x]) B.grd) (T1 n) (U [I row,I x]):=by
    unfold fK;rw[take_succ,gs,foldl_append];rfl
   have lb:(fK (ns.take j) (U [I row,I x]) B.grd).length<1000000:=by
    have:=kq (κ:=bN) (λn=>T1 n) (U [I row,I x]) (ns.take j) B.grd;rw[length_take] at this;unfold fK;omega
   rw[e1];generalize fK (ns.take j) (U [I row,I x]) B.grd=gd at *;have fl:=bS (g:=ae 0) (ρ:=[Z (R L.b),Z (.lst (ns.map I)),Z (I row),Z (I x),Z (I n)]) (M:=av M fr L {B with grd:=gd}) rfl (iX (B:={B with grd:=gd}) v) E9;obtain⟨r,er⟩:=ut (y:=I n) (z:=U [I row,I x]) (N0 (M:=M) (fr:=fr) (B:={B with grd:=gd}) v) rfl lb;rw[Ih (B:={B with grd:=gd}) v] at er;have tp:=iT (ga:=aa (ae 2) (aa (ae 3) ag)) (ρ:=[Z (R L.b),Z (.lst (ns.map I)),Z (I row),Z (I x),Z (I n)]) (M:=av M fr L {B with grd:=gd})  (ds:=[I row,I x]) rfl (by simp);exact⟨_,_,_,rfl,cb (mR fl (by rw[N0 (B:={B with grd:=gd}) v];rfl) rfl tp er),_,rfl,rfl⟩)
  [Z (R L.b),Z (.lst (ns.map I)),Z (I row),Z (I x),Y] (av M fr L B) ⟨_,rfl,rfl⟩
 rw[length_map,Uq,take_length] at ef;show ck (cS [Z (R L.b),Z (.lst (ns.map I)),Z (I row),Z (I x),Y] _)=_;unfold cS;rw[lY (Bo (i:=1) rfl) ef];rfl
def FL {M:aq}{L:Pl}{B:Bs}{fr:D}{ns os:List Int}{n row x at_:Int}{t:List (List bN×D)}{x6:Option D}(v:L.In M.length B.rows.length)(hl:t.length+os.length<1000000) :
  ∃y6,cn ⟨os.map I,Y⟩ (dL 6) cE (os.map I) [Z (R L.b),Z (.lst (ns.map I)),Z (I row),Z (I x),Z (I at_),Z (I n),x6] (av M fr L {B with tch:=t}) =
   O (.nx [Z (R L.b),Z (.lst (ns.map I)),Z (I row),Z (I x),Z (I at_),Z (I n),y6]) (av M fr L {B with tch:=fZ n os (U [I row,I x]) t}):=by
 obtain⟨ρ',M',⟨y6,rfl,rfl⟩,ef⟩:=oo (ds0:=os.map I) (s:=dL 6) (body:=cE)
  (W:=λi ρ N=>∃x6,ρ=[Z (R L.b),Z (.lst (ns.map I)),Z (I row),Z (I x),Z (I at_),Z (I n),x6]/\N=av M fr L {B with tch:=fZ n (os.take i) (U [I row,I x]) t})
  (os.map I) 0 (λj d hd ρ N hW=>by
   obtain⟨x6,rfl,rfl⟩:=hW;rw[Uq];rw[getElem?_map] at hd;cases gs:os[j]? with
   | none=>rw[gs] at hd;cases hd
   | some o=>
   rw[gs] at hd;cases hd;have hj:=(Tf.mp gs).1;have e1:fZ n (os.take (j+1)) (U [I row,I x]) t=sD (fZ n (os.take j) (U [I row,I x]) t) [T1 n,T1 o] (U [I row,I x]):=by
    unfold fZ;rw[take_succ,gs,foldl_append];rfl
   have lb:(fZ n (os.take j) (U [I row,I x]) t).length<1000000:=by
    have:=kq (κ:=List bN) (λo=>[T1 n,T1 o]) (U [I row,I x]) (os.take j) t;rw[length_take] at this;unfold fZ;omega
   rw[e1];generalize fZ n (os.take j) (U [I row,I x]) t=gd at *;have fl:=bS (g:=ae 0) (ρ:=[Z (R L.b),Z (.lst (ns.map I)),Z (I row),Z (I x),Z (I at_),Z (I n),Z (I o)]) (M:=av M fr L {B with tch:=gd}) rfl (iX (B:={B with tch:=gd}) v) FR;obtain⟨r,er⟩:=sW (y:=U [I n,I o]) (k:=[T1 n,T1 o]) (z:=U [I row,I x]) (PQ (M:=M) (fr:=fr) (B:={B with tch:=gd}) v) rfl lb;rw[JH (B:={B with tch:=gd}) v] at er;have tp:=iT (ga:=aa (ae 2) (aa (ae 3) ag)) (ρ:=[Z (R L.b),Z (.lst (ns.map I)),Z (I row),Z (I x),Z (I at_),Z (I n),Z (I o)]) (M:=av M fr L {B with tch:=gd})  (ds:=[I row,I x]) rfl (by simp);have tp2:=iT (ga:=aa (ae 5) (aa (ae 6) ag)) (ρ:=[Z (R L.b),Z (.lst (ns.map I)),Z (I row),Z (I x),Z (I at_),Z (I n),Z (I o)]) (M:=av M fr L {B with tch:=gd})  (ds:=[I n,I o]) rfl (by simp);exact⟨_,_,_,rfl,cb (mR fl (by rw[PQ (B:={B with tch:=gd}) v];rfl) tp2 tp er),_,rfl,rfl⟩)
  [Z (R L.b),Z (.lst (ns.map I)),Z (I row),Z (I x),Z (I at_),Z (I n),x6] (av M fr L {B with tch:=t}) ⟨_,rfl,rfl⟩
 rw[length_map,Uq,take_length] at ef;exact⟨y6,ef⟩
def zG {M:aq}{L:Pl}{B:Bs}{fr:D}{ns:List Int}{row x:Int}(v:L.In M.length B.rows.length)(hn:ns.length<=12)(hl:B.tch.length<900000) :
  eN [R L.b,.lst (ns.map I),I row,I x] (av M fr L B)=O .non (av M fr L {B with tch:=b0 ns (U [I row,I x]) B.tch ns.length}):=by
 obtain⟨ρ',M',⟨x4,x5,x6,rfl,rfl⟩,ef⟩:=oo (ds0:=lO (ns.map I)) (s:=b8 [4,5]) (body:=cJ)
  (W:=λi ρ N=>∃x4 x5 x6,ρ=[Z (R L.b),Z (.lst (ns.map I)),Z (I row),Z (I x),x4,x5,x6]/\N=av M fr L {B with tch:=b0 ns (U [I row,I x]) B.tch i})
  (lO (ns.map I)) 0 (λj d hd ρ N hW=>by
   obtain⟨x4,x5,x6,rfl,rfl⟩:=hW;obtain⟨dx,ex,rfl⟩:=qH hd;rw[Uq];rw[getElem?_map] at ex;cases gs:ns[j]? with
   | none=>rw[gs] at ex;cases ex
   | some n=>
   rw[gs] at ex;cases ex;have hj:=(Tf.mp gs).1;have e1:b0 ns (U [I row,I x]) B.tch (j+1)=fZ n (ns.drop (j+1)) (U [I row,I x]) (b0 ns (U [I row,I x]) B.tch j):=by
    show(match ns[j]? with|some n=>fZ n (ns.drop (j+1)) (U [I row,I x]) (b0 ns (U [I row,I x]) B.tch j)|none=>_)=_;rw[gs]
   have lb:=mW ns (U [I row,I x]) B.tch j;have lj:j*ns.length<=12*12:=Xj (by omega) hn;rw[e1];generalize b0 ns (U [I row,I x]) B.tch j=td at *;obtain⟨y6,ei⟩:=FL (M:=M) (L:=L) (B:=B) (fr:=fr) (ns:=ns) (os:=ns.drop (j+1)) (n:=n) (row:=row) (at_:=(j:Int)) (t:=td) (x6:=x6) v (by rw[length_drop];omega);refine⟨[Z (R L.b),Z (.lst (ns.map I)),Z (I row),Z (I x),Z (I (j:Int)),Z (I n),x6],[Z (R L.b),Z (.lst (ns.map I)),Z (I row),Z (I x),Z (I (j:Int)),Z (I n),y6],_,rfl,?_,_,_,_,rfl,rfl⟩;unfold cJ;refine lY (t:=⟨(ns.drop (j+1)).map I,Y⟩) ?_ ei;have cf:=yF hj;unfold bW;have sl:re (ae 1) (dn (g2 bx (ae 4) (gC (I 1)))) bD [Z (R L.b),Z (.lst (ns.map I)),Z (I row),Z (I x),Z (I (j:Int)),Z (I n),x6] (av M fr L {B with tch:=td})=O (.lst ((ns.drop (j+1)).map I)) (av M fr L {B with tch:=td}):=by
    rw[<-cf];rfl
   rw[sl];rfl)
  [Z (R L.b),Z (.lst (ns.map I)),Z (I row),Z (I x),Y,Y,Y] (av M fr L B) ⟨_,_,_,rfl,rfl⟩
 rw[kJ,length_map,Uq] at ef;show ck (cT [Z (R L.b),Z (.lst (ns.map I)),Z (I row),Z (I x),Y,Y,Y] _)=_;unfold cT;rw[lY rfl ef];rfl
theorem vA {ds0:List D}{n:Nat}{sg:GG}{ge:GE}{ρ:dY}{f:D->D}{M:aq}:∀(ds:List D),(∀d∈ds,∃ρ1,sg d (TH n Y++ρ)=Z ρ1/\ge ρ1 M=O (f d) M)->aT ⟨ds0,Y⟩ n sg bq ge ds ρ M=O (ds.map f) M
 | [],h=>rfl
 | d::ds,h=>by
  obtain⟨ρ1,e1,e2⟩:=h d mem_cons_self;have ih:=vA (ds0:=ds0) (sg:=sg) ds λx hx=>h x (mem_cons_of_mem _ hx)
  unfold aT;rw[l7,if_pos rfl,e1];dsimp only;rw[show bq ρ1 M=O true M from rfl];dsimp only;rw[e2];dsimp only;rw[ih];rfl
def fO {k:Nat}{xs:List D}{x d:D}{i:Int}{M:aq}(h:M[k]?=Z (.lst xs))(ha:wx xs i=Z d):aB (R k) (I i) M=O d M:=by
 unfold aB a7;dsimp only;rw[h];dsimp only;rw[ha]
def Bs.laid (B:Bs)(s0:bV)(w m row x hue:Int)(rs:List (List Int))(last:List Int):Bs:=
 {B with rows:=rs++[last++[hue]],tch:=b0 ((eP x (bG s0 m row)).map Sn.n) (U [I row,I x]) B.tch ((eP x (bG s0 m row)).map Sn.n).length,grd:=if(rY s0 w row).getD x.toNat 0=0 then B.grd else fK ((eP x (bG s0 m row)).map Sn.n) (U [I row,I x]) B.grd}
def Mp {M:aq}{L:Pl}{B:Bs}{s s0:bV}{w h g m row x mm:Int}{rs:List (List Int)}{last:List Int}(v:L.In M.length B.rows.length)(h0:bI M)(p:B.Pure)(hs:B.st=s.d)(ok:a9 mm s)(ok0:a9 mm s0)(hm:mm<=12)(f:ig w h g m)
  (htk:B.tk=bv s0 w m row) (hx:0<=x/\x<w) (hr:B.rows=rs++[last]) (hl:last.length<100000) (ht:B.tch.length<900000) (hg:B.grd.length<900000) :
  ∃ink hue,ja x ((rY s0 w row).getD x.toNat 0) (eP x (bG s0 m row)) ink/\s.pots[ink.toNat]?=Z hue/\0<=ink/\
   dq [R L.b,I row,I x] (av M (bP w h g m) L B)=O .non (av M (bP w h g m) L (B.laid s0 w m row x hue rs last)):=by
 have pf:aG 30 (bP w h g m)=true:=rfl;have sh:=ka (fr:=bP w h g m) h0 pf v p;have fin:=Bn (w:=w) (row:=row) ok0;have sin:=FN (m:=m) (row:=row) (x:=x) ok0;have sl:=wN (m:=m) (row:=row) ok0 hm;unfold Bs.laid;rw[pL] at htk;have fll:(rY s0 w row).length=w.toNat:=by unfold rY;rw[length_map,length_range]
 generalize rY s0 w row=fl at *;generalize bG s0 m row=ss at *;obtain⟨xn,rfl⟩:=Ts hx.1;have hxl:xn<fl.length:=by omega
 have gx:fl[xn]?=Z fl[xn]:=getElem?_eq_getElem hxl;have gxd:fl.getD (xn:Int).toNat 0=fl[xn]:=by rw[TK,Vx,gx];rfl
 rw[gxd];have fkr:=fin _ (getElem_mem hxl);generalize fl[xn]=fk at *;have ax:∀M,aB (U (fl.map I)) (I (xn:Int)) M=O (I fk) M:=λM=>cr (by rw[getElem?_map,gx];rfl)
 have ecov:=zR (fl:=U (fl.map I)) (ss:=ss) (x:=(xn:Int)) (by omega) sh;obtain⟨ink,hsh,eink⟩:=EF (x:=(xn:Int)) (fl:=fk) (cs:=eP xn ss) (M:=av M (bP w h g m) L B);have csub:∀q∈eP (xn:Int) ss,q∈ss:=λq hq=>(mem_filter.mp hq).1
 have ir:=hsh.rng fkr (λq hq=>sin q (csub q hq));have cl:(eP (xn:Int) ss).length<=12:=TL (mS _ _) sl;generalize eP (xn:Int) ss=cs at *;obtain⟨kn,rfl⟩:=Ts ir.1;have hk:kn<s.pots.length:=by rw[ok.pl];omega
 have gp:s.pots[kn]?=Z s.pots[kn]:=getElem?_eq_getElem hk;refine⟨kn,s.pots[kn],hsh,by rw[TK];exact gp,ir.1,?_⟩;generalize s.pots[kn]=hue at *;have ap:∀M,aB (U (s.pots.map I)) (I (kn:Int)) M=O (I hue) M:=λM=>cr (by rw[getElem?_map,gp];rfl)
 generalize hfr:bP w h g m=fr at *;show ck (eX [Z (R L.b),Z (I row),Z (I (xn:Int)),Y,Y,Y,Y,Y,Y,Y,Y,Y] _)=_;unfold eX;have q0:(av M fr L B)[L.b]?=Z (.obj "Beam" (cF fr L B)):=(iX v);have k1:=su (sg:=b8 [3,4]) (bS (g:=ae 0) (ρ:=[Z (R L.b),Z (I row),Z (I (xn:Int)),Y,Y,Y,Y,Y,Y,Y,Y,Y]) (f:="row_taken") rfl q0 JX)
  (ρ1:=[Z (R L.b),Z (I row),Z (I (xn:Int)),Z (U (fl.map I)),Z (U (ss.map Sn.d)),Y,Y,Y,Y,Y,Y,Y]) (by rw[htk];rfl)
 rw[aZ k1];have k2:=cY (i:=5) (m9 (F:=jf) (bS (g:=ae 0) (ρ:=[Z (R L.b),Z (I row),Z (I (xn:Int)),Z (U (fl.map I)),Z (U (ss.map Sn.d)),Y,Y,Y,Y,Y,Y,Y]) (f:="row_taken") rfl q0 JX) (b:=ae 2) rfl (by rw[htk];exact ecov));rw[aZ k2];have k3:=su (sg:=b8 [6,7,8,9,10]) (bS (g:=ae 0) (ρ:=[Z (R L.b),Z (I row),Z (I (xn:Int)),Z (U (fl.map I)),Z (U (ss.map Sn.d)),Z (.lst (cs.map (pq xn))),Y,Y,Y,Y,Y,Y]) (f:="standing") rfl q0 xI)
  (ρ1:=[Z (R L.b),Z (I row),Z (I (xn:Int)),Z (U (fl.map I)),Z (U (ss.map Sn.d)),Z (.lst (cs.map (pq xn))),Z (bu s.floor),Z (U [I s.sx,I s.sy]),Z (U (s.book.map bu)),Z (U (s.movers.map Mv.d)),Z (U (s.pots.map I)),Y]) (by rw[hs];rfl)
 refine(congrArg ck (aZ k3)).trans ?_;generalize hρ:([Z (R L.b),Z (I row),Z (I (xn:Int)),Z (U (fl.map I)),Z (U (ss.map Sn.d)),Z (.lst (cs.map (pq xn))),Z (bu s.floor),Z (U [I s.sx,I s.sy]),Z (U (s.book.map bu)),Z (U (s.movers.map Mv.d)),Z (U (s.pots.map I)),Y]:dY)=ρ;have v0:∀M,ae 0 ρ M=O (R L.b) M:=λM=>by rw[<-hρ];rfl
 have v2:∀M,ae 2 ρ M=O (I (xn:Int)) M:=λM=>by rw[<-hρ];rfl
 have v3:∀M,ae 3 ρ M=O (U (fl.map I)) M:=λM=>by rw[<-hρ];rfl
 have v5:∀M,ae 5 ρ M=O (.lst (cs.map (pq xn))) M:=λM=>by rw[<-hρ];rfl
 have v10:∀M,ae 10 ρ M=O (U (s.pots.map I)) M:=λM=>by rw[<-hρ];rfl
 have hrl:B.rows.length=rs.length+1:=by rw[hr,length_append];rfl
 have grow:B.rows[rs.length]?=Z last:=by rw[hr];simp
 obtain⟨rf0,j,ej⟩:∃rf0 j,L.rf=rf0++[j]:=by
  have ne:L.rf≠[]:=λz=>by have:=v.rl;rw[z,hrl] at this;cases this
  exact⟨L.rf.dropLast,L.rf.getLast ne,(dropLast_concat_getLast ne).symm⟩
 have lj:rf0.length=rs.length:=by
  have:=v.rl;rw[ej,hrl,length_append,length_singleton] at this;omega
 have gj:L.rf[rs.length]?=Z j:=by rw[ej,<-lj];simp
 have go:=aC (f:=aB) (bS (g:=ae 0) (ρ:=ρ) (f:="laid_rows") (v0 _) q0 wD) (b:=sj (gC (I 1))) (M2:=av M fr L B) rfl (fO (x:=.non) (Nt v) (by rw[ej,map_append];exact B5 _ _));have gi:=aC (f:=aB) (v10 _) (m9 (F:=dS) (aC (f:=aB) (v3 _) (v2 _) (ax _)) (v5 _) eink) (ap _);have k4:=qI go (GH v grow gj) gi (GH v grow gj) (by rw[length_map];omega);have em:last.map I++[I hue]=(last++[hue]).map I:=by rw[map_append];rfl
 have er:B.rows.set rs.length (last++[hue])=rs++[last++[hue]]:=by rw[hr];simp
 have sr:=HQ (fr:=fr) (r:=last++[hue]) v grow gj;rw[er] at sr;rw[em] at k4;have k4':gX (g2 aB (dm "Beam" "laid_rows" (ae 0)) (sj (gC (I 1)))) (g2 aB (ae 10) (ah 2 dS (aa (g2 aB (ae 3) (ae 2)) (aa (ae 5) ag)))) ρ (av M fr L B)=O .non (av M fr L {B with rows:=rs++[last++[hue]]}):=k4.trans (congrArg (bi.ok D.non) sr);rw[aZ (cb k4')];have v1:L.In M.length ({B with rows:=rs++[last++[hue]]}:Bs).rows.length:=by
  show L.In M.length (rs++[last++[hue]]).length;rw[length_append];rw[hrl] at v;exact v
 generalize hB1:({B with rows:=rs++[last++[hue]]}:Bs)=B1 at *;have t1:B1.tch=B.tch:=by rw[<-hB1]
 have g1:B1.grd=B.grd:=by rw[<-hB1]
 have gits:bW (ae 5) ρ (av M fr L B1)=O ⟨cs.map (pq xn),Y⟩ (av M fr L B1):=by
  unfold bW;rw[v5];rfl
 have ec:=vA (ds0:=cs.map (pq xn)) (n:=3) (sg:=b8 [0,1,2]) (ge:=eC) (ρ:=ρ) (f:=λd=>match d with | .tup [_,n,_]=>n|d=>d) (M:=av M fr L B1) (cs.map (pq xn)) (λd hd=>by
  obtain⟨q,_,rfl⟩:=mem_map.mp hd;exact⟨[Z (I q.r),Z (I q.n),Z (I (cg xn q))]++ρ,rfl,rfl⟩)
 have em2:(cs.map (pq xn)).map (λd=>match d with | .tup [_,n,_]=>n|d=>d)=(cs.map Sn.n).map I:=by
  rw[map_map,map_map];rfl
 rw[em2] at ec;have lns:(cs.map Sn.n).length<=12:=by rw[length_map];exact cl
 generalize cs.map Sn.n=ns at *;have k5:dM (bW (ae 5)) 3 (b8 [0,1,2]) bq eC aR ρ (av M fr L B1)=O (.lst (ns.map I)) (av M fr L B1):=by
  unfold dM;rw[gits,az];dsimp only;rw[ec,az];unfold aR;rw[if_pos (bX (by rw[length_map];omega))]
 rw[aZ (cY k5)];generalize hρ2:ρ.set 11 (Z (.lst (ns.map I)))=ρ2;have u0:∀M,ae 0 ρ2 M=O (R L.b) M:=λM=>by rw[<-hρ2,<-hρ];rfl
 have u1:∀M,ae 1 ρ2 M=O (I row) M:=λM=>by rw[<-hρ2,<-hρ];rfl
 have u2:∀M,ae 2 ρ2 M=O (I (xn:Int)) M:=λM=>by rw[<-hρ2,<-hρ];rfl
 have u3:∀M,ae 3 ρ2 M=O (U (fl.map I)) M:=λM=>by rw[<-hρ2,<-hρ];rfl
 have u11:∀M,ae 11 ρ2 M=O (.lst (ns.map I)) M:=λM=>by rw[<-hρ2,<-hρ];rfl
 have args:∀M,aa (ae 11) (aa (ae 1) (aa (ae 2) ag)) ρ2 M=O [.lst (ns.map I),I row,I (xn:Int)] M:=λM=>bh (u11 M) (bh (u1 M) (bh (u2 M) rfl))
 have k6:=iQ (c:="Beam") (m:="keep_touches") (n:=4) (u0 _) (iX (fr:=fr) v1) rfl (args _) rfl (zG (row:=row) (x:=(xn:Int)) v1 lns (by rw[t1];exact ht));rw[aZ (cb k6),t1];have tst:∀M,aJ (g2 (aW true) (g2 aB (ae 3) (ae 2)) (gC (I 0))) ρ2 M=O (!decide (fk=0)) M:=λM=>dh (aC (aC (f:=aB) (u3 M) (u2 M) (ax M)) rfl (zk fk 0 M))
 by_cases hz:fk=0
 ·rw[m6 ((tst _).trans (by rw[hz];rfl)),if_pos hz,<-hB1];rfl
 ·rw[tP ((tst _).trans (by rw[decide_eq_false hz];rfl)),if_neg hz];have k7:=iQ (c:="Beam") (m:="keep_grounds") (n:=4) (u0 _) (iX (fr:=fr) (B:={B1 with tch:=b0 ns (U [I row,I (xn:Int)]) B.tch ns.length}) v1) rfl (args _) rfl (Ae (B:={B1 with tch:=b0 ns (U [I row,I (xn:Int)]) B.tch ns.length}) (row:=row) (x:=(xn:Int)) (ns:=ns) v1 (by show B1.grd.length+_<_;rw[g1];omega));rw[cb k7,<-hB1];rfl
def lP {t p:Int}(hp:0<p):((t+1) / p=t / p/\(t+1) % p=t % p+1)\/(t+1) % p=0:=by
 have a:=Yi (t+1) p;have b:=Yi t p;have c1:=UO t (X6 hp);have c2:=UP t hp;have c3:=UO (t+1) (X6 hp);have c4:=UP (t+1) hp;have e1:p*((t+1) / p)-p*(t / p)=1+t % p-(t+1) % p:=by omega
 rw[<-Int.mul_sub] at e1;rcases Int.lt_trichotomy ((t+1) / p-t / p) 0 with z|z|z
 ·have:p*((t+1) / p-t / p)<=p*(-1):=WS (by omega) (by omega);omega
 ·grind
 ·have:p*1<=p*((t+1) / p-t / p):=WS (by omega) (by omega)
  grind
structure mf (w g m mm:Int)(s:bV)(t:Int)(B:Bs):Prop where
 te:B.t=t
 st:B.st=s.d
 p:B.Pure
 tch:B.tch.length<=144*t.toNat
 grd:B.grd.length<=12*t.toNat
 lost:B.lost.length<=12*t.toNat
 rl:B.rows.length<=t.toNat
 rr:∀r∈B.rows,r.length<=t.toNat
 row:0<t % (w+g)->t % (w+g)<w->∃s0,a9 mm s0/\B.tk=bv s0 w m (t / (w+g))/\B.rows≠[]
def ye {B:Bs}{s s0:bV}{w g m mm t hue:Int}{rs:List (List Int)}{last:List Int}(hm:mm<=12)(ok0:a9 mm s0)(h0:0<=t)(hp:0<w+g)
  (i1:B.t=t) (i2:B.st=s.d) (i3:B.Pure) (i4:B.tch.length<=144*t.toNat) (i5:B.grd.length<=12*t.toNat) (i6:B.lost.length<=12*(t.toNat+1)) (i7:B.rows.length<=t.toNat+1) (i8:∀r∈B.rows,r.length<=t.toNat)
  (htk:B.tk=bv s0 w m (t / (w+g))) (hr:B.rows=rs++[last]):mf w g m mm s (t+1) {B.laid s0 w m (t / (w+g)) (t % (w+g)) hue rs last with t:=t+1}:=by
 have e:(t+1).toNat=t.toNat+1:=by omega
 have pz:aG 30 (U [I (t / (w+g)),I (t % (w+g))])=true:=rfl;have sl:((eP (t % (w+g)) (bG s0 m (t / (w+g)))).map Sn.n).length<=12:=by
  rw[length_map];exact TL (mS _ _) (wN ok0 hm)
 refine⟨rfl,i2,⟨i3.st,i3.tk,tu pz i3.tch _,?_,i3.lost⟩,?_,?_,?_,?_,?_,?_⟩
 ·unfold Bs.laid;dsimp only;split
  ·exact i3.grd
  ·exact pM _ pz _ _ i3.grd
 ·show(b0 _ _ B.tch _).length<=_;have:=mW ((eP (t % (w+g)) (bG s0 m (t / (w+g)))).map Sn.n) (U [I (t / (w+g)),I (t % (w+g))]) B.tch ((eP (t % (w+g)) (bG s0 m (t / (w+g)))).map Sn.n).length;have b:((eP (t % (w+g)) (bG s0 m (t / (w+g)))).map Sn.n).length*((eP (t % (w+g)) (bG s0 m (t / (w+g)))).map Sn.n).length<=12*12:=Xj sl sl;omega
 ·unfold Bs.laid;dsimp only;split
  ·omega
  ·have:=kq (κ:=bN) (λn=>T1 n) (U [I (t / (w+g)),I (t % (w+g))]) ((eP (t % (w+g)) (bG s0 m (t / (w+g)))).map Sn.n) B.grd;unfold fK;omega
 ·show B.lost.length<=_;omega
 ·show(rs++[last++[hue]]).length<=_;rw[hr,length_append] at i7;rw[length_append];simp only[length_singleton] at *;omega
 ·show∀r∈rs++[last++[hue]],_;intro r hr';rcases mem_append.mp hr' with q|q
  ·have:=i8 r (by rw[hr];exact mem_append_left _ q);omega
  ·rw[mem_singleton] at q;have:=i8 last (by rw[hr];simp);rw[q,length_append,length_singleton];omega
 ·intro h1 h2;have d:(t+1) / (w+g)=t / (w+g):=by
   rcases lP hp with⟨q,_⟩|q
   ·exact q
   ·omega
  refine⟨s0,ok0,?_,?_⟩
  ·show B.tk=_;rw[htk,d]
  ·show rs++[last++[hue]]≠[];simp
def jo {M0:aq}{f:Str}{gv:GE}{ρ:dY}{fs:List (Str×D)}{L L':aq}{y:D}(hv:gv ρ (M0++(.obj "Beam" fs::L))=O y (M0++(.obj "Beam" fs::L')))(hρ:∀M,ae 0 ρ M=O (R M0.length) M)(hl:fs.length<1000) :
  gP "Beam" f (ae 0) gv ρ (M0++(.obj "Beam" fs::L))=O (.nx ρ) (M0++(.obj "Beam" (jv f y fs)::L')):=by
 rw[wR hv (hρ _) (by rw[getElem?_append_right (Te _)];simp) hl];simp
def xp {M0 L:aq}{ρ:dY}:ft ag ρ (M0++L)=O (R (M0.length+L.length)) (M0++(L++[.lst []])):=by
 rw[mQ,length_append,append_assoc]
def J6 {M0 L:aq}{ρ:dY}:vL ρ (M0++L)=O (R (M0.length+L.length)) (M0++(L++[.dK []])):=by
 show bi.ok (D.mr (M0++L).length) (M0++L++[.dK []])=_;simp
def J5 {M0 L:aq}{ρ:dY}:vT ρ (M0++L)=O (R (M0.length+L.length)) (M0++(L++[.dT []])):=by
 show bi.ok (D.mr (M0++L).length) (M0++L++[.dT []])=_;simp
def qP (st:D):Bs:=⟨st,0,U [U [],U []],[],[],[],[]⟩
def L0 (n:Nat):Pl:=⟨n,n+1,n+2,n+3,n+4,[]⟩
def m4 (M0:aq)(fr st:D):aq:=M0++[.obj "Beam" (cF fr (L0 M0.length) (qP st)),.lst [],.dT [],.dK [],.lst []]
def JD {M0:aq}{fr st:D}(hc:∀M,cP [fr,st] M=O .non M):eW [R M0.length,fr,st] (M0++[.obj "Beam" []])=O .non (m4 M0 fr st):=by
 show ck (eU [Z (R M0.length),Z fr,Z st] _)=_;unfold eU;have hρ:∀M,ae 0 [Z (R M0.length),Z fr,Z st] M=O (R M0.length) M:=λM=>rfl
 have k0:=cb (m9 (F:=cP) (a:=ae 1) (b:=ae 2) (ρ:=[Z (R M0.length),Z fr,Z st]) (M:=M0++[MO.obj "Beam" []]) rfl rfl (hc _));rw[aZ k0];rw[aZ (jo (gv:=ae 1) rfl hρ (by decide))];rw[aZ (jo (gv:=ae 2) rfl hρ (UY (by decide:1<1000) rfl))];rw[aZ (jo (gv:=gC (I 0)) rfl hρ (UY (by decide:2<1000) rfl))];rw[aZ (jo (iT  rfl (by decide)) hρ (UY (by decide:3<1000) rfl))];rw[aZ (jo xp hρ (UY (by decide:4<1000) rfl))];rw[aZ (jo J5 hρ (UY (by decide:5<1000) rfl))];rw[aZ (jo J6 hρ (UY (by decide:6<1000) rfl))];rw[jo xp hρ (UY (by decide:7<1000) rfl)];rfl
def By {ga:GA}{ρ:dY}{M0:aq}{fr st:D}(ha:ga ρ M0=O [fr,st] M0)(hc:∀M,cP [fr,st] M=O .non M):qS "Beam" 3 eW ga ρ M0=O (R M0.length) (m4 M0 fr st):=by
 unfold qS;rw[ha,az,if_pos (show [fr,st].length+1=3 from rfl),JD hc,az]
def Ob {w g m mm:Int}{s:bV}(ps:aG 30 s.d=true):mf w g m mm s 0 (qP s.d):=
 ⟨rfl,rfl,⟨ps,rfl,λ_ h=>(by cases h),λ_ h=>(by cases h),λ_ h=>(by cases h)⟩,Uc _,Uc _,Uc _,Uc _,λ_ h=>(by cases h),λh=>(by simp_all)⟩
structure dE (M:aq)(L:Pl)(fr:D)(B:Bs):Prop where
 v:L.In M.length B.rows.length
 c:∀p∈dG fr L B,M[p.1]?=Z p.2
def dE.eq {M:aq}{L:Pl}{fr:D}{B:Bs}(k:dE M L fr B):av M fr L B=M:=xN k.c
def J3 {M:aq}{L:Pl}{fr:D}{B:Bs}(v:L.In M.length B.rows.length):dE (av M fr L B) L fr B:=⟨by rwa [sY],λ_ hp=>nW v hp⟩
def FK (M0:aq)(fr st:D):dE (m4 M0 fr st) (L0 M0.length) fr (qP st):=by
 have e:∀k,(m4 M0 fr st)[M0.length+k]?=([.obj "Beam" (cF fr (L0 M0.length) (qP st)),.lst [],.dT [],.dK [],.lst []]:aq)[k]?:=λk=>by
  unfold m4;rw[getElem?_append_right (Vw _ _),XO]
 have l:(m4 M0 fr st).length=M0.length+5:=by unfold m4;rw[length_append];rfl
 refine⟨⟨?_,?_,rfl⟩,?_⟩
 ·show [M0.length,M0.length+1,M0.length+2,M0.length+3,M0.length+4].Nodup;simp
 ·rw[l];show∀i∈[M0.length,M0.length+1,M0.length+2,M0.length+3,M0.length+4],_;simp
 ·show∀p∈[(M0.length,_),(M0.length+1,_),(M0.length+2,_),(M0.length+3,_),(M0.length+4,_)],_;simp only[mem_cons,not_mem_nil,or_false];rintro p (rfl|rfl|rfl|rfl|rfl)
  ·exact e 0
  ·exact e 1
  ·exact e 2
  ·exact e 3
  ·exact e 4
def ja.uniq {x fl k k':Int}{s:bV}{m row:Int}(h:ja x fl (eP x (bG s m row)) k)(h':ja x fl (eP x (bG s m row)) k'):k=k':=by
 have nf:∀b∈eP x (bG s m row),b=rG s row b.n:=λb hb=>by
  obtain⟨n,_,rfl⟩:=mem_map.mp (mem_filter.mp hb).1;have e:(rG s row n).n=n:=by
   unfold rG;split <;> rfl
  rw[e]
 rcases h with⟨e,rfl⟩|⟨b,hb,hl,rfl⟩
 ·rcases h' with⟨_,rfl⟩|⟨b,hb,_⟩
  ·rfl
  simp_all
 ·rcases h' with⟨e,rfl⟩|⟨b',hb',hl',rfl⟩
  ·rw[e] at hb;cases hb
  ·have a1:zJ b b':=hl b' hb';have a2:zJ b' b:=hl' b hb;unfold zJ at a1 a2;have e:b.n=b'.n:=by omega
   have e2:b=b':=by rw[nf b hb,nf b' hb',e]
   rw[e2]
def inkS (x fl:Int) (cs:List Sn):Int:=open Classical in if h:∃k,ja x fl cs k then Classical.choose h else 0
def JJ {x fl k:Int}{s:bV}{m row:Int}(h:ja x fl (eP x (bG s m row)) k):inkS x fl (eP x (bG s m row))=k:=by
 have e:∃k,ja x fl (eP x (bG s m row)) k:=⟨k,h⟩;unfold inkS;rw[dif_pos e];exact ja.uniq (Classical.choose_spec e) h
def hueAt (s s0:bV) (w m row x:Int):Int:=s.pots.getD (inkS x ((rY s0 w row).getD x.toNat 0) (eP x (bG s0 m row))).toNat 0
structure Pc where
 s0:bV
 rows:List (List Int)
 tch:List (List bN×D)
 grd:List (bN×D)
 lost:List D
def layP (s:bV) (w m row x:Int) (P:Pc):Pc:={P with rows:=P.rows.dropLast++[P.rows.getLastD []++[hueAt s P.s0 w m row x]],tch:=b0 ((eP x (bG P.s0 m row)).map Sn.n) (U [I row,I x]) P.tch ((eP x (bG P.s0 m row)).map Sn.n).length,grd:=if(rY P.s0 w row).getD x.toNat 0=0 then P.grd else fK ((eP x (bG P.s0 m row)).map Sn.n) (U [I row,I x]) P.grd}
def u6 (s:bV)(m row:Int)(P:Pc):Pc:={P with s0:=s,rows:=P.rows++[[]],lost:=P.lost++hZ row (jG (bz s row) (Z m) Y)}
def tickP (w g m:Int) (s:bV) (t:Int) (P:Pc):Pc:=
 if t % (w+g)<w then layP s w m (t / (w+g)) (t % (w+g)) (if t % (w+g)=0 then u6 s m (t / (w+g)) P else P) else P
def goP (w g m:Int) (s:bV):Nat->Int->Pc->Pc
 | 0,_,P=>P
 | n+1,t,P=>goP w g m s n (t+1) (tickP w g m s t P)
def planP (w g m T:Int):List (Int×Dd)->bV->Int->Pc->Pc
 | [],s,t,P=>goP w g m s (T-t).toNat t P
 | p::td,s,t,P=>planP w g m T td (a6 s p.2) p.1 (goP w g m s (p.1-t).toNat t P)
structure xS (w g m mm t:Int)(P:Pc)(B:Bs):Prop where
 rows:B.rows=P.rows
 tch:B.tch=P.tch
 grd:B.grd=P.grd
 lost:B.lost=P.lost
 row:0<t % (w+g)->t % (w+g)<w->a9 mm P.s0/\B.tk=bv P.s0 w m (t / (w+g))/\P.rows≠[]
def Ee {s s0:bV}{w m row x ink hue:Int}(h:ja x ((rY s0 w row).getD x.toNat 0) (eP x (bG s0 m row)) ink)(e:s.pots[ink.toNat]?=Z hue):hueAt s s0 w m row x=hue:=by
 unfold hueAt;rw[JJ h,getD_eq_getElem?_getD,e];rfl
def yS {B:Bs}{P:Pc}{s:bV}{w g m mm t hue:Int}{rs:List (List Int)}{last:List Int}(hp:0<w+g)(ok0:a9 mm P.s0)(htk:B.tk=bv P.s0 w m (t / (w+g)))(er:P.rows=rs++[last])(et:B.tch=P.tch)(eg:B.grd=P.grd)(el:B.lost=P.lost)(eh:hueAt s P.s0 w m (t / (w+g)) (t % (w+g))=hue) :
  xS w g m mm (t+1) (layP s w m (t / (w+g)) (t % (w+g)) P) {B.laid P.s0 w m (t / (w+g)) (t % (w+g)) hue rs last with t:=t+1}:=by
 subst eh;refine⟨?_,?_,?_,el,λh1 h2=>⟨ok0,?_,?_⟩⟩
 ·show rs++[last++[_]]=P.rows.dropLast++[P.rows.getLastD []++[_]];rw[er,dropLast_concat,getLastD_concat]
 ·show b0 _ _ B.tch _=b0 _ _ P.tch _;rw[et]
 ·show(if _ then B.grd else fK _ _ B.grd)=(if _ then P.grd else fK _ _ P.grd);rw[eg]
 ·show B.tk=bv P.s0 w m ((t+1) / (w+g));rcases lP hp with⟨q,_⟩|q
  ·rw[htk,q]
  omega
 ·show P.rows.dropLast++[_]≠[];simp
def Fh (M:aq):zS M 0=M:=append_nil M
def zN (L:Pl)(n:Nat):L.more n 0=L:=by
 show({L with rf:=L.rf++[]}:Pl)=L;rw[append_nil]
def Hz (M:aq)(j k:Nat):zS (zS M j) k=zS M (j+k):=by
 unfold zS;rw[append_assoc,List.replicate_append_replicate]
def HI (M:aq)(k:Nat):(zS M k).length=M.length+k:=by
 unfold zS;rw[length_append,length_replicate]
def EJ (L:Pl)(n j k:Nat):(L.more n j).more (n+j) k=L.more n (j+k):=by
 unfold Pl.more;dsimp only;rw[append_assoc,List.range_add,map_append,map_map];congr 3;apply map_congr_left;intro x _;show n+j+x=n+(j+x);omega
def BF {M:aq}{k:Nat}(h:bI M):bI (zS M k):=o6 h (all_eq_true.mpr λx hx=>by
 rw[(List.mem_replicate.mp hx).2];rfl)
def B4 {M:aq}{L:Pl}{B:Bs}{s s0:bV}{w h g m row x mm:Int}{rs:List (List Int)}{last:List Int}(v:L.In M.length B.rows.length)(h0:bI M)(p:B.Pure)(hs:B.st=s.d)(ok:a9 mm s)(ok0:a9 mm s0)(hm:mm<=12)(f:ig w h g m)
  (htk:B.tk=bv s0 w m row) (hx:0<=x/\x<w) (hr:B.rows=rs++[last]) (hl:last.length<100000) (ht:B.tch.length<900000) (hg:B.grd.length<900000) :
  dq [R L.b,I row,I x] (av M (bP w h g m) L B)=O .non (av M (bP w h g m) L (B.laid s0 w m row x (hueAt s s0 w m row x) rs last)):=by
 obtain⟨ink,hue,h1,h2,_,e⟩:=Mp v h0 p hs ok ok0 hm f htk hx hr hl ht hg;rw[Ee h1 h2];exact e
section
variable {M M1:aq}{L L1:Pl}{B B1 B2:Bs}{w h g m t:Int}
def Eo (v:L.In M.length B.rows.length)(x1 x2:Option D)(hB:B.t=t):Kb "Beam" "ahead" (ae 0) (gC (I 1)) [Z (R L.b),x1,x2] (av M (bP w h g m) L B)=O (.nx [Z (R L.b),x1,x2]) (av M (bP w h g m) L {B with t:=t+1}):=by
 rw[(J8 rfl (iX v) AK rfl (by rw[hB];rfl) (iX v) xj),Qb v]
def yb (v:L.In M.length B.rows.length)(f:ig w h g m)(h0:0<=t)(h1:t<h*(w+g))(te:B.t=t):ah 2 lB (aa (dm "Beam" "frame" (ae 0)) (aa (dm "Beam" "ahead" (ae 0)) ag)) [Z (R L.b),Y,Y] (av M (bP w h g m) L B)=O (nK w g t) (av M (bP w h g m) L B):=
 m9 (bS rfl (iX v) mz) (bS rfl (iX v) AK) (by rw[te];exact F8 f h0 h1)
def Ft (v:L.In M.length B.rows.length)(f:ig w h g m)(h0:0<=t)(h1:t<h*(w+g))(te:B.t=t)(hz:¬t % (w+g)<w):dX [R L.b] (av M (bP w h g m) L B)=O .non (av M (bP w h g m) L {B with t:=t+1}):=by
 have c1:=yb v f h0 h1 te;have pl:nK w g t=U [I (t / (w+g)),.non]:=by unfold nK;rw[if_neg hz]
 rw[pl] at c1;show ck (cU [Z (R L.b),Y,Y] _)=_;unfold cU;rw[aZ (su c1 (ρ1:=[Z (R L.b),Z (I (t / (w+g))),Z .non]) rfl),aZ ((m6 ((λM=>rfl) _)).trans rfl),aZ ((m6 ((λM=>rfl) _)).trans rfl),Eo v _ _ te];rfl
def BD (v:L.In M.length B.rows.length)(v1:L1.In M1.length B1.rows.length)(v2:L1.In M1.length B2.rows.length)(eb:L1.b=L.b)(f:ig w h g m)(h0:0<=t)(h1:t<h*(w+g))(te:B.t=t)(te2:B2.t=t)(hz:t % (w+g)<w)
  (h2:(t % (w+g)=0/\eR [R L.b,I (t / (w+g))] (av M (bP w h g m) L B)=O .non (av M1 (bP w h g m) L1 B1))\/(t % (w+g)≠0/\av M1 (bP w h g m) L1 B1=av M (bP w h g m) L B))
  (h3:dq [R L1.b,I (t / (w+g)),I (t % (w+g))] (av M1 (bP w h g m) L1 B1)=O .non (av M1 (bP w h g m) L1 B2)) :
  dX [R L.b] (av M (bP w h g m) L B)=O .non (av M1 (bP w h g m) L1 {B2 with t:=t+1}):=by
 have c1:=yb v f h0 h1 te;have pl:nK w g t=U [I (t / (w+g)),I (t % (w+g))]:=by unfold nK;rw[if_pos hz]
 rw[pl] at c1;show ck (cU [Z (R L.b),Y,Y] _)=_;unfold cU;rw[aZ (su (sg:=b8 [1,2]) c1 rfl)];have tst:∀M,aJ (g2 (aW false) (ae 2) (gC (I 0))) [Z (R L.b),Z (I (t / (w+g))),Z (I (t % (w+g)))] M=O (decide (t % (w+g)=0)) M:=λM=>dh (aC rfl rfl (sP _ 0 M))
 rw[aZ (by
  rcases h2 with⟨hx,k⟩|⟨hx,k⟩
  ·exact(tP ((tst (av M (bP w h g m) L B)).trans (by rw[decide_eq_true hx]))).trans (cb (iQ (m:="take_row") (n:=2) (go:=ae 0) (ga:=aa (ae 1) ag) (ρ:=[Z (R L.b),Z (I (t / (w+g))),Z (I (t % (w+g)))]) rfl (iX v) rfl (ds:=[I (t / (w+g))]) rfl rfl k))
  ·rw[k];exact(m6 ((tst (av M (bP w h g m) L B)).trans (by rw[decide_eq_false hx]))).trans rfl)]
 rw[<-eb];have k3:=iQ (m:="lay_spot") (n:=3) (go:=ae 0) (ga:=aa (ae 1) (aa (ae 2) ag)) (ρ:=[Z (R L1.b),Z (I (t / (w+g))),Z (I (t % (w+g)))]) rfl (iX v1) rfl (ds:=[I (t / (w+g)),I (t % (w+g))]) rfl rfl h3;rw[aZ ((tP ((λM=>rfl) (av M1 (bP w h g m) L1 B1))).trans (cb k3)),Eo v2 _ _ te2];rfl
end
def yA {B:Bs}{P:Pc}{s:bV}{w h g m mm t:Int}(ok:a9 mm s)(hm:mm<=12)(f:ig w h g m)(ht0:0<=t)(ht1:t<h*(w+g))(ht2:t<=3000)(iv:mf w g m mm s t B)(pn:xS w g m mm t P B) :
  ∃B',mf w g m mm s (t+1) B'/\xS w g m mm (t+1) (tickP w g m s t P) B'/\∃k:Nat,∀M L,L.In M.length B.rows.length->bI M->dX [R L.b] (av M (bP w h g m) L B)=O .non (av (zS M k) (bP w h g m) (L.more M.length k) B')/\(L.more M.length k).In (zS M k).length B'.rows.length:=by
 have hp:0<w+g:=by have:=f.w;have:=f.g;omega
 by_cases hz:t % (w+g)<w
 ·have x0:=UO t (X6 hp)
  by_cases hx:t % (w+g)=0
  ·generalize hB1:({B with tk:=bv s w m (t / (w+g)),rows:=B.rows++[[]],lost:=B.lost++hZ (t / (w+g)) (jG (bz s (t / (w+g))) (Z m) Y)}:Bs)=B1;have j1:B1.t=t:=by rw[<-hB1];exact iv.te
   have j2:B1.st=s.d:=by rw[<-hB1];exact iv.st
   have jl:(hZ (t / (w+g)) (jG (bz s (t / (w+g))) (Z m) Y)).length<=12:=by
    unfold hZ;rw[length_map];exact TL (pJ _ _ _) (wz ok hm)
   have j3:B1.Pure:=by
    rw[<-hB1];refine⟨iv.p.st,uw s w m _,iv.p.tch,iv.p.grd,λp hp'=>?_⟩;rcases mem_append.mp hp' with q|q
    ·exact iv.p.lost p q
    ·obtain⟨n,_,rfl⟩:=mem_map.mp q;rfl
   have j6:B1.lost.length<=12*(t.toNat+1):=by
    rw[<-hB1];show(B.lost++_).length<=_;rw[length_append];have:=iv.lost;omega
   have j7:B1.rows.length<=t.toNat+1:=by
    rw[<-hB1];show(B.rows++[[]]).length<=_;rw[length_append];have:=iv.rl;simp only[length_singleton];omega
   have j8:∀r∈B1.rows,r.length<=t.toNat:=by
    rw[<-hB1];intro r hr;rcases mem_append.mp hr with q|q
    ·exact iv.rr r q
    ·rw[mem_singleton] at q;rw[q];exact Uc _
   have jt:B1.tch=B.tch:=by rw[<-hB1]
   have jg:B1.grd=B.grd:=by rw[<-hB1]
   have jk:B1.tk=bv s w m (t / (w+g)):=by rw[<-hB1]
   have jr:B1.rows=B.rows++[[]]:=by rw[<-hB1]
   refine⟨_,ye (hue:=hueAt s s w m (t / (w+g)) (t % (w+g))) (s0:=s) hm ok ht0 hp j1 j2 j3 (by rw[jt];exact iv.tch) (by rw[jg];exact iv.grd) j6 j7 j8 jk jr,by unfold tickP;rw[if_pos hz,if_pos hx];exact yS (P:=u6 s m (t / (w+g)) P) hp ok jk (by show P.rows++[[]]=_;rw[<-pn.rows]) (by rw[jt];exact pn.tch) (by rw[jg];exact pn.grd) (by rw[<-hB1];show B.lost++_=P.lost++_;rw[pn.lost]) rfl,1,λM L v h0=>?_⟩;have tk:=IW (row:=t / (w+g)) v h0 iv.p iv.st ok hm f (by have:=iv.lost;omega) (by have:=iv.rl;omega);rw[hB1] at tk;have v1:=D1 v;have v2:(L.more M.length 1).In (M++[MO.lst []]).length (B.rows++[[]++[hueAt s s w m (t / (w+g)) (t % (w+g))]]).length:=by
    rw[length_append (as:=B.rows)] at v1 ⊢;exact v1
   have v1':(L.more M.length 1).In (M++[MO.lst []]).length B1.rows.length:=by rw[jr];exact v1
   exact⟨BD v v1' v2 rfl f ht0 ht1 iv.te j1 hz (.inl ⟨hx,tk⟩) (B4 v1' (ma h0 rfl) j3 j2 ok ok hm f jk ⟨x0,hz⟩ jr (by decide) (by rw[jt];have:=iv.tch;omega) (by rw[jg];have:=iv.grd;omega)),v2⟩
  ·obtain⟨ok0,jk,jn⟩:=pn.row (by omega) hz;rw[<-pn.rows] at jn;obtain⟨rs,last,jr⟩:∃rs last,B.rows=rs++[last]:=⟨B.rows.dropLast,B.rows.getLast jn,(dropLast_concat_getLast jn).symm⟩;have jll:last.length<100000:=by
    have:=iv.rr last (by rw[jr];simp);omega
   refine⟨_,ye (hue:=hueAt s P.s0 w m (t / (w+g)) (t % (w+g))) hm ok0 ht0 hp iv.te iv.st iv.p iv.tch iv.grd (by have:=iv.lost;omega) (by have:=iv.rl;omega) iv.rr jk jr,by unfold tickP;rw[if_pos hz,if_neg hx];exact yS (P:=P) hp ok0 jk (by rw[<-pn.rows];exact jr) pn.tch pn.grd pn.lost rfl,0,λM L v h0=>?_⟩;rw[Fh,zN];have v2:L.In M.length (rs++[last++[hueAt s P.s0 w m (t / (w+g)) (t % (w+g))]]).length:=by
    rw[jr] at v;rw[length_append] at v ⊢;exact v
   exact⟨BD v v v2 rfl f ht0 ht1 iv.te iv.te hz (.inr ⟨hx,rfl⟩) (B4 v h0 iv.p iv.st ok ok0 hm f jk ⟨x0,hz⟩ jr jll (by have:=iv.tch;omega) (by have:=iv.grd;omega)),v2⟩
 ·refine⟨{B with t:=t+1},⟨rfl,iv.st,⟨iv.p.st,iv.p.tk,iv.p.tch,iv.p.grd,iv.p.lost⟩,by have:=iv.tch;show B.tch.length<=_;omega,by have:=iv.grd;show B.grd.length<=_;omega,by have:=iv.lost;show B.lost.length<=_;omega,by have:=iv.rl;show B.rows.length<=_;omega,λr hr=>by have:=iv.rr r hr;omega,λh1 h2=>?_⟩,?_,0,λM L v _=>by rw[Fh,zN];exact⟨Ft v f ht0 ht1 iv.te hz,v⟩⟩
  ·exfalso;rcases lP (t:=t) hp with⟨_,q⟩|q <;> omega
  ·unfold tickP;rw[if_neg hz];refine⟨pn.rows,pn.tch,pn.grd,pn.lost,λh1 h2=>?_⟩;exfalso;rcases lP (t:=t) hp with⟨_,q⟩|q <;> omega
theorem vM {s:bV}{w h g m mm e:Int}(ok:a9 mm s)(hm:mm<=12)(f:ig w h g m)(he:e<=h*(w+g))(he2:e<=3000){x1:Option D}:∀(n fuel:Nat) (t:Int) (B:Bs) (P:Pc),0<=t->t+n=e->n<fuel->mf w g m mm s t B->xS w g m mm t P B->
  ∃B',mf w g m mm s e B'/\xS w g m mm e (goP w g m s n t P) B'/\∃k:Nat,∀M L,L.In M.length B.rows.length->bI M->dZ gu iB fuel [Z (R L.b),x1,Z (I e)] (av M (bP w h g m) L B)=O (.nx [Z (R L.b),x1,Z (I e)]) (av (zS M k) (bP w h g m) (L.more M.length k) B')/\(L.more M.length k).In (zS M k).length B'.rows.length
 | n,0,t,B,_,_,_,hf,_,_=>by omega
 | 0,fuel+1,t,B,P,h1,h2,_,iv,pn=>by
  have e1:t=e:=by omega
  subst e1;refine⟨B,iv,pn,0,λM L v h0=>?_⟩;rw[Fh,zN];refine⟨nS ?_,v⟩;unfold gu;exact dh (aC (bS rfl (iX v) AK) rfl (by rw[iv.te];show bi.ok (D.bl (decide (t<t))) _=_;rw[decide_eq_false (by omega)]))
 | n+1,fuel+1,t,B,P,h1,h2,hf,iv,pn=>by
  obtain⟨B1,iv1,pn1,k1,e1⟩:=yA ok hm f h1 (by omega) (by omega) iv pn;obtain⟨B',iv',pn',k2,e2⟩:=vM ok hm f he he2 (x1:=x1) n fuel (t+1) B1 _ (by omega) (by omega) (by omega) iv1 pn1;refine⟨B',iv',pn',k1+k2,λM L v h0=>?_⟩;obtain⟨r1,v1⟩:=e1 M L v h0;obtain⟨r2,v2⟩:=e2 _ _ v1 (BF h0);rw[Hz,HI,EJ] at r2 v2;refine⟨(yW (M1:=av M (bP w h g m) L B) ?_ ?_).trans r2,v2⟩
  ·unfold gu;exact dh (aC (bS rfl (iX v) AK) rfl (by rw[iv.te];show bi.ok (D.bl (decide (t<e))) _=_;rw[decide_eq_true (by omega)]))
  ·unfold iB;exact cb (iQ (go:=ae 0) rfl (iX v) rfl rfl rfl r1)
def KH {B:Bs}{P:Pc}{s:bV}{w h g m mm t k:Int}(ok:a9 mm s)(hm:mm<=12)(f:ig w h g m)(ht0:0<=t)(hk:0<=k)(he:t+k<=h*(w+g))(iv:mf w g m mm s t B)(pn:xS w g m mm t P B) :
  ∃B',mf w g m mm s (t+k) B'/\xS w g m mm (t+k) (goP w g m s k.toNat t P) B'/\∃n:Nat,∀M L,L.In M.length B.rows.length->bI M->iA [R L.b,I k] (av M (bP w h g m) L B)=O .non (av (zS M n) (bP w h g m) (L.more M.length n) B')/\(L.more M.length n).In (zS M n).length B'.rows.length:=by
 have hb:h*(w+g)<=40*60:=by
  have a:=f.w;have b:=f.g;have c:=f.h;exact Wx (by omega) (by omega) (by omega) (by omega)
 obtain⟨B',iv',pn',n,ew⟩:=vM ok hm f he (by omega) k.toNat 5000 t B P ht0 (by omega) (by omega) iv pn;refine⟨B',iv',pn',n,λM L v h0=>?_⟩;obtain⟨e1,v1⟩:=ew M L v h0;refine⟨?_,v1⟩;show ck (mT [Z (R L.b),Z (I k),Y] _)=_;unfold mT;have q0:(av M (bP w h g m) L B)[L.b]?=Z (.obj "Beam" (cF (bP w h g m) L B)):=iX v;have k1:=cY (i:=2) (aC (f:=bx) (bS (g:=ae 0) (ρ:=[Z (R L.b),Z (I k),Y]) (f:="ahead") rfl q0 AK) (b:=ae 1) rfl (by rw[iv.te];rfl));rw[aZ k1];have c1:=Es (F:=gf) (bS (g:=ae 0) (ρ:=[Z (R L.b),Z (I k),Z (I (t+k))]) (f:="frame") rfl q0 mz) (jM f);have tst:=dh (aC (f:=zE) (a:=ae 2) rfl c1 (by show bi.ok (D.bl (decide (t+k>h*(w+g)))) _=_;rw[decide_eq_false (by omega)]));refine(congrArg ck (aZ ((m6 tst).trans rfl))).trans ?_;show ck (dZ gu iB 5000 [Z (R L.b),Z (I k),Z (I (t+k))] _)=_;rw[e1];rfl
def Iy {M:aq}{L:Pl}{B:Bs}{w h g m:Int}(v:L.In M.length B.rows.length)(f:ig w h g m):iC [R L.b] (av M (bP w h g m) L B)=O (G (decide (B.t=h*(w+g)))) (av M (bP w h g m) L B):=by
 show ck (fN [Z (R L.b)] _)=_;unfold fN;have q0:(av M (bP w h g m) L B)[L.b]?=Z (.obj "Beam" (cF (bP w h g m) L B)):=iX v;rw[iS (aC (bS rfl q0 AK) (Es (bS rfl q0 mz) (jM f)) (sP _ _ _))];rfl
def DP {M:aq}{L:Pl}{B:Bs}{s:bV}{dd:Dd}{w h g m mm:Int}(v:L.In M.length B.rows.length)(ok:a9 mm s)(hm:mm<=900)(f:ig w h g m)(hs:B.st=s.d)(hd:kN s dd)(ht:B.t≠h*(w+g)) :
  fj [R L.b,dd.d] (av M (bP w h g m) L B)=O .non (av M (bP w h g m) L {B with st:=(a6 s dd).d}):=by
 show ck (jb [Z (R L.b),Z dd.d] _)=_;unfold jb;have q0:(av M (bP w h g m) L B)[L.b]?=Z (.obj "Beam" (cF (bP w h g m) L B)):=iX v;have k1:=Ea (iQ (m:="is_over") (n:=1) (go:=ae 0) (ga:=ag) (ρ:=[Z (R L.b),Z dd.d]) rfl q0 rfl rfl rfl (Iy v f));rw[decide_eq_false ht] at k1;rw[aZ ((m6 k1).trans rfl)];rw[wR (m9 (F:=fD) (bS rfl q0 xI) rfl (by rw[hs];exact Ay ok hm hd)) (rfl) q0 xj,LA v];rfl
def xO {w g m mm t:Int}{s:bV}{dd:Dd}{B:Bs}(iv:mf w g m mm s t B):mf w g m mm (a6 s dd) t {B with st:=(a6 s dd).d}:=
 ⟨iv.te,rfl,⟨dP _,iv.p.tk,iv.p.tch,iv.p.grd,iv.p.lost⟩,iv.tch,iv.grd,iv.lost,iv.rl,iv.rr,iv.row⟩
def zm {w g m mm t:Int}{P:Pc}{B:Bs}{st:D}(pn:xS w g m mm t P B):xS w g m mm t P {B with st:=st}:=⟨pn.rows,pn.tch,pn.grd,pn.lost,pn.row⟩
def sU {s:bV}{mm:Int}{dd:Dd}{M:aq}(ok:a9 mm s)(hm:mm<=900)(h:kN s dd)(hM:bI M):gG [s.d,dd.d] M=O (a6 s dd).d M:=by
 have ml:=ok.ml;have pl:=ok.pl;have mv:∀(i:Nat) (hi:i<s.movers.length),∃m,s.movers[i]?=Z m/\(s.movers.map Mv.d)[i]?=Z (U [xH m.shape,I m.x,I m.y,I m.rank,I m.turn]):=λi hi=>
  ⟨s.movers[i],getElem?_eq_getElem hi,by rw[getElem?_map,getElem?_eq_getElem hi,<-zh];rfl⟩
 have end_:∀{d:D} {L:aq},d=(a6 s dd).d->Wp (jD M.length (O d (M++L))) λd N=>d=(a6 s dd).d/\N=M:=λ{d L} e=>by
  subst e;exact cy (wl (dP _) hM) ⟨rfl,rfl⟩
 have st:∀{k:Nat} {a b c d e x:D},k<5->u4 (R M.length) (I k) x (M++[.lst [a,b,c,d,e]])=O () (M++[.lst ([a,b,c,d,e].set k x)]):=λ{k a b c d e x} hk=>by
  unfold u4;dsimp only;rw[uy];dsimp only;rw[show Bp [a,b,c,d,e].length (k:Int)=Z k from by
   unfold Bp;rw[if_pos (by omega),if_pos (by simp;omega),TK]]
  dsimp only;rw[z7]
 have tf:∀ys,dj [R M.length] (M++[.lst ys])=O (U ys) (M++[.lst ys]):=λys=>by
  unfold dj a7;dsimp only;rw[uy]
 refine Wp.is (uz (aN ?_));unfold gL;cases dd
 case shift x y=>
  simp_all_arith
  have:=end_ (d:=(a6 s (.shift x y)).d) (L:=[]) rfl;rwa [append_nil] at this
 case pot k hu=>
  obtain⟨kn,rfl⟩:=Ts h.1.1;have hk:=h.1.2
  simp_all_arith
  rw[se];refine Ar.mk (by simp;omega) ?_
  simp_all_arith
  rw[show g9 (s.pots.map I) (Z ((kn:Int)+1)) Y=(s.pots.map I).drop (kn+1) from uh _ _];refine Ar.mk (by simp;omega) ?_
  simp_all_arith
  rw[qB _ _ _ (by rw[length_map];omega)];have:=end_ (L:=[]) (show D.tup [bu s.floor,U [I s.sx,I s.sy],U (s.book.map bu),U (s.movers.map Mv.d),U ((s.pots.map I).set kn (I hu))]=D.tup [bu s.floor,U [I s.sx,I s.sy],U (s.book.map bu),U (s.movers.map Mv.d),U ((s.pots.set kn hu).map I)] by rw[map_set]);rwa [append_nil] at this
 case' move i x y=>
  obtain⟨m,gm,am⟩:=mv i h.1
  simp_all_arith
  have sg:iZ (R M.length) (.lst [I x,I y]) (I 1) (I 3) (M++[.lst [xH m.shape,I m.x,I m.y,I m.rank,I m.turn]])=O () (M++[.lst [xH m.shape,I x,I y,I m.rank,I m.turn]]):=by
   unfold iZ qh;dsimp only;rw[uy];dsimp only;rw[if_pos ⟨by decide,by decide,(show(3:Int)<=5 by decide),bX (show 7<=1000000 by decide)⟩,z7];rfl
  refine cy sg ?_
  simp_all_arith
 case' shape i o=>
  obtain⟨m,gm,am⟩:=mv i h.1
  simp_all_arith
  refine Ev.r (st (k:=0) (by decide)) ?_
  simp_all_arith
 case' rank i r=>
  obtain⟨m,gm,am⟩:=mv i h.1
  simp_all_arith
  refine Ev.r (st (k:=3) (by decide)) ?_
  simp_all_arith
 case' turn i t=>
  obtain⟨m,gm,am⟩:=mv i h.1
  simp_all_arith
  refine Ev.r (st (k:=4) (by decide)) ?_
  simp_all_arith
 all_goals
  have hi:=h.1;refine Ev.r (tf _) ?_
  simp_all_arith
  rw[se];refine Ar.mk (by simp;omega) ?_
  simp_all_arith
  rw[show g9 (s.movers.map Mv.d) (Z ((i:Int)+1)) Y=(s.movers.map Mv.d).drop (i+1) from uh _ _];refine Ar.mk (by simp;omega) ?_
  simp_all_arith
  rw[qB _ _ _ (by rw[length_map];exact hi)];refine end_ (L:=[_]) (Eq.trans ?_ (oR gm).symm);rw[zh]
  try rfl
def zt (ok:a9 mm s)(hm:mm<=900)(hM:bI M):d7 [s.d,I row] M=O (.lst ((bz s row).map I)) M:=by
 have lm:=ok.ml;have ll:(s.movers.map Mv.d).length=s.movers.length:=length_map _;refine Wp.is (uz (aN ?_));unfold il jB
 simp_all_arith
 rw[TK,ll];refine xx (λi ρ N=>∃y0 y1 y2 y3 y4 y5,ρ=[Z s.d,Z (I row),Z (R M.length),y0,y1,y2,y3,y4,y5]/\N=M++[.lst ((ot s row i).map I)]) ⟨_,_,_,_,_,_,rfl,rfl⟩ (λj ρ N hj e=>?_) λρ N e=>?_
 ·obtain⟨y0,y1,y2,y3,y4,y5,rfl,rfl⟩:=e;have gm:s.movers[j]?=Z s.movers[j]:=getElem?_eq_getElem hj;have om:=(ok.movers _ (getElem_mem hj)).s;have ey:ot s row (j+1)=ot s row j++(if yH s row s.movers[j] then [(j:Int)] else []):=by rw[ot,gm]
  have l1:((ot s row j).map I).length<1000:=by have:=ke s row j;rw[length_map];omega
  generalize s.movers[j]=m at *;have gd:(s.movers.map Mv.d)[j]?=Z m.d:=by rw[getElem?_map,gm];rfl
  refine⟨_,rfl,?_⟩;unfold yH at ey;unfold Mv.d at gd;cases hs:m.shape with
  | none=>
   rw[hs] at gd ey
   simp_all_arith
   exact⟨_,_,_,_,_,_,rfl,by rw[ey];simp⟩
  | some k=>
   have hk:=om k hs;rw[hs] at gd ey;have gb:(s.book.map bu)[k]?=Z (bu s.book[k]):=by rw[getElem?_map,getElem?_eq_getElem hk];rfl
   have e:s.book.getD k []=s.book[k]:=by simp[hk]
   have lb:(s.book[k].map λr=>D.tup (r.map I)).length=s.book[k].length:=length_map _;simp only[e] at ey
   simp_all_arith <;> exact⟨_,_,_,_,_,_,rfl,by first|(rw[ey,if_pos (by simp;omega)];simp)|(rw[ey,if_neg (by simp;omega)];simp)⟩
 ·obtain⟨y0,y1,y2,y3,y4,y5,rfl,rfl⟩:=e
  simp_all_arith
  exact cy (pE (dB 28 _) hM) ⟨rfl,rfl⟩
def Hb (q:List Int):(Tw (q.map I).length).map (λj=>I (q.getD (q.length-1-j) 0))=q.reverse.map I:=by
 apply ext_getElem
 ·simp
 ·intro i q1 q2;simp at q1 q2 ⊢;rw[getElem?_eq_getElem (by omega)];rfl
def DM {rs:List (List Int)}{way:Int}{n:Nat}{M:aq}(h0:0<=way)(h1:way<4)(hn:n<rs.length)(hr:∀r∈rs,r.length<=1000) :
  kX [IU rs,I way,I n] M=O (U ((l9 rs way n).map I)) M:=by
 have ls:(rs.map λr=>D.tup (r.map I)).length=rs.length:=length_map _;have at_:∀(k:Nat) {i:Int} {Q:D->aq->Prop},i=k->k<rs.length->Q (U ((rs.getD k []).map I)) M->Ev (aB (IU rs) (I i) M) Q:=λk i Q e hk h=>by
  subst e;exact qL [] (by omega) (by rwa [TK])
 have lq:∀k,k<rs.length->(rs.getD k []).length<=1000:=λk hk=>by
  rw[Vx,getElem?_eq_getElem hk];exact hr _ (getElem_mem hk)
 have rev:∀(k:Nat) {i:Int} {ρ:dY} {Q:List D->aq->Prop},i=k->k<rs.length->ρ[0]?=Z (Z (IU rs))->ρ[2]?=Z (Z (I i))->Q ((rs.getD k []).reverse.map I) M->Wp (bE ⟨aX 0 ((rs.getD k []).map I).length,Y⟩ bq gJ (aX 0 ((rs.getD k []).map I).length) ρ M) Q:=λk i ρ Q e hk e0 e2 q=>by
  have lm:((rs.getD k []).map I).length=(rs.getD k []).length:=length_map _;have v1:∀d,ae 1 (d::ρ) M=O (IU rs) M:=λd=>by unfold ae;rw[getElem?_cons_succ,e0]
  have v3:∀d,ae 3 (d::ρ) M=O (I i) M:=λd=>by unfold ae;rw[getElem?_cons_succ,e2]
  refine xF (λj=>I ((rs.getD k []).getD ((rs.getD k []).length-1-j) 0)) (λj hj=>?_) (by rwa [Hb]);unfold gJ
  simp_all_arith
  refine Ev.r (v1 _) ?_
  simp_all_arith
  refine Ev.r (v3 _) ?_
  simp_all_arith
  refine at_ k e hk ?_
  simp_all_arith
  refine Ev.r (v1 _) ?_
  simp_all_arith
  refine Ev.r (v3 _) ?_
  simp_all_arith
  refine at_ k e hk ?_
  simp_all_arith
  refine qL 0 (by omega) ⟨?_,rfl⟩;rw[lm,show((((rs.getD k []).length:Int)-1-j).toNat)=(rs.getD k []).length-1-j by omega]
 have k3:((rs.length:Int)-1-n)=((rs.length-1-n:Nat):Int):=by omega
 have l1:=lq n hn;have l2:=lq (rs.length-1-n) (by omega);have m1:((rs.getD n []).map I).length=(rs.getD n []).length:=length_map _;have m2:((rs.getD (rs.length-1-n) []).map I).length=(rs.getD (rs.length-1-n) []).length:=length_map _;refine Wp.is (aN ?_);unfold kW;rcases N6 h0 h1 with rfl|rfl|rfl|rfl <;> simp_all_arith
 ·refine at_ n rfl hn ?_
  simp_all_arith
  exact⟨rfl,rfl⟩
 ·refine at_ n rfl hn ?_
  simp_all_arith
  rw[TK];refine rev n rfl hn rfl rfl ?_;have lr:((rs.getD n []).reverse.map I).length=(rs.getD n []).length:=by simp
  simp_all_arith
  exact⟨rfl,rfl⟩
 ·rw[ls];refine at_ _ k3 (by omega) ?_
  simp_all_arith
  exact⟨rfl,rfl⟩
 ·rw[ls];refine at_ _ k3 (by omega) ?_
  simp_all_arith
  rw[TK];refine rev _ k3 (by omega) rfl rfl ?_;have lr:((rs.getD (rs.length-1-n) []).reverse.map I).length=(rs.getD (rs.length-1-n) []).length:=by simp
  simp_all_arith
  exact⟨rfl,rfl⟩
def yU (ok:a9 mm s)(hm:mm<=900)(hw:1<=w/\w<=900)(hM:bI M) :
  iq [U [I w,I hh,I g,I m],s.d,I row] M=O (bv s w m row) M:=by
 obtain⟨f1,f2,fw,f3,f4,f5⟩:=ok.floor;have hfl:0<=(row+s.sy) % (s.floor.length:Int)/\(row+s.sy) % (s.floor.length:Int)<s.floor.length:=⟨UO _ (by omega),UP _ (by omega)⟩;have lw:(bd s row).length=fw:=by
  unfold bd;have h:((row+s.sy) % (s.floor.length:Int)).toNat<s.floor.length:=by omega
  rw[Vx,getElem?_eq_getElem h];exact(f5 _ (getElem_mem h)).1
 obtain⟨ys,ey,ly,qy⟩:=ym (bz s row) Y (Z m);have ll:(bz s row).length<=900:=by
  have:=ke s row s.movers.length;have:=ok.ml;unfold bz;omega
 have etk:oq s m row=ys.map (bc s row):=by unfold oq;rw[ey,map_map];rfl
 have ely:=zt (row:=row) (M:=M++[.lst []]) ok hm (ma hM rfl);have lf:(s.floor.map λr=>D.tup (r.map I)).length=s.floor.length:=length_map _;have lr:((bd s row).map I).length=(bd s row).length:=length_map _;refine Wp.is (uz (aN ?_));unfold ie jC jI;have hix:aB (bu s.floor) (I ((row+s.sy) % ((s.floor.map λr=>D.tup (r.map I)).length:Int))) M=O (U ((bd s row).map I)) M:=by
  rw[lf];exact(qL (f:=λr:List Int=>D.tup (r.map I)) (Q:=λd N=>d=U ((bd s row).map I)/\N=M) [] hfl ⟨rfl,rfl⟩).h.is
 simp_all_arith
 rw[ey];refine Eh I (λj ρ N=>∃y0 y1 y2 y3 y4 y5,ρ=[Z (U [I w,I hh,I g,I m]),Z s.d,Z (I row),Z (bu s.floor),Z (U [I s.sx,I s.sy]),Z (U ((bd s row).map I)),Z (R M.length),y0,y1,y2,y3,y4,y5]/\N=M++[.lst ((ys.take j).map (bc s row))]) ⟨_,_,_,_,_,_,rfl,rfl⟩ (λj n ρ N hj e=>?_) λρ N e=>?_
 ·obtain⟨y0,y1,y2,y3,y4,y5,rfl,rfl⟩:=e;have l1:((ys.take j).map (bc s row)).length<=900:=by rw[length_map,length_take];omega
  have et:(ys.take (j+1)).map (bc s row)=(ys.take j).map (bc s row)++[bc s row n]:=by rw[take_add_one,hj,map_append];rfl
  obtain⟨i,rfl,hi,m,gm,lz⟩:=mH (qy n (mem_of_getElem? hj));have om:=ok.movers m (mem_of_getElem? gm);have gd:(s.movers.map Mv.d)[i]?=Z m.d:=by rw[getElem?_map,gm];rfl
  unfold yH at lz;unfold Mv.d at gd;cases hs:m.shape with
  | none=>rw[hs] at lz;cases lz
  | some k=>
   rw[hs] at lz gd;have hk:=om.s k hs;have ge:s.book.getD k []=s.book[k]:=by simp[hk]
   have gb:(s.book.map bu)[k]?=Z (IU s.book[k]):=by rw[getElem?_map,getElem?_eq_getElem hk];rfl
   simp only[ge,Tz,decide_eq_true_eq] at lz;obtain⟨b1,b2,bw,b3,b4,b5⟩:=ok.book _ (getElem_mem hk);obtain⟨r,hr⟩:=Ts (by omega:0<=row-m.y);have lst:=DM (rs:=s.book[k]) (way:=m.turn) (n:=r) (M:=M++[.lst ((ys.take j).map (bc s row))]) om.t.1 (by have:=om.t.2;omega) (by omega) (λq hq=>by have:=(b5 q hq).1;omega);rw[<-hr] at lst;refine⟨_,rfl,?_⟩
   simp_all_arith
   have es:bc s row (i:Int)=U [I i,I m.x,I m.rank,U ((l9 s.book[k] m.turn r).map I)]:=by
    unfold bc;rw[TK,gm];simp only[hs,ZF,ge,show(row-m.y).toNat=r by omega]
   exact⟨_,_,_,_,_,_,rfl,by rw[et,es]⟩
 ·obtain⟨y0,y1,y2,y3,y4,y5,rfl,rfl⟩:=e;rw[take_length]
  simp_all_arith
  refine xF (λ(x:Nat)=>I (cH s row x)) (λx hx=>?_) ?_
  ·have hix:aB (U ((bd s row).map I)) (I (((x:Int)+s.sx) % (((bd s row).map I).length:Int))) (M++[.lst (ys.map (bc s row))])=O (I (cH s row x)) (M++[.lst (ys.map (bc s row))]):=by
    rw[lr];exact(qL (f:=I) (Q:=λd N=>d=I (cH s row x)/\N=_) 0 ⟨UO _ (by omega),UP _ (by omega)⟩ ⟨rfl,rfl⟩).h.is
   simp_all_arith
   exact⟨rfl,rfl⟩
  ·have l2:((Tw w.toNat).map λ(x:Nat)=>I (cH s row x)).length=w.toNat:=by simp
   have tf:dj [R M.length] (M++[.lst (ys.map (bc s row))])=O (U (ys.map (bc s row))) (M++[.lst (ys.map (bc s row))]):=by
    unfold dj;dsimp only;rw[show a7 (R M.length) (M++[.lst (ys.map (bc s row))])=Z (ys.map (bc s row)) from by unfold a7;dsimp only;rw[uy]]
   simp_all_arith
   have h1:((ys.map (bc s row)).all (aG 28))=true:=by rw[all_map];exact all_eq_true.mpr λn _=>zW n
   have h2:(((Tw w.toNat).map λ(x:Nat)=>I (cH s row x)).all (aG 28))=true:=by rw[all_map];exact all_eq_true.mpr λn _=>rfl
   have tk:bv s w m row=U [U ((Tw w.toNat).map λ(x:Nat)=>I (cH s row x)),U (ys.map (bc s row))]:=by unfold bv;rw[etk]
   rw[tk];refine cy (wl ?_ hM) ⟨rfl,rfl⟩;show(aG 29 (U _)&&(aG 29 (U _)&&true))=true;rw[gF,gF,h1,h2];rfl
def nk (x:Int)(s:Sn):D:=U [I s.r,I (0-s.n),I (cg x s)]
def Qh (a b c d e f:Int):HT.lexLt [a,b,c] [d,e,f]=decide (a<d\/(a=d/\(b<e\/(b=e/\c<f)))):=by
 by_cases h1:a<d <;> by_cases h2:a=d <;> by_cases h3:b<e <;> by_cases h4:b=e <;> by_cases h5:c<f <;> simp[HT.lexLt,h1,h2,h3,h4,h5] <;> omega
theorem AO:∀(cs:List Sn) (b:Sn),∃b',b'∈b::cs/\(∀s∈b::cs,zJ b' s)/\rj (cs.map (nk x)) (nk x b) [b.r,0-b.n,cg x b]=Z (nk x b')
 | [],b=>⟨b,mem_cons_self ..,BP b,rfl⟩
 | s::r,b=>by
  have hi:dJ (nk x s)=Z [s.r,0-s.n,cg x s]:=rfl
  by_cases h:b.r<s.r\/(b.r=s.r/\(0-b.n<0-s.n\/(0-b.n=0-s.n/\cg x b<cg x s)))
  ·obtain⟨b',h1,h2,h3⟩:=AO r s;refine⟨b',mem_cons_of_mem _ h1,λt ht=>?_,?_⟩
   ·rcases mem_cons.mp ht with z|z
    ·subst z;have:=h2 s (mem_cons_self ..);unfold zJ at *;omega
    ·exact h2 t z
   ·rw[map_cons];unfold rj;rw[hi];dsimp only;rw[Qh,if_pos (decide_eq_true h)];exact h3
  ·obtain⟨b',h1,h2,h3⟩:=AO r b;have hb:=h2 b (mem_cons_self ..);refine⟨b',?_,λt ht=>?_,?_⟩
   ·rcases mem_cons.mp h1 with z|z
    ·exact z▸mem_cons_self ..
    ·exact mem_cons_of_mem _ (mem_cons_of_mem _ z)
   ·rcases mem_cons.mp ht with z|z
    ·exact z▸hb
    ·rcases mem_cons.mp z with z|z
     ·subst z;unfold zJ at *;omega
     ·exact h2 t (mem_cons_of_mem _ z)
   ·rw[map_cons];unfold rj;rw[hi];dsimp only;rw[Qh,if_neg (by simpa using h)];exact h3
def tZ {ss:List Sn}(hs:ss.length<=900)(hM:bI M) :
  eE [U [fl,U (ss.map Sn.d)],I x] M=O (.lst ((eP x ss).map (nk x))) M:=by
 refine Wp.is (uz (aN ?_));unfold iu jK
 simp_all_arith
 refine Eh Sn.d (λj ρ N=>∃x5 x6 x7 x8,ρ=[Z (U [fl,U (ss.map Sn.d)]),Z (I x),Z (R M.length),x5,x6,x7,x8]/\N=M++[.lst ((eP x (ss.take j)).map (nk x))]) ⟨_,_,_,_,rfl,rfl⟩ (λj s ρ N gs e=>?_) λρ N e=>?_
 ·obtain⟨x5,x6,x7,x8,rfl,rfl⟩:=e;have lk:(s.ks.map I).length=s.ks.length:=length_map _;have ll:((eP x (ss.take j)).map (nk x)).length<1000:=by
   rw[length_map];exact UW (mS x _) (by rw[length_take];omega)
  rw[xZ gs,map_append];refine⟨_,rfl,?_⟩
  by_cases h:s.x<=x/\x<s.x+(s.ks.length:Int)
  ·obtain⟨i,hi,ai⟩:=za h.1 h.2;have hix:∀N,aB (U (s.ks.map I)) (I (x-s.x)) N=O (I (cg x s)) N:=λN=>by
    rw[hi];unfold aB a7
    simp_all
   have hix1:=hix (M++[.lst ((eP x (ss.take j)).map (nk x))])
   simp_all_arith
   ·exact⟨_,_,_,_,rfl,by rw[if_pos hc];simp⟩
   ·exact⟨_,_,_,_,rfl,by rw[if_neg hc];rfl⟩
  ·rw[if_pos (vW h),map_nil,append_nil]
   simp_all_arith <;> exact⟨_,_,_,_,rfl,rfl⟩
 ·obtain⟨x5,x6,x7,x8,rfl,rfl⟩:=e;rw[take_length]
  simp_all_arith
  exact cy (pE (B6 (λ_=>rfl) _) hM) ⟨rfl,rfl⟩
theorem yh:∀cs:List Sn,bE ⟨ds0,Y⟩ jh ji (cs.map (nk x)) ρ M=O ((cs.filter λs=>decide (0<s.r)).map (nk x)) M
 | []=>rfl
 | s::r=>by
  have ih:=yh (x:=x) (ρ:=ρ) (M:=M) (ds0:=ds0) r;have et:jh (Z (nk x s)::ρ) M=O (decide (0<s.r)) M:=by rfl
  have ee:ji (Z (nk x s)::ρ) M=O (nk x s) M:=rfl
  by_cases h:0<s.r
  ·simp[bE,l7,et,ee,ih,h]
  ·simp[bE,l7,et,ih,h]
theorem Bf (x:Int)(n:Nat):∀cs:List Sn,bn (n+1) (cs.map (nk x))=true
 | []=>rfl
 | s::r=>by
  show(bH (n+1) (nk x s)&&bn (n+1) (r.map (nk x)))=true;rw[Bf x n r];rfl
def eq_nil (cs:List Sn):iY (cs.map (nk x)) []=cs.isEmpty:=by
 cases cs <;> rfl
def Hh (h:cs≠[]):∃b∈cs,(∀s∈cs,zJ b s)/\GV (cs.map (nk x))=Z (U [I b.r,I (0-b.n),I (cg x b)]):=by
 cases cs with
 | nil=>exact absurd rfl h
 | cons s r=>
  obtain⟨b,h1,h2,h3⟩:=AO r s;exact⟨b,h1,h2,h3⟩
def C1 {fs:List D}{ss:List Sn}(hs:ss.length<=900)(hM:bI M)(hf:wx fs x=Z (I fl)) :
  ∃k:Int,ja x fl (eP x ss) k/\f7 [U [U fs,U (ss.map Sn.d)],I x] M=O (I k) M:=by
 suffices h:Wp (f7 [U [U fs,U (ss.map Sn.d)],I x] M) λd N=>∃k,ja x fl (eP x ss) k/\d=I k/\N=M by
  obtain⟨_,_,e,k,sh,rfl,rfl⟩:=h.eq;exact⟨k,sh,e⟩
 have e2:=tZ (fl:=U fs) (ss:=ss) (x:=x) (M:=M) hs hM;have ea:=λρ=>yh (x:=x) (ρ:=ρ) (M:=M) (ds0:=(eP x ss).map (nk x)) (eP x ss)
 have lc:(eP x ss).length<=1000000:=TL (mS x ss) (by omega);have lf:((eP x ss).filter λs=>decide (0<s.r)).length<=1000000:=TL (length_filter_le _ _) lc;generalize hfl:((eP x ss).filter λs=>decide (0<s.r))=ab at *;generalize eP x ss=cs at *;have mab:∀s,s∈ab↔s∈cs/\0<s.r:=λs=>by rw[<-hfl];simp
 have en:∀l:List Sn,aW false (.lst (l.map (nk x))) (.lst []) M=O (G (decide (l=[]))) M/\aW true (.lst (l.map (nk x))) (.lst []) M=O (G (!decide (l=[]))) M:=λl=>by
  have k:(bn 39 (l.map (nk x))&&true)=true:=by rw[Bf];rfl
  have q:iY (l.map (nk x)) []=decide (l=[]):=by rw[eq_nil];cases l <;> rfl
  refine⟨?_,?_⟩
  ·show(if(bn 39 (l.map (nk x))&&true)=true then bi.ok (D.bl (iY (l.map (nk x)) [] != false)) M else .bad)=_;rw[if_pos k,q,Yq]
  ·show(if(bn 39 (l.map (nk x))&&true)=true then bi.ok (D.bl (iY (l.map (nk x)) [] != true)) M else .bad)=_;rw[if_pos k,q,Bool.bne_true]
 have ef:=(en cs).1;have et:=(en ab).2;have hix:aB (U fs) (I x) M=O (I fl) M:=by
  unfold aB a7
  simp_all
 have mx:∀l:List Sn,l≠[]->∃b,b∈l/\(∀s,s∈l->zJ b s)/\tH [.lst (l.map (nk x))] M=O (U [I b.r,I (0-b.n),I (cg x b)]) M:=λl hl=>by
  obtain⟨b,b1,b2,e⟩:=Hh (x:=x) hl;refine⟨b,b1,b2,?_⟩;unfold tH;dsimp only;rw[e]
 refine aN ?_;unfold nC
 simp_all_arith
 refine cy (M:=M) (a:=.lst (ab.map (nk x))) ?_ ?_
 ·unfold a8;rw[Bo (xs:=cs.map (nk x)) rfl,az];dsimp only;rw[ea,az];unfold aR;rw[if_pos (bX (by rw[length_map];exact lf))]
 by_cases hab:ab=[]
 ·have nr:∀b∈cs,¬1<=b.r:=λb b1 z=>by
   have q:=(mab b).mpr ⟨b1,by omega⟩;rw[hab] at q;cases q
  by_cases hn:cs=[]
  ·simp_all_arith <;> exact⟨fl,.inl ⟨hn,rfl⟩,rfl,rfl⟩
  ·obtain⟨b,b1,b2,e⟩:=mx cs hn
   simp_all_arith
   ·exact⟨_,.inr ⟨b,b1,b2,by rw[if_pos (.inr hc)]⟩,rfl,rfl⟩
   ·exact⟨fl,.inr ⟨b,b1,b2,by rw[if_neg (λz=>z.elim (nr b b1) hc)]⟩,rfl,rfl⟩
 ·obtain⟨b,b1,b2,e⟩:=mx ab hab;have bb:=(mab b).mp b1
  simp_all_arith
  refine⟨_,.inr ⟨b,bb.1,λs hs=>?_,by rw[if_pos (.inl (by omega))]⟩,rfl,rfl⟩
  by_cases q:0<s.r
  ·exact b2 s ((mab s).mpr ⟨hs,q⟩)
  ·unfold zJ;have:=bb.2;omega
def tq (td:List (Int×Dd)):List D:=td.map λp=>U [I p.1,p.2.d]
def sL (s:bV)(dd:Dd):(a6 s dd).movers.length=s.movers.length/\(a6 s dd).book=s.book:=by
 have sm:∀i f,(lG s i f).movers.length=s.movers.length/\(lG s i f).book=s.book:=λi f=>by
  unfold lG;split
  ·simp
  simp
 cases dd <;> first|exact⟨rfl,rfl⟩|exact sm _ _
def qE {s:bV}{dd d2:Dd}(h:kN s d2):kN (a6 s dd) d2:=by
 obtain⟨e1,e2⟩:=sL s dd;cases d2 <;> simp only[kN,e1,e2] at*<;> exact h
def Jr {ds0:List D}{sg:GG}{b:GS}{d:D}{ds:List D}{ρ ρ1 ρ2:dY}{M M1:aq}(h1:sg d ρ=Z ρ1)(h2:b ρ1 M=O (.nx ρ2) M1):cn ⟨ds0,Y⟩ sg b (d::ds) ρ M=cn ⟨ds0,Y⟩ sg b ds ρ2 M1:=by
 show(match sg d ρ with|none=>bi.bad|some ρ1=>(b ρ1 M).bind λf M1=>match f with | .nx ρ2=>cn ⟨ds0,Y⟩ sg b ds ρ2 M1 | .ct ρ2=>cn ⟨ds0,Y⟩ sg b ds ρ2 M1 | .bk ρ2=>O (.nx ρ2) M1 | .rt d=>O (.rt d) M1)=_;rw[h1];dsimp only;rw[h2,az]
def fu (td:List (Int×Dd))(s:bV):bV:=td.foldl (λs p=>a6 s p.2) s
theorem Bq {w g m:Int}{s:bV}:∀(a b:Nat) (t:Int) (P:Pc),goP w g m s (a+b) t P=goP w g m s b (t+a) (goP w g m s a t P)
 | 0,b,t,P=>by rw[Uq];show _=goP w g m s b (t+(0:Nat)) P;rw[show t+((0:Nat):Int)=t by omega]
 | a+1,b,t,P=>by
  rw[show a+1+b=a+b+1 by omega,goP,Bq a b (t+1),goP,show t+1+(a:Int)=t+((a+1:Nat):Int) by omega]
theorem sw {w g m T:Int}{d:Dd}:∀(td:List (Int×Dd)) (s:bV) (t:Int) (P:Pc),planP w g m T (td++[(T,d)]) s t P=planP w g m T td s t P
 | [],s,t,P=>by
  show goP w g m _ (T-T).toNat T (goP w g m s (T-t).toNat t P)=goP w g m s (T-t).toNat t P;rw[X7];rfl
 | p::td,s,t,P=>sw td _ _ _
theorem zb {w g m T k:Int}(hk:0<=k):∀(td:List (Int×Dd)) (s:bV) (t:Int) (P:Pc),t<=T->(∀p∈td,p.1<=T)->planP w g m (T+k) td s t P=goP w g m (fu td s) k.toNat T (planP w g m T td s t P)
 | [],s,t,P,ht,_=>by
  show goP w g m s (T+k-t).toNat t P=goP w g m s k.toNat T (goP w g m s (T-t).toNat t P);rw[show(T+k-t).toNat=(T-t).toNat+k.toNat by omega,Bq,show t+((T-t).toNat:Int)=T by omega]
 | p::td,s,t,P,ht,h=>zb hk td _ _ _ (h p mem_cons_self) λq hq=>h q (mem_cons_of_mem _ hq)
theorem zA {w g m T:Int}:∀(td:List (Int×Dd)) (s:bV) (P:Pc),(∀p∈td,p.1=T)->planP w g m T td s T P=P
 | [],s,P,_=>by
  show goP w g m s (T-T).toNat T P=P;rw[X7];rfl
 | p::td,s,P,h=>by
  have e:=h p mem_cons_self;rw[planP,e,zA td _ _ λq hq=>h q (mem_cons_of_mem _ hq),X7];rfl
def ni (b n:Nat):List D:=(Tw n).map λi=>D.mr (b+4+i)
def qO (b:Nat)(st:D)(P:Pc):aq:=.lst (ni b P.rows.length)::.dT P.tch::.dK P.grd::.lst [R b,R (b+1),R (b+2),.lst P.lost,st]::P.rows.map iV
def ay (M0:aq)(st:D)(P:Pc):aq:=M0++qO M0.length st P
section
variable {M0:aq}{st:D}{P:Pc}
def yM (k:Nat):(ay M0 st P)[M0.length+k]?=(qO M0.length st P)[k]?:=by
 unfold ay;rw[getElem?_append_right (Vw _ _),XO]
def wC (k:Nat)(o:MO):(ay M0 st P).set (M0.length+k) o=M0++(qO M0.length st P).set k o:=by
 unfold ay;simp
def Hl:(ay M0 st P)[M0.length]?=Z (.lst (ni M0.length P.rows.length)):=yM 0
def LG:(ay M0 st P)[M0.length+1]?=Z (.dT P.tch):=yM 1
def KU:(ay M0 st P)[M0.length+2]?=Z (.dK P.grd):=yM 2
def Au:(ay M0 st P)[M0.length+3]?=Z (.lst [R M0.length,R (M0.length+1),R (M0.length+2),.lst P.lost,st]):=yM 3
def Aj {i:Nat}{r:List Int}(h:P.rows[i]?=Z r):(ay M0 st P)[M0.length+4+i]?=Z (iV r):=by
 rw[WM,yM,X4 4 i];show(P.rows.map iV)[i]?=_
 simp_all
def ux:(ay M0 st P).length=M0.length+4+P.rows.length:=by
 unfold ay qO;rw[length_append,length_cons,length_cons,length_cons,length_cons,length_map];omega
def Fa {x:List (List bN×D)}:(ay M0 st P).set (M0.length+1) (.dT x)=ay M0 st {P with tch:=x}:=wC 1 _
def EH {x:List (bN×D)}:(ay M0 st P).set (M0.length+2) (.dK x)=ay M0 st {P with grd:=x}:=wC 2 _
def sX {l:List D}{st2:D}:(ay M0 st P).set (M0.length+3) (.lst [R M0.length,R (M0.length+1),R (M0.length+2),.lst l,st2])=ay M0 st2 {P with lost:=l}:=wC 3 _
def GU {i:Nat}{r:List Int}:(ay M0 st P).set (M0.length+4+i) (iV r)=ay M0 st {P with rows:=P.rows.set i r}:=by
 rw[WM,wC,X4 4 i];unfold ay qO;simp
def Ga:((ay M0 st P)++[MO.lst []]).set M0.length (MO.lst (ni M0.length P.rows.length++[D.mr (ay M0 st P).length]))=ay M0 st {P with rows:=P.rows++[[]]}:=by
 rw[ux];unfold ay qO;rw[append_assoc,set_append_right _ _ (Te _),U6,map_append,length_append];unfold ni;rw[length_singleton,range_succ,map_append];rfl
theorem o0:∀{n:Nat} {d:D},aG n d=true->aG (n+1) d=true
 | 0,d,h=>by cases h
 | n+1,d,h=>by
  cases d with
  | mr k=>cases h
  | tup xs=>exact all_eq_true.mpr λx hx=>o0 (all_eq_true.mp (h) x hx)
  | lst xs=>exact all_eq_true.mpr λx hx=>o0 (all_eq_true.mp (h) x hx)
  | ro xs=>exact all_eq_true.mpr λx hx=>o0 (all_eq_true.mp (h) x hx)
  | _=>rfl
structure Pc.Pure (P:Pc):Prop where
 tch:∀p,p∈P.tch->aG 30 p.2=true
 grd:∀p,p∈P.grd->aG 30 p.2=true
 lost:∀p,p∈P.lost->aG 28 p=true
def f9 (h0:bI M0)(hs:aG 30 st=true)(p:P.Pure):bI (ay M0 st P):=by
 unfold bI;rw[ux];unfold ay qO;rw[all_append,Tz];refine⟨all_eq_true.mpr λx hx=>vm (by omega) (all_eq_true.mp h0 x hx),?_⟩;simp only[all_cons,Tz];have f:∀k:Nat,k<=3->mh (M0.length+4+P.rows.length) 30 (R (M0.length+k))=true:=λk hk=>decide_eq_true (by omega)
 refine⟨?_,?_,?_,?_,?_⟩
 ·refine all_eq_true.mpr λx hx=>?_
  obtain⟨i,hi,rfl⟩:=mem_map.mp hx;exact decide_eq_true (by grind)
 ·exact all_eq_true.mpr λx hx=>bA 30 _ (p.tch x hx)
 ·exact all_eq_true.mpr λx hx=>bA 30 _ (p.grd x hx)
 ·show([R M0.length,R (M0.length+1),R (M0.length+2),.lst P.lost,st]:List D).all (mh (M0.length+4+P.rows.length) 30)=true;simp only[all_cons,all_nil,Tz];exact⟨f 0 (by decide),f 1 (by decide),f 2 (by decide),all_eq_true.mpr λx hx=>bA 29 _ (by exact o0 (p.lost x hx)),bA 30 _ hs,trivial⟩
 ·refine all_eq_true.mpr λx hx=>?_
  obtain⟨r,_,rfl⟩:=mem_map.mp hx;exact jS (dB 29 r)
end
abbrev aE (fr:D)(s:bV)(tm mn:D)(n:Nat)(rh:D)(k:Nat)(x7 x8 x9 x10 x11 x12:Option D):dY:=[Z fr,Z s.d,Z tm,Z mn,Z (R (n+3)),Z rh,Z (I k),x7,x8,x9,x10,x11,x12]
def ze {M0:aq}{st d:D}{P:Pc}{ρ:dY}{i:Nat}(h:ρ[4]?=Z (Z (R (M0.length+3))))(hi:([R M0.length,R (M0.length+1),R (M0.length+2),.lst P.lost,st]:List D)[i]?=Z d):g2 aB (ae 4) (gC (I i)) ρ (ay M0 st P)=O d (ay M0 st P):=
 aC  (by unfold ae;rw[h]) rfl (fO (x:=.non) Au (ce hi))
section
variable {M0:aq}{st fr tm mn rh:D}{P:Pc}{s:bV}{k:Nat}{x7:Option D}{row x n:Int}{ns:List Int}
theorem Ku {j:Nat}(hj:ns[j]?=Z n){ds0:List D}:∀(os:List Int) (T:List (List bN×D)) (x12:Option D),T.length+os.length<900000->
  ∃y12,cn ⟨ds0,Y⟩ (dL 12) kM (os.map I) (aE fr s tm mn M0.length rh k x7 (Z (I row)) (Z (I x)) (Z (.lst (ns.map I))) (Z (I j)) x12) (ay M0 st {P with tch:=T})=O (.nx (aE fr s tm mn M0.length rh k x7 (Z (I row)) (Z (I x)) (Z (.lst (ns.map I))) (Z (I j)) y12)) (ay M0 st {P with tch:=fZ n os (U [I row,I x]) T})
 | [],T,x12,_=>⟨x12,rfl⟩
 | o::os,T,x12,hl=>by
  rw[length_cons] at hl;obtain⟨r,e⟩:=sW (kvs:=T) (y:=U [I n,I o])  (M:=ay M0 st {P with tch:=T}) LG rfl (by omega);rw[Fa] at e;obtain⟨y12,ih⟩:=Ku hj  os (sD T [T1 n,T1 o] (U [I row,I x])) (Z (I o)) (by
   have:=Bu T [T1 n,T1 o] (U [I row,I x]);omega)
  refine⟨y12,?_⟩;refine(Jr  rfl ?_).trans ih;exact cb (mR (ze rfl rfl) (by rw[LG];rfl) (iT (bh (aC rfl rfl (nL (by simp_all))) (bh rfl eJ))) (iT (bh rfl (bh rfl eJ))) e)
def NC {fl:Int}(hn:ns.length<=12)(ht:P.tch.length<=500000)(hg:P.grd.length<=500000)(hf:∀(M:aq) (x8 x10 x11 x12:Option D),g2 aB (g2 aB (ae 5) (gC (I 0))) (ae 9) (aE fr s tm mn M0.length rh k x7 x8 (Z (I x)) x10 x11 x12) M=O (I fl) M)(y11 y12:Option D) :
  ∃z11 z12,cn ⟨aX 0 ns.length,Y⟩ (dL 11) d5 (aX 0 ns.length) (aE fr s tm mn M0.length rh k x7 (Z (I row)) (Z (I x)) (Z (.lst (ns.map I))) y11 y12) (ay M0 st P) =
   O (.nx (aE fr s tm mn M0.length rh k x7 (Z (I row)) (Z (I x)) (Z (.lst (ns.map I))) z11 z12)) (ay M0 st {P with tch:=b0 ns (U [I row,I x]) P.tch ns.length,grd:=if fl=0 then P.grd else fK ns (U [I row,I x]) P.grd}):=by
 obtain⟨ρ',N,⟨z11,z12,rfl,rfl⟩,ef⟩:=oo (ds0:=aX 0 ns.length) (s:=dL 11) (body:=d5)
  (W:=λj ρ N=>∃z11 z12,ρ=aE fr s tm mn M0.length rh k x7 (Z (I row)) (Z (I x)) (Z (.lst (ns.map I))) z11 z12/\N=ay M0 st {P with tch:=b0 ns (U [I row,I x]) P.tch j,grd:=if fl=0 then P.grd else fK (ns.take j) (U [I row,I x]) P.grd})
  (aX 0 ns.length) 0 (λj d hd ρ N hW=>by
   obtain⟨z11,z12,rfl,rfl⟩:=hW;obtain⟨hj,rfl⟩:=sA hd;rw[Uq,X5];have gj:ns[j]?=Z ns[j]:=getElem?_eq_getElem hj;have tl:=mW ns (U [I row,I x]) P.tch j;have b12:j*ns.length<=12*12:=Xj (by omega) hn;have gl:(fK (ns.take j) (U [I row,I x]) P.grd).length<=P.grd.length+12:=by
    unfold fK;have:=kq (κ:=bN) (λn:Int=>T1 n) (U [I row,I x]) (ns.take j) P.grd;rw[length_take] at this;omega
   obtain⟨w12,ei⟩:=Ku (M0:=M0) (st:=st) (fr:=fr) (tm:=tm) (mn:=mn) (rh:=rh) (P:={P with grd:=if fl=0 then P.grd else fK (ns.take j) (U [I row,I x]) P.grd}) (s:=s) (k:=k) (x7:=x7) (row:=row) gj (ds0:=(ns.drop (j+1)).map I) (ns.drop (j+1)) (b0 ns (U [I row,I x]) P.tch j) z12 (by rw[length_drop];omega);have et:b0 ns (U [I row,I x]) P.tch (j+1)=fZ ns[j] (ns.drop (j+1)) (U [I row,I x]) (b0 ns (U [I row,I x]) P.tch j):=by
    rw[b0,gj]
   have eg:(if fl=0 then P.grd else fK (ns.take (j+1)) (U [I row,I x]) P.grd)=if fl=0 then P.grd else sD (fK (ns.take j) (U [I row,I x]) P.grd) (T1 ns[j]) (U [I row,I x]):=by
    rw[<-take_append_getElem hj];unfold fK;rw[foldl_append];rfl
   refine⟨_,aE fr s tm mn M0.length rh k x7 (Z (I row)) (Z (I x)) (Z (.lst (ns.map I))) (Z (I j)) w12,_,rfl,?_,_,_,rfl,rfl⟩;rw[et,eg];unfold d5;have gi:bW (re (ae 10) (dn (g2 bx (ae 11) (gC (I 1)))) bD) (aE fr s tm mn M0.length rh k x7 (Z (I row)) (Z (I x)) (Z (.lst (ns.map I))) (Z (I j)) z12) (ay M0 st {P with tch:=b0 ns (U [I row,I x]) P.tch j,grd:=if fl=0 then P.grd else fK (ns.take j) (U [I row,I x]) P.grd})=O ⟨(ns.drop (j+1)).map I,Y⟩ (ay M0 st {P with tch:=b0 ns (U [I row,I x]) P.tch j,grd:=if fl=0 then P.grd else fK (ns.take j) (U [I row,I x]) P.grd}):=by
    show bi.ok (mY.mk (g9 (ns.map I) (Z ((j:Int)+1)) Y) Y) _=_;rw[yF hj]
   refine(aZ (lY gi ei)).trans ?_;have t:=dh (aC (hf (ay M0 st {P with tch:=fZ ns[j] (ns.drop (j+1)) (U [I row,I x]) (b0 ns (U [I row,I x]) P.tch j),grd:=if fl=0 then P.grd else fK (ns.take j) (U [I row,I x]) P.grd}) (Z (I row)) (Z (.lst (ns.map I))) (Z (I j)) w12) (b:=gC (I 0)) (y:=I 0) rfl (zk fl 0 _))
   by_cases z:fl=0
   ·rw[decide_eq_true z] at t;rw[if_pos z,if_pos z];rw[if_pos z] at t;exact(m6 t).trans rfl
   ·rw[decide_eq_false z] at t;rw[if_neg z,if_neg z];rw[if_neg z] at t;refine(tP t).trans ?_;obtain⟨r,e⟩:=ut (i:=M0.length+2) (kvs:=fK (ns.take j) (U [I row,I x]) P.grd) (y:=I ns[j]) (z:=U [I row,I x]) (k:=T1 ns[j]) (M:=ay M0 st {P with tch:=fZ ns[j] (ns.drop (j+1)) (U [I row,I x]) (b0 ns (U [I row,I x]) P.tch j),grd:=fK (ns.take j) (U [I row,I x]) P.grd}) KU rfl (by omega);rw[EH] at e;exact cb (mR (ze (i:=2) rfl rfl) (by rw[KU];rfl) (aC rfl rfl (nL (by rw[getElem?_map,gj];rfl))) (iT (bh rfl (bh rfl eJ))) e)) _ (ay M0 st P) ⟨y11,y12,rfl,by
    have:(if fl=0 then P.grd else fK (ns.take 0) (U [I row,I x]) P.grd)=P.grd:=by
     split <;> rfl
    rw[this];rfl⟩
 refine⟨z11,z12,?_⟩;rw[nw,Uq,take_length] at ef;exact ef
end
def E3:GS:=(aj (aQ 5 (ah 3 iq (aa (ae 0) (aa (ae 1) (aa (ae 8) ag))))) (aj (bK (gX (g2 aB (ae 4) (gC (I 0))) (ft ag))) (ki (ae 4) (gC (I 3)) (g2 bx (g2 aB (ae 4) (gC (I 3))) (a8 (bW (re (ah 2 d7 (aa (ae 1) (aa (ae 8) ag))) (dn (g2 aB (ae 0) (gC (I 3)))) bD)) bq ii aR)))))
def Fz:GS:=(aj (bK (gX (g2 aB (g2 aB (ae 4) (gC (I 0))) (sj (gC (I 1)))) (g2 aB (g2 aB (ae 1) (gC (I 4))) (ah 2 f7 (aa (ae 5) (aa (ae 9) ag)))))) (aj (aQ 10 (a8 (bW (ah 2 eE (aa (ae 5) (aa (ae 9) ag)))) bq fX aR)) (gw (dO (aa (aM cq (aa (ae 10) ag)) ag)) (dL 11) d5)))
def En:GS:=aj (aQ 8 (g2 iN (ae 7) (g2 bx (g2 aB (ae 0) (gC (I 0))) (g2 aB (ae 0) (gC (I 2)))))) (aj (aQ 9 (g2 jV (ae 7) (g2 bx (g2 aB (ae 0) (gC (I 0))) (g2 aB (ae 0) (gC (I 2)))))) (aj (dD (aJ (g2 (aW false) (ae 9) (gC (I 0)))) E3 aL) (dD (aJ (g2 uC (ae 9) (g2 aB (ae 0) (gC (I 0))))) Fz aL)))
theorem Oa:fB=aj (qF 5000 cK fU) En:=rfl
theorem R5 {α:Type}{f g:α->D}{ge:GE}{ρ:dY}{M:aq}{t:mY}(ht:t.ok M=true):∀l:List α,(∀a,a∈l->ge (Z (f a)::ρ) M=O (g a) M)->bE t bq ge (l.map f) ρ M=O (l.map g) M
 | [],_=>by
  show(if t.ok M=true then bi.ok [] M else .bad)=_;rw[if_pos ht];rfl
 | a::l,h=>by
  rw[map_cons,map_cons,bE,if_pos ht];show(match ge (Z (f a)::ρ) M with | .ok e M2=>(bE t bq ge (l.map f) ρ M2).bind λes M3=>O (e::es) M3|_=>.bad)=_;rw[h a mem_cons_self];dsimp only;rw[R5 ht l λb hb=>h b (mem_cons_of_mem _ hb),az]
def v9 {α:Type}{f g:α->D}{gi:GI}{ge:GE}{ρ:dY}{M:aq}{m:Option (Nat×List D)}{l:List α}(hi:gi ρ M=O ⟨l.map f,m⟩ M)(h:∀a,a∈l->ge (Z (f a)::ρ) M=O (g a) M)(hl:l.length<=100000)(ht:mY.ok ⟨l.map f,m⟩ M=true:=by rfl):a8 gi bq ge aR ρ M=O (.lst (l.map g)) M:=by
 unfold a8;rw[hi,az,R5 ht l h,az];unfold aR;rw[if_pos (bX (by grind))]
def Ru {a b:List D}{M:aq}(h:a.length+b.length<=1000000):bx (.lst a) (.lst b) M=O (.lst (a++b)) M:=by
 show(if a.length+b.length<=sizeLine then bi.ok (D.lst (a++b)) M else .bad)=_;rw[if_pos (bX h)]
def zV {k i:Nat}{xs:List D}{x:D}{M:aq}(h:M[k]?=Z (.lst xs))(hi:i<xs.length):u4 (R k) (I i) x M=O () (M.set k (.lst (xs.set i x))):=by
 have ix:Bp xs.length (i)=Z i:=by
  unfold Bp
  simp_all
 unfold u4
 simp_all
def FV {k i:Nat}{g:GE}{xs:List D}{x:D}{ρ:dY}{M:aq}(h:M[k]?=Z (.lst xs))(hi:i<xs.length)(hv:ρ[4]?=Z (Z (R k)))(hg:g ρ M=O x M):ki (ae 4) (gC (I i)) g ρ M=O (.nx ρ) (M.set k (.lst (xs.set i x))):=by
 refine xC hg ?_;rw[show ae 4 ρ M=O (R k) M by unfold ae;rw[hv]];show(u4 (R k) (I i) x M).bind _=_;rw[zV h hi,az]
section
variable {M0:aq}{st tm mn rh:D}{P:Pc}{s:bV}{k:Nat}{x7:Option D}{w h g m mm row x:Int}
def Nk (ok:a9 mm s)(hm:mm<=12)(f:ig w h g m)(h0:bI M0)(ps:aG 30 st=true)(pp:P.Pure)(hl:P.lost.length<=90000)(hr:P.rows.length<100000)(x9 x10 x11 x12:Option D) :
  E3 (aE (bP w h g m) s tm mn M0.length rh k x7 (Z (I row)) x9 x10 x11 x12) (ay M0 st P)=O (.nx (aE (bP w h g m) s tm mn M0.length (bv s w m row) k x7 (Z (I row)) x9 x10 x11 x12)) (ay M0 st (u6 s m row P)):=by
 have fw:=f.w;unfold E3;rw[aZ (cY (BC rfl rfl rfl (yU (hh:=h) (g:=g) ok (by omega) ⟨fw.1,by omega⟩ (f9 h0 ps pp))))];show aj _ _ (aE (bP w h g m) s tm mn M0.length (bv s w m row) k x7 (Z (I row)) x9 x10 x11 x12) (ay M0 st P)=_;have a:=qI (go:=g2 aB (ae 4) (gC (I 0))) (ge:=ft ag) (ρ:=aE (bP w h g m) s tm mn M0.length (bv s w m row) k x7 (Z (I row)) x9 x10 x11 x12) (M:=ay M0 st P) (ze (i:=0) rfl rfl) Hl mQ (by rw[getElem?_append_left (by rw[ux];omega)];exact Hl) (by unfold ni;rw[length_map,length_range];omega);rw[Ga] at a;rw[aZ (cb a)];have pp1:Pc.Pure {P with rows:=P.rows++[[]]}:=⟨pp.tch,pp.grd,pp.lost⟩;have ly:=zt (row:=row) ok (by omega) (f9 h0 ps pp1);have gi:bW (re (ah 2 d7 (aa (ae 1) (aa (ae 8) ag))) (dn (g2 aB (ae 0) (gC (I 3)))) bD) (aE (bP w h g m) s tm mn M0.length (bv s w m row) k x7 (Z (I row)) x9 x10 x11 x12) (ay M0 st {P with rows:=P.rows++[[]]})=O ⟨(jG (bz s row) (Z m) Y).map I,Y⟩ (ay M0 st {P with rows:=P.rows++[[]]}):=by
  unfold bW re;rw[m9 rfl rfl ly,az];show bi.ok (mY.mk (g9 ((bz s row).map I) (Z m) Y) Y) _=_;rw[o4]
 have ll:=TL (pJ (bz s row) (Z m) Y) (wz ok hm);have c:=v9 (g:=λn=>D.tup [I row,I n]) (ge:=ii) (m:=Y) gi (λn _=>by
  rfl) (by omega)
 have ad:=
  aC (ze (i:=3) rfl rfl) c (Ru (by rw[length_map];show P.lost.length+_<=_;omega))
 refine(FV (i:=3) Au (show 3<5 by decide) rfl ad).trans ?_;show bi.ok _ ((ay M0 st {P with rows:=P.rows++[[]]}).set (M0.length+3) (.lst [R M0.length,R (M0.length+1),R (M0.length+2),.lst (P.lost++hZ row (jG (bz s row) (Z m) Y)),st]))=_;rw[sX];rfl
def DU {rs:List (List Int)}{last:List Int}(ok:a9 mm s)(ok0:a9 mm P.s0)(hm:mm<=12)(f:ig w h g m)(h0:bI M0)(ps:aG 30 st=true)(pp:P.Pure)(hrh:rh=bv P.s0 w m row)(hx:0<=x/\x<w)(hr:P.rows=rs++[last])(hl:last.length<100000)(ht:P.tch.length<=500000)(hg:P.grd.length<=500000)(x10 x11 x12:Option D) :
  ∃y10 y11 y12,Fz (aE (bP w h g m) s tm mn M0.length rh k x7 (Z (I row)) (Z (I x)) x10 x11 x12) (ay M0 st P)=O (.nx (aE (bP w h g m) s tm mn M0.length rh k x7 (Z (I row)) (Z (I x)) y10 y11 y12)) (ay M0 st (layP s w m row x P)):=by
 have sl:=wN (m:=m) (row:=row) ok0 hm;have fl0:(rY P.s0 w row).length=w.toNat:=by unfold rY;rw[length_map,length_range]
 obtain⟨xn,rfl⟩:=Ts hx.1;have hxl:xn<(rY P.s0 w row).length:=by omega
 have hf:wx ((rY P.s0 w row).map I) (xn:Int)=Z (I ((rY P.s0 w row).getD xn 0)):=ce (by
  rw[getElem?_map,getElem?_eq_getElem hxl,Vx,getElem?_eq_getElem hxl];rfl)
 have erh:rh=U [U ((rY P.s0 w row).map I),U ((bG P.s0 m row).map Sn.d)]:=by rw[hrh,pL]
 obtain⟨ink,sh,el⟩:=C1 (x:=(xn:Int)) (fs:=(rY P.s0 w row).map I) (ss:=bG P.s0 m row) (by omega) (f9 h0 ps pp) hf;rw[<-erh] at el;have rng:=sh.rng (Bn ok0 _ (by rw[Vx,getElem?_eq_getElem hxl];exact getElem_mem hxl)) (λq hq=>FN ok0 q (mem_filter.mp hq).1);obtain⟨kn,rfl⟩:=Ts rng.1;have hk:kn<s.pots.length:=by rw[ok.pl];omega
 have eh:hueAt s P.s0 w m row xn=s.pots[kn]:=Ee sh (getElem?_eq_getElem hk);have er:P.rows.length=rs.length+1:=by rw[hr,length_append];rfl
 have go:g2 aB (g2 aB (ae 4) (gC (I 0))) (sj (gC (I 1))) (aE (bP w h g m) s tm mn M0.length rh k x7 (Z (I row)) (Z (I xn)) x10 x11 x12) (ay M0 st P)=O (R (M0.length+4+rs.length)) (ay M0 st P):=
  aC (ze (i:=0) rfl rfl) rfl (fO (x:=.non) Hl (by
   rw[er];unfold ni;rw[range_succ,map_append];exact B5 _ _))
 have gr:P.rows[rs.length]?=Z last:=by rw[hr,getElem?_append_right (Te _),U6];rfl
 have vl:g2 aB (g2 aB (ae 1) (gC (I 4))) (ah 2 f7 (aa (ae 5) (aa (ae 9) ag))) (aE (bP w h g m) s tm mn M0.length rh k x7 (Z (I row)) (Z (I xn)) x10 x11 x12) (ay M0 st P)=O (I s.pots[kn]) (ay M0 st P):=
  aC (aC rfl rfl (cr (k:=4) rfl)) (m9 rfl rfl el) (cr (by rw[getElem?_map,getElem?_eq_getElem hk];rfl))
 have a:=qI go (Aj gr) vl (Aj gr) (by rw[length_map];omega);have ea:(ay M0 st P).set (M0.length+4+rs.length) (.lst (last.map I++[I s.pots[kn]]))=ay M0 st {P with rows:=rs++[last++[s.pots[kn]]]}:=by
  have e1:last.map I++[I s.pots[kn]]=(last++[s.pots[kn]]).map I:=by rw[map_append];rfl
  rw[e1];refine(GU (r:=last++[s.pots[kn]])).trans ?_;rw[hr,set_append_right _ _ (Te _),U6];rfl
 unfold Fz;rw[aZ (cb a),ea];have pp1:Pc.Pure {P with rows:=rs++[last++[s.pots[kn]]]}:=⟨pp.tch,pp.grd,pp.lost⟩;have cv:=tZ (fl:=U ((rY P.s0 w row).map I)) (ss:=bG P.s0 m row) (x:=(xn:Int)) (by omega) (f9 h0 ps pp1);rw[<-erh] at cv;have cl:=mS (xn:Int) (bG P.s0 m row);have gi:bW (ah 2 eE (aa (ae 5) (aa (ae 9) ag))) (aE (bP w h g m) s tm mn M0.length rh k x7 (Z (I row)) (Z (I xn)) x10 x11 x12) (ay M0 st {P with rows:=rs++[last++[s.pots[kn]]]})=O ⟨(eP xn (bG P.s0 m row)).map (nk xn),Y⟩ (ay M0 st {P with rows:=rs++[last++[s.pots[kn]]]}):=by
  unfold bW;rw[m9 rfl rfl cv,az];rfl
 have c:=v9 (g:=λb=>I b.n) (ge:=fX) (m:=Y) gi (λb _=>by
  unfold fX;refine aC (x:=I 0) rfl (aC (x:=nk xn b) rfl rfl (cr (k:=1) rfl)) ?_;show bi.ok (I (0-(0-b.n))) _=_;rw[show 0-(0-b.n)=b.n by omega]) (by omega)
 rw[aZ (cY c)];generalize hns:(eP (xn:Int) (bG P.s0 m row)).map Sn.n=ns;have en:(eP (xn:Int) (bG P.s0 m row)).map (λb=>I b.n)=ns.map I:=by rw[<-hns,map_map];rfl
 have nl:ns.length<=12:=by rw[<-hns,length_map];omega
 rw[en];show∃y10 y11 y12,gw _ _ _ (aE (bP w h g m) s tm mn M0.length rh k x7 (Z (I row)) (Z (I xn)) (Z (.lst (ns.map I))) x11 x12) _=_;obtain⟨z11,z12,e⟩:=NC (M0:=M0) (st:=st) (fr:=bP w h g m) (tm:=tm) (mn:=mn) (rh:=rh) (P:={P with rows:=rs++[last++[s.pots[kn]]]}) (s:=s) (k:=k) (x7:=x7) (row:=row) (x:=(xn:Int)) (fl:=(rY P.s0 w row).getD xn 0) nl ht hg (λM x8 x10 x11 x12=>by
  refine aC (x:=U ((rY P.s0 w row).map I)) (aC (x:=rh) rfl rfl (by rw[erh];exact cr (k:=0) rfl)) rfl ?_;unfold aB a7;dsimp only;rw[hf]) x11 x12
 refine⟨Z (.lst (ns.map I)),z11,z12,(lY (wB (n:=ns.length) (bh (xt (F:=cq) rfl (by
  show bi.ok (I ((ns.map I).length:Int)) _=_;rw[length_map])) eJ) (by omega)) e).trans ?_⟩
 congr 1;unfold layP;rw[eh,hns,hr,dropLast_concat,getLastD_concat];rfl
end
def DR {ga:GA}{ρ:dY}{M M1:aq}{ds:List D}(h:ga ρ M=O ds M1)(hl:ds.length<=100000:=by exact VO rfl):ft ga ρ M=O (R M1.length) (M1++[.lst ds]):=by
 unfold ft;rw[h,az];unfold dQ;rw[if_pos (bX (by omega))]
def C5 {w g m T t:Int}{p:Int×Dd}{td:List (Int×Dd)}{s:bV}(h:p.1=t)(P:Pc):planP w g m T (p::td) s t P=planP w g m T td (a6 s p.2) t P:=by
 rw[planP,h,X7];rfl
def Cr {w g m T t:Int}{td:List (Int×Dd)}{s:bV}(h:∀p,p∈td->t<p.1)(hT:t<T)(P:Pc):planP w g m T td s t P=planP w g m T td s (t+1) (tickP w g m s t P):=by
 cases td with
 | nil=>
  rw[planP,show(T-t).toNat=(T-(t+1)).toNat+1 by omega];rfl
 | cons p td=>
  have:=h p mem_cons_self;rw[planP,show(p.1-t).toNat=(p.1-(t+1)).toNat+1 by omega];rfl
def CC {d:D}{xs:List D}{M:aq}(h:a7 d M=Z xs):cq [d] M=O (I xs.length) M:=by
 cases d with
 | str x=>cases h
 | _=>
  unfold cq
  simp_all
def EV {d e:D}{xs:List D}{k:Nat}{M:aq}(h:a7 d M=Z xs)(hk:xs[k]?=Z e):aB d (I k) M=O e M:=by
 unfold aB;rw[h];dsimp only;rw[ce hk]
section
variable {w h g m mm t T:Int}{td:List (Int×Dd)}{M:aq}{fr tm mn rh:D}{n0:Nat}{x8 x9 x10 x11 x12:Option D}
theorem B8 (hm:mm<=12)(hM:bI M)(htm:a7 tm M=Z (tq td))(ord:(td.map (·.1)).Pairwise (·<=·)):∀(n fuel k:Nat) (s:bV),td.length-k=n->n<fuel->a9 mm s->(∀p,p∈td->kN s p.2)->(∀p,p∈td.drop k->t<=p.1)->
  ∃(k':Nat) (s':bV),dZ cK fU fuel (aE fr s tm mn n0 rh k (Z (I t)) x8 x9 x10 x11 x12) M=O (.nx (aE fr s' tm mn n0 rh k' (Z (I t)) x8 x9 x10 x11 x12)) M/\a9 mm s'/\(∀p,p∈td->kN s' p.2)/\(∀p,p∈td.drop k'->t<p.1)/\(∀p,p∈td.take k'->p∈td.take k\/p.1=t)/\(∀P,planP w g m T (td.drop k) s t P=planP w g m T (td.drop k') s' t P)/\fu (td.drop k) s=fu (td.drop k') s'/\∀B P,mf w g m mm s t B->xS w g m mm t P B->∃B',mf w g m mm s' t B'/\xS w g m mm t P B'
 | n,0,k,s,_,hf,_,_,_=>by omega
 | n,fuel+1,k,s,hn,hf,ok,dd,hr=>by
  have ln:aM cq (aa (ae 2) ag) (aE fr s tm mn n0 rh k (Z (I t)) x8 x9 x10 x11 x12) M=O (I td.length) M:=by
   refine xt rfl ((CC htm).trans ?_);unfold tq;rw[length_map]
  by_cases hk:k<td.length
  ·have gk:td[k]?=Z td[k]:=getElem?_eq_getElem hk;have gd:(tq td)[k]?=Z (U [I td[k].1,td[k].2.d]):=by unfold tq;rw[getElem?_map,gk];rfl
   have ed:td.drop k=td[k]::td.drop (k+1):=drop_eq_getElem_cons hk;have i1:g2 aB (ae 2) (ae 6) (aE fr s tm mn n0 rh k (Z (I t)) x8 x9 x10 x11 x12) M=O (U [I td[k].1,td[k].2.d]) M:=aC rfl rfl (EV htm gd);have t1:cK (aE fr s tm mn n0 rh k (Z (I t)) x8 x9 x10 x11 x12) M=O (decide (td[k].1=t)) M:=by
    unfold cK;refine(xh (x:=true) (dh (aC rfl ln ?_)) λ_=>dh (aC (aC i1 rfl (cr rfl)) rfl (sP td[k].1 t M))).trans ?_
    ·show bi.ok (D.bl (decide ((k:Int)<(td.length:Int)))) M=_;rw[decide_eq_true (by omega)]
    ·rw[aaz]
   by_cases e:td[k].1=t
   ·rw[decide_eq_true e] at t1;have dk:=dd td[k] (getElem_mem hk);obtain⟨k',s',e',ok',dd',hr',tk',pl',en',inv'⟩:=B8 hm hM htm ord (n-1) fuel (k+1) (a6 s td[k].2) (by omega) (by omega) (kY ok dk) (λp hp=>qE (dd p hp)) (λp hp=>hr p (by rw[ed];exact mem_cons_of_mem _ hp));refine⟨k',s',(yW t1 ?_).trans e',ok',dd',hr',λp hp=>?_,λP=>by rw[ed,C5 e,pl'],by rw[ed];exact en',λB P iv pn=>inv' _ _ (xO iv) (zm pn)⟩
    ·unfold fU;rw[aZ (cY (m9 rfl (aC i1 rfl (cr rfl)) (sU ok (by omega) dk hM)))];exact cY rfl
    ·rcases tk' p hp with q|q
     ·rw[List.take_succ_eq_append_getElem hk,mem_append,mem_singleton] at q;rcases q with q|q
      ·exact .inl q
      ·exact .inr (q▸e)
     ·exact .inr q
   ·rw[decide_eq_false e] at t1;refine⟨k,s,nS t1,ok,dd,λp hp=>?_,λp hp=>.inl hp,λ_=>rfl,rfl,λB P iv pn=>⟨B,iv,pn⟩⟩;have h1:=hr td[k] (by rw[ed];exact mem_cons_self);rw[ed] at hp;rcases mem_cons.mp hp with q|q
    ·rw[q];omega
    ·have so:(td.drop k).map (·.1)=(td.map (·.1)).drop k:=map_drop ..;have pw:((td.drop k).map (·.1)).Pairwise (·<=·):=by rw[so];exact ord.sublist (drop_sublist _ _)
     rw[ed,map_cons,pairwise_cons] at pw;have:=pw.1 p.1 (mem_map.mpr ⟨p,q,rfl⟩);omega
  ·have t1:cK (aE fr s tm mn n0 rh k (Z (I t)) x8 x9 x10 x11 x12) M=O false M:=by
    unfold cK;refine HX (dh (aC rfl ln ?_));show bi.ok (D.bl (decide ((k:Int)<(td.length:Int)))) M=_;rw[decide_eq_false (by omega)]
   refine⟨k,s,nS t1,ok,dd,λp hp=>?_,λp hp=>.inl hp,λ_=>rfl,rfl,λB P iv pn=>⟨B,iv,pn⟩⟩;rw[drop_eq_nil_of_le (by omega)] at hp;cases hp
end
section
variable {M0:aq}{st tm mn rh:D}{P:Pc}{s:bV}{k:Nat}{w h g m mm t:Int}{B:Bs}
def wA (iv:mf w g m mm s t B)(pn:xS w g m mm t P B)(hl:∀p,p∈P.lost->aG 28 p=true):P.Pure:=⟨by rw[<-pn.tch];exact iv.p.tch,by rw[<-pn.grd];exact iv.p.grd,hl⟩
def Ia (row:Int)(ns:List Int):∀p,p∈hZ row ns->aG 28 p=true:=λp hp=>by
 obtain⟨n,_,rfl⟩:=mem_map.mp hp;rfl
def La (ok:a9 mm s)(hm:mm<=12)(f:ig w h g m)(h0:bI M0)(ps:aG 30 st=true)(t0:0<=t)(t1:t<h*(w+g))(iv:mf w g m mm s t B)(pn:xS w g m mm t P B)(hl:∀p,p∈P.lost->aG 28 p=true)(hrh:0<t % (w+g)->t % (w+g)<w->rh=bv P.s0 w m (t / (w+g)))(x8 x9 x10 x11 x12:Option D) :
  ∃rh' y8 y9 y10 y11 y12,En (aE (bP w h g m) s tm mn M0.length rh k (Z (I t)) x8 x9 x10 x11 x12) (ay M0 st P)=O (.nx (aE (bP w h g m) s tm mn M0.length rh' k (Z (I t)) y8 y9 y10 y11 y12)) (ay M0 st (tickP w g m s t P))/\(∀p,p∈(tickP w g m s t P).lost->aG 28 p=true)/\(0<(t+1) % (w+g)->(t+1) % (w+g)<w->rh'=bv (tickP w g m s t P).s0 w m ((t+1) / (w+g))):=by
 have fw:=f.w;have fg:=f.g;have fh:=f.h;have hp:0<w+g:=by omega
 have tt:t<=2400:=by
  have:h*(w+g)<=40*60:=Wx (by omega) (by omega) (by omega) (by omega);omega
 have b1:=iv.tch;have b2:=iv.grd;have b3:=iv.lost;have b4:=iv.rl;have b5:=iv.rr;rw[pn.tch] at b1;rw[pn.grd] at b2;rw[pn.lost] at b3;rw[pn.rows] at b4 b5;have pp:=wA iv pn hl;have x0:=UO t (X6 hp);have sum:∀(x8 x9:Option D) (M:aq),g2 bx (g2 aB (ae 0) (gC (I 0))) (g2 aB (ae 0) (gC (I 2))) (aE (bP w h g m) s tm mn M0.length rh k (Z (I t)) x8 x9 x10 x11 x12) M=O (I (w+g)) M:=λ_ _ M=>aC (aC rfl rfl (cr (k:=0) rfl)) (aC rfl rfl (cr (k:=2) rfl)) rfl
 unfold En;rw[aZ (cY (aC rfl (sum _ _ _) (Js hp (by omega) _)))];show∃rh' y8 y9 y10 y11 y12,aj _ _ (aE (bP w h g m) s tm mn M0.length rh k (Z (I t)) (Z (I (t / (w+g)))) x9 x10 x11 x12) _=_/\_;rw[aZ (cY (aC rfl (sum _ _ _) (IT hp _)))];show∃rh' y8 y9 y10 y11 y12,aj _ _ (aE (bP w h g m) s tm mn M0.length rh k (Z (I t)) (Z (I (t / (w+g)))) (Z (I (t % (w+g)))) x10 x11 x12) _=_/\_;have tz:∀(rh:D) (M:aq),aJ (g2 (aW false) (ae 9) (gC (I 0))) (aE (bP w h g m) s tm mn M0.length rh k (Z (I t)) (Z (I (t / (w+g)))) (Z (I (t % (w+g)))) x10 x11 x12) M=O (decide (t % (w+g)=0)) M:=λrh M=>dh (aC rfl rfl (sP _ 0 M))
 have tw:∀(rh:D) (M:aq),aJ (g2 uC (ae 9) (g2 aB (ae 0) (gC (I 0)))) (aE (bP w h g m) s tm mn M0.length rh k (Z (I t)) (Z (I (t / (w+g)))) (Z (I (t % (w+g)))) x10 x11 x12) M=O (decide (t % (w+g)<w)) M:=λrh M=>dh (aC rfl (aC rfl rfl (cr (k:=0) rfl)) rfl)
 have nx:(t+1) % (w+g)≠0->(t+1) / (w+g)=t / (w+g)/\(t+1) % (w+g)=t % (w+g)+1:=λq=>(lP (t:=t) hp).resolve_right q
 by_cases hz:t % (w+g)<w
 ·by_cases hx:t % (w+g)=0
  ·have tk:=Nk (M0:=M0) (st:=st) (tm:=tm) (mn:=mn) (rh:=rh) (P:=P) (s:=s) (k:=k) (x7:=Z (I t)) (row:=t / (w+g)) ok hm f h0 ps pp (by omega) (by omega) (Z (I (t % (w+g)))) x10 x11 x12;have pp1:Pc.Pure (u6 s m (t / (w+g)) P):=⟨pp.tch,pp.grd,λp hp'=>(mem_append.mp hp').elim (hl p) (Ia _ _ p)⟩;obtain⟨y10,y11,y12,sp⟩:=DU (M0:=M0) (st:=st) (tm:=tm) (mn:=mn) (rh:=bv s w m (t / (w+g))) (P:=u6 s m (t / (w+g)) P) (s:=s) (k:=k) (x7:=Z (I t)) (row:=t / (w+g)) (rs:=P.rows) (last:=[]) ok ok hm f h0 ps pp1 rfl ⟨x0,hz⟩ rfl (by decide) (show P.tch.length<=_ by omega) (show P.grd.length<=_ by omega) x10 x11 x12;refine⟨bv s w m (t / (w+g)),Z (I (t / (w+g))),Z (I (t % (w+g))),y10,y11,y12,?_,?_,?_⟩
   ·rw[aZ ((tP ((tz rh _).trans (by rw[decide_eq_true hx]))).trans tk)];refine(tP ((tw _ _).trans (by rw[decide_eq_true hz]))).trans (sp.trans ?_);unfold tickP;rw[if_pos hz,if_pos hx]
   ·unfold tickP;rw[if_pos hz,if_pos hx];exact pp1.lost
   ·intro q _;obtain⟨n1,_⟩:=nx (by omega);unfold tickP;rw[if_pos hz,if_pos hx,n1];rfl
  ·obtain⟨ok0,jk,jn⟩:=pn.row (by omega) hz;obtain⟨rs,last,jr⟩:∃rs last,P.rows=rs++[last]:=⟨P.rows.dropLast,P.rows.getLast jn,(dropLast_concat_getLast jn).symm⟩;have ll:=b5 last (by rw[jr];simp);obtain⟨y10,y11,y12,sp⟩:=DU (M0:=M0) (st:=st) (tm:=tm) (mn:=mn) (rh:=rh) (P:=P) (s:=s) (k:=k) (x7:=Z (I t)) (row:=t / (w+g)) ok ok0 hm f h0 ps pp (hrh (by omega) hz) ⟨x0,hz⟩ jr (by omega) (by omega) (by omega) x10 x11 x12;refine⟨rh,Z (I (t / (w+g))),Z (I (t % (w+g))),y10,y11,y12,?_,?_,?_⟩
   ·rw[aZ ((m6 ((tz rh _).trans (by rw[decide_eq_false hx]))).trans rfl)];refine(tP ((tw _ _).trans (by rw[decide_eq_true hz]))).trans (sp.trans ?_);unfold tickP;rw[if_pos hz,if_neg hx]
   ·unfold tickP;rw[if_pos hz,if_neg hx];exact hl
   ·intro q _;obtain⟨n1,_⟩:=nx (by omega);unfold tickP;rw[if_pos hz,if_neg hx,n1];exact hrh (by omega) hz
 ·refine⟨rh,Z (I (t / (w+g))),Z (I (t % (w+g))),x10,x11,x12,?_,?_,?_⟩
  ·rw[aZ ((m6 ((tz rh _).trans (by rw[decide_eq_false (by omega)]))).trans rfl)];refine(m6 ((tw _ _).trans (by rw[decide_eq_false hz]))).trans ?_;unfold tickP;rw[if_neg hz];rfl
  ·unfold tickP;rw[if_neg hz];exact hl
  ·intro q q2;obtain⟨_,n2⟩:=nx (by omega);omega
end
def Hs (s:bV):Pc:=⟨s,[],[],[],[]⟩
def Pn {w h g m t:Int}(f:ig w h g m)(h1:t<h*(w+g)):t<=3000:=by
 have fw:=f.w;have fg:=f.g;have fh:=f.h;have hb:h*(w+g)<=40*60:=Wx (by omega) (by omega) (by omega) (by simp);omega
structure RH (T:Int)(s:bV)(td:List (Int×Dd)):Prop where
 rng:∀p∈td,0<=p.1/\p.1<=T
 ord:(td.map (·.1)).Pairwise (·<=·)
 dd:∀p∈td,kN s p.2
 len:td.length<=3000
inductive LW (w h g m mm T:Int) (s:bV) (td:List (Int×Dd)) (M0:aq) (tm:D) (Gp:Pc) (j:Nat):dY->aq->Prop
 | mk {k:Nat} {s':bV} {P:Pc} {rh:D} {x7 x8 x9 x10 x11 x12:Option D} {B:Bs} (ok:a9 mm s') (dd:∀q,q∈td->kN s' q.2) (hr:∀q,q∈td.drop k->(j:Int)<=q.1) (pl:planP w g m T (td.drop k) s' j P=Gp) (en:fu (td.drop k) s'=fu td s) (lt:∀q,q∈td.take k->q.1<(j:Int)) (iv:mf w g m mm s' j B) (pn:xS w g m mm j P B) (hl:∀q,q∈P.lost->aG 28 q=true) (hrh:0<(j:Int) % (w+g)->(j:Int) % (w+g)<w->rh=bv P.s0 w m ((j:Int) / (w+g))) :
  LW w h g m mm T s td M0 tm Gp j (aE (bP w h g m) s' tm (I T) M0.length rh k x7 x8 x9 x10 x11 x12) (ay M0 s.d P)
def Dz {w h g m mm T:Int}{s:bV}{td:List (Int×Dd)}{M0:aq}{tm:D}{Gp:Pc}{j:Nat}{ρ:dY}{M:aq}(hm:mm<=12)(f:ig w h g m)(p:RH T s td)(hM:bI M0)(htm:∀E,a7 tm (M0++E)=Z (tq td))(jT:(j:Int)<T)(hT:T<=h*(w+g))(hW:LW w h g m mm T s td M0 tm Gp j ρ M) :
  ∃ρ1 ρ2 M2,dL 7 (I (0+j)) ρ=Z ρ1/\fB ρ1 M=O (.nx ρ2) M2/\LW w h g m mm T s td M0 tm Gp (j+1) ρ2 M2:=by
 cases hW with
 | @mk k s1 P rh x7 x8 x9 x10 x11 x12 B ok1 dd1 hr1 pl1 en1 lt1 iv pn hl hrh=>
 obtain⟨k',s2,e2,ok2,dd2,hr2,tk2,pl2,en2,inv2⟩:=B8 (w:=w) (g:=g) (m:=m)     (rh:=rh) (n0:=M0.length) (x8:=x8) (x9:=x9) (x10:=x10) (x11:=x11) (x12:=x12) hm (f9 (M0:=M0) (st:=s.d) hM (dP s) (wA iv pn hl)) (htm _) p.ord (td.length-k) 5000 k s1 rfl (UW (Nat.sub_le ..) (UW p.len (by decide))) ok1 dd1 hr1;obtain⟨B2,iv2,pn2⟩:=inv2 B P iv pn;obtain⟨rh',y8,y9,y10,y11,y12,e3,hl3,hrh3⟩:=La (M0:=M0) (st:=s.d) (tm:=tm)  (k:=k') ok2 hm f hM (dP s) (Xk j) (by omega) iv2 pn2 hl hrh x8 x9 x10 x11 x12;obtain⟨B3,iv3,pn3,_⟩:=yA ok2 hm f (Xk j) (by omega) (Pn f (t:=j) (by omega)) iv2 pn2;refine⟨aE (bP w h g m) s1 tm (I T) M0.length rh k (Z (I j)) x8 x9 x10 x11 x12,aE (bP w h g m) s2 tm (I T) M0.length rh' k' (Z (I j)) y8 y9 y10 y11 y12,ay M0 s.d (tickP w g m s2 j P),by rw[X5];rfl,?_,.mk ok2 dd2 (λq hq=>hr2 q hq) ?_ (en2.symm.trans en1) (λq hq=>(tk2 q hq).elim (λz=>by have:=lt1 q z;omega) λz=>by omega) iv3 pn3 hl3 hrh3⟩
 ·rw[Oa];exact(aZ e2).trans e3
 ·rw[<-pl1,pl2];exact(Cr hr2 jT P).symm
def zU {w h g m mm T:Int}{s:bV}{td:List (Int×Dd)}{M0:aq}{tm:D}(hm:mm<=12)(f:ig w h g m)(ok:a9 mm s)(hT:T<=h*(w+g))(h0:0<=T)(p:RH T s td)(hM:bI M0)(htm:∀E,a7 tm (M0++E)=Z (tq td)) :
  ∃k s',mD [bP w h g m,s.d,tm,I T] M0=O (R (M0.length+3)) (ay M0 s'.d (planP w g m T td s 0 (Hs s)))/\Pc.Pure (planP w g m T td s 0 (Hs s))/\a9 mm s'/\fu (td.drop k) s'=fu td s/\(∀q,q∈td.take k->q.1<T)/\(∀q,q∈td.drop k->q.1=T)/\∀q,q∈td->kN s' q.2:=by
 have hb:T<=3000:=by
  have fw:=f.w;have fg:=f.g;have fh:=f.h;have hb:h*(w+g)<=40*60:=Wx (by omega) (by omega) (by omega) (by omega);omega
 generalize hG:planP w g m T td s 0 (Hs s)=Gp;obtain⟨N,hN⟩:=Ts h0;obtain⟨ρ',M',hW,ef⟩:=oo (ds0:=aX 0 N) (s:=dL 7) (body:=fB) (W:=LW w h g m mm T s td M0 tm Gp)
  (aX 0 N) 0 (λj d hd ρ M hW=>by
   obtain⟨hj,rfl⟩:=sA hd;rw[Uq] at *;exact Dz hm f p hM htm (by omega) hT hW) (aE (bP w h g m) s tm (I T) M0.length .non 0 Y Y Y Y Y Y) (ay M0 s.d (Hs s)) (.mk ok p.dd (λq hq=>(p.rng q (mem_of_mem_drop hq)).1) hG rfl (λq hq=>by rw[List.take_zero] at hq;cases hq) (Ob (dP s)) ⟨rfl,rfl,rfl,rfl,λq=>absurd q (by simp)⟩ (λq hq=>(by cases hq)) λq=>absurd q (by simp))
 rw[nw,Uq] at hW;cases hW with
 | @mk k s' P rh x7 x8 x9 x10 x11 x12 B' ok' dd' hr' pl' en' lt' iv' pn' hl' _=>
 have dT:∀q,q∈td.drop k->q.1=T:=λq hq=>by
  have a:=hr' q hq;have b:=(p.rng q (mem_of_mem_drop hq)).2;omega
 rw[hN] at dT;rw[hN,zA _ _ _ dT] at pl';rw[<-hN] at dT;subst pl';have lp:=wA iv' pn' hl';refine⟨k,s',?_,lp,ok',en',λq hq=>by have:=lt' q hq;omega,dT,dd'⟩;rw[hN];show ck (jd [Z (bP w h g m),Z s.d,Z tm,Z (I N),Y,Y,Y,Y,Y,Y,Y,Y,Y] M0)=_;unfold jd;have mk:ft (aa (ft ag) (aa vT (aa vL (aa (kH ag) (aa (ae 1) ag))))) [Z (bP w h g m),Z s.d,Z tm,Z (I N),Y,Y,Y,Y,Y,Y,Y,Y,Y] M0=O (R (M0.length+3)) (ay M0 s.d (Hs s)):=by
  have i0:=xp (M0:=M0) (L:=[]) (ρ:=[Z (bP w h g m),Z s.d,Z tm,Z (I N),Y,Y,Y,Y,Y,Y,Y,Y,Y]);have i1:=J5 (M0:=M0) (L:=[.lst []]) (ρ:=[Z (bP w h g m),Z s.d,Z tm,Z (I N),Y,Y,Y,Y,Y,Y,Y,Y,Y]);have i2:=J6 (M0:=M0) (L:=[.lst [],.dT []]) (ρ:=[Z (bP w h g m),Z s.d,Z tm,Z (I N),Y,Y,Y,Y,Y,Y,Y,Y,Y]);rw[append_nil] at i0;have a:=bh i0 (bh i1 (bh i2 (bh (FC eJ) (bh (g:=ae 1) rfl eJ))));refine(DR a).trans ?_;rw[append_assoc,length_append];rfl
 rw[aZ (cY mk),aZ (cY rfl),aZ (cY rfl)];rw[hN] at ef;refine(congrArg ck ((aZ (lY (wB (n:=N) (bh (g:=ae 3) rfl eJ) (by omega)) ef)).trans ((aZ (FV (i:=4) Au (show 4<5 by decide) rfl (g:=ae 1) rfl)).trans (iS (g:=ae 4) rfl)))).trans ?_;show bi.ok (D.mr (M0.length+3)) ((ay M0 s.d P).set (M0.length+3) (.lst [R M0.length,R (M0.length+1),R (M0.length+2),.lst P.lost,s'.d]))=_;rw[sX]
def kT (p:List Int×List Int):List bN×D:=(p.1.map T1,bJ p.2)
def kG (p:Int×List Int):bN×D:=(T1 p.1,bJ p.2)
def uD (mm:Nat)(a:Int):Prop:=0<=a/\a<mm
structure bT (mm:Nat)(P:Pc):Prop where
 tch:∀p,p∈P.tch->∃a b r x:Int,p=kT ([a,b],[r,x])/\uD mm a/\uD mm b
 tn:(P.tch.map (·.1)).Nodup
 grd:∀p,p∈P.grd->∃a r x:Int,p=kG (a,[r,x])/\uD mm a
 gn:(P.grd.map (·.1)).Nodup
 s0:P.s0.movers.length<=mm
 lo:∀p,p∈P.lost->∃a b:Int,p=U [I a,I b]
def Bx {κ:Type}[DecidableEq κ]{R:κ×D->Prop}{acc:List (κ×D)}{k:κ}{z:D}(h:∀p,p∈acc->R p)(hk:R (k,z)):∀p,p∈sD acc k z->R p:=by
 unfold sD;split
 ·omega
 ·intro p hp;rcases mem_append.mp hp with q|q
  ·exact h p q
  ·rwa [mem_singleton.mp q]
def Ey {κ:Type}[DecidableEq κ]{acc:List (κ×D)}{k:κ}{z:D}(h:(acc.map (·.1)).Nodup):((sD acc k z).map (·.1)).Nodup:=by
 unfold sD;split
 ·omega
 ·rename_i q;rw[map_append,nodup_append];refine⟨h,by simp,λa ha b hb=>?_⟩;obtain⟨p,hp,rfl⟩:=mem_map.mp ha;rw[mem_singleton.mp (hb)];intro e;unfold fY at q;rw[Option.map_eq_none_iff,find?_eq_none] at q;exact q p hp (decide_eq_true e)
theorem Bj {mm:Nat}{r x:Int}:∀(ns:List Int) (g:List (bN×D)),(∀n,n∈ns->uD mm n)->(∀p,p∈g->∃a r x:Int,p=kG (a,[r,x])/\uD mm a)->(g.map (·.1)).Nodup->
  (∀p,p∈fK ns (U [I r,I x]) g->∃a r x:Int,p=kG (a,[r,x])/\uD mm a)/\((fK ns (U [I r,I x]) g).map (·.1)).Nodup
 | [],g,_,h1,h2=>⟨h1,h2⟩
 | n::ns,g,hn,h1,h2=>Bj ns (sD g (T1 n) (U [I r,I x])) (λm hm=>hn m (mem_cons_of_mem _ hm)) (Bx h1 ⟨n,r,x,rfl,hn n mem_cons_self⟩) (Ey h2)
theorem zB {mm:Nat}{n r x:Int}(hk:uD mm n):∀(os:List Int) (g:List (List bN×D)),(∀o,o∈os->uD mm o)->(∀p,p∈g->∃a b r x:Int,p=kT ([a,b],[r,x])/\uD mm a/\uD mm b)->(g.map (·.1)).Nodup->
  (∀p,p∈fZ n os (U [I r,I x]) g->∃a b r x:Int,p=kT ([a,b],[r,x])/\uD mm a/\uD mm b)/\((fZ n os (U [I r,I x]) g).map (·.1)).Nodup
 | [],g,_,h1,h2=>⟨h1,h2⟩
 | o::os,g,hn,h1,h2=>zB hk os (sD g [T1 n,T1 o] (U [I r,I x])) (λm hm=>hn m (mem_cons_of_mem _ hm)) (Bx h1 ⟨n,o,r,x,rfl,hk,hn o mem_cons_self⟩) (Ey h2)
theorem yp {mm:Nat}{r x:Int}{ns:List Int}{t0:List (List bN×D)}(hn:∀n,n∈ns->uD mm n)(h1:∀p,p∈t0->∃a b r x:Int,p=kT ([a,b],[r,x])/\uD mm a/\uD mm b)(h2:(t0.map (·.1)).Nodup):∀j,
  (∀p,p∈b0 ns (U [I r,I x]) t0 j->∃a b r x:Int,p=kT ([a,b],[r,x])/\uD mm a/\uD mm b)/\((b0 ns (U [I r,I x]) t0 j).map (·.1)).Nodup
 | 0=>⟨h1,h2⟩
 | j+1=>by
  obtain⟨i1,i2⟩:=yp hn h1 h2 j;unfold b0;cases q:ns[j]? with
  | none=>exact⟨i1,i2⟩
  | some n=>exact zB (hn n (mem_of_getElem? q)) _ _ (λo ho=>hn o (mem_of_mem_drop ho)) i1 i2
def M6 {mm:Nat}{s:bV}{m row x:Int}(hs:s.movers.length<=mm):∀n,n∈(eP x (bG s m row)).map Sn.n->uD mm n:=λn hn=>by
 obtain⟨b,hb,rfl⟩:=mem_map.mp hn;obtain⟨k,hk,rfl⟩:=mem_map.mp (mem_filter.mp hb).1;obtain⟨i,rfl,hi,q,gm,_⟩:=mH (yP hk);have e:(rG s row (i)).n=i:=by
  unfold rG
  simp_all
 rw[e];exact⟨Xk i,by grind⟩
def bT.take {mm:Nat}{s:bV}{m row:Int}{P:Pc}(k:bT mm P)(hs:s.movers.length<=mm):bT mm (u6 s m row P):=⟨k.tch,k.tn,k.grd,k.gn,hs,λp hp=>by
 rcases mem_append.mp hp with q|q
 ·exact k.lo p q
 ·obtain⟨n,_,rfl⟩:=mem_map.mp q;exact⟨_,_,rfl⟩⟩
def bT.lay {mm:Nat}{s:bV}{w m row x:Int}{P:Pc}(k:bT mm P):bT mm (layP s w m row x P):=by
 have sn:=M6 (m:=m) (row:=row) (x:=x) k.s0;obtain⟨a1,a2⟩:=yp  (x:=x) sn k.tch k.tn ((eP x (bG P.s0 m row)).map Sn.n).length;obtain⟨b1,b2⟩:=Bj   ((eP x (bG P.s0 m row)).map Sn.n) P.grd sn k.grd k.gn;refine⟨a1,a2,?_,?_,k.s0,k.lo⟩
 ·show∀p,p∈(if(rY P.s0 w row).getD x.toNat 0=0 then P.grd else _)->_;split
  ·exact k.grd
  ·exact b1
 ·show((if(rY P.s0 w row).getD x.toNat 0=0 then P.grd else _).map (·.1)).Nodup;split
  ·exact k.gn
  ·exact b2
def bT.tick {mm:Nat}{s:bV}{w g m t:Int}{P:Pc}(k:bT mm P)(hs:s.movers.length<=mm):bT mm (tickP w g m s t P):=by
 unfold tickP;split
 ·split
  ·exact(k.take hs).lay
  ·exact k.lay
 omega
theorem bT.go {mm:Nat}{s:bV}{w g m:Int}(hs:s.movers.length<=mm):∀(n:Nat) (t:Int) (P:Pc),bT mm P->bT mm (goP w g m s n t P)
 | 0,_,_,k=>k
 | n+1,t,P,k=>bT.go hs n (t+1) _ (k.tick hs)
theorem bT.plan {mm:Nat}{w g m T:Int}:∀(td:List (Int×Dd)) (s:bV) (t:Int) (P:Pc),s.movers.length<=mm->bT mm P->bT mm (planP w g m T td s t P)
 | [],s,t,P,hs,k=>bT.go hs _ _ _ k
 | p::td,s,t,P,hs,k=>bT.plan td (a6 s p.2) p.1 _ (by rwa [(sL s p.2).1]) (bT.go hs _ _ _ k)
def bT.nil {mm:Nat}{s:bV}(hs:s.movers.length<=mm):bT mm (Hs s):=⟨λ_ h=>(by cases h),.nil,λ_ h=>(by cases h),.nil,hs,λ_ h=>(by cases h)⟩
theorem Aa {α:Type}:∀{l k:List α},l.Nodup->(∀x,x∈l->x∈k)->l.length<=k.length
 | [],k,_,_=>Uc _
 | a::l,k,h,hs=>by
  obtain⟨h1,h2⟩:=nodup_cons.mp h;obtain⟨k1,k2,rfl⟩:=append_of_mem (hs a mem_cons_self);have:=Aa (k:=k1++k2) h2 λx hx=>by
   grind
  grind
theorem kP {α β:Type}{f:α->β}:∀{l:List α},(l.map f).Nodup->l.Nodup
 | [],_=>.nil
 | a::l,h=>by
  rw[map_cons,nodup_cons] at h;exact nodup_cons.mpr ⟨λq=>h.1 (mem_map.mpr ⟨a,q,rfl⟩),kP h.2⟩
theorem nR {α β:Type}{f:α->β}{R:α->Prop}:∀{l:List β},(∀p,p∈l->∃a,p=f a/\R a)->∃T:List α,l=T.map f/\∀a,a∈T->R a
 | [],_=>⟨[],rfl,λ_ h=>by grind⟩
 | p::l,h=>by
  obtain⟨a,rfl,r⟩:=h p mem_cons_self;obtain⟨T,rfl,q⟩:=nR  λx hx=>h x (mem_cons_of_mem _ hx)
  exact⟨a::T,rfl,λb hb=>by
   rcases mem_cons.mp hb with e|e
   ·rwa [e]
   ·exact q b e⟩
def rm (mm:Nat):List Int:=(Tw mm).map Int.ofNat
def qu {mm:Nat}{a:Int}(h:uD mm a):a∈rm mm:=by
 obtain⟨n,rfl⟩:=Ts h.1;exact mem_map.mpr ⟨n,mem_range.mpr (by have:=h.2;omega),rfl⟩
structure RV (P:Pc)(T:List (List Int×List Int)):Prop where
 e:P.tch=T.map kT
 two:∀p,p∈T->p.1.length=2/\p.2.length=2
 nd:(T.map (·.1)).Nodup
 few:T.length<64
structure Q5 (P:Pc)(G:List (Int×List Int)):Prop where
 e:P.grd=G.map kG
 two:∀p,p∈G->p.2.length=2
 nd:(G.map (·.1)).Nodup
 few:G.length<64
def bT.lists {mm:Nat}{P:Pc}(k:bT mm P)(hm:mm<=5):(∃T,RV P T)/\∃G,Q5 P G:=by
 constructor
 ·obtain⟨T,e,q⟩:=nR (R:=λp=>∃a b r x:Int,p=([a,b],[r,x])/\uD mm a/\uD mm b) (l:=P.tch) λp hp=>by
   obtain⟨a,b,r,x,e,h1,h2⟩:=k.tch p hp;exact⟨_,e,a,b,r,x,rfl,h1,h2⟩
  have nd:(T.map (·.1)).Nodup:=by
   have n:=k.tn;rw[e,map_map] at n;have:(T.map λp=>(kT p).1)=(T.map (·.1)).map (List.map (T1:Int->bN)):=by rw[map_map];rfl
   have n:(T.map λp=>(kT p).1).Nodup:=n;rw[this] at n;exact kP n
  refine⟨T,e,λp hp=>?_,nd,?_⟩
  ·obtain⟨a,b,r,x,rfl,_⟩:=q p hp;exact⟨rfl,rfl⟩
  ·have:=Aa nd λz hz=>by
    obtain⟨p,hp,rfl⟩:=mem_map.mp hz;obtain⟨a,b,r,x,rfl,h1,h2⟩:=q p hp;exact mem_flatMap.mpr ⟨a,qu h1,mem_map.mpr ⟨b,qu h2,rfl⟩⟩
   rw[length_map] at this;have l:((rm mm).flatMap λa=>(rm mm).map λb=>[a,b]).length=mm*mm:=by
    rw[length_flatMap];have:(rm mm).map (λa=>((rm mm).map λb=>[a,b]).length)=TH mm mm:=by
     rw[eq_replicate_iff];refine⟨by unfold rm;rw[length_map,length_map,length_range],λb hb=>?_⟩;obtain⟨a,_,rfl⟩:=mem_map.mp hb;unfold rm;rw[length_map,length_map,length_range]
    rw[this,sum_replicate_nat]
   have:mm*mm<=5*5:=Xj hm hm;omega
 ·obtain⟨G,e,q⟩:=nR (R:=λp=>∃a r x:Int,p=(a,[r,x])/\uD mm a) (l:=P.grd) λp hp=>by
   obtain⟨a,r,x,e,h1⟩:=k.grd p hp;exact⟨_,e,a,r,x,rfl,h1⟩
  have nd:(G.map (·.1)).Nodup:=by
   have n:=k.gn;rw[e,map_map] at n;have:(G.map λp=>(kG p).1)=(G.map (·.1)).map (T1:Int->bN):=by rw[map_map];rfl
   have n:(G.map λp=>(kG p).1).Nodup:=n;rw[this] at n;exact kP n
  refine⟨G,e,λp hp=>?_,nd,?_⟩
  ·obtain⟨a,r,x,rfl,_⟩:=q p hp;rfl
  ·have:=Aa nd λz hz=>by
    obtain⟨p,hp,rfl⟩:=mem_map.mp hz;obtain⟨a,r,x,rfl,h1⟩:=q p hp;exact qu h1
   unfold rm at this;rw[length_map,length_map,length_range] at this;omega
theorem Bh {u v:List Int}:∀{a b:List Int},a.length=b.length->a≠b->HT.lexLt (a++u) (b++v)=HT.lexLt a b
 | [],[],_,h=>absurd rfl h
 | [],_::_,h,_=>by cases h
 | _::_,[],h,_=>by cases h
 | x::a,y::b,h,n=>by
  rw[cons_append,cons_append,HT.lexLt_cons,HT.lexLt_cons]
  by_cases e:x=y
  ·rw[if_pos e,if_pos e];exact Bh (Nat.succ.inj h) λq=>n (by rw[e,q])
  simp_all
def o1 (T:List (List Int×List Int))(k:List Int):List Int:=((T.find? λp=>decide (p.1=k)).map (·.2)).getD []
def LP {T:List (List Int×List Int)}:(T.map (·.1)).Nodup->∀{p},p∈T->T.find? (λq=>decide (q.1=p.1))=Z p:=by
 induction T with
 | nil=>simp
 | cons q T ih=>
  intro nd p hp;rw[map_cons,nodup_cons] at nd;rcases mem_cons.mp hp with e|e
  ·simp_all
  ·have ne:q.1≠p.1:=λz=>nd.1 (z▸mem_map.mpr ⟨p,e,rfl⟩)
   rw[find?_cons_of_neg (by simpa using ne)];exact ih nd.2 e
def oK {T:List (List Int×List Int)}(nd:(T.map (·.1)).Nodup){p}(hp:p∈T):o1 T p.1=p.2:=by
 unfold o1;rw[LP nd hp];rfl
def y7 {T:List (List Int×List Int)}{n:Nat}(hl:∀p,p∈T->p.1.length=n)(nd:(T.map (·.1)).Nodup):cx (T.map λp=>p.1++p.2)=(cx (T.map (·.1))).map λk=>k++o1 T k:=by
 have pk:=fe (T.map (·.1));refine k9 ?_ (oQ _) ?_
 ·refine(fe _).trans (.trans (.of_eq ?_) (pk.symm.map λk=>k++o1 T k));rw[map_map];exact map_congr_left λp hp=>by
   show p.1++p.2=p.1++o1 T p.1;rw[oK nd hp]
 ·rw[pairwise_map];have u:=oQ (T.map (·.1));refine(u.and (pk.symm.nodup nd)).imp_of_mem λ{a b} ha hb h=>?_
  have len:∀k,k∈cx (T.map (·.1))->k.length=n:=λk hk=>by
   obtain⟨p,hp,rfl⟩:=mem_map.mp (pk.subset hk);exact hl p hp
  rw[Bh ((len b hb).trans (len a ha).symm) (Uj h.2)];exact h.1
def Df (ns:List Int):cx (ns.map λn=>[n])=(sortI ns).map λn=>[n]:=by
 refine k9 ((fe _).trans ((sortI_perm ns).symm.map _)) (oQ _) ?_;rw[pairwise_map];refine(sortI_le ns).imp λ{a b} h=>?_
 rw[HT.lexLt_cons];split
 ·rfl
 simp_all
def gT (G:List (Int×List Int)):List (List Int×List Int):=G.map λp=>([p.1],p.2)
def BH (G:List (Int×List Int)):(gT G).map (·.1)=(G.map (·.1)).map λn=>[n]:=by
 unfold gT;rw[map_map,map_map];rfl
def EO {G:List (Int×List Int)}(nd:(G.map (·.1)).Nodup):((gT G).map (·.1)).Nodup:=by
 rw[BH];exact pairwise_map.mpr (nd.imp λ{a b} h q=>h (head_eq_of_cons_eq q))
def Fi {G:List (Int×List Int)}(nd:(G.map (·.1)).Nodup):cx (G.map λp=>[p.1]++p.2)=(sortI (G.map (·.1))).map λn=>[n]++o1 (gT G) [n]:=by
 have a:=y7   (λp hp=>by obtain⟨q,_,rfl⟩:=mem_map.mp hp;rfl) (EO nd);rw[BH,Df,map_map] at a;have e:(gT G).map (λp=>p.1++p.2)=G.map λp=>[p.1]++p.2:=by
  unfold gT;rw[map_map];rfl
 rwa [e] at a
theorem Br:∀{a b:List Int},a.map (T1:Int->bN)=b.map T1->a=b
 | [],[],_=>rfl
 | [],_::_,h=>by cases h
 | _::_,[],h=>by cases h
 | x::a,y::b,h=>by
  obtain⟨h1,h2⟩:=YJ h;rw[Sum.inl.inj h1,Br h2]
def MP {T:List (List Int×List Int)}:(T.map (·.1)).Nodup->∀{k},k∈T.map (·.1)->fY (T.map kT) (k.map T1)=Z (bJ (o1 T k)):=by
 intro nd k hk;obtain⟨p,hp,rfl⟩:=mem_map.mp hk;rw[oK nd hp]
 induction T with
 | nil=>cases hp
 | cons q T ih=>
  rw[map_cons,nodup_cons] at nd;unfold fY;rw[map_cons]
  by_cases e:q.1=p.1
  ·have eq:p=q:=by
    rcases mem_cons.mp hp with z|z
    ·omega
    ·exact absurd (e▸mem_map.mpr ⟨p,z,rfl⟩) nd.1
   rw[find?_cons_of_pos (by rw[eq];exact decide_eq_true rfl),eq];rfl
  ·rw[find?_cons_of_neg (p:=λkv:List bN×D=>decide (kv.1=p.1.map T1)) (λz=>e (Br (of_decide_eq_true z)))];rcases mem_cons.mp hp with z|z
   ·exact absurd (by rw[z]) e
   ·exact ih nd.2 z (mem_map.mpr ⟨p,z,rfl⟩)
def Mj {G:List (Int×List Int)}(nd:(G.map (·.1)).Nodup):∀{n},n∈G.map (·.1)->fY (G.map kG) (T1 n)=Z (bJ (o1 (gT G) [n])):=by
 intro n hn;obtain⟨p,hp,rfl⟩:=mem_map.mp hn;rw[oK (EO nd)  (mem_map.mpr ⟨p,hp,rfl⟩)]
 induction G with
 | nil=>cases hp
 | cons q G ih=>
  rw[map_cons,nodup_cons] at nd;unfold fY;rw[map_cons]
  by_cases e:q.1=p.1
  ·have eq:p=q:=by
    rcases mem_cons.mp hp with z|z
    ·omega
    ·exact absurd (e▸mem_map.mpr ⟨p,z,rfl⟩) nd.1
   rw[find?_cons_of_pos (by rw[eq];exact decide_eq_true rfl),eq];rfl
  ·rw[find?_cons_of_neg (by simpa[kG] using e)];rcases mem_cons.mp hp with z|z
   ·exact absurd (by rw[z]) e
   ·exact ih nd.2 z (mem_map.mpr ⟨p,z,rfl⟩)
def pF (Rw:List (List Int)):D:=.lst (Rw.map λr=>.lst (r.map I))
def BQ (Rw:List (List Int)):bH 40 (pF Rw)=true:=cQ λd hd=>by
 obtain⟨r,_,rfl⟩:=mem_map.mp hd;exact cQ λd hd=>by
  obtain⟨i,_,rfl⟩:=mem_map.mp hd;rfl
theorem xk {α:Type}[DecidableEq α]{f:α->D}(h:∀x y,rZ (f x) (f y)=decide (x=y)):∀a b:List α,iY (a.map f) (b.map f)=decide (a=b)
 | [],[]=>rfl
 | [],y::b=>by rfl
 | x::a,[]=>by rfl
 | x::a,y::b=>by
  show(rZ (f x) (f y)&&iY (a.map f) (b.map f))=_;rw[h,xk h a b];simp
def IR (A B:List (List Int)):rZ (pF A) (pF B)=decide (A=B):=xk (f:=λr:List Int=>D.lst (r.map I)) (λx y=>xk  (λi j=>by
 rfl) x y) A B
def Fu {M0 E:aq}{st:D}{P:Pc}:qY (R M0.length) (ay M0 st P++E)=pF P.rows:=by
 have g0:(ay M0 st P++E)[M0.length]?=Z (.lst (ni M0.length P.rows.length)):=by
  rw[getElem?_append_left (by rw[ux];omega)];exact Hl
 have gr:∀i,i<P.rows.length->now (R (M0.length+4+i)) (ay M0 st P++E)=.lst ((P.rows.getD i []).map I):=λi hi=>by
  have e:(ay M0 st P++E)[M0.length+4+i]?=Z (iV P.rows[i]):=by
   rw[getElem?_append_left (by rw[ux];omega)];exact Aj (getElem?_eq_getElem hi)
  unfold now;dsimp only;rw[e,Vx,getElem?_eq_getElem hi];rfl
 have e1:now (R M0.length) (ay M0 st P++E)=.lst (ni M0.length P.rows.length):=by
  unfold now
  simp_all
 unfold qY;rw[e1];show D.lst ((ni M0.length P.rows.length).map λx=>now x (ay M0 st P++E))=_;unfold pF ni;rw[map_map];congr 1;apply ext_getElem
 ·simp
 simp_all
def Ji {x y:D}{M:aq}{A B:List (List Int)}(hx:qY x M=pF A)(hy:qY y M=pF B):Ki true x y M=O (G (!decide (A=B))) M:=by
 unfold Ki;rw[hx,hy,BQ,BQ,IR];simp
def wa {M E:aq}{i:Nat}{o:MO}(h:M[i]?=Z o):(M++E)[i]?=Z o:=by
 rwa [getElem?_append_left (Tf.mp h).1]
section
variable {M:aq}{L:Pl}{fr:D}{B:Bs}
def dE.app {E:aq}(k:dE M L fr B):dE (M++E) L fr B:=⟨⟨k.v.nd,λi hi=>by rw[length_append];exact Tu (k.v.lt i hi) (Vw _ _),k.v.rl⟩,λp hp=>wa (k.c p hp)⟩
def dE.o (k:dE M L fr B):M[L.b]?=Z (.obj "Beam" (cF fr L B)):=k.c (_,_) mem_cons_self
def dE.r (k:dE M L fr B):M[L.r]?=Z (.lst (L.rf.map D.mr)):=k.c (_,_) (by simp[dG])
def dE.t (k:dE M L fr B):M[L.t]?=Z (.dT B.tch):=k.c (_,_) (by simp[dG])
def dE.g (k:dE M L fr B):M[L.g]?=Z (.dK B.grd):=k.c (_,_) (by simp[dG])
def dE.l (k:dE M L fr B):M[L.l]?=Z (.lst B.lost):=k.c (_,_) (by simp[dG])
end
section
variable {M:aq}{L:Pl}{fr:D}{B:Bs}{w h g m:Int}
def K5 (k:dE M L fr B):gU [R L.b] M=O (I B.t) M:=by
 show ck (js [Z (R L.b)] _)=_;unfold js;rw[iS (bS rfl k.o AK)];rfl
def Jo (k:dE M L fr B):fV [R L.b] M=O B.st M:=by
 show ck (h8 [Z (R L.b)] _)=_;unfold h8;rw[iS (bS rfl k.o xI)];rfl
def Ge (k:dE M L fr B)(hl:B.lost.length<=100000):gN [R L.b] M=O (R M.length) (M++[.lst B.lost]):=by
 show ck (jm [Z (R L.b)] _)=_;unfold jm;rw[iS (xt (o:=O (R M.length) (M++[.lst B.lost])) (bS rfl k.o BG) (by
  unfold tj a7;dsimp only;rw[k.l]))]
 rfl
def vn (k:dE M L fr B)(hr:B.rows.length<=90000):cW [R L.b] M=O (R M.length) (M++[.lst (B.rows.map λr=>.lst (r.map I))]):=by
 show ck (fJ [Z (R L.b)] _)=_;unfold fJ;have c:=R5 (f:=λp:Nat×List Int=>D.mr p.1) (g:=λp:Nat×List Int=>.lst (p.2.map I)) (ge:=dA) (ρ:=[Z (R L.b)]) (M:=M) (t:=⟨L.rf.map D.mr,Z (L.r,L.rf.map D.mr)⟩) (by
  unfold mY.ok;dsimp only;rw[k.r];exact gE _) (L.rf.zip B.rows) (λp hp=>by
  unfold dA;refine xt rfl ?_;unfold rB a7;dsimp only;have q:=k.c (p.1,iV p.2) (by
   refine mem_cons_of_mem _ (mem_cons_of_mem _ (mem_cons_of_mem _ (mem_cons_of_mem _ (mem_cons_of_mem _ ?_))));rw[List.zip_map_right];exact mem_map.mpr ⟨p,hp,rfl⟩)
  rw[show M[p.1]?=Z (iV p.2) from q];rfl)
 have e1:(L.rf.zip B.rows).map (λp:Nat×List Int=>D.mr p.1)=L.rf.map D.mr:=(map_map (f:=Prod.fst) (g:=D.mr)).symm.trans (by rw[ZG (by rw[k.v.rl];exact Te _)]);have e2:(L.rf.zip B.rows).map (λp:Nat×List Int=>D.lst (p.2.map I))=B.rows.map λr=>D.lst (r.map I):=(map_map (f:=Prod.snd) (g:=λr:List Int=>D.lst (r.map I))).symm.trans (by rw[List.map_snd_zip (by rw[k.v.rl];exact Te _)])
 rw[e1,e2] at c;have gc:a8 (bW (dm "Beam" "laid_rows" (ae 0))) bq dA dQ [Z (R L.b)] M=O (R M.length) (M++[.lst (B.rows.map λr=>.lst (r.map I))]):=by
  unfold a8 bW;rw[bS rfl k.o wD,az];show((match M[L.r]? with|some (.lst xs)=>bi.ok (mY.mk xs (Z (L.r,xs))) M|_=>.bad).bind _)=_;rw[k.r];show((bE _ _ _ _ _ _).bind _)=_;rw[c,az];unfold dQ;rw[if_pos (bX (by rw[length_map];omega))]
 rw[iS gc];rfl
end
theorem A1:∀z:List Int,oC (z.map I)=Z z
 | []=>rfl
 | x::z=>by
  show(oC (z.map I)).map (x::·)=_;rw[A1 z];rfl
def wv (z:List Int):dJ (bJ z)=Z z:=A1 z
theorem xB:∀{zs:List (List Int)},(∀z,z∈zs->z≠[])->o8 (zs.map bJ)=Z zs
 | [],_=>rfl
 | []::_,h=>absurd rfl (h [] mem_cons_self)
 | (x::z)::zs,h=>by
  rw[map_cons];unfold o8;rw[wv,xB λy hy=>h y (mem_cons_of_mem _ hy)]
def Cc {zs:List (List Int)}{M:aq}(h:∀z,z∈zs->z≠[])(hl:zs.length<64):yQ [.lst (zs.map bJ)] M=O (.lst ((cx zs).map bJ)) M:=by
 cases zs with
 | nil=>
  show bi.ok (D.lst ((L2.sortI []).map I)) M=bi.ok (D.lst ((cx []).map bJ)) M;rw[(L2.sortI_perm []).eq_nil,(fe []).eq_nil];rfl
 | cons z zs=>
  show(match AD ((z::zs).map bJ) with|some ns=>if ns.length<64 then bi.ok (D.lst ((L2.sortI ns).map I)) M else .bad|none=>match o8 ((z::zs).map bJ) with|some zs=>if zs.length<64 then O (.lst ((cx zs).map bJ)) M else .bad|none=>.bad)=_;rw[(xB h),show AD ((z::zs).map bJ)=Y from rfl]
  simp_all
def EG (k:List Int):(k.map (T1:Int->bN)).map uZ=k.map I:=by
 rw[map_map];rfl
def JM {T:List (List Int×List Int)}{M:aq}{i:Nat}(hM:M[i]?=Z (.dT (T.map kT)))(h:∀p,p∈T->p.1≠[])(hl:T.length<64):mP [R i] M=O (.lst ((cx (T.map (·.1))).map bJ)) M:=by
 have e:((T.map kT).map λp=>D.tup (p.1.map uZ))=(T.map (·.1)).map bJ:=by
  rw[map_map,map_map];exact map_congr_left λp _=>by
   show D.tup ((p.1.map T1).map uZ)=_;rw[EG];rfl
 unfold mP;dsimp only;rw[hM];dsimp only;rw[e,xB (λz hz=>by obtain⟨p,hp,rfl⟩:=mem_map.mp hz;exact h p hp)]
 simp_all
theorem Ba:∀g:List (Int×List Int),xT (g.map kG)=Z (g.map (·.1))
 | []=>rfl
 | p::g=>by
  show(xT (g.map kG)).map (p.1::·)=_;rw[Ba g];rfl
def Hv {gs:List (Int×List Int)}{M:aq}{i:Nat}(hM:M[i]?=Z (.dK (gs.map kG)))(hl:gs.length<64):mP [R i] M=O (.lst ((sortI (gs.map (·.1))).map I)) M:=by
 unfold mP;dsimp only;rw[hM];dsimp only;rw[Ba]
 simp_all
def yI {α:Type}{n:Nat}{sg:GG}{ge g:GE}{ρ:dY}{M:aq}{d:D}{l:List α}{f:α->D×D}{z1 z2:α->List Int}(hg:g ρ M=O d M)(hp:iF d M=Z (l.map f))(hv:∀a,a∈l->(f a).2=bJ (z1 a))
  (he:∀a,a∈l->∃ρ1,sg (iI (f a)) (TH n Y++TH ρ.length Y)=Z ρ1/\ge ρ1 []=O (bJ (z2 a)) []) (hl:l.length<=100000):fH n sg ge g ρ M=O (.lst (l.map λa=>bJ (z2 a))) M:=by
 have c:aT ⟨(l.map f).map iI,Y⟩ n sg bq ge ((l.map f).map iI) (TH ρ.length Y) []=O (l.map λa=>bJ (z2 a)) []:=by
  have gen:∀(ds0:List D) (l:List α),(∀a,a∈l->∃ρ1,sg (iI (f a)) (TH n Y++TH ρ.length Y)=Z ρ1/\ge ρ1 []=O (bJ (z2 a)) [])->aT ⟨ds0,Y⟩ n sg bq ge ((l.map f).map iI) (TH ρ.length Y) []=O (l.map λa=>bJ (z2 a)) []:=λds0 l=>by
   induction l with
   | nil=>intro _;rfl
   | cons a l ih=>
    intro h;obtain⟨ρ1,e1,e2⟩:=h a mem_cons_self;rw[map_cons,map_cons];unfold aT;rw[l7,if_pos rfl,e1];dsimp only;rw[show bq ρ1 []=O true [] from rfl];dsimp only;rw[e2];dsimp only;rw[ih λb hb=>h b (mem_cons_of_mem _ hb)];rfl
  exact gen _ l he
 unfold fH;rw[hg,az,hp];dsimp only;rw[if_pos (all_eq_true.mpr λp hp=>by
  obtain⟨a,ha,rfl⟩:=mem_map.mp hp;rw[hv a ha,wv];rfl),c]
 dsimp only;rw[if_pos ⟨all_eq_true.mpr λe he=>by
  obtain⟨a,_,rfl⟩:=mem_map.mp he;rw[wv];rfl,bX (by grind)⟩]
def BN {a b:List Int}{M:aq}(h:a.length+b.length<=100):bx (bJ a) (bJ b) M=O (bJ (a++b)) M:=by
 show(if(a.map I).length+(b.map I).length<=sizeLine then bi.ok (D.tup (a.map I++b.map I)) M else .bad)=_;rw[if_pos (bX (by grind)),<-map_append];rfl
section
variable {M:aq}{L:Pl}{fr:D}{B:Bs}{P:Pc}
def CT {T:List (List Int×List Int)}(k:dE M L fr B)(e:B.tch=T.map kT)(two:∀p,p∈T->p.1.length=2/\p.2.length=2)(hl:T.length<64):fG [R L.b] M=O (.lst ((cx (T.map λp=>p.1++p.2)).map bJ)) M:=by
 show ck (fA [Z (R L.b)] _)=_;unfold fA;have c:=yI (n:=2) (sg:=b8 [0,1]) (ge:=gV) (g:=dm "Beam" "first_touches" (ae 0)) (ρ:=[Z (R L.b)]) (l:=T) (f:=λp=>(bJ p.1,bJ p.2)) (z1:=λp=>p.2) (z2:=λp=>p.1++p.2) (bS rfl k.o FR) (by
  unfold iF;dsimp only;rw[k.t];dsimp only;rw[e,map_map];congr 1;exact map_congr_left λp _=>by
   show(D.tup ((p.1.map T1).map uZ),bJ p.2)=_;rw[EG];rfl) (λ_ _=>rfl) (λp hp=>⟨_,rfl,aC (f:=bx) rfl rfl (BN (by have:=two p hp;omega))⟩) (by omega)
 have em:(T.map λp=>bJ (p.1++p.2))=(T.map λp=>p.1++p.2).map bJ:=by rw[map_map];rfl
 rw[em] at c;rw[iS (xt c (Cc (λz hz q=>by
  obtain⟨p,hp,rfl⟩:=mem_map.mp hz;have:=(two p hp).1;rw[(append_eq_nil_iff.mp q).1] at this;cases this) (by rw[length_map];exact hl)))]
 rfl
def Dh {gs:List (Int×List Int)}(k:dE M L fr B)(e:B.grd=gs.map kG)(two:∀p,p∈gs->p.2.length=2)(hl:gs.length<64):fP [R L.b] M=O (.lst ((cx (gs.map λp=>[p.1]++p.2)).map bJ)) M:=by
 show ck (fW [Z (R L.b)] _)=_;unfold fW;have c:=yI (n:=2) (sg:=b8 [0,1]) (ge:=gY) (g:=dm "Beam" "first_grounds" (ae 0)) (ρ:=[Z (R L.b)]) (l:=gs) (f:=λp=>(I p.1,bJ p.2)) (z1:=λp=>p.2) (z2:=λp=>[p.1]++p.2) (bS rfl k.o E9) (by
  unfold iF;dsimp only;rw[k.g];dsimp only;rw[e,map_map];rfl) (λ_ _=>rfl) (λp hp=>⟨_,rfl,aC (f:=bx) (iT (bh rfl eJ)) rfl (BN (a:=[p.1]) (by have:=two p hp;show 1+_<=_;omega))⟩) (by omega)
 have em:(gs.map λp=>bJ ([p.1]++p.2))=(gs.map λp=>[p.1]++p.2).map bJ:=by rw[map_map];rfl
 rw[em] at c;rw[iS (xt c (Cc (λz hz q=>by
  obtain⟨p,hp,rfl⟩:=mem_map.mp hz;cases q) (by rw[length_map];exact hl)))]
 rfl
end
theorem FJ:∀z:List Int,yi (z.map I)=Z (z.map T1)
 | []=>rfl
 | x::z=>by
  rw[map_cons];unfold yi;rw[FJ z];rfl
def LD {T:List (List Int×List Int)}{M:aq}{i:Nat}{k:List Int}(hM:M[i]?=Z (.dT (T.map kT)))(nd:(T.map (·.1)).Nodup)(hk:k∈T.map (·.1)):zP (R i) (bJ k) M=O (bJ (o1 T k)) M:=by
 unfold zP rp;dsimp only;rw[hM,show jN (bJ k)=Z (k.map T1) from FJ k];dsimp only;rw[MP nd hk]
def LQ {gs:List (Int×List Int)}{M:aq}{i:Nat}{n:Int}(hM:M[i]?=Z (.dK (gs.map kG)))(nd:(gs.map (·.1)).Nodup)(hn:n∈gs.map (·.1)):vO (R i) (I n) M=O (bJ (o1 (gT gs) [n])) M:=by
 unfold vO;dsimp only;rw[hM,show lK (I n)=Z (T1 n) from rfl];dsimp only;rw[Mj nd hn]
def IM (A:List (List Int))(M:aq):qY (pF A) M=pF A:=by
 show D.lst ((A.map λr=>D.lst (r.map I)).map λx=>now x M)=_;rw[map_map];rfl
def xX {d:D}(h:bH 40 d=true)(hm:∀M,now d M=d)(M:aq):aW false d d M=O (G true) M:=by
 unfold aW;rw[hm,h,pe _ 40 h];rfl
def Km (zs:List (List Int)):bH 40 (.lst (zs.map bJ))=true:=cQ λd hd=>by
 obtain⟨z,_,rfl⟩:=mem_map.mp hd;exact cQ λd hd=>by
  obtain⟨i,_,rfl⟩:=mem_map.mp hd;rfl
def Fm {P:Pc}{mm:Nat}(k:bT mm P):bH 40 (.lst P.lost)=true:=cQ λd hd=>by
 obtain⟨a,b,rfl⟩:=k.lo d hd;rfl
def F9 {a b:GT}{ρ:dY}{M M1:aq}{o:bi Bool}(ha:a ρ M=O false M1)(hb:b ρ M1=o):jO a b ρ M=o:=by
 unfold jO;rw[ha,az];exact hb
def BU {a b:GE}{ρ:dY}{M M1:aq}{o:bi D}(ha:a ρ M=O (G true) M1)(hb:b ρ M1=o):fM a b ρ M=o:=by
 unfold fM;rw[ha,az];exact hb
def OC {M:aq}{A:List (List Int)}(E:aq):qY (R M.length) (M++.lst (A.map λr=>.lst (r.map I))::E)=pF A:=by
 have e:now (R M.length) (M++.lst (A.map λr=>.lst (r.map I))::E)=pF A:=by
  unfold now;dsimp only;rw[getElem?_append_right (Te _),U6];rfl
 unfold qY;rw[e];exact IM A _
def LL {M:aq}{xs:List D}(h:bH 40 (.lst xs)=true):aW false (R M.length) (.lst xs) (M++[.lst xs])=O (G true) (M++[.lst xs]):=by
 have e:now (R M.length) (M++[.lst xs])=.lst xs:=by
  unfold now;dsimp only;rw[getElem?_append_right (Te _),U6];rfl
 unfold aW;rw[e,show now (.lst xs) (M++[.lst xs])=.lst xs from rfl,h,pe _ 40 h];rfl
section
variable {M1:aq}{L:Pl}{w h g m mm T:Int}{B:Bs}{P:Pc}{s:bV}{kk:Nat}
def GW (sh:bI (ay M1 s.d P))(k1:dE M1 L (bP w h g m) B)(hc:bH 40 s.d=true)(te:B.t=T)(st:B.st=s.d)(rl:B.rows.length<=90000)(ll:B.lost.length<=100000)(rows:B.rows=P.rows)(tch:B.tch=P.tch)(grd:B.grd=P.grd)(lost:B.lost=P.lost)(ko:bT kk P)(hk:kk<=5) :
  fT [R L.b,R (M1.length+3),I T] (ay M1 s.d P)=O (G true) (ay M1 s.d P):=by
 obtain⟨⟨Tt,tl⟩,Gg,gl⟩:=ko.lists hk;have k:dE (ay M1 s.d P) L (bP w h g m) B:=k1.app;have m1:(ay M1 s.d P)[M1.length+1]?=Z (.dT (Tt.map kT)):=by rw[LG,tl.e]
 have m2:(ay M1 s.d P)[M1.length+2]?=Z (.dK (Gg.map kG)):=by rw[KU,gl.e]
 have pw:qY (R M1.length) (ay M1 s.d P)=pF P.rows:=by
  have:=Fu (M0:=M1) (E:=[]) (st:=s.d) (P:=P);rwa [append_nil] at this
 have sx:∀(i:Int) (n:Nat) {ρ:dY} {q:Nat} {d:D},i=n->ρ[q]?=Z (Z (R (M1.length+3)))->([R M1.length,R (M1.length+1),R (M1.length+2),.lst P.lost,s.d]:List D)[n]?=Z d->g2 aB (ae q) (gC (I i)) ρ (ay M1 s.d P)=O d (ay M1 s.d P):=λi n {ρ q d} hi h1 h2=>by
  subst hi;exact aC (x:=R (M1.length+3)) (by unfold ae;rw[h1]) rfl (fO (x:=.non) Au (ce h2))
 show jD _ (ck (cO [Z (R L.b),Z (R (M1.length+3)),Z (I T),Y,Y] _))=_;unfold cO;have tk:∀z,z∈cx (Tt.map (·.1))->z∈Tt.map (·.1):=λz hz=>(fe _).subset hz
 have c3:=v9 (g:=λz=>bJ (z++o1 Tt z)) (ge:=dg) (gi:=bW (aM mP (aa (g2 aB (ae 1) (gC (I 1))) ag))) (ρ:=[Z (R L.b),Z (R (M1.length+3)),Z (I T),Y,Y]) (m:=Y) (l:=cx (Tt.map (·.1))) (by
  unfold bW;rw[xt (x:=R (M1.length+1)) (sx 1 1 rfl rfl rfl) (JM m1 (λp hp q=>by have:=(tl.two p hp).1;rw[q] at this;cases this) tl.few),az];rfl) (λz hz=>by
  unfold dg;obtain⟨p,hp,rfl⟩:=mem_map.mp (tk z hz);exact aC (x:=bJ p.1) rfl (aC (x:=R (M1.length+1)) (sx 1 1 rfl rfl rfl) rfl (LD m1 tl.nd (tk _ hz))) (BN (by rw[oK tl.nd hp];have:=tl.two p hp;omega))) (by
  rw[(fe _).length_eq,length_map];have:=tl.few;omega)
 have e3:(cx (Tt.map (·.1))).map (λz=>bJ (z++o1 Tt z))=(cx (Tt.map λp=>p.1++p.2)).map bJ:=by
  rw[y7 (λp hp=>(tl.two p hp).1) tl.nd,map_map];rfl
 rw[e3] at c3;rw[aZ (cY c3)];show jD _ (ck (aj _ _ [Z (R L.b),Z (R (M1.length+3)),Z (I T),Z (.lst ((cx (Tt.map λp=>p.1++p.2)).map bJ)),Y] _))=_;have gk:∀z,z∈sortI (Gg.map (·.1))->z∈Gg.map (·.1):=λz hz=>(sortI_perm _).subset hz
 have c4:=v9 (g:=λn=>bJ ([n]++o1 (gT Gg) [n])) (ge:=de) (gi:=bW (aM mP (aa (g2 aB (ae 1) (gC (I 2))) ag))) (ρ:=[Z (R L.b),Z (R (M1.length+3)),Z (I T),Z (.lst ((cx (Tt.map λp=>p.1++p.2)).map bJ)),Y]) (m:=Y) (l:=sortI (Gg.map (·.1))) (by
  unfold bW;rw[xt (x:=R (M1.length+2)) (sx 2 2 rfl rfl rfl) (Hv m2 gl.few),az];rfl) (λz hz=>by
  unfold de;obtain⟨p,hp,rfl⟩:=mem_map.mp (gk z hz);exact aC (x:=bJ [p.1]) (iT (bh rfl eJ)) (aC (x:=R (M1.length+2)) (sx 2 2 rfl rfl rfl) rfl (LQ m2 gl.nd (gk _ hz))) (BN (by
   rw[oK (EO gl.nd) (p:=([p.1],p.2)) (mem_map.mpr ⟨p,hp,rfl⟩)];have q:p.2.length=2:=gl.two p hp;show 1+p.2.length<=100;omega))) (by
  rw[(sortI_perm _).length_eq,length_map];have:=gl.few;omega)
 have e4:(sortI (Gg.map (·.1))).map (λn=>bJ ([n]++o1 (gT Gg) [n]))=(cx (Gg.map λp=>[p.1]++p.2)).map bJ:=by
  rw[Fi gl.nd,map_map];rfl
 rw[e4] at c4;rw[aZ (cY c4)];show jD _ (ck (aj _ _ [Z (R L.b),Z (R (M1.length+3)),Z (I T),Z (.lst ((cx (Tt.map λp=>p.1++p.2)).map bJ)),Z (.lst ((cx (Gg.map λp=>[p.1]++p.2)).map bJ))] _))=_;generalize hρ:([Z (R L.b),Z (R (M1.length+3)),Z (I T),Z (.lst ((cx (Tt.map λp=>p.1++p.2)).map bJ)),Z (.lst ((cx (Gg.map λp=>[p.1]++p.2)).map bJ))]:dY)=ρ;have v:∀(M:aq),ae 0 ρ M=O (R L.b) M/\ae 2 ρ M=O (I T) M/\ae 3 ρ M=O (.lst ((cx (Tt.map λp=>p.1++p.2)).map bJ)) M/\ae 4 ρ M=O (.lst ((cx (Gg.map λp=>[p.1]++p.2)).map bJ)) M:=λM=>by rw[<-hρ];exact⟨rfl,rfl,rfl,rfl⟩
 have v1:ρ[1]?=Z (Z (R (M1.length+3))):=by rw[<-hρ];rfl
 have me:∀{mt:Str} {F:FD} {N:aq} {o:bi D},dE N L (bP w h g m) B->(cF (bP w h g m) L B).lookup mt=Y->F [R L.b] N=o->fc "Beam" mt 1 F (ae 0) ag ρ N=o:=λk hn e=>iQ (go:=ae 0) (ga:=ag) (v _).1 k.o hn (ds:=[]) rfl rfl e
 have t1:aJ (g2 (aW true) (fc "Beam" "tick" 1 gU (ae 0) ag) (ae 2)) ρ (ay M1 s.d P)=O false (ay M1 s.d P):=by
  have:=dh (aC (me (mt:="tick") (F:=gU) k rfl (K5 k)) (v _).2.1 (zk B.t T _));rwa [te,decide_eq_true rfl] at this
 have e2:aW true B.st s.d (ay M1 s.d P)=O (G false) (ay M1 s.d P):=by
  rw[st];exact Ht hc (pe _ 40 hc) (λ_=>rfl) _
 have t2:aJ (g2 (aW true) (fc "Beam" "stand" 1 fV (ae 0) ag) (g2 aB (ae 1) (gC (I 4)))) ρ (ay M1 s.d P)=O false (ay M1 s.d P):=
  dh (aC (me (mt:="stand") (F:=fV) k rfl (Jo k)) (sx 4 4 rfl v1 rfl) e2)
 have bp:=vn k rl;rw[rows] at bp;generalize hN1:ay M1 s.d P++[.lst (P.rows.map λr=>.lst (r.map I))]=N1 at bp;have k2:dE N1 L (bP w h g m) B:=hN1▸k.app;have sy:∀(i:Int) (n:Nat) {q:Nat} {d:D} {E:aq},i=n->ρ[q]?=Z (Z (R (M1.length+3)))->([R M1.length,R (M1.length+1),R (M1.length+2),.lst P.lost,s.d]:List D)[n]?=Z d->g2 aB (ae q) (gC (I i)) ρ (N1++E)=O d (N1++E):=λi n {q d E} hi h1 h2=>by
  subst hi hN1;exact aC (x:=R (M1.length+3)) (by unfold ae;rw[h1]) rfl (fO (x:=.non) (wa (wa Au)) (ce h2))
 have sz:=λ(i:Int) (n:Nat) {q:Nat} {d:D}=>sy i n (q:=q) (d:=d) (E:=[])
 simp only[append_nil] at sz;have pw1:qY (R M1.length) N1=pF P.rows:=hN1▸Fu;have pw2:qY (R (ay M1 s.d P).length) N1=pF P.rows:=hN1▸OC [];have t3:aJ (g2 (Ki true) (fc "Beam" "picture" 1 cW (ae 0) ag) (g2 aB (ae 1) (gC (I 0)))) ρ (ay M1 s.d P)=O false N1:=by
  have:=dh (aC (me (mt:="picture") (F:=cW) k rfl bp) (sz 0 0 rfl v1 rfl) (Ji pw2 pw1));rwa [decide_eq_true rfl] at this
 rw[aZ ((m6 (F9 t1 (F9 t2 t3))).trans rfl)];have bt:=CT k2 (tch.trans tl.e) tl.two tl.few;have bg:=Dh k2 (grd.trans gl.e) gl.two gl.few;have bl:=Ge k2 ll;rw[lost] at bl;have a4:=BU (aC (me (mt:="touches") (F:=fG) k2 rfl bt) (v _).2.2.1 (xX (Km _) (λ_=>rfl) _)) (BU (aC (me (mt:="grounds") (F:=fP) k2 rfl bg) (v _).2.2.2 (xX (Km _) (λ_=>rfl) _)) (aC (me (mt:="lost") (F:=gN) k2 rfl bl) (sy 3 3 rfl v1 rfl) (LL (Fm ko))));rw[iS a4,<-hN1];show jD (ay M1 s.d P).length (O (G true) _)=_;rw[append_assoc];exact wl rfl sh
end
def Ql (rest:aq):Prop:=rest.all (uV (rest.length+1))=true
def A0 {l:List Int}{i c:Int}{rest:aq}(h:Ql rest):bI (tp l i c::rest):=by
 have p:Bt (tp l i c)=true:=by
  show(D.lst (l.map I)::[I i,I c]).all (aG 30)=true;have:=dB 28 l
  simp_all [aG]
 unfold bI;rw[all_cons,jS p];exact h
def HE {l:List Int}{i c:Int}{rest:aq}(h:bI (tp l i c::rest)):Ql rest:=by
 unfold bI at h;rw[all_cons] at h;exact(TJ.mp h).2
structure Rc where
 w:Int
 h:Int
 g:Int
 m:Int
 s:bV
 td:List (Int×Dd)
 T:Int
 L:Pl
 B:Bs
def Rc.fr (r:Rc):D:=bP r.w r.h r.g r.m
structure Good (n:Nat)(r:Rc):Prop where
 f:ig r.w r.h r.g r.m
 ok:a9 5 r.s
 ok2:a9 5 (fu r.td r.s)
 t0:0<=r.T
 t1:r.T<=r.h*(r.w+r.g)
 pl:RH r.T r.s r.td
 few:r.td.length<=n
 iv:mf r.w r.g r.m 5 (fu r.td r.s) r.T r.B
 pn:xS r.w r.g r.m 5 r.T (planP r.w r.g r.m r.T r.td r.s 0 (Hs r.s)) r.B
structure Two (M:aq)(r:Nat->Rc):Prop where
 sh:bI M
 fr:M[1]?=Z (.lst [(r 0).fr,(r 1).fr])
 st:M[2]?=Z (.lst [(r 0).s.d,(r 1).s.d])
 gn:M[15]?=Z (.lst [I (r 0).T,I (r 1).T])
 td:∀k,k<2->M[13+k]?=Z (.lst (tq (r k).td))
 bm:∀k,k<2->dE M (r k).L (r k).fr (r k).B
 lb:∀k,k<2->(r k).L.b=3+5*k
 own:∀k,k<2->∀i∈(r k).L.all,3<=i/\(i<13\/16<=i)
 ap:∀k j,k<2->j<2->k≠j->∀i∈(r k).L.all,i∉(r j).L.all
def gW {f:Nat->D}{k:Nat}(hk:k<2):([f 0,f 1]:List D)[k]?=Z (f k):=by
 rcases k with _|_|k
 ·rfl
 ·rfl
 ·omega
def bO {M:aq}{i:Nat}{o:MO}(h:M[i]?=Z o):i<M.length:=(Tf.mp h).1
def dE.move {M M':aq}{L:Pl}{fr:D}{B:Bs}(k:dE M L fr B)(e:∀i∈L.all,M'[i]?=M[i]?):dE M' L fr B:=by
 have kl:=pY (fr:=fr) k.v;refine⟨⟨k.v.nd,λi hi=>?_,k.v.rl⟩,λp hp=>?_⟩
 ·have q:=hi;rw[<-kl] at q;obtain⟨p,hp,rfl⟩:=mem_map.mp q;exact bO ((e _ hi).trans (k.c p hp))
 ·rw[e _ (by rw[<-kl];exact mem_map.mpr ⟨p,hp,rfl⟩)];exact k.c p hp
section
variable {M M':aq}{r:Nat->Rc}
def Two.move (iw:Two M r)(e:∀i,i≠0->i<M.length->M'[i]?=M[i]?)(sh:bI M'):Two M' r:=
 ⟨sh,(e 1 (by decide) (bO iw.fr)).trans iw.fr,(e 2 (by decide) (bO iw.st)).trans iw.st,(e 15 (by decide) (bO iw.gn)).trans iw.gn,λk hk=>(e _ (by omega) (bO (iw.td k hk))).trans (iw.td k hk),
  λk hk=>(iw.bm k hk).move λi hi=>e i (by have:=iw.own k hk i hi;omega) ((iw.bm k hk).v.lt i hi),iw.lb,iw.own,iw.ap⟩
def sM {ns:List Int}{rest:aq}(t:cw ns rest M)(iw:Two M r)(t':cw ns rest M'):Two M' r:=by
 obtain⟨i,c,_,rfl⟩:=t;obtain⟨i',c',_,rfl⟩:=t';refine iw.move (λk hk _=>?_) (A0 (HE iw.sh));cases k with
 | zero=>exact absurd rfl hk
 | succ k=>rfl
def Iw {E:aq}(iw:Two M r)(sh:bI (M++E)):Two (M++E) r:=iw.move (λi _ h=>getElem?_append_left h) sh
def Gz {ns:List Int}{rest E:aq}(t:cw ns rest M):cw ns (rest++E) (M++E):=by
 obtain⟨i,c,h,rfl⟩:=t;exact⟨i,c,h,rfl⟩
def Cd {ns:List Int}{rest:aq}(t:cw ns rest M)(e:M'[0]?=M[0]?):∃rest',cw ns rest' M':=by
 obtain⟨i,c,h,rfl⟩:=t;cases M' with
 | nil=>cases e
 | cons o rs2=>
  cases e;exact⟨rs2,i,c,h,rfl⟩
def bj (r:Nat->Rc)(a:Nat)(c:Rc)(k:Nat):Rc:=if k=a then c else r k
def iM {a:Nat}{c:Rc}:bj r a c a=c:=if_pos rfl
def g6 {a k:Nat}{c:Rc}(h:k≠a):bj r a c k=r k:=if_neg h
def wX {f:Rc->D}{a:Nat}{c:Rc}(ha:a<2):[f (bj r a c 0),f (bj r a c 1)]=([f (r 0),f (r 1)]:List D).set a (f c):=by
 rcases a with _|_|a
 ·rfl
 ·rfl
 ·omega
theorem Two.step {a:Nat}{c:Rc}(iw:Two M r)(ha:a<2)(sh:bI M')(efr:c.fr=(r a).fr)(es:c.s=(r a).s)(m1:M'[1]?=M[1]?)(m2:M'[2]?=M[2]?)(m15:M'[15]?=Z (.lst (([I (r 0).T,I (r 1).T]:List D).set a (I c.T))))
  (mt:M'[13+a]?=Z (.lst (tq c.td))) (mo:∀k,k<2->k≠a->M'[13+k]?=M[13+k]?/\∀i∈(r k).L.all,M'[i]?=M[i]?) (bm:dE M' c.L c.fr c.B) (lb:c.L.b=(r a).L.b) (own:∀i∈c.L.all,i∈(r a).L.all\/M.length<=i):Two M' (bj r a c):=by
 have ownc:∀i∈c.L.all,3<=i/\(i<13\/16<=i):=λi hi=>(own i hi).elim (iw.own a ha i) λq=>by have:=bO iw.gn;omega
 have apc:∀k,k<2->k≠a->∀i∈c.L.all,i∉(r k).L.all:=λk hk hn i hi z=>(own i hi).elim (λq=>iw.ap a k ha hk (Uj hn) i q z) λq=>by have:=(iw.bm k hk).v.lt i z;omega
 refine⟨sh,?_,?_,?_,λk hk=>?_,λk hk=>?_,λk hk=>?_,λk hk=>?_,λk j hk hj hn=>?_⟩
 ·rw[wX (f:=Rc.fr) ha,efr,m1,iw.fr];rcases a with _|_|a
  ·rfl
  ·rfl
  ·omega
 ·rw[wX (f:=λc=>c.s.d) ha,es,m2,iw.st];rcases a with _|_|a
  ·rfl
  ·rfl
  ·omega
 ·rw[wX (f:=λc=>I c.T) ha,m15]
 ·by_cases q:k=a
  ·subst q;rw[iM];exact mt
  ·rw[g6 q];exact(mo k hk q).1.trans (iw.td k hk)
 ·by_cases q:k=a
  ·subst q;rw[iM];exact bm
  ·rw[g6 q];exact(iw.bm k hk).move (mo k hk q).2
 ·by_cases q:k=a
  ·subst q;rw[iM,lb];exact iw.lb k hk
  ·rw[g6 q];exact iw.lb k hk
 ·by_cases q:k=a
  ·subst q;rw[iM];exact ownc
  ·rw[g6 q];exact iw.own k hk
 ·by_cases q:k=a
  ·subst q;rw[iM,g6 (Uj hn)];exact apc j hj (Uj hn)
  ·rw[g6 q]
   by_cases q2:j=a
   ·subst q2;rw[iM];exact λi hi z=>apc k hk hn i z hi
   ·rw[g6 q2];exact iw.ap k j hk hj hn
end
def zd (n:Nat)(rs:List (List Int)):bH (n+2) (bu rs)=true:=by
 refine cQ λd hd=>?_
 obtain⟨r,_,rfl⟩:=mem_map.mp hd;exact lW n r
def Iv (s:bV):bH 40 s.d=true:=by
 have p1:=zd 37 s.floor;have p2:bn 38 (s.book.map bu)=true:=cQ λd hd=>by
  obtain⟨b,_,rfl⟩:=mem_map.mp hd;exact zd 36 b
 have p3:bn 38 (s.movers.map Mv.d)=true:=cQ λd hd=>by
  obtain⟨m,_,rfl⟩:=mem_map.mp hd;rw[zh];have:bH 37 (xH m.shape)=true:=by cases m.shape <;> rfl
  simp_all
 have p4:=lW 38 s.pots;unfold bV.d
 simp_all
abbrev eL (x0:Option D)(k:Nat)(x8 x9 x10 x11 x12 x13 x14:Option D):dY:=[x0,Z (R 0),Z (R 1),Z (R 2),Z (I k),Z (.lst [R 3,R 8]),Z (.lst [R 13,R 14]),Z (R 15),x8,x9,x10,x11,x12,x13,x14]
def gR (T:Int)(td:List (Int×Dd))(s:bV):bV:=td.foldl (λs p=>if p.1=T then a6 s p.2 else s) s
theorem BL {T:Int}:∀(td:List (Int×Dd)) (s:bV),(∀q∈td,q.1<T)->gR T td s=s
 | [],_,_=>rfl
 | p::td,s,h=>by
  have:=h p mem_cons_self;show gR T td (if p.1=T then _ else s)=s;rw[if_neg (by omega)];exact BL td s λq hq=>h q (mem_cons_of_mem _ hq)
theorem A8 {T:Int}:∀(td:List (Int×Dd)) (s:bV),(∀q∈td,q.1=T)->gR T td s=fu td s
 | [],_,_=>rfl
 | p::td,s,h=>by
  show gR T td (if p.1=T then _ else s)=_;rw[if_pos (h p mem_cons_self)];exact A8 td _ λq hq=>h q (mem_cons_of_mem _ hq)
def IL {T:Int}{td:List (Int×Dd)}{s:bV}{k:Nat}(h1:∀q∈td.take k,q.1<T)(h2:∀q∈td.drop k,q.1=T):gR T td s=fu (td.drop k) s:=by
 have e:gR T td s=gR T (td.drop k) (gR T (td.take k) s):=by
  unfold gR;rw[<-foldl_append,List.take_append_drop]
 rw[e,BL _ _ h1,A8 _ _ h2]
def E0 {t:mY}{sg:GG}{b:GS}{d:D}{ds:List D}{ρ ρ1 ρ2:dY}{M M1:aq}{o:bi Fl}(ht:t.ok M=true)(h1:sg d ρ=Z ρ1)(h2:b ρ1 M=O (.nx ρ2) M1)(h3:cn t sg b ds ρ2 M1=o):cn t sg b (d::ds) ρ M=o:=by
 unfold cn;rw[if_pos ht,h1];dsimp only;rw[h2,az];exact h3
def Ap {q k i:Nat}{g:GE}{xs:List D}{x:D}{ρ:dY}{M:aq}(h:M[k]?=Z (.lst xs))(hi:i<xs.length)(hv:ρ[q]?=Z (Z (R k)))(hg:g ρ M=O x M):ki (ae q) (gC (I i)) g ρ M=O (.nx ρ) (M.set k (.lst (xs.set i x))):=by
 refine xC hg ?_;rw[show ae q ρ M=O (R k) M by unfold ae;rw[hv]];show(u4 (R k) (I i) x M).bind _=_;rw[zV h hi,az]
def DQ {go:GE}{ρ:dY}{M N:aq}{xs:List D}(h:go ρ M=O (R N.length) (N++[.lst xs])):bK (Cq go) ρ M=O (.nx ρ) (N++[.lst []]):=by
 have e:(N++[MO.lst xs])[N.length]?=Z (.lst xs):=by rw[getElem?_append_right (Te _),U6];rfl
 refine cb (d:=.non) ?_;unfold Cq;rw[h,az];dsimp only;rw[e];dsimp only;rw[set_append_right _ _ (Te _),U6];rfl
section
variable {M:aq}{r:Nat->Rc}{k:Nat}{x0 x8 x9 x10 x12:Option D}
theorem qi {P:Pc}{T:Int}{t:mY}(h0:bI M)(pp:P.Pure)(hT:∀N:aq,(∀i,i<M.length->N[i]?=M[i]?)->t.ok N=true)(hg:∀(N:aq) (x11 x13 x14:Option D),(∀i,i<M.length->N[i]?=M[i]?)->g2 aB (ae 7) (ae 4) (eL x0 k x8 x9 x10 x11 x12 x13 x14) N=O (I T) N):∀(td:List (Int×Dd)) (s:bV) (x11 x14:Option D),a9 5 s->(∀p∈td,kN s p.2)->
  ∃y11 y14,cn t (b8 [14,11]) AV (tq td) (eL x0 k x8 x9 x10 x11 x12 (Z (R (M.length+3))) x14) (ay M s.d P)=O (.nx (eL x0 k x8 x9 x10 y11 x12 (Z (R (M.length+3))) y14)) (ay M (gR T td s).d P)
 | [],s,x11,x14,ok,_=>⟨x11,x14,by
  show(if t.ok _=true then _ else _)=_;rw[if_pos (hT (ay M s.d P) λi hi=>getElem?_append_left hi)];rfl⟩
 | p::td,s,x11,x14,ok,hd=>by
  have same:∀i,i<M.length->(ay M s.d P)[i]?=M[i]?:=λi hi=>getElem?_append_left hi
  have d0:=hd p mem_cons_self;have tst:aJ (g2 (aW false) (ae 14) (g2 aB (ae 7) (ae 4))) (eL x0 k x8 x9 x10 (Z p.2.d) x12 (Z (R (M.length+3))) (Z (I p.1))) (ay M s.d P)=O (decide (p.1=T)) (ay M s.d P):=
   dh (aC rfl (hg _ _ _ _ same) (sP _ _ _))
  by_cases q:p.1=T
  ·obtain⟨y11,y14,e⟩:=qi h0 pp hT hg td (a6 s p.2) (Z p.2.d) (Z (I p.1)) (kY ok d0) λq hq=>qE (hd q (mem_cons_of_mem _ hq))
   refine⟨y11,y14,E0 (hT _ same) rfl ((tP (tst.trans (by rw[decide_eq_true q]))).trans (Ap (i:=4) Au (show 4<5 by decide) rfl (m9 (x:=s.d) (aC (x:=R (M.length+3)) rfl rfl (fO (x:=.non) Au (by exact ce (j:=4) rfl))) rfl (sU ok (by decide) d0 (f9 h0 (dP s) pp))))) ?_⟩;have ew:gR T (p::td) s=gR T td (a6 s p.2):=by
    show gR T td (if p.1=T then a6 s p.2 else s)=_;rw[if_pos q]
   rw[ew,<-e];show cn _ _ _ _ _ ((ay M s.d P).set (M.length+3) (.lst [R M.length,R (M.length+1),R (M.length+2),.lst P.lost,(a6 s p.2).d]))=_;rw[sX];rfl
  ·obtain⟨y11,y14,e⟩:=qi h0 pp hT hg td s (Z p.2.d) (Z (I p.1)) ok λq hq=>hd q (mem_cons_of_mem _ hq)
   refine⟨y11,y14,E0 (hT _ same) rfl ((m6 (tst.trans (by rw[decide_eq_false q]))).trans rfl) ?_⟩;have ew:gR T (p::td) s=gR T td s:=by
    show gR T td (if p.1=T then a6 s p.2 else s)=_;rw[if_neg q]
   rw[ew];exact e
theorem OA {n:Nat}{x11 x13 x14:Option D}{Q:Fl->aq->Prop}(iw:Two M r)(hk:k<2)(gs:Good n (r k))(hn:n<=60)
  (hQ:∀E y11 y13 y14,bI (M++E)->Q (.nx (eL x0 k x8 x9 x10 y11 x12 y13 y14)) (M++E)):Wp (sv (eL x0 k x8 x9 x10 x11 x12 x13 x14) M) Q:=by
 have vf:∀(N:aq) (x11 x13 x14:Option D),(∀i,i<M.length->N[i]?=M[i]?)->g2 aB (ae 2) (ae 4) (eL x0 k x8 x9 x10 x11 x12 x13 x14) N=O (r k).fr N:=λN _ _ _ e=>aC rfl rfl (fO (x:=.non) ((e 1 (bO iw.fr)).trans iw.fr) (ce (gW (f:=λk=>(r k).fr) hk)))
 have vs:∀(N:aq) (x11 x13 x14:Option D),(∀i,i<M.length->N[i]?=M[i]?)->g2 aB (ae 3) (ae 4) (eL x0 k x8 x9 x10 x11 x12 x13 x14) N=O (r k).s.d N:=λN _ _ _ e=>aC rfl rfl (fO (x:=.non) ((e 2 (bO iw.st)).trans iw.st) (ce (gW (f:=λk=>(r k).s.d) hk)))
 have vg:∀(N:aq) (x11 x13 x14:Option D),(∀i,i<M.length->N[i]?=M[i]?)->g2 aB (ae 7) (ae 4) (eL x0 k x8 x9 x10 x11 x12 x13 x14) N=O (I (r k).T) N:=λN _ _ _ e=>aC rfl rfl (fO (x:=.non) ((e 15 (bO iw.gn)).trans iw.gn) (ce (gW (f:=λk=>I (r k).T) hk)))
 have vt:∀(N:aq) (x11 x13 x14:Option D),g2 aB (ae 6) (ae 4) (eL x0 k x8 x9 x10 x11 x12 x13 x14) N=O (R (13+k)) N:=λN _ _ _=>aC rfl rfl (nL (gW (f:=λk=>R (13+k)) hk))
 have vb:∀(N:aq) (x11 x13 x14:Option D),g2 aB (ae 5) (ae 4) (eL x0 k x8 x9 x10 x11 x12 x13 x14) N=O (R (r k).L.b) N:=λN _ _ _=>aC rfl rfl (nL (by rw[iw.lb k hk];exact gW (f:=λk=>R (3+5*k)) hk))
 have tdM:∀N:aq,(∀i,i<M.length->N[i]?=M[i]?)->N[13+k]?=Z (.lst (tq (r k).td)):=λN e=>(e _ (bO (iw.td k hk))).trans (iw.td k hk)
 have bm:=iw.bm k hk;obtain⟨k',s',el,pp,ok',en,lt,eT,dd'⟩:=zU (M0:=M) (tm:=R (13+k)) (by decide) gs.f gs.ok gs.t1 gs.t0 gs.pl iw.sh (λE=>by
  unfold a7;dsimp only;rw[tdM (M++E) λi hi=>getElem?_append_left hi])
 have ew:gR (r k).T (r k).td s'=fu (r k).td (r k).s:=(IL lt eT).trans en;have hT:∀N:aq,(∀i,i<M.length->N[i]?=M[i]?)->(⟨tq (r k).td,Z (13+k,tq (r k).td)⟩:mY).ok N=true:=λN e=>by
  unfold mY.ok;dsimp only;rw[tdM N e];exact gE _
 generalize hP:planP (r k).w (r k).g (r k).m (r k).T (r k).td (r k).s 0 (Hs (r k).s)=P at *;have self:∀i,i<M.length->M[i]?=M[i]?:=λ_ _=>rfl
 have sN:∀i,i<M.length->(ay M s'.d P)[i]?=M[i]?:=λi hi=>getElem?_append_left hi
 have sN2:∀i,i<M.length->(ay M (fu (r k).td (r k).s).d P)[i]?=M[i]?:=λi hi=>getElem?_append_left hi
 unfold sv;refine rF (cY (OG (vf M _ _ _ self) (vs M _ _ _ self) (vt M _ _ _) (vg M _ _ _ self) el)) ?_;obtain⟨y11,y14,ef⟩:=qi (M:=M) (P:=P) (T:=(r k).T) (k:=k) (x0:=x0) (x8:=x8) (x9:=x9) (x10:=x10) (x12:=x12) iw.sh pp hT vg (r k).td s' x11 x14 ok' dd';rw[ew] at ef;have gi:bW (g2 aB (ae 6) (ae 4)) (eL x0 k x8 x9 x10 x11 x12 (Z (R (M.length+3))) x14) (ay M s'.d P)=O ⟨tq (r k).td,Z (13+k,tq (r k).td)⟩ (ay M s'.d P):=by
  unfold bW;rw[vt,az];unfold F1;dsimp only;rw[tdM _ sN]
 refine rF (show gw _ _ _ (eL x0 k x8 x9 x10 x11 x12 (Z (R (M.length+3))) x14) (ay M s'.d P)=_ from lY gi ef) ?_;have sh2:=f9 (M0:=M) (st:=(fu (r k).td (r k).s).d) iw.sh (dP _) pp;have T5:(r k).T.toNat<=2400:=by
  have f:=gs.f;have fw:=f.w;have fg:=f.g;have fh:=f.h;have hb:(r k).h*((r k).w+(r k).g)<=40*60:=Wx (by omega) (by omega) (by omega) (by omega);have:=gs.t1;omega
 have m5:(r k).s.movers.length<=5:=by have:=gs.ok.ml;omega
 have ko:=hP▸bT.plan (w:=(r k).w) (g:=(r k).g) (m:=(r k).m) (T:=(r k).T) (r k).td (r k).s 0 (Hs (r k).s) m5 (.nil m5);have pn:=gs.pn;rw[hP] at pn;have rt:=GW (M1:=M) (L:=(r k).L) (w:=(r k).w) (h:=(r k).h) (g:=(r k).g) (m:=(r k).m) (T:=(r k).T) (B:=(r k).B) (s:=fu (r k).td (r k).s) (P:=P) (kk:=5) sh2 bm (Iv _) gs.iv.te gs.iv.st (TL gs.iv.rl (by omega)) (TL gs.iv.lost (by omega)) pn.rows pn.tch pn.grd pn.lost ko (by decide);refine rF ((m6 (Im (Ea (BC (vb _ _ _ _) rfl (vg _ _ _ _ sN2) rt)))).trans rfl) ?_;have k1:dE (ay M (fu (r k).td (r k).s).d P) (r k).L (r k).fr (r k).B:=bm.app;have rl:=TL gs.iv.rl (show(r k).T.toNat<=90000 by omega);refine rF (DQ (iQ (m:="picture") (n:=1) (ga:=ag) (vb _ _ _ _) k1.o rfl (ds:=[]) rfl rfl (vn k1 rl))) ?_;have k2:dE (ay M (fu (r k).td (r k).s).d P++[.lst []]) (r k).L (r k).fr (r k).B:=k1.app;have c2:=DQ (iQ (m:="lost") (n:=1) (ga:=ag) (vb _ y11 (Z (R (M.length+3))) y14) k2.o rfl (ds:=[]) rfl rfl (Ge k2 (TL gs.iv.lost (by omega))));refine cy c2 ?_;have sh3:=ma (o:=.lst []) (ma (o:=.lst []) sh2 rfl) rfl;have e3:ay M (fu (r k).td (r k).s).d P++[.lst []]++[.lst []]=M++(qO M.length (fu (r k).td (r k).s).d P++[.lst []]++[.lst []]):=by
  unfold ay;simp only[append_assoc]
 rw[e3] at sh3 ⊢;exact hQ _ _ _ _ sh3
end
local macro_rules | `(tactic| simp_all_arith!) => `(tactic| with_reducible refine tD (by assumption) (by omega) (by omega) fun v M q0 q1 t => ?_)
abbrev eT (x0 x4 x8 x9 x10 x11 x12 x13 x14:Option D):dY:=[x0,Z (R 0),Z (R 1),Z (R 2),x4,Z (.lst [R 3,R 8]),Z (.lst [R 13,R 14]),Z (R 15),x8,x9,x10,x11,x12,x13,x14]
def D9 (d:Dd):aG 28 d.d=true:=by
 cases d with
 | shape i o=>cases o <;> rfl
 | _=>rfl
def Kh:GS:=(aj (aQ 11 (ah 3 je (aa (ae 1) (aa (g2 aB (ae 2) (ae 9)) (aa (g2 aB (ae 3) (ae 9)) ag))))) (aj (bK (fc "Beam" "deed" 2 fj (g2 aB (ae 5) (ae 9)) (aa (ae 11) ag))) (bK (gX (g2 aB (ae 6) (ae 9)) (aP (aa (g2 aB (ae 7) (ae 9)) (aa (ae 11) ag)))))))
def RS:GS:=(aj (aQ 12 (aM zT (aa (ae 10) (aa (g2 bx (gC (I 1)) (ah 2 aw (aa (ae 1) (aa (gC (I 9)) ag)))) ag)))) (aj (bK (fc "Beam" "go" 2 iA (g2 aB (ae 5) (ae 9)) (aa (ae 12) ag))) (ki (ae 7) (ae 9) (g2 bx (g2 aB (ae 7) (ae 9)) (ae 12)))))
def Gb (ns:List Int)(n:Nat)(x0 x4 x8 x13 x14:Option D)(f:Fl)(N:aq):Prop:=∃y9 y10 y11 y12 rest' r',f=.nx (eT x0 x4 x8 y9 y10 y11 y12 x13 x14)/\cw ns rest' N/\Two N r'/\∀k,k<2->Good n (r' k)
def Good.up {n:Nat}{r:Rc}(g:Good n r):Good (n+1) r:={g with few:=Zn g.few}
section
variable {ns:List Int}{rest M:aq}{r:Nat->Rc}{n a:Nat}{x0 x4 x8 x10 x11 x12 x13 x14:Option D}
theorem Qt (iw:Two M r)(ha:a<2):g2 aB (ae 2) (ae 9) (eT x0 x4 x8 (Z (I a)) x10 x11 x12 x13 x14) M=O (r a).fr M:=aC rfl rfl (fO (x:=.non) iw.fr (ce (gW (f:=λk=>(r k).fr) ha)))
theorem S2 (iw:Two M r)(ha:a<2):g2 aB (ae 3) (ae 9) (eT x0 x4 x8 (Z (I a)) x10 x11 x12 x13 x14) M=O (r a).s.d M:=aC rfl rfl (fO (x:=.non) iw.st (ce (gW (f:=λk=>(r k).s.d) ha)))
def QY {T:Int}{xs:List D}(e:M[15]?=Z (.lst xs))(h:xs[a]?=Z (I T)):g2 aB (ae 7) (ae 9) (eT x0 x4 x8 (Z (I a)) x10 x11 x12 x13 x14) M=O (I T) M:=aC rfl rfl (fO (x:=.non) e (ce h))
def SO (ha:a<2):g2 aB (ae 6) (ae 9) (eT x0 x4 x8 (Z (I a)) x10 x11 x12 x13 x14) M=O (R (13+a)) M:=aC rfl rfl (nL (gW (f:=λk=>R (13+k)) ha))
theorem SI (iw:Two M r)(ha:a<2){N:aq}:g2 aB (ae 5) (ae 9) (eT x0 x4 x8 (Z (I a)) x10 x11 x12 x13 x14) N=O (R (r a).L.b) N:=aC rfl rfl (nL (by rw[iw.lb a ha];exact gW (f:=λk=>R (3+5*k)) ha))
def yz {td:List (Int×Dd)}:∀{s:bV} {d:Dd},kN s d->kN (fu td s) d:=by
 induction td with
 | nil=>exact λh=>h
 | cons p td ih=>exact λh=>ih (qE h)
def zy (td:List (Int×Dd))(p:Int×Dd)(s:bV):fu (td++[p]) s=a6 (fu td s) p.2:=by
 unfold fu;rw[foldl_append];rfl
theorem HM (t:cw ns rest M)(iw:Two M r)(gs:∀k,k<2->Good n (r k))(hn:n<60)(ha:a<2)(hl:(r a).T<(r a).h*((r a).w+(r a).g)):Wp (Kh (eT x0 x4 x8 (Z (I a)) x10 x11 x12 x13 x14) M) (Gb ns (n+1) x0 x4 x8 x13 x14):=by
 have g:=gs a ha;have f:=g.f;have fw:=f.w;have fh:=f.h;refine vc (BI (xq (bh (g:=ae 1) rfl (bh (Qt iw ha) (bh (S2 iw ha) eJ))) rfl (Dn (more:=[I (r a).g,I (r a).m]) t g.ok (by decide) (by omega) (by omega) λdd M1 dk t1=>?_)));have I1:=sM t iw t1;show Wp (aj _ _ (eT x0 x4 x8 (Z (I a)) x10 (Z dd.d) x12 x13 x14) M1) _;have bm:=I1.bm a ha;have ok3:=kY g.ok2 (yz dk);have e1:=DP bm.v g.ok2 (by decide) f g.iv.st (yz dk) (by rw[g.iv.te];omega);generalize hM2:av M1 (r a).fr (r a).L { (r a).B with st:=(a6 (fu (r a).td (r a).s) dd).d}=M2;have e1':fj [R (r a).L.b,dd.d] M1=O .non M2:=by
  rw[<-hM2];exact(congrArg (fj [R (r a).L.b,dd.d]) bm.eq.symm).trans e1
 refine rF (cb (iQ (go:=g2 aB (ae 5) (ae 9)) (ga:=aa (ae 11) ag) (SI I1 ha) bm.o rfl (ds:=[dd.d]) rfl rfl e1')) ?_;have no:∀i,i∉(r a).L.all->M2[i]?=M1[i]?:=λi hi=>by rw[<-hM2];exact Ks (B:={ (r a).B with st:=(a6 (fu (r a).td (r a).s) dd).d}) bm.v hi
 have far:∀i,i<3\/(13<=i/\i<16)->i∉(r a).L.all:=λi hi z=>by have:=I1.own a ha i z;omega
 have m13:M2[13+a]?=Z (.lst (tq (r a).td)):=(no _ (far _ (by omega))).trans (I1.td a ha);have m15:M2[15]?=Z (.lst [I (r 0).T,I (r 1).T]):=(no _ (far _ (by omega))).trans I1.gn;have tup:aP (aa (g2 aB (ae 7) (ae 9)) (aa (ae 11) ag)) (eT x0 x4 x8 (Z (I a)) x10 (Z dd.d) x12 x13 x14) M2=O (U [I (r a).T,dd.d]) M2:=iT (bh (QY m15 (gW (f:=λk=>I (r k).T) ha)) (bh rfl eJ));have few:=g.few;have k4:=qI (SO ha) m13 tup m13 (by unfold tq;rw[length_map];omega);refine cy (cb k4) ?_;have et:tq (r a).td++[U [I (r a).T,dd.d]]=tq ((r a).td++[((r a).T,dd)]):=by unfold tq;rw[map_append];rfl
 rw[et];have l2:M2.length=M1.length:=by rw[<-hM2];exact sY
 have ba:dE M2 (r a).L (r a).fr { (r a).B with st:=(a6 (fu (r a).td (r a).s) dd).d}:=by rw[<-hM2];exact J3 (B:={ (r a).B with st:=(a6 (fu (r a).td (r a).s) dd).d}) bm.v
 have iv:=xO (dd:=dd) g.iv;have s2:bI M2:=by rw[<-hM2];exact ka I1.sh rfl bm.v iv.p
 have s3:bI (M2.set (13+a) (.lst (tq ((r a).td++[((r a).T,dd)])))):=by
  unfold bI;rw[length_set];refine all_eq_true.mpr λx hx=>?_
  rcases mem_or_eq_of_mem_set hx with q|q
  ·exact all_eq_true.mp s2 x q
  ·subst q;refine all_eq_true.mpr λx hx=>?_
   unfold tq at hx;obtain⟨p,_,rfl⟩:=mem_map.mp hx;refine bA 30 _ ?_;show(true&&(aG 29 p.2.d&&true))=true;have:=D9 p.2;rw[o0 (this),aaz];rfl
 have q0:∀i,i≠13+a->(M2.set (13+a) (.lst (tq ((r a).td++[((r a).T,dd)]))))[i]?=M2[i]?:=λi hi=>getElem?_set_ne (Uj hi)
 obtain⟨rest',t'⟩:=Cd t1 (M':=M2.set (13+a) (.lst (tq ((r a).td++[((r a).T,dd)])))) ((q0 0 (by omega)).trans (no 0 (far 0 (by omega))));refine⟨_,_,_,_,rest',bj r a {r a with td:=(r a).td++[((r a).T,dd)],B:={ (r a).B with st:=(a6 (fu (r a).td (r a).s) dd).d}},rfl,t',?_,λk hk=>?_⟩
 ·refine I1.step ha s3 rfl rfl ((q0 1 (by omega)).trans (no 1 (far 1 (by omega)))) ((q0 2 (by omega)).trans (no 2 (far 2 (by omega)))) ?_ ?_ (λk hk hn=>⟨(q0 _ (by omega)).trans (no _ (far _ (by omega))),λi hi=>(q0 i (by have:=I1.own k hk i hi;omega)).trans (no i λz=>I1.ap k a hk ha hn i hi z)⟩) (ba.move λi hi=>q0 i (by have:=I1.own a ha i hi;omega)) rfl (λi hi=>.inl hi)
  ·rw[q0 15 (by omega),m15];congr 2;rcases a with _|_|a
   ·rfl
   ·rfl
   ·omega
  ·exact getElem?_set_self (by rw[l2];exact bO (I1.td a ha))
 ·by_cases q:k=a
  ·subst q;rw[iM];refine⟨f,g.ok,?_,g.t0,g.t1,⟨?_,?_,?_,?_⟩,?_,?_,?_⟩
   ·show a9 5 (fu ((r k).td++[((r k).T,dd)]) (r k).s);rw[zy];exact ok3
   ·intro p hp;rcases mem_append.mp hp with q|q
    ·exact g.pl.rng p q
    ·rw[mem_singleton] at q;subst q;exact⟨g.t0,Yu _⟩
   ·show(((r k).td++[((r k).T,dd)]).map (·.1)).Pairwise (·<=·);rw[map_append,List.pairwise_append];refine⟨g.pl.ord,by simp,λx hx y hy=>?_⟩;obtain⟨p,hp,rfl⟩:=mem_map.mp hx;simp only[map_cons,map_nil,mem_singleton] at hy;subst hy;exact(g.pl.rng p hp).2
   ·intro p hp;rcases mem_append.mp hp with q|q
    ·exact g.pl.dd p q
    ·rw[mem_singleton] at q;subst q;exact dk
   ·show((r k).td++[((r k).T,dd)]).length<=3000;rw[length_append,length_singleton];omega
   ·show((r k).td++[((r k).T,dd)]).length<=n+1;rw[length_append,length_singleton];omega
   ·show mf _ _ _ 5 (fu ((r k).td++[((r k).T,dd)]) (r k).s) (r k).T _;rw[zy];exact iv
   ·show xS _ _ _ 5 (r k).T (planP _ _ _ (r k).T ((r k).td++[((r k).T,dd)]) (r k).s 0 _) _;rw[sw];exact zm g.pn
  ·rw[g6 q];exact(gs k hk).up
def OJ {q p k i:Nat}{g:GE}{xs:List D}{x:D}{ρ:dY}{M:aq}(h:M[k]?=Z (.lst xs))(hi:i<xs.length)(hv:ρ[q]?=Z (Z (R k)))(hp:ρ[p]?=Z (Z (I i)))(hg:g ρ M=O x M):ki (ae q) (ae p) g ρ M=O (.nx ρ) (M.set k (.lst (xs.set i x))):=by
 refine xC hg ?_;rw[show ae q ρ M=O (R k) M by unfold ae;rw[hv],az,show ae p ρ M=O (I i) M by unfold ae;rw[hp],az,zV h hi,az]
theorem RF (t:cw ns rest M)(iw:Two M r)(gs:∀k,k<2->Good n (r k))(ha:a<2)(hl:(r a).T<(r a).h*((r a).w+(r a).g)):Wp (RS (eT x0 x4 x8 (Z (I a)) (Z (I ((r a).h*((r a).w+(r a).g)-(r a).T))) x11 x12 x13 x14) M) (Gb ns (n+1) x0 x4 x8 x13 x14):=by
 have g:=gs a ha;have f:=g.f;have t0:=t;unfold RS;refine vc (BI ?_);simp_arith;have I1:=sM t0 iw t;generalize hc:(if 1+v<(r a).h*((r a).w+(r a).g)-(r a).T then 1+v else(r a).h*((r a).w+(r a).g)-(r a).T)=c;have hc1:1<=c/\c<=(r a).h*((r a).w+(r a).g)-(r a).T:=by split at hc <;> omega
 clear hc;show Wp (aj _ _ (eT x0 x4 x8 (Z (I a)) (Z (I ((r a).h*((r a).w+(r a).g)-(r a).T))) x11 (Z (I c)) x13 x14) M) _;have bm:=I1.bm a ha;obtain⟨B',iv',pn',q,e1⟩:=KH (k:=c) g.ok2 (by decide) f g.t0 (by omega) (by omega) g.iv g.pn;obtain⟨e2,v2⟩:=e1 M (r a).L bm.v I1.sh;generalize hM2:av (zS M q) (bP (r a).w (r a).h (r a).g (r a).m) ((r a).L.more M.length q) B'=M2 at e2;have e1':iA [R (r a).L.b,I c] M=O .non M2:=(congrArg (iA [R (r a).L.b,I c]) bm.eq.symm).trans e2;refine rF (cb (iQ (go:=g2 aB (ae 5) (ae 9)) (ga:=aa (ae 12) ag) (SI I1 ha) bm.o rfl (ds:=[I c]) rfl rfl e1')) ?_;have al:∀i,i∈((r a).L.more M.length q).all->i∈(r a).L.all\/M.length<=i:=λi hi=>by
  rcases mem_append.mp (show i∈(r a).L.all++(Tw q).map (M.length+·) from hi) with z|z
  ·exact .inl z
  ·obtain⟨j,_,rfl⟩:=mem_map.mp z;exact .inr (Vw _ _)
 have no:∀i,i<M.length->i∉(r a).L.all->M2[i]?=M[i]?:=λi h1 h2=>by
  rw[<-hM2];exact(Ks v2 λz=>(al i z).elim h2 λy=>by omega).trans (getElem?_append_left h1)
 have far:∀i,i<3\/(13<=i/\i<16)->i∉(r a).L.all:=λi hi z=>by have:=I1.own a ha i z;omega
 have l16:=bO I1.gn;have m15:M2[15]?=Z (.lst [I (r 0).T,I (r 1).T]):=(no _ l16 (far _ (by omega))).trans I1.gn;refine cy (OJ (q:=7) (p:=9) (i:=a) m15 (by simpa using ha) rfl rfl (aC (QY m15 (gW (f:=λk=>I (r k).T) ha)) rfl rfl)) ?_;have s2:bI M2:=by rw[<-hM2];exact ka (BF I1.sh) rfl v2 iv'.p
 have ba:dE M2 ((r a).L.more M.length q) (r a).fr B':=by rw[<-hM2];exact J3 v2
 have s3:bI (M2.set 15 (.lst (([I (r 0).T,I (r 1).T]:List D).set a (I ((r a).T+c))))):=by
  unfold bI;rw[length_set];refine all_eq_true.mpr λx hx=>?_
  rcases mem_or_eq_of_mem_set hx with q|q
  ·exact all_eq_true.mp s2 x q
  ·subst q;rcases a with _|_|a
   ·rfl
   ·rfl
   ·omega
 have q0:∀i,i≠15->(M2.set 15 (.lst (([I (r 0).T,I (r 1).T]:List D).set a (I ((r a).T+c)))))[i]?=M2[i]?:=λi hi=>getElem?_set_ne (Uj hi)
 obtain⟨rest',t'⟩:=Cd t (M':=M2.set 15 (.lst (([I (r 0).T,I (r 1).T]:List D).set a (I ((r a).T+c))))) ((q0 0 (by omega)).trans (no 0 (by omega) (far 0 (by omega))));refine⟨_,_,_,_,rest',bj r a {r a with T:=(r a).T+c,L:=(r a).L.more M.length q,B:=B'},rfl,t',?_,λk hk=>?_⟩
 ·refine I1.step ha s3 rfl rfl ((q0 1 (by omega)).trans (no 1 (by omega) (far 1 (by omega)))) ((q0 2 (by omega)).trans (no 2 (by omega) (far 2 (by omega)))) (getElem?_set_self (bO m15)) ?_ (λk hk hn=>⟨(q0 _ (by omega)).trans (no _ (by omega) (far _ (by omega))),λi hi=>(q0 i (by have:=I1.own k hk i hi;omega)).trans (no i ((I1.bm k hk).v.lt i hi) λz=>I1.ap k a hk ha hn i hi z)⟩) (ba.move λi hi=>q0 i ?_) rfl al
  ·exact(q0 _ (by omega)).trans ((no _ (by omega) (far _ (by omega))).trans (I1.td a ha))
  ·rcases al i hi with z|z
   ·have:=I1.own a ha i z;omega
   ·omega
 ·by_cases z:k=a
  ·subst z;rw[iM];refine⟨f,g.ok,g.ok2,by have:=g.t0;show 0<=(r k).T+c;omega,by show(r k).T+c<=(r k).h*((r k).w+(r k).g);omega,⟨λp hp=>⟨(g.pl.rng p hp).1,by have:=(g.pl.rng p hp).2;show p.1<=(r k).T+c;omega⟩,g.pl.ord,g.pl.dd,g.pl.len⟩,Zn g.few,iv',?_⟩;show xS _ _ _ 5 ((r k).T+c) (planP _ _ _ ((r k).T+c) (r k).td (r k).s 0 _) _;rw[zb (by omega) _ _ _ _ g.t0 λp hp=>(g.pl.rng p hp).2];exact pn'
  ·rw[g6 z];exact(gs k hk).up
theorem Lh {x9:Option D}{Q:Fl->aq->Prop}(t:cw ns rest M)(iw:Two M r)(gs:∀k,k<2->Good n (r k))(hn:n<60)
  (hQ:∀y4 y9 y10 y11 y12 y13 y14 rest' M' r',cw ns rest' M'->Two M' r'->(∀k,k<2->Good (n+1) (r' k))->Q (.nx (eT x0 y4 x8 y9 y10 y11 y12 y13 y14)) M'):Wp (wk (eT x0 x4 x8 x9 x10 x11 x12 x13 x14) M) Q:=by
 unfold wk;refine vc (BI (xq rfl rfl (tD t (by decide) (by decide) λv M1 q0 q1 t1=>?_)));obtain⟨a,rfl⟩:=Ts q0;have ha:a<2:=by omega
 have I1:=sM t iw t1;have g:=gs a ha;have f:=g.f;have fw:=f.w;have fg:=f.g;have fh:=f.h;show Wp (aj _ _ (eT x0 x4 x8 (Z (I a)) x10 x11 x12 x13 x14) M1) Q;refine rF (cY (aC (aC (aC (Qt I1 ha) rfl (cr (k:=1) rfl)) (aC (aC (Qt I1 ha) rfl (cr (k:=0) rfl)) (aC (Qt I1 ha) rfl (cr (k:=2) rfl)) rfl) (Eu (by omega) (by omega) _)) (QY I1.gn (gW (f:=λk=>I (r k).T) ha)) rfl)) ?_;show Wp (aj _ _ (eT x0 x4 x8 (Z (I a)) (Z (I ((r a).h*((r a).w+(r a).g)-(r a).T))) x11 x12 x13 x14) M1) Q;clear t iw;refine GC (Gb ns (n+1) x0 x4 x8 x13 x14) ?_ λfl N hA=>?_
 ·show Wp (dD (fL (aJ (g2 (aW false) (ah 2 aw (aa (ae 1) (aa (gC (I 2)) ag))) (gC (I 0)))) (aJ (g2 zE (ae 10) (gC (I 0))))) Kh (dD (aJ (g2 zE (ae 10) (gC (I 0)))) RS aL) _ _) _;simp_arith
  all_goals first
   | exact HM t (sM t1 I1 t) gs hn ha (by omega)
   | exact RF t (sM t1 I1 t) gs ha (by omega)
   | exact⟨_,_,_,_,_,r,rfl,t,sM t1 I1 t,λk hk=>(gs k hk).up⟩
 ·obtain⟨y9,y10,y11,y12,rest',r',rfl,t',I',G'⟩:=hA;show Wp (gw (dO (aa (gC (I 2)) ag)) (dL 4) sv (eT x0 x4 x8 y9 y10 y11 y12 x13 x14) N) Q;simp_arith;refine xx (n:=2) (λ_ ρ N=>∃y4 y11 y13 y14 rest',ρ=eT x0 y4 x8 y9 y10 y11 y12 y13 y14/\cw ns rest' N/\Two N r') ⟨_,_,_,_,_,rfl,t',I'⟩ (λj ρ N hj e=>?_) λρ N e=>?_
  ·obtain⟨y4,y11,y13,y14,rest2,rfl,t2,I2⟩:=e;exact⟨_,rfl,OA I2 hj (G' j hj) (by omega) λE z11 z13 z14 sh=>⟨_,_,_,_,_,rfl,Gz t2,Iw I2 sh⟩⟩
  ·obtain⟨y4,y11,y13,y14,rest2,rfl,t2,I2⟩:=e;exact hQ _ _ _ _ _ _ _ _ _ _ t2 I2 G'
end
local macro_rules | `(tactic| simp_all_arith!) => `(tactic| with_reducible refine tD (by assumption) (by omega) (by omega) fun v M q0 q1 t => ?_)
def OU {ds0:List D}{ge:GE}{ρ:dY}{M M1 M2:aq}{d0 d1 e0 e1:D}(h0:ge (Z d0::ρ) M=O e0 M1)(h1:ge (Z d1::ρ) M1=O e1 M2):bE ⟨ds0,Y⟩ bq ge [d0,d1] ρ M=O [e0,e1] M2:=by
 unfold bE;rw[show(⟨ds0,Y⟩:mY).ok M=true from rfl,if_pos rfl,show bq (Z d0::ρ) M=O true M from rfl];dsimp only;rw[h0];dsimp only;unfold bE;rw[show(⟨ds0,Y⟩:mY).ok M1=true from rfl,if_pos rfl,show bq (Z d1::ρ) M1=O true M1 from rfl];dsimp only;rw[h1];rfl
structure QL (r:Nat->Rc)(k:Nat):Prop where
 f:ig (r k).w (r k).h (r k).g (r k).m
 ok:a9 5 (r k).s
def lists (r:Nat->Rc)(j:Nat):aq:=[.lst ((Tw j).map λk=>(r k).fr),.lst ((Tw j).map λk=>(r k).s.d)]
def new (r:Nat->Rc)(k:Nat):Rc:={r k with td:=[],T:=0,L:=L0 (3+5*k),B:=qP (r k).s.d}
def M3 (t:MO)(r:Nat->Rc):aq:=t::lists r 2
def Oy (t:MO)(r:Nat->Rc):aq:=m4 (m4 (M3 t r) (r 0).fr (r 0).s.d) (r 1).fr (r 1).s.d++[.lst [],.lst [],.lst [I 0,I 0]]
def Gd {r:Nat->Rc}{k:Nat}(p:QL r k):Good 0 (new r k):=by
 have f:=p.f;have fw:=f.w;have fg:=f.g;have fh:=f.h;exact⟨f,p.ok,p.ok,Yu 0,Int.mul_nonneg (show 0<=(r k).h by omega) (show 0<=(r k).w+(r k).g by omega),⟨λ_ h=>(by cases h),.nil,λ_ h=>(by cases h),Uc _⟩,Uc _,Ob (dP _),⟨rfl,rfl,rfl,rfl,λq=>absurd q (by show¬(0:Int)<0 % _;simp)⟩⟩
def vE {M0:aq}{fr st:D}(h:bI M0)(hf:aG 30 fr=true)(hs:aG 30 st=true):bI (m4 M0 fr st):=by
 refine o6 h ?_;have f:∀k:Nat,k<=4->mh (M0.length+5) 30 (R (M0.length+k))=true:=λk hk=>decide_eq_true (by omega)
 simp only[all_cons,all_nil,Tz];refine⟨?_,rfl,rfl,rfl,rfl,trivial⟩;show(cF fr (L0 M0.length) (qP st)).all (λp=>mh (M0.length+5) 30 p.2)=true;unfold cF;simp only[all_cons,all_nil,Tz];exact⟨bA 30 _ hf,bA 30 _ hs,rfl,rfl,f 1 (by decide),f 2 (by decide),f 3 (by decide),f 4 (by decide),trivial⟩
def Jh {ns:List Int}{i c:Int}{r:Nat->Rc}:Two (Oy (tp ns i c) r) (new r):=by
 have a0:=FK (M3 (tp ns i c) r) (r 0).fr (r 0).s.d;have a1:=FK (m4 (M3 (tp ns i c) r) (r 0).fr (r 0).s.d) (r 1).fr (r 1).s.d;have pf:∀k,aG 30 (r k).fr=true:=λ_=>rfl
 refine⟨?_,rfl,rfl,rfl,λk hk=>?_,λk hk=>?_,λk hk=>rfl,λk hk i hi=>?_,λk j hk hj hn i hi z=>?_⟩
 ·have p:∀(f:Nat->D),(∀k,aG 30 (f k)=true)->uV 3 (.lst ((Tw 2).map f))=true:=λf h=>jS (all_eq_true.mpr λx hx=>by
   obtain⟨k,_,rfl⟩:=mem_map.mp hx;exact h k)
  have s3:bI (M3 (tp ns i c) r):=A0 (by
   show(lists r 2).all (uV 3)=true;unfold lists;rw[all_cons,all_cons,p _ pf,p _ λk=>dP _];rfl)
  exact o6 (vE (vE s3 (pf 0) (dP _)) (pf 1) (dP _)) rfl
 ·rcases k with _|_|k
  ·rfl
  ·rfl
  ·omega
 ·rcases k with _|_|k
  ·exact(dE.app (E:=[.obj "Beam" _,.lst [],.dT [],.dK [],.lst []]) a0).app
  ·exact a1.app
  ·omega
 ·have:i=3+5*k\/i=3+5*k+1\/i=3+5*k+2\/i=3+5*k+3\/i=3+5*k+4:=by simpa[new,L0,Pl.all] using hi
  omega
 ·have a:i=3+5*k\/i=3+5*k+1\/i=3+5*k+2\/i=3+5*k+3\/i=3+5*k+4:=by simpa[new,L0,Pl.all] using hi
  have b:i=3+5*j\/i=3+5*j+1\/i=3+5*j+2\/i=3+5*j+3\/i=3+5*j+4:=by simpa[new,L0,Pl.all] using z
  omega
def Bb {k:Nat}{d:D}{xs:List D}{M:aq}(h:M[k]?=Z (.lst xs))(hl:xs.length<1000000):uH k d M=O .non (M.set k (.lst (xs++[d]))):=by
 have e:=qI (go:=gC (R k)) (ge:=gC d) (ρ:=[]) (M:=M) rfl h rfl h hl;unfold gX at e;rw[show gC (R k) [] M=O (R k) M from rfl,az] at e;dsimp only at e;rw[h] at e;exact e
def zI {r:Nat->Rc}{j:Nat}{c:Rc}:lists (bj r j c) (j+1)=[.lst ((Tw j).map (λk=>(r k).fr)++[c.fr]),.lst ((Tw j).map (λk=>(r k).s.d)++[c.s.d])]:=by
 have e:∀(f:Rc->D),(Tw (j+1)).map (λk=>f (bj r j c k))=(Tw j).map (λk=>f (r k))++[f c]:=λf=>by
  rw[range_succ,map_append];congr 1
  ·exact map_congr_left λk hk=>by rw[g6 (TB (mem_range.mp hk))]
  ·show [f (bj r j c j)]=_;rw[iM]
 unfold lists;rw[e Rc.fr,e λc=>c.s.d]
abbrev eB (x0 x4:Option D):dY:=[x0,Z (R 0),Z (R 1),Z (R 2),x4,Y,Y,Y,Y,Y,Y,Y,Y,Y,Y]
def MJ {ns:List Int}{M:aq}{r:Nat->Rc}{j:Nat}{x0:Option D}{Q:Fl->aq->Prop}(t:cw ns (lists r j) M)(hj:j<2)(hQ:∀c M',ig c.w c.h c.g c.m->a9 5 c.s->cw ns (lists (bj r j c) (j+1)) M'->Q (.nx (eB x0 (Z (I j)))) M'):Wp (xu (eB x0 (Z (I j))) M) Q:=by
 have l1:∀{M:aq},cw ns (lists r j) M->M[1]?=Z (.lst ((Tw j).map λk=>(r k).fr)):=λ⟨_,_,_,e⟩=>by rw[e];rfl
 have e1:=l1 t;unfold xu;refine vc ?_;simp_arith;refine HG t (by decide) (by decide) λw h g m M1 kw kh kg km t1=>?_
 refine cy (Bb (l1 t1) (by rw[length_map,length_range];omega)) ?_;obtain⟨i,c,hi,rfl⟩:=t1;have t2:cw ns [.lst ((Tw j).map (λk=>(r k).fr)++[bP w h g m]),.lst ((Tw j).map λk=>(r k).s.d)] ((tp ns i c::lists r j).set 1 (.lst ((Tw j).map (λk=>(r k).fr)++[bP w h g m]))):=⟨i,c,hi,rfl⟩;show Wp (bK _ (eB x0 (Z (I j))) ((tp ns i c::lists r j).set 1 (.lst ((Tw j).map (λk=>(r k).fr)++[bP w h g m])))) Q;generalize ((tp ns i c::lists r j).set 1 (.lst ((Tw j).map (λk=>(r k).fr)++[bP w h g m])))=M2 at t2 ⊢;have l2:∀{M:aq},cw ns [.lst ((Tw j).map (λk=>(r k).fr)++[bP w h g m]),.lst ((Tw j).map λk=>(r k).s.d)] M->M[1]?=Z (.lst ((Tw j).map (λk=>(r k).fr)++[bP w h g m]))/\M[2]?=Z (.lst ((Tw j).map λk=>(r k).s.d)):=λ⟨_,_,_,e⟩=>by rw[e];exact⟨rfl,rfl⟩
 have e2:=(l2 t2).2;have e3:aB (R 1) (I j) M2=O (U [I w,I h,I g,I m]) M2:=fO (x:=.non) (l2 t2).1 (ce (by rw[getElem?_append_right (by simp)];simp;rfl));simp_arith;refine G5 (mm:=5) t2 (by omega) (by omega) (by decide) λs M3 sk t3=>?_
 refine cy (Bb (l2 t3).2 (by rw[length_map,length_range];omega)) ?_;obtain⟨i,c,hi,rfl⟩:=t3;exact hQ ⟨w,h,g,m,s,[],0,L0 0,qP .non⟩ _ ⟨⟨kw.1,by show w<=40;omega⟩,⟨kh.1,by show h<=40;omega⟩,kg,km⟩ sk ⟨i,c,hi,by rw[zI];rfl⟩
theorem law_true (ns:List Int)(hl:ns.length<=63):∃M',yK [.ro (ns.map I)] []=O (G true) M':=by
 suffices h:Wp (yK [.ro (ns.map I)] []) λd _=>d=G true by
  obtain⟨a,M,e,rfl⟩:=h.eq;exact⟨M,e⟩
 refine aN ?_;unfold Ej;simp_arith!;simp_arith;simp_arith!;simp_arith;simp_arith!;simp_arith;refine GC (λf N=>∃x4 r,f=.nx (eB (Z (.ro (ns.map I))) x4)/\cw ns (lists r 2) N/\∀k,k<2->QL r k) ?_ λf N h=>?_
 ·simp_arith;refine xx (n:=2) (λj ρ N=>∃x4 r,ρ=eB (Z (.ro (ns.map I))) x4/\cw ns (lists r j) N/\∀k,k<j->QL r k) ⟨Y,λ_=>⟨1,1,0,0,⟨[],0,0,[],[],[]⟩,[],0,L0 0,qP .non⟩,rfl,⟨0,0,by decide,rfl⟩,λk hk=>absurd hk (Nat.not_lt_zero k)⟩ (λj ρ N hj e=>?_) λρ N e=>?_
  ·obtain⟨x4,r,rfl,t,p⟩:=e;refine⟨_,rfl,MJ t hj λc M' fk sk t'=>⟨_,bj r j c,rfl,t',λk hk=>?_⟩⟩
   by_cases q:k=j
   ·subst q;exact⟨by rw[iM];exact fk,by rw[iM];exact sk⟩
   ·have:=p k (by omega);exact⟨by rw[g6 q];exact this.f,by rw[g6 q];exact this.ok⟩
  ·obtain⟨x4,r,rfl,t,p⟩:=e;exact⟨_,r,rfl,t,p⟩
 obtain⟨x4,r,rfl,t,p⟩:=h;show Wp (aj _ _ (eB (Z (.ro (ns.map I))) x4) N) _;refine GC (λf N=>∃r,f=.nx (eB (Z (.ro (ns.map I))) x4)/\cw ns (lists r 2) N/\∀k,k<2->QL r k) ?_ λf N h=>?_
 ·simp_arith
  ·obtain⟨i,c,hi,rfl⟩:=t;refine rF (Ap (q:=2) (k:=1) (i:=1) (x:=(r 0).fr) rfl (show 1<2 by decide) rfl (aC rfl rfl (fO (x:=.non) rfl rfl))) ?_;refine cy (Ap (q:=3) (k:=2) (i:=1) (x:=(r 0).s.d) rfl (show 1<2 by decide) rfl (aC rfl rfl (fO (x:=.non) rfl rfl))) ?_;refine⟨bj r 1 (r 0),rfl,⟨i,c,hi,rfl⟩,λk hk=>?_⟩;have:=p 0 (by decide);rcases k with _|_|k
   ·exact⟨this.f,this.ok⟩
   ·exact⟨this.f,this.ok⟩
   ·omega
  ·exact⟨r,rfl,t,p⟩
 obtain⟨r,rfl,t,p⟩:=h;obtain⟨i,c,hi,rfl⟩:=t;show Wp (aj _ _ (eB (Z (.ro (ns.map I))) x4) (M3 (tp ns i c) r)) _;have hc:∀k,k<2->∀M,cP [(r k).fr,(r k).s.d] M=O .non M:=λk hk M=>G0 (p k hk).f (p k hk).ok (by decide)
 have m0:wL (Z (I 0)::eB (Z (.ro (ns.map I))) x4) (M3 (tp ns i c) r)=O (R 3) (m4 (M3 (tp ns i c) r) (r 0).fr (r 0).s.d):=By (M0:=M3 (tp ns i c) r) (bh (aC rfl rfl (fO (x:=.non) rfl rfl)) (bh (aC rfl rfl (fO (x:=.non) rfl rfl)) eJ)) (hc 0 (by decide));have m1:wL (Z (I 1)::eB (Z (.ro (ns.map I))) x4) (m4 (M3 (tp ns i c) r) (r 0).fr (r 0).s.d)=O (R 8) (m4 (m4 (M3 (tp ns i c) r) (r 0).fr (r 0).s.d) (r 1).fr (r 1).s.d):=By (M0:=m4 (M3 (tp ns i c) r) (r 0).fr (r 0).s.d) (bh (aC rfl rfl (fO (x:=.non) rfl rfl)) (bh (aC rfl rfl (fO (x:=.non) rfl rfl)) eJ)) (hc 1 (by decide));refine rF (cY (IY (ds:=[I 0,I 1]) (wB (n:=2) (bh (g:=gC (I 2)) rfl eJ) (by omega)) (OU m0 m1) (by decide))) ?_;show Wp (aj _ _ [Z (.ro (ns.map I)),Z (R 0),Z (R 1),Z (R 2),x4,Z (.lst [R 3,R 8]),Y,Y,Y,Y,Y,Y,Y,Y,Y] _) _;refine rF (cY (FC (bh mQ (bh mQ eJ)))) ?_;refine rF (cY (DR (bh (g:=gC (I 0)) rfl (bh (g:=gC (I 0)) rfl eJ)))) ?_;show Wp (aj _ _ (eT (Z (.ro (ns.map I))) x4 Y Y Y Y Y Y Y) (Oy (tp ns i c) r)) _;have iw:=Jh (ns:=ns) (i:=i) (c:=c) (r:=r);have t:cw ns (Oy (tp ns i c) r).tail (Oy (tp ns i c) r):=⟨i,c,hi,rfl⟩;generalize Oy (tp ns i c) r=M at t iw ⊢;generalize M.tail=rest at t;have gs:∀k,k<2->Good 0 (new r k):=λk hk=>Gd (p k hk)
 generalize new r=r at iw gs;have t0:=t;refine vc ?_;simp_arith;refine tM [_,_] 20 60 (by simp;omega) (by simp) λy y0 y1=>?_
 simp_arith;have iw:=sM t0 iw t;refine xx (λj ρ N=>∃y4 x8 y9 y10 y11 y12 y13 y14 rest r,ρ=eT (Z (.ro (ns.map I))) y4 x8 y9 y10 y11 y12 y13 y14/\cw ns rest N/\Two N r/\∀k,k<2->Good j (r k)) ⟨_,_,_,_,_,_,_,_,_,_,rfl,t,iw,gs⟩ (λj ρ N hj e=>?_) λρ N e=>?_
 ·obtain⟨y4,x8,y9,y10,y11,y12,y13,y14,rest,r,rfl,t,iw,gs⟩:=e;exact⟨_,rfl,Lh t iw gs (by omega) λ_ _ _ _ _ _ _ _ _ _ t iw gs=>⟨_,_,_,_,_,_,_,_,_,_,rfl,t,iw,gs⟩⟩
 ·obtain⟨y4,x8,y9,y10,y11,y12,y13,y14,rest,r,rfl,t,iw,gs⟩:=e;simp_arith;rfl
end K13
theorem PySem.Challenge.cw_glowrow_k13_whole_two_beams_holds : PySem.Challenge.rw_glowrow_k13_whole_two_beams.Holds :=
 K13.pre K13.law_true
