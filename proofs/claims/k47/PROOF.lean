import PyProof.Rows.All
import Wide.All
import OpenK.AllK
import PySem.Challenge.RW_forerun_k47_whole_two_weavings
open Array renaming length_toList->ck,getElem?_eq_getElem->cA,getElem?_toList->dn,perm_iff_toList_perm->gF,getElem?_eq_none->iu,toList_inj->nu
open Array.Perm renaming mem_iff->pG,trans->rM,refl->r9
open Bool renaming false_ne_true->bK,and_eq_true->b8,false_eq_true->cO,eq_false_iff->eo,or_eq_false_iff->iZ,eq_iff_iff->lq,not_eq_true'->mF,not_eq_true->rR
open Classical renaming byContradiction->eC,not_imp->pZ
open Decidable renaming byContradiction->mf
open False renaming elim->c9
open ForInStep renaming yield->gg
open Iff renaming rfl->sd
open Int renaming emod_lt_of_pos->cg,emod_nonneg->cP,toNat_natCast->dZ,toNat_of_nonneg->lL,le_refl->m6,ne_of_lt->rC,le_of_lt->rD,zero_add->rE
open Int.ofNat renaming inj->sy
open List renaming getElem?_eq_getElem->bb,length_map->bf,getElem?_eq_some_iff->bo,mem_singleton->bp,mem_cons_of_mem->bq,mem_cons_self->br,map_cons->bt,mem_cons->bu,mem_append->bw,getElem?_map->bB,mem_map_of_mem->bC,length_append->bD,mem_map->bG,mem_append_right->bJ,size_toArray->bL,getD_eq_getElem?_getD->bM,map_append->bQ,mem_of_getElem?->bT,take_of_length_le->bU,length_cons->bW,nodup_cons->bY,mem_filter->b7,lookup_cons->ca,not_mem_nil->cf,mem_append_left->cp,take_add_one->cq,nodup_nil->cr,getElem?_append_left->cy,getElem?_eq_none->cz,append_assoc->cB,length_take->cC,sum_cons->cE,getElem?_of_mem->cK,length_drop->cL,take_length->cM,lookup->cU,filter_sublist->cW,nodup_append->da,mem_of_mem_drop->de,take_append_drop->dq,filter_cons->du,getElem?_append_right->dy,mem_of_mem_take->dA,map_congr_left->dC,length_singleton->dH,map_map->dJ,getElem?_take->dP,cons_append->dU,getElem_mem->dW,range->eI,getElem?_cons_zero->eO,foldl_cons->eU,pairwise_iff_getElem->e9,append_nil->fj,ext_getElem?->fq,length->fG,filter_cons_of_neg->fI,filter_cons_of_pos->fJ,sum_append_nat->fK,eq_nil_of_length_eq_zero->fQ,mem_filterMap->fV,length_replicate->gb,find?_cons->gc,nil_append->gh,all_cons->gA,pairwise_map->gD,getElem?_inj->gE,pairwise_append->gI,drop_zero->gN,drop_eq_getElem_cons->gP,Nodup->gU,eraseIdx_cons_succ->gY,getElem?_cons_succ->ig,eraseIdxIfInBounds_toArray->iE,replicate->iG,getElem_inj->iS,any_eq_true->iU,all_eq_true->iV,perm_cons_erase->i7,any_cons->i9,filterMap_cons->lj,getElem?_range->lG,getElem?_drop->lW,rel_of_pairwise_cons->ma,drop_sublist->mI,length_range->mJ,getElem?_replicate->mQ,map_drop->m7,map_take->m8,getElem?_set_self->nB,drop_eq_nil_of_le->nH,drop_of_length_le->nM,of_mem_zip->nQ,length_nil->nR,length_filter_le->nS,map_nil->nT,forIn_cons->nU,filterMap_append->on,perm_append_comm->oo,map->ou,getElem?_set_ne->oy,mem_erase_of_ne->oE,reverse_append->oV,filter_eq_self->oX,pairwise_cons->pJ,erase_sublist->pN,set_cons_zero->pO,take_sublist->pR,reverse_cons->pV,flatten_cons->pY,toArray->rm,reverse_nil->rJ,zipIdx_cons->rK,nodup_range->rL,mem_reverse->rN,drop_length->rO,mem_flatMap->rP,perm_middle->rQ,zipIdx_nil->r6,all_append->se,sum_append->sf
open List.Nodup renaming sublist->ii
open List.Pairwise renaming nil->fo,imp->mG
open List.Perm renaming trans->dQ
open List.Sublist renaming map->fR
open List.cons renaming injEq->gy,inj->sA
open Nat renaming le_refl->bn,le_trans->bO,ne_of_lt->bR,zero_le->bS,lt_of_lt_of_le->bX,lt_of_le_of_lt->b6,le_succ_of_le->cb,min_eq_left->cw,min_eq_right->cZ,le_add_right->eK,ne_of_gt->eX,lt_irrefl->fB,succ_le_succ->fP,lt_or_ge->gq,eq_zero_or_pos->lX,lt_succ_self->nh,le_of_eq->nP,zero_add->om,add_le_add_left->oR,add_assoc->pL,add_right_comm->pM,lt_succ_of_lt->pS,le_of_lt->p9,lt_trans->rg,sub_zero->rj,sub_self->rF,le_of_not_lt->rH,le_succ->rX
open Ne renaming symm->eW
open Option renaming map_eq_some_iff->b9,isSome_iff_exists->fm,map_some->lA,isSome_map->mo,isNone_some->pK,getD_none->rG
open Option.some renaming inj->bP,injEq->fA
open Or renaming inl->lU,inr->oI
open Prod renaming ext->pI
open Prod.mk renaming inj->oW
open PyProof renaming noPylong_of_log2->mC
open PyProof.Rows renaming callWith_type1->fW,reads_newData->mY,subscriptTail_builtinR->nF,entry_list_sort->nZ,entry_proto_collect'->oC,slot_list_sort->oN,args_list_sort->oO,lt_int->oP,listUpdate_at->pH,plain_sorted->ro,entry_sorted->rq,args_sorted1->rA
open PySem renaming wpAny_bind->ba,wpAny_pure->bh,sizeLine_eq->bN,wpAny_newObj_type->cQ,wpAny_setField_rec->cS,wpAny_call_entry->c8,wpAny_callSpecial?_slot->dv,wpAny_field->dD,wpAny_mono->dF,wpAny_dictEntries->dI,tupleKind_room_in1->dN,wpAny_holding->eA,wpAny_typeNameOfWhole_itemiter->eG,wpAny_typeNameOfWhole_keyiter->eL,wpAny_execs_nil->eS,mem_of_lookup->eT,codeAny_builtin->eV,wpAny_Call_Name_kw->eY,wpAny_notOrdered_dict->eZ,wpAny_typeNameOf_itemiter->fc,wpAny_truthy_bool->fh,wpAny_passesOwn->fi,wpAny_typeNameOf_keyiter->fu,wpAny_seqItems->fU,codeAny_mono->fZ,wpAny_dictEpoch->gp,wpAny_loadPart'->gu,wpAny_Call_method->gB,plainId_quiet->gC,wpAny_attempt->ie,wpAny_isOneOf_itemiter->iy,plainObj_wpAny_Assign_Attribute->iB,call_meets->iD,wpAny_setField->iI,call_meetsIn->iK,codeAny_handlers_test->iO,wpAny_execs_cons->iT,wpAny_pyIter_zip->iX,wpAny_rule->lh,wpAny_handleBy_cons->lI,wpAny_updateSeq->lJ,wpAny_pyIter_tuple->lQ,wpAny_letOwnedTupleGo_zip->lY,wpAny_fieldsOf->l8,call->mq,wpAny_comprehension_free->mz,wpAny_Call_method0_late->mT,wpAny_letGo->mZ,wpAny_newList->m3,wpAny_isInstance->nA,wpAny_pyNext_list_item->nD,codeAny_handlers_suite->nI,wpAny_pyNext_list_end->nO,wpAny_isOneOf_keyiter->n9,size_of_entries->oh,wpAny_load->oq,typeIs_str->ot,wpAny_loadName_local->oz,wpAny_updateSeq_pair->oA,wpAny_pyIter_keyiter->oB,wpAny_updateDictKeys->oH,wpAny_newTuple->oK,isSubtype_stop->oM,evalArgs_none->oQ,wpAny_handled->pE,wpAny_onRaise->pF,wpAny_call->pQ,Within->p8,wpAny_typeOf->rB
open PySem.Around renaming under_plainId->dz,under->rc
open PySem.Builtin.Dict renaming showsAll->gj,keyAndDefault->lO,updateFrom->m4,takeOut->oG
open PySem.Builtin.Dict_items renaming ownsTuple->dL,ownedTupleFields->gR,ownedTupleIsFree->gS,pairFromOwner->ik
open PySem.Builtin.Int renaming intBits->lB
open PySem.Builtin.List renaming listExtendWith->dt,listTooLong->gT,listSameRef->mH,listItems->nK
open PySem.Builtin.SmallTypes renaming ownedTupleIsFree->dE,nextOf->eu,ownedTupleHandOut->gO
open PySem.Builtin.Str renaming occurrences->gZ,strSliceIndices->lE,glued->mE,tooLong->oS
open PySem.Calls renaming spliced_cons->cR,callWith_builtin->df,evalArgs_plain->dR,spliced_nil->eR,Name_function_global->lM,call_function_entry->lZ,Constant_str->pq
open PySem.Code renaming isFrame->rf
open PySem.F renaming plainAttrs_list->bV,slot_list_append->cH,type_list_append->cI,plainAttrs_dict->dO,plain_extend_loop->eB,slot_dict_pop->eD,slot_dict_itemiterator_next->eM,slot_dict_keyiterator_next->eN,plain_list_iadd->fH,entry_dict_pop->ir,args_dict_itemiterator_next_1->iF,slot_dict_get->iL,type_dict_pop->iM,args_dict_keyiterator_next_1->iN,entry_dict_itemiterator_next->iP,slot_list_pop->iQ,type_list_pop->iR,entry_dict_keyiterator_next->iY,slot_dict_setdefault->lf,slot_zip_next->lF,plain_proto_collect->lH,slot_tuple_iterator_next->lN,entry_extend_loop->l9,args_tuple_add_2->mj,slot_list_remove->mK,type_list_remove->mL,slot_list_insert->mM,type_list_insert->mO,entry_tuple_add->mR,args_dict_pop_2->mU,args_dict_pop_3->mV,args_dict_get_3->mW,slot_dict_items->m5,slot_tuple_add->nE,entry_dict_get->nG,slot_dict_items_iter->nJ,plainAttrs_str->nN,slot_tuple_lt->og
open PySem.Heap renaming get?_push_of_some->bc,get?_push_size->bE,lt_size->bH,SameBut->cG,get?_update_other->dX,get?_update_self->eE,size_push->eP,get?_push_cases->oF,ExtBut->rZ
open PySem.Heap.SameBut renaming update->cV
open PySem.NameKind renaming free->dh,cell->mX
open PySem.Obj renaming mapSeq->dG,data_mapDictKeys->gH,data_mapFields->ic,isFreed_of_fields->nX,isFreed_of_dict->oY,cls_mapFields->pW
open PySem.Paired renaming length->bF
open PySem.PassesOwn renaming never->cx
open PySem.PyData renaming strOk->cN,depthAll->ib,depth->nW,canLay0->oJ,canLayAll0->pU
open PySem.SeqAt renaming noMixAll->iH,shaped->nV,noMix->oU
open PySem.SeqAt.EqAt renaming int_int->lS,str_str->lT,int_str->oZ,str_int->ph
open PySem.Shared renaming TypeIs->sw
open PySem.Spec renaming sameAll->lV,same->rY
open PySem.Str renaming ofString->bg,empty->fO,length->iC,length_append->mD
open PySem.Txt renaming slice->gM
open PySem.Value renaming ref->bI,none->cF,int->fM,str->gX,bool->iA,type->mh,float->rT
open PySem.W renaming Frag->bx,findIn->bZ,keepIn->dM,emptyDict->dY,mg_none_of->eQ,hasDictIn->fC,kitOne->fE,instObj->fN,hideAll_none->fS,plainGet->fT,plainOver->fY,nsIn->gG,hideAll->gJ,makesIn->gK,kia_one->gL,codeIn->gQ,fnOf->iq,exmOne->iJ,funFrames_hide->iW,hideAll_get->i8,methodCall_KW->lz,mg_of->lK,of_hideAll->lP,callWith_K->lR,kas_place->nY,plainGet_of->pA,isFn->pB,callWith_K0->pC,OpenLaw->pD,excIn->pT,exmAny->rS,methodObj->rV,specialIn->rW,lookIn->sg,Looks->si,mroIn->sk,WalkO->sq
open PySem.W.KatTups renaming cons->sB
open PySem.W.Looks renaming ld->pX
open Sum renaming inl->gW,inr->pP
open Sum.inl renaming inj->mP
open True renaming intro->eJ
open Bool renaming true->af,false->ao
open Option renaming some->U,none->ak
open PySem renaming Addr->D,Value->ae,Shared->ah,Program->au,Heap->av,World->aw,Around->ax,Stmt->ay,Expr->aA,Scope->aB,Result->aC,sizeLine->Bb,FuncData->Bc,mainGlobals->Bd,starEach->Be,wpAny->Bf,model->Bg,bootBuiltins->Bh,compareOp->Bi
set_option Elab.async false
set_option linter.all false
set_option maxRecDepth 100000
theorem Bj{p:Prop}[Decidable p](h:p):decide p=true:=decide_eq_true h
theorem Bk{p:Prop}[Decidable p](h:¬p):decide p=false:=decide_eq_false h
set_option hygiene false
set_option compiler.extract_closed false
def zzzP:Nat->Lean.Syntax->Lean.MacroM (Lean.TSyntax `rcasesPat)
 |0,_=>Lean.Macro.throwUnsupported
 |n+1,s=>match s with
  |`(⟨$ps,*⟩)=>do
   let ls ← ps.getElems.mapM fun p=>do `(Lean.Parser.Tactic.rcasesPatLo|$(← zzzP n p):rcasesPat)
   `(rcasesPat|⟨$[$ls],*⟩)
  |`($x:ident)=>`(rcasesPat|$x:ident)
  |_=>`(rcasesPat|_)
local macro_rules|`(match $x:term with|⟨$ps,*⟩=>$b)=>do
 if (b.raw.find? (·.isOfKind `Lean.Parser.Term.syntheticHole)).isSome then Lean.Macro.throwUnsupported
 let q ← zzzP 9 (← `(⟨$ps,*⟩))
 `(by rcases $x:term with $q;exact $b)
local macro_rules|`(tactic|lia)=>`(tactic|first|with_reducible (first|assumption|exact Nat.le_refl _|exact Nat.zero_le _|exact Nat.le_of_lt ‹_›|exact Nat.le_succ_of_le ‹_›|exact Nat.le_trans ‹_› ‹_›|exact Nat.lt_of_lt_of_le ‹_› ‹_›|exact Nat.lt_of_le_of_lt ‹_› ‹_›|exact Nat.ne_of_gt ‹_›|exact Nat.ne_of_lt ‹_›|exact Int.le_of_lt ‹_›)|decide +kernel|(intro _ z;cases z;done)|(intro z;cases z;done)|lia -abstractProof)
theorem am{c:Prop}{h:Decidable c}(n:¬c){α:Sort u}{t e:α}:ite c t e=e:=if_neg n
theorem aq{c:Prop}{h:Decidable c}(n:c){α:Sort u}{t e:α}:ite c t e=t:=if_pos n
local macro_rules|`(())=>`(by lia)
theorem Z{α:Sort u}{a:α}:a=a:=rfl
namespace L2
open PySem PySem.Spec PyProof.Rows
abbrev aV:=Sum Int Str
def JS:aV->ae->Bool
 |.inl k,v=>Value.isInt k v
 |.inr x,v=>Value.isStrOf x v
def ziU(w:aw):aV->Int
 |.inl k=>hashInt k
 |.inr x=>hashStr w x
theorem yJ:∀ {k:aV} {v:ae},JS k v=af->(∃i t,k=gW i/\v=fM i t)\/(∃x t,k=pP x/\v=gX x t)
 |.inl i,v,h=>by
  obtain⟨t,e⟩:=Value.isInt_shape (k:=i) (v:=v) h;exact .inl ⟨i,t,Z,e⟩
 |.inr x,v,h=>by
  obtain⟨t,e⟩:=Value.isStrOf_shape (x:=x) (v:=v) h;exact .inr ⟨x,t,Z,e⟩
theorem zc4(i:Int)(t:Tok):JS (.inl i) (.int i t)=af:=by simp[JS,Value.isInt]
theorem zc5(x:Str)(t:Tok):JS (.inr x) (.str x t)=af:=by simp[JS,Value.isStrOf]
theorem zho(a b:Int):decide ((gW a:aV)=gW b)=(a==b):=by
 by_cases e:a=b
 ·subst e;simp
 ·have h:¬ (gW a:aV)=gW b:=λq=>e (mP q);rw[Bk h];exact(beq_eq_false_iff_ne.mpr e).symm
theorem zhp(a b:Str):decide ((pP a:aV)=pP b)=decide (a=b):=by
 by_cases e:a=b
 ·subst e;simp
 ·have h:¬ (pP a:aV)=pP b:=λq=>e (Sum.inr.inj q);rw[Bk h,Bk e]
theorem zhq(a:Int)(b:Str):decide ((gW a:aV)=pP b)=ao:=Bk (λq=>nomatch q)
theorem zhr(a:Str)(b:Int):decide ((pP a:aV)=gW b)=ao:=Bk (λq=>nomatch q)
def yz(prog:au)(w:aw):PySem.KeyKind prog w aV where
 is:=JS
 hash:=ziU w
 inj:=λv a b ha hb=>by
  rcases yJ ha with ⟨i,t,rfl,rfl⟩|⟨x,t,rfl,rfl⟩
  ·rcases yJ hb with ⟨j,u,rfl,e⟩|⟨y,u,rfl,e⟩
   ·injection e with e1 _;rw[e1]
   ·exact nomatch e
  ·rcases yJ hb with ⟨j,u,rfl,e⟩|⟨y,u,rfl,e⟩
   ·exact nomatch e
   ·injection e with e1 _;rw[e1]
 byValue:=λk v h=>by
  rcases yJ h with ⟨i,t,rfl,rfl⟩|⟨x,t,rfl,rfl⟩ <;> rfl
 pyHash:=λhv h=>by
  rcases yJ hv with ⟨i,t,rfl,rfl⟩|⟨x,t,rfl,rfl⟩
  ·exact wpAny_pyHash_int h
  ·exact wpAny_pyHash_str h
 eqBool:=λhu hv h=>by
  rcases yJ hu with ⟨i,t,rfl,rfl⟩|⟨x,t,rfl,rfl⟩
  ·rcases yJ hv with ⟨j,u,rfl,rfl⟩|⟨y,u,rfl,rfl⟩
   ·rw[zho] at h;exact wpAny_eqBool_int h
   ·rw[zhq] at h;exact oZ i t y u _ _ _ _ h
  ·rcases yJ hv with ⟨j,u,rfl,rfl⟩|⟨y,u,rfl,rfl⟩
   ·rw[zhr] at h;exact ph x t j u _ _ _ _ h
   ·rw[zhp] at h;exact wpAny_eqBool_str h
 «strs»:=λk x t v h=>by
  rcases yJ h with ⟨i,u,rfl,e⟩|⟨y,u,rfl,e⟩
  ·exact nomatch e
  ·injection e with e1 _;subst e1;cases v <;> rfl
theorem QR(prog:au)(w:aw)(i:Int)(t:Tok):(yz prog w).is (.inl i) (.int i t)=af:=zc4 i t
theorem QS(prog:au)(w:aw)(x:Str)(t:Tok):(yz prog w).is (.inr x) (.str x t)=af:=zc5 x t
inductive V where
 |non|bl (b:Bool)|int (i:Int)|str (x:Str)|byt (b:Array UInt8)|flt (b:UInt64)|ref (a:D)|ty (n:String)
 deriving DecidableEq
def aU:V->ae->Prop
 |.non,u=>u=cF
 |.bl b,u=>u=iA b
 |.int i,u=>∃t,u=fM i t
 |.str x,u=>∃t,u=gX x t
 |.byt b,u=>∃t,u=Value.bytes b t
 |.flt b,u=>∃t,u=rT b t
 |.ref a,u=>u=bI a
 |.ty n,u=>u=mh n
abbrev aR:List V->List ae->Prop:=Paired aU
theorem aR.length(r:aR xs us):xs.length=us.length:=bF r
theorem aR.get:∀ {xs:List V} {us:List ae} {i:Nat} {x:V},aR xs us->xs[i]?=U x->∃u,us[i]?=U u/\aU x u
 |_,_,_,_,.nil,e=>by simp at e
 |_,_,0,_,.cons r _,e=>by simp at e;subst e;exact⟨_,Z,r⟩
 |_,_,i+1,x,.cons _ t,e=>by
  obtain⟨u,h1,h2⟩:=aR.get (i:=i) (x:=x) t (by simpa using e);exact⟨u,by simpa using h1,h2⟩
theorem aR.append:∀ {xs ys:List V} {us ws:List ae},aR xs us->aR ys ws->aR (xs++ys) (us++ws)
 |_,_,_,_,.nil,s=>s
 |_,_,_,_,.cons r t,s=>.cons r (aR.append t s)
theorem aR.take:∀ {xs:List V} {us:List ae} (n:Nat),aR xs us->aR (xs.take n) (us.take n)
 |_,_,0,_=>.nil
 |_,_,_+1,.nil=>.nil
 |_,_,n+1,.cons r t=>.cons r (aR.take n t)
theorem aR.drop:∀ {xs:List V} {us:List ae} (n:Nat),aR xs us->aR (xs.drop n) (us.drop n)
 |_,_,0,r=>r
 |_,_,_+1,.nil=>.nil
 |_,_,n+1,.cons _ t=>aR.drop n t
def sY:Option V->Option ae->Prop
 |some v,U u=>aU v u
 |none,ak=>True
 |_,_=>False
def KV{κ:Type}:List (κ×V)->List (κ×ae)->Prop:=Paired λ(p:κ×V) (q:κ×ae)=>p.1=q.1/\aU p.2 q.2
def kV:aV->V
 |.inl i=>.int i
 |.inr x=>.str x
inductive HO where
  |lst (xs:List V)
  |tup (xs:List V)
  |dK (aJ:List (aV×V))|dT (aJ:List (List aV×V))
  |set (S:Int->Bool) (n:Nat)
  |ins (C dx:D) (fs:List (Str×V))
  |own (x:D)
  |xd (fs:List (Str×V))
  |met (f x:D)
  |rng (lo hi:Int)
  |frz (o:Obj) (u:HO)
  |tbl (ps:Array ae)
  |ext (φ:av->Prop)
abbrev Hp:=D->Option HO
def upd(H:Hp)(a:D)(o:HO):Hp:=λb=>if b=a then U o else H b
theorem zi{H:Hp} :upd H a o a=U o:=by unfold upd;rw[aq rfl]
theorem zl{H:Hp}(h:b≠a):upd H a o b=H b:=by unfold upd;rw[am h]
theorem WU{H:Hp} :upd (upd H a o) a u=upd H a u:=by
 funext b;unfold upd;split <;> rfl
theorem zJ{H:Hp}(h:H a=U o)(h':H b=U u)(d:o≠u):a≠b:=by
 intro e;subst e;rw[h] at h';exact d (bP h')
theorem zC{H:Hp}(h:H a=U o)(h':H b=ak):a≠b:=by
 intro e;subst e;rw[h] at h';cases h'
section
variable (P:au)(w:aw)
def aW(H:Hp)(h:av)(a:D):HO->Prop
 |.lst xs=>xs.length<=Bb/\∃(its:List ae) (n:Nat),aR xs its/\h.get? a=U { cls:=.type "list",data:=.seq its.toArray n }
 |.tup xs=>xs.length<=Bb/\∃its:List ae,aR xs its/\IsTup h a its.toArray
 |.dK aJ=>aJ.length<=Bb/\(a==sysModules)=ao/\∃vs,KV aJ vs/\h.DictOf (yz P w) a vs
 |.dT aJ=>aJ.length<=Bb/\(a==sysModules)=ao/\∃xs:List (List aV×D×ae),
   Paired (λ(p:List aV×V) (q:List aV×D×ae)=>p.1=q.1/\H q.2.1=U (.tup (p.1.map kV))/\aU p.2 q.2.2) aJ xs /\
   ∃o es ep,h.get? a=U o/\o.ExactDict/\o.data=.dict es ep/\es.toList=xs.map (entryOfKey (tupleKind (yz P w)))/\(xs.map (·.1)).Nodup
 |.set S n=>h.SetOf (intKind P w) a S n
 |.ins C dx fs=>H dx=U (.own a)/\fs.length<=1000/\dx≠a/\h.get? a=U (fN C dx) /\
   ∃mA,h.Ns1 dx mA/\(∀f,sY (fs.lookup f) (mA f))/\p8 mA (fs.map (·.1))
 |.own _=>∃o,h.get? a=U o
 |.xd fs=>∃mA,h.Ns1 a mA/\∀f,sY (fs.lookup f) (mA f)
 |.rng lo hi=>∃t u v,h.get? a=U { cls:=.type "range",data:=.fields #[.int lo t,.int hi u,.int 1 v] }
 |.frz o u=>h.get? a=U o/\aW H h a u
 |.tbl ps=>h.get? a=U { cls:=.none,data:=.fields ps }
 |.met f x=>h.get? a=U (rV (.ref f) (.ref x))
 |.ext φ=>φ h/\(∃o,h.get? a=U o)/\∀h1 h2:av,φ h1->(∀o,h1.get? a=U o->h2.get? a=U o)->φ h2
def tJ(H:Hp)(h:av):Prop:=∀a o,H a=U o->aW P w H h a o
end
section
variable {P:au}{w:aw}{H H':Hp}{h h':av}{a:D}{o:HO}
theorem aW.lt(x:aW P w H h a o):a<h.objs.size:=by
 cases o with
 |lst xs=>obtain⟨_,_,_,_,e⟩:=x;exact bH e
 |tup xs=>obtain⟨_,_,_,p⟩:=x;exact p.lt
 |dK aJ=>obtain⟨_,_,_,_,o,_,_,e,_⟩:=x;exact bH e
 |dT aJ=>obtain⟨_,_,_,_,o,_,_,e,_⟩:=x;exact bH e
 |set S n=>obtain⟨o,_,_,_,e,_⟩:=x;exact bH e
 |ins C dx fs=>obtain⟨_,_,_,e,_⟩:=x;exact bH e
 |own y=>obtain⟨_,e⟩:=x;exact bH e
 |xd fs=>obtain⟨_,⟨_,_,_,e,_⟩,_⟩:=x;exact bH e
 |rng lo hi=>obtain⟨_,_,_,e⟩:=x;exact bH e
 |frz ob u=>obtain⟨e,_⟩:=x;exact bH e
 |tbl ps=>exact bH (show h.get? a=U _ from x)
 |met f y=>exact bH (show h.get? a=U _ from x)
 |ext φ=>obtain⟨_,⟨_,e⟩,_⟩:=x;exact bH e
theorem Paired.mapP{α β:Type}{F G:α->β->Prop}:∀ {l₁:List α} {l₂:List β},Paired F l₁ l₂->(∀a b,F a b->G a b)->Paired G l₁ l₂
 |_,_,.nil,_=>.nil
 |_,_,.cons r t,f=>.cons (f _ _ r) (Paired.mapP t f)
theorem aW.stay(x:aW P w H h a o)(k:∀b u,(b=a\/H b=U (.own a))->h.get? b=U u->h'.get? b=U u)
  (ho:∀b,H b=U (.own a)->H' b=U (.own a)) (ht:∀b xs,H b=U (.tup xs)->H' b=U (.tup xs)):aW P w H' h' a o:=by
 induction o with
 |lst xs=>obtain⟨z,its,n,r,e⟩:=x;exact⟨z,its,n,r,k _ _ (.inl Z) e⟩
 |tup xs=>obtain⟨z,its,r,ob,e,c⟩:=x;exact⟨z,its,r,ob,k _ _ (.inl Z) e,c⟩
 |dK aJ=>obtain⟨z,y,vs,r,ob,es,ep,e,c⟩:=x;exact⟨z,y,vs,r,ob,es,ep,k _ _ (.inl Z) e,c⟩
 |dT aJ =>
  obtain⟨z,y,xs,r,ob,es,ep,e,c⟩:=x;exact⟨z,y,xs,Paired.mapP r λp q z=>⟨z.1,ht _ _ z.2.1,z.2.2⟩,ob,es,ep,k _ _ (.inl Z) e,c⟩
 |set S n=>obtain⟨ob,es,ep,t,e,c⟩:=x;exact⟨ob,es,ep,t,k _ _ (.inl Z) e,c⟩
 |ins C dx fs =>
  obtain⟨d,z,ne,e,mA,⟨od,es,ep,e2,c⟩,r⟩:=x;exact⟨ho _ d,z,ne,k _ _ (.inl Z) e,mA,⟨od,es,ep,k _ _ (.inr d) e2,c⟩,r⟩
 |own y=>obtain⟨ob,e⟩:=x;exact⟨ob,k _ _ (.inl Z) e⟩
 |xd fs=>obtain⟨mA,⟨od,es,ep,e,c⟩,r⟩:=x;exact⟨mA,⟨od,es,ep,k _ _ (.inl Z) e,c⟩,r⟩
 |rng lo hi=>obtain⟨t,u,v,e⟩:=x;exact⟨t,u,v,k _ _ (.inl Z) e⟩
 |frz ob u ih=>obtain⟨e,q⟩:=x;exact⟨k _ _ (.inl Z) e,ih q⟩
 |tbl ps =>
  have e:h.get? a=U { cls:=.none,data:=.fields ps }:=x;show h'.get? a=U { cls:=.none,data:=.fields ps };exact k a _ (.inl Z) e
 |met f y =>
  have e:h.get? a=U (rV (.ref f) (.ref y)):=x;show h'.get? a=U (rV (.ref f) (.ref y));exact k a _ (.inl Z) e
 |ext φ=>obtain⟨p,⟨o,e⟩,st⟩:=x;exact⟨st _ _ p λo q=>k _ _ (.inl Z) q,⟨o,k _ _ (.inl Z) e⟩,st⟩
theorem tJ.lt(x:tJ P w H h)(e:H a=U o):a<h.objs.size:=(x a o e).lt
theorem tJ.fresh(x:tJ P w H h)(e:h.objs.size<=a):H a=ak:=by
 cases q:H a with
 |none=>rfl
 |some u=>exact absurd (bX (x.lt q) e) (fB _)
theorem tJ.kept(x:tJ P w H h)(k:∀b u,h.get? b=U u->h'.get? b=U u):tJ P w H h':=λa o e =>
 (x a o e).stay (λb u _ q=>k b u q) (λ_ q=>q) λ_ _ q=>q
theorem tJ.laid(x:tJ P w H h)(k:∀b u,h.get? b=U u->h'.get? b=U u)(hp:h.objs.size<=a)(new:aW P w (upd H a o) h' a o):tJ P w (upd H a o) h':=λb u e=>by
 have hn:=x.fresh hp;by_cases hb:b=a
 ·subst hb;rw[zi] at e;cases e;exact new
 ·rw[zl hb] at e;exact(x b u e).stay (λc v _ q=>k c v q) (λc q=>by rw[zl (zC q hn)];exact q) λc xs q=>by rw[zl (zC q hn)];exact q
end
def Rd(H:Hp)(a:D)(u:HO):Prop:=H a=U u\/∃o,H a=U (.frz o u)
theorem Rd.ok{H:Hp}(r:Rd H a u)(x:tJ P w H h):aW P w H h a u:=by
 rcases r with r|⟨o,r⟩
 ·exact x a u r
 ·obtain⟨_,q⟩:=x a _ r;exact q
def Mut:Option HO->Prop
 |some (.lst _)=>True
 |some (.dK _)=>True
 |some (.dT _)=>True
 |some (.set _ _)=>True
 |some (.ins _ _ _)=>True
 |some (.ext _)=>True
 |_=>False
section
variable {P:au}{w:aw}{H:Hp}{h h':av}{x e:D}{o':HO}
theorem tJ.write(ok:tJ P w H h)(mu:Mut (H x))(he:e=x\/H e=U (.own x))(k:∀b u,b≠e->h.get? b=U u->h'.get? b=U u)(heo:∃u,h'.get? e=U u)
  (new:aW P w (upd H x o') h' x o'):tJ P w (upd H x o') h':=λb u q=>by
 have nown:∀c y,H c=U (.own y)->c≠x:=λc y r z=>by subst z;rw[r] at mu;exact mu
 have ntup:∀c xs,H c=U (.tup xs)->c≠x:=λc xs r z=>by subst z;rw[r] at mu;exact mu
 by_cases hb:b=x
 ·subst hb;rw[zi] at q;cases q;exact new
 ·rw[zl hb] at q;by_cases hbe:b=e
  ·have q':H b=U (.own x):=by
    rcases he with z|z
    ·exact absurd (hbe.trans z) hb
    ·rw[hbe];exact z
   rw[q] at q';cases q';obtain⟨v,hv⟩:=heo;exact⟨v,by rw[hbe];exact hv⟩
  ·refine(ok b u q).stay (λc v hc r=>k c v ?_ r) (λc r=>by rw[zl (nown c b r)];exact r) λc xs r=>by rw[zl (ntup c xs r)];exact r
   rcases hc with rfl|hc
   ·exact hbe
   ·rintro rfl;rcases he with z|z
    ·exact nown c b hc z
    ·rw[hc] at z;cases z;exact hb rfl
end
structure Un(fs ex:List D)(H H':Hp)(h h':av):Prop where
 keep:∀b o,h.get? b=U o->H b=ak->b ∉ fs->b ∉ ex->h'.get? b=U o
 slot:∀b o,h.get? b=U o->H b=ak->b∈fs->b ∉ ex->∃sl,h'.get? b=U { o with slots:=sl }
 free:∀b o,h.get? b=U o->H b=ak->b ∉ ex->H' b=ak
 there:∀b o,h.get? b=U o->b ∉ ex->∃o',h'.get? b=U o'
 tups:∀b xs,H b=U (.tup xs)->H' b=U (.tup xs)
 frzs:∀b o u,H b=U (.frz o u)->H' b=U (.frz o u)
 tbls:∀b ps,H b=U (.tbl ps)->∃more,H' b=U (.tbl (ps++more))
section
variable {fs fs' ex ex':List D}{H H1 H2:Hp}{h h1 h2 h':av}{a x e:D}{o:HO}
theorem Un.any(u:Un fs ex H H1 h h1)(q:h.get? b=U ob)(n:H b=ak)(hx:b ∉ ex):∃sl,h1.get? b=U { ob with slots:=sl }:=by
 by_cases hb:b∈fs
 ·exact u.slot b ob q n hb hx
 ·exact⟨ob.slots,u.keep b ob q n hb hx⟩
theorem Un.kept(k:∀b u,h.get? b=U u->h'.get? b=U u):Un fs ex H H h h' :=
 ⟨λb ob q _ _ _=>k b ob q,λb ob q _ _ _=>⟨ob.slots,k b ob q⟩,λ_ _ _ n _=>n,λb ob q _=>⟨ob,k b ob q⟩,λ_ _ q=>q,λ_ _ _ q=>q,λ_ ps q=>⟨#[],by rw[q];simp⟩⟩
theorem Un.refl:Un fs ex H H h h:=Un.kept λ_ _ q=>q
theorem Un.laid(k:∀b u,h.get? b=U u->h'.get? b=U u)(hp:h.objs.size<=a)(hn:H a=ak):Un fs ex H (upd H a o) h h' where
 keep:=λb u q _ _ _=>k b u q
 slot:=λb u q _ _ _=>⟨u.slots,k b u q⟩
 free:=λb u q n _=>by rw[zl (bR (bX (bH q) hp))];exact n
 there:=λb u q _=>⟨u,k b u q⟩
 tups:=λb xs q=>by rw[zl (zC q hn)];exact q
 frzs:=λb u xs q=>by rw[zl (zC q hn)];exact q
 tbls:=λb ps q=>⟨#[],by rw[zl (zC q hn),q];simp⟩
theorem Un.write(mu:Mut (H x))(he:e=x\/H e=U (.own x))(k:∀b u,b≠e->h.get? b=U u->h'.get? b=U u)(heo:∃u,h'.get? e=U u):Un fs ex H (upd H x o) h h':=by
 have hx:∀b,H b=ak->b≠x:=λb n z=>by subst z;rw[n] at mu;exact mu
 have hb:∀b,H b=ak->b≠e:=λb n z=>by
  subst z;rcases he with r|r
  ·exact hx b n r
  ·rw[n] at r;cases r
 have hm:∀b u,H b=U u->¬ Mut (U u)->b≠x:=λb u q nm z=>by subst z;rw[q] at mu;exact nm mu
 refine⟨λb u q n _ _=>k b u (hb b n) q,λb u q n _ _=>⟨u.slots,k b u (hb b n) q⟩,λb u q n _=>by rw[zl (hx b n)];exact n,λb u q _=>?_,
  λb xs q=>by rw[zl (hm b _ q λz=>z)];exact q,λb u xs q=>by rw[zl (hm b _ q λz=>z)];exact q,λb ps q=>⟨#[],by rw[zl (hm b _ q λz=>z),q];simp⟩⟩
 by_cases hbe:b=e
 ·subst hbe;exact heo
 ·exact⟨u,k b u hbe q⟩
end
def trk(h:av)(H:Hp):List D:=(eI h.objs.size).filter λa=>(H a).isSome
def KD(h:av)(H:Hp):av:=gJ h (trk h H)
theorem zc6(h:av)(H:Hp):(KD h H).objs.size=h.objs.size:=W.hideAll_size _ _
theorem zdW{H:Hp}(e:h.get? b=U o)(n:H b=ak):(KD h H).get? b=U o:=
 i8 _ e λhm=>by
  have q:(H b).isSome=af:=(b7.mp hm).2;rw[n] at q;simp at q
theorem zfR{H:Hp}(e:(KD h H).get? b=U o):h.get? b=U o/\H b=ak:=by
 have e':h.get? b=U o:=lP (trk h H) e;refine⟨e',?_⟩;cases q:H b with
 |none=>rfl
 |some x =>
  have hm:b∈trk h H:=b7.mpr ⟨List.mem_range.mpr (bH e'),by simp[q]⟩;have z:(KD h H).get? b=ak:=fS (trk h H) hm;rw[z] at e;cases e
def zfS(g h:av)(Bo:D):List (D×Obj):=(eI h.objs.size).filterMap λa=>if a=Bo\/(g.get? a).isSome=af then ak else (h.get? a).map λo=>(a,o)
def rest(g h:av)(Bo d:D):List (D×Obj):=(zfS g h Bo).filter λp=>decide (p.1≠d)
structure Mod(K:bx)(mg:Str->Option ae)(base:av):Prop where
 kin:K.In base
 glob:base.Ns Bd mg
 blt:∃mb,base.Ns builtinsNs mb/\∀x:Str,x≠"__name__"->mb x=Bh x
 nolimit:base.NoLimit
set_option genSizeOf false in
set_option genInjectivity false in
structure Cx where
 prog:au
 w:aw
 K:bx
 mg:Str->Option ae
 base:av
 A:ax
 N:List Str
 s₀:ah
 H₀:Hp
 env:Env
 outer:List Env
 stack:List Env
 ex:List D
 fn:Str->Bool
 calm:Bool
 pn:List (D×Obj)
 xe:ae->ah->Prop
def tq(l:List Env):List D:=l.filterMap (·.frame)
abbrev Cx.fs(X:Cx):List D:=tq X.outer
def Vis(sc:aB)(x:Str):Prop:=sc.names.lookup x=U .local\/sc.names.lookup x=U .cell\/sc.names.lookup x=U .free
def Loc(sc:aB)(x:Str):Prop:=sc.names.lookup x=U .local\/sc.names.lookup x=U .cell
def ziV(env:Env)(h:av)(m:Str->Option ae)(x:Str)(u:ae):Prop :=
 (env.kindOf x=U .local/\m x=U u)\/((env.kindOf x=U .cell\/env.kindOf x=U .free)/\∃c,env.cells.lookup x=U c/\h.IsCell c (U u))
structure Cx.Ok(X:Cx):Prop where
 mod:Mod X.K X.mg X.base
 kind:X.env.scope.kind=.function
 glob:X.env.globals=Bd
 blt:X.env.builtins=builtinsNs
 above:X.s₀.heap.objs.size<=X.env.locals
 inj:∀x y c,X.env.cells.lookup x=U c->X.env.cells.lookup y=U c->x=y
 has:∀x,(X.env.kindOf x=U .cell\/X.env.kindOf x=U .free)->∃c,X.env.cells.lookup x=U c
 cab:∀x c,X.fn x=af->X.env.cells.lookup x=U c->X.s₀.heap.objs.size<=c
 hd:X.calm=af->X.A.handled=ak
 frames:X.A.frames=U X.stack
 stk:X.stack=X.outer\/(X.stack=X.env::X.outer/\X.env.frame=U X.env.locals)
 exf:∀b∈X.ex,b≠X.env.locals/\∀x c,X.env.cells.lookup x=U c->c≠b
 bs:∀b o,X.base.get? b=U o->X.s₀.heap.get? b=U o/\X.H₀ b=ak
 bsz:X.base.objs.size<=X.s₀.heap.objs.size
 noex:∀b o,X.base.get? b=U o->b ∉ X.ex
 exfs:∀b∈X.ex,b ∉ X.fs
 funs:X.s₀.heap.FunFrames X.base X.outer
 frf:∀b∈X.fs,X.H₀ b=ak
structure aO(X:Cx)(aa:List (D×Obj))(σ:List (Option V))(H:Hp)(s:ah):Prop where
 ok:X.Ok
 os:s.os=X.s₀.os
 bare:AllBare s.gens
 base:Un X.fs X.ex X.H₀ H X.s₀.heap s.heap
 loc:∃m,s.heap.Ns X.env.locals m/\∀(i:Nat) (x:Str) (v:V),X.N[i]?=U x->σ[i]?=U (U v)->Vis X.env.scope x->∃u,aU v u/\ziV X.env s.heap m x u
 cell:∀x c,X.env.cells.lookup x=U c->∃v,s.heap.IsCell c v
 free:H X.env.locals=ak
 freeC:∀x c,X.env.cells.lookup x=U c->H c=ak
 pin:∀p∈X.pn++aa,s.heap.get? p.1=U p.2/\H p.1=ak/\p.1≠X.env.locals/\p.1 ∉ X.fs/\∀v,p.2.data≠.cell v
 hok:tJ X.prog X.w H s.heap
 len:σ.length=X.N.length
section
variable {X:Cx}{aa:List (D×Obj)}{σ:List (Option V)}{H H':Hp}{s:ah}{h':av}
theorem Cx.Ok.nofr(ok:X.Ok)(e:X.base.get? b=U o):b ∉ X.fs:=λhb=>by
 have:=(ok.funs.mem hb).1;rw[e] at this;cases this
theorem aO.bs(I:aO X aa σ H s):∀b o,X.base.get? b=U o->s.heap.get? b=U o/\H b=ak:=λb o e =>
 ⟨I.base.keep b o (I.ok.bs b o e).1 (I.ok.bs b o e).2 (I.ok.nofr e) (I.ok.noex b o e),I.base.free b o (I.ok.bs b o e).1 (I.ok.bs b o e).2 (I.ok.noex b o e)⟩
theorem aO.bk(I:aO X aa σ H s):∀b o,X.base.get? b=U o->s.heap.get? b=U o:=λb o e=>(I.bs b o e).1
theorem aO.mod(I:aO X aa σ H s):Mod X.K X.mg X.base:=I.ok.mod
theorem aO.kIn(I:aO X aa σ H s):X.K.In s.heap:=I.ok.mod.kin.keeps I.bk
theorem aO.lt(I:aO X aa σ H s):X.env.locals<s.heap.objs.size:=let ⟨_,hn,_⟩:=I.loc;hn.lt
theorem aO.sz(I:aO X aa σ H s):X.s₀.heap.objs.size<=s.heap.objs.size:=bO I.ok.above (p9 I.lt)
theorem aO.nofs(I:aO X aa σ H s){a:D}(h:s.heap.objs.size<=a):a ∉ X.fs:=λhb=>by
 obtain⟨_,o,ho,_⟩:=I.ok.funs.mem hb;exact absurd (bX (bH ho) (bO I.sz h)) (fB _)
theorem aO.cne(I:aO X aa σ H s):∀x c,X.env.cells.lookup x=U c->c≠X.env.locals:=λx c e z=>by
 obtain⟨v,o,ho,hd⟩:=I.cell x c e;obtain⟨m,⟨o',es,ep,ho',hd',_⟩,_⟩:=I.loc;rw[z,ho'] at ho;cases ho;rw[hd'] at hd;cases hd
theorem aO.funs(I:aO X aa σ H s):s.heap.FunFrames X.base X.outer:=by
 have all:∀(l:List Env),(∀b∈tq l,b∈X.fs)->X.s₀.heap.FunFrames X.base l->s.heap.FunFrames X.base l:=by
  intro l;induction l with
  |nil=>intro _ _;trivial
  |cons env r ih =>
   intro hs hl;obtain⟨hk,⟨Bo,o,hf,hn,ho,hd⟩,hr⟩:=hl;have hL:Bo∈X.fs:=hs Bo (by unfold tq;rw[lj,hf];exact br);obtain⟨sl,e⟩:=I.base.slot Bo o ho (I.ok.frf Bo hL) hL λz=>I.ok.exfs Bo z hL;exact⟨hk,⟨Bo,_,hf,hn,e,hd⟩,ih (λb hb=>hs b (by unfold tq;rw[lj,hf];exact bq _ hb)) hr⟩
 exact all X.outer (λ_ hb=>hb) I.ok.funs
theorem aO.stack(I:aO X aa σ H s):s.heap.FunFrames X.base X.stack:=by
 rcases I.ok.stk with e|⟨e,hf⟩
 ·rw[e];exact I.funs
 ·rw[e];obtain⟨m,hn,_⟩:=I.loc;refine .cons (by rw[I.ok.kind];decide) hf hn ?_ I.funs;exact Heap.get?_none_of_le (bO I.ok.bsz I.ok.above)
theorem aO.stkSub(I:aO X aa σ H s):∀b∈tq X.stack,b∈X.env.locals::X.fs:=λb hb=>by
 rcases I.ok.stk with e|⟨e,hf⟩
 ·rw[e] at hb;exact bq _ hb
 ·rw[e] at hb;unfold tq at hb;rw[lj,hf] at hb;exact hb
theorem aO.stkFree(I:aO X aa σ H s):∀b∈tq X.stack,H b=ak:=λb hb=>by
 rcases bu.mp (I.stkSub b hb) with e|hb
 ·rw[e];exact I.free
 ·obtain⟨_,o,ho,_⟩:=I.ok.funs.mem hb;exact I.base.free b o ho (I.ok.frf b hb) λz=>I.ok.exfs b z hb
theorem aO.step{t':Nat}{d':Drawn}{ch:List D}(I:aO X aa σ H s)
  (hch:∀b∈ch,(b∈X.ex\/X.s₀.heap.objs.size<=b)/\b≠X.env.locals/\(∀x c,X.env.cells.lookup x=U c->c≠b)/\∀p∈X.pn++aa,p.1≠b)
  (keep:∀b o,b≠X.env.locals->b ∉ X.fs->b ∉ ch->s.heap.get? b=U o->H b=ak->h'.get? b=U o)
  (slot:∀b o,b≠X.env.locals->b∈X.fs->b ∉ ch->s.heap.get? b=U o->H b=ak->∃sl,h'.get? b=U { o with slots:=sl }) (free:∀b o,b ∉ ch->s.heap.get? b=U o->H b=ak->H' b=ak)
  (there:∀b o,b ∉ ch->s.heap.get? b=U o->∃o',h'.get? b=U o')
  (tups:∀b xs,H b=U (.tup xs)->H' b=U (.tup xs)) (frzs:∀b o u,H b=U (.frz o u)->H' b=U (.frz o u)) (tbls:∀b ps,H b=U (.tbl ps)->∃more,H' b=U (.tbl (ps++more)))
  (ns:∀m,s.heap.Ns X.env.locals m->h'.Ns X.env.locals m) (hok:tJ X.prog X.w H' h') (hg:AllBare g') :
  aO X aa σ H' { s with heap:=h',gens:=g',drawn:=d',toks:=t' }:=by
 have neL:∀b o,X.s₀.heap.get? b=U o->b≠X.env.locals:=λb o e=>bR (bX (bH e) I.ok.above);have neC:∀b o,X.s₀.heap.get? b=U o->b ∉ X.ex->b ∉ ch:=λb o e hx hb=>by
  rcases(hch b hb).1 with z|z
  ·exact hx z
  ·exact absurd (bX (bH e) z) (fB _)
 have cellK:∀x c,X.env.cells.lookup x=U c->∀v,s.heap.IsCell c v->h'.IsCell c v:=λx c e v ⟨o,ho,hd⟩=>by
  have nch:c ∉ ch:=λz=>(hch c z).2.2.1 x c e rfl;by_cases hc:c∈X.fs
  ·obtain⟨sl,q⟩:=slot c o (I.cne x c e) hc nch ho (I.freeC x c e);exact⟨_,q,hd⟩
  ·exact⟨o,keep c o (I.cne x c e) hc nch ho (I.freeC x c e),hd⟩
 refine⟨I.ok,I.os,hg,⟨λb o e n hb hx=>?_,λb o e n hb hx=>?_,λb o e n hx=>?_,λb o e hx=>?_,λb xs e=>tups b xs (I.base.tups b xs e),λb o xs e=>frzs b o xs (I.base.frzs b o xs e),λb ps e=>?_⟩,?_,λx c e=>?_,?_,λx c e=>?_,λp hp=>?_,hok,I.len⟩
 ·exact keep b o (neL b o e) hb (neC b o e hx) (I.base.keep b o e n hb hx) (I.base.free b o e n hx)
 ·obtain⟨sl,e1⟩:=I.base.slot b o e n hb hx;obtain⟨sl',e2⟩:=slot b _ (neL b o e) hb (neC b o e hx) e1 (I.base.free b o e n hx);exact⟨sl',e2⟩
 ·obtain⟨o',e1⟩:=I.base.there b o e hx;exact free b o' (neC b o e hx) e1 (I.base.free b o e n hx)
 ·obtain⟨o',e1⟩:=I.base.there b o e hx;exact there b o' (neC b o e hx) e1
 ·obtain⟨m1,e1⟩:=I.base.tbls b ps e;obtain⟨m2,e2⟩:=tbls b _ e1;exact⟨m1++m2,by rw[e2,Array.append_assoc]⟩
 ·obtain⟨m,hn,hl⟩:=I.loc;refine⟨m,ns m hn,λi x v e1 e2 e3=>?_⟩;obtain⟨u,r,l⟩:=hl i x v e1 e2 e3;refine⟨u,r,?_⟩;rcases l with l|⟨k,c,e,z⟩
  ·exact .inl l
  ·exact .inr ⟨k,c,e,cellK x c e _ z⟩
 ·obtain⟨v,z⟩:=I.cell x c e;exact⟨v,cellK x c e v z⟩
 ·obtain⟨m,⟨o,_,_,ho,_⟩,_⟩:=I.loc;exact free _ o (λz=>(hch _ z).2.1 Z) ho I.free
 ·obtain⟨v,o,ho,hd⟩:=I.cell x c e;exact free c o (λz=>(hch c z).2.2.1 x c e Z) ho (I.freeC x c e)
 ·obtain⟨e,n,ne,nf,d⟩:=I.pin p hp;have nch:p.1 ∉ ch:=λz=>(hch p.1 z).2.2.2 p hp rfl;exact⟨keep p.1 p.2 ne nf nch e n,free p.1 p.2 nch e n,ne,nf,d⟩
theorem aO.un(I:aO X aa σ H s)(u:Un X.fs [] H H' s.heap h')(hok:tJ X.prog X.w H' h'):aO X aa σ H' { s with heap:=h',toks:=t' }:=by
 obtain⟨m,⟨o,es,ep,ho,r⟩,_⟩:=id I.loc;obtain⟨sl,hL⟩:=u.any ho I.free (by simp);exact I.step (g':=s.gens) (d':=s.drawn) (ch:=[]) () (λb o _ hb _ e n=>u.keep b o e n hb (by simp)) (λb o _ hb _ e n=>u.slot b o e n hb (by simp)) (λb o _ e n=>u.free b o e n (by simp)) (λb o _ e=>u.there b o e (by simp)) u.tups u.frzs u.tbls (λm' hm=>by
  obtain⟨o',es',ep',ho',r'⟩:=hm;rw[ho] at ho';cases ho';exact⟨_,es',ep',hL,r'⟩) hok I.bare
theorem aO.call(I:aO X aa σ H s)(u:Un (tq X.stack) ch H H' s.heap h')(hok:tJ X.prog X.w H' h')(hg:AllBare g')
  (hch:∀b∈ch,(b∈X.ex\/X.s₀.heap.objs.size<=b)/\b≠X.env.locals/\(∀x c,X.env.cells.lookup x=U c->c≠b)/\∀p∈X.pn++aa,p.1≠b) :
  aO X aa σ H' { s with heap:=h',gens:=g',drawn:=d',toks:=t' }:=by
 obtain⟨m,⟨o,es,ep,ho,r⟩,_⟩:=id I.loc;obtain⟨sl,hL⟩:=u.any ho I.free λz=>(hch _ z).2.1 rfl;exact I.step (ch:=ch) hch (λb o hL hb hc e n=>u.keep b o e n (λz=>(bu.mp (I.stkSub b z)).elim hL hb) hc) (λb o _ _ hc e n=>u.any e n hc) (λb o hc e n=>u.free b o e n hc) (λb o hc e=>u.there b o e hc) u.tups u.frzs u.tbls (λm' hm=>by
  obtain⟨o',es',ep',ho',r'⟩:=hm;rw[ho] at ho';cases ho';exact⟨_,es',ep',hL,r'⟩) hok hg
theorem aO.turned(I:aO X aa σ H s)(k:∀b o,b≠it->s.heap.get? b=U o->h'.get? b=U o)(hn:H it=ak)(hL:it≠X.env.locals)
  (h1:it∈X.ex\/X.s₀.heap.objs.size<=it) (h2:∀x c,X.env.cells.lookup x=U c->c≠it) (h3:∀p∈X.pn++aa,p.1≠it):aO X aa σ H { s with heap:=h',toks:=t' }:=by
 have nit:∀b u,H b=U u->b≠it:=λb u e z=>by rw[z,hn] at e;cases e
 refine I.step (g':=s.gens) (d':=s.drawn) (ch:=[it]) (λb hb=>?_) (λb o _ _ hc e _=>k b o (λz=>hc (by simp[z])) e) (λb o _ _ hc e _=>⟨o.slots,k b o (λz=>hc (by simp[z])) e⟩) (λ_ _ _ _ n=>n)
  (λb o hc e=>⟨o,k b o (λz=>hc (by simp[z])) e⟩) (λ_ _ e=>e) (λ_ _ _ e=>e) (λb ps e=>⟨#[],by rw[e];simp⟩) (λm hm=>?_) (λb u e=>?_) I.bare
 ·have e:b=it:=by simpa using hb
  subst e;exact⟨h1,hL,h2,h3⟩
 ·obtain⟨o,es,ep,ho,r⟩:=hm;exact⟨o,es,ep,k _ o (eW hL) ho,r⟩
 ·refine(I.hok b u e).stay (λc v hc q=>k c v ?_ q) (λ_ q=>q) λ_ _ q=>q;rcases hc with z|z
  ·rw[z];exact nit b u e
  ·exact nit c _ z
theorem aO.tok(I:aO X aa σ H s)(t:Nat):aO X aa σ H { s with toks:=t }:=I.un (h':=s.heap) (t':=t) Un.refl I.hok
theorem aO.kept(I:aO X aa σ H s)(k:∀b u,s.heap.get? b=U u->h'.get? b=U u):aO X aa σ H { s with heap:=h',toks:=t' }:=I.un (Un.kept k) (I.hok.kept k)
theorem aO.laid{a:D}{o:HO}(I:aO X aa σ H s)(k:∀b u,s.heap.get? b=U u->h'.get? b=U u)(hp:s.heap.objs.size<=a)(new:aW X.prog X.w (upd H a o) h' a o) :
  aO X aa σ (upd H a o) { s with heap:=h',toks:=t' }:=I.un (Un.laid k hp (I.hok.fresh hp)) (I.hok.laid k hp new)
theorem aO.write(I:aO X aa σ H s)(mu:Mut (H x))(he:e=x\/H e=U (.own x))(k:∀b u,b≠e->s.heap.get? b=U u->h'.get? b=U u)(heo:∃u,h'.get? e=U u)
  (new:aW X.prog X.w (upd H x o) h' x o):aO X aa σ (upd H x o) { s with heap:=h',toks:=t' }:=I.un (Un.write mu he k heo) (I.hok.write mu he k heo new)
theorem aO.pins_of(I:aO X aa σ H s)(h:∀p∈pins',s.heap.get? p.1=U p.2/\H p.1=ak/\p.1≠X.env.locals/\p.1 ∉ X.fs/\∀v,p.2.data≠.cell v):aO X pins' σ H s:=
 ⟨I.ok,I.os,I.bare,I.base,I.loc,I.cell,I.free,I.freeC,λp hp=>(bw.mp hp).elim (λz=>I.pin p (cp _ z)) (h p),I.hok,I.len⟩
theorem QT{N:List Str}(hN:N.Nodup){i j:Nat}(a:N[i]?=U x)(b:N[j]?=U x):i=j:=by
 obtain⟨h1,e1⟩:=bo.mp a;obtain⟨h2,e2⟩:=bo.mp b;exact(iS hN).mp (e1.trans e2.symm)
theorem JT{E:ae->ah->Prop}{Q:Unit->ah->Prop}(I:aO X aa σ H s)(hN:X.N.Nodup)(hi:X.N[i]?=U x)(hx:Loc X.env.scope x)(r:aU v u)
  (h:∀s',aO X aa (σ.set i (U v)) H s'->(∃a,cG a s.heap s'.heap/\(a=X.env.locals\/X.env.cells.lookup x=U a))->Q PUnit.unit s') (hf:X.fn x=af\/X.env.scope.names.lookup x=U .local:=by first|exact .inl rfl|exact .inr rfl|assumption):Bf M A (storeName X.env x u) Q E s:=by
 obtain⟨m,hn,hl⟩:=id I.loc;have hcls:(X.env.scope.kind==.class || (X.env.scope.kind==.module&&X.env.locals != X.env.globals))=ao:=by rw[I.ok.kind];rfl
 have hiσ:i<σ.length:=by rw[I.len];exact(bo.mp hi).1
 have cne:=I.cne;have tracked:∀ {a:D} {h':av},(∃o,s.heap.get? a=U o/\H a=ak)->cG a s.heap h'->tJ X.prog X.w H h':=λ{a h'} ha hs b ob e=>by
  obtain⟨_,_,hfree⟩:=ha;refine(I.hok b ob e).stay (λc w' hc q=>(hs.2 c ?_).trans q) (λ_ q=>q) λ_ _ q=>q;rintro rfl;rcases hc with rfl|hc
  ·rw[hfree] at e;cases e
  ·rw[hfree] at hc;cases hc
 rcases hx with hk|hk
 ·refine wpAny_storeName_local hk hn (λh' hn' hs=>?_) hcls;obtain⟨oL,_,_,hoL,_⟩:=id hn;refine h _ ⟨I.ok,I.os,I.bare,⟨λb o e n hb hx=>?_,λb o e n hb hx=>?_,I.base.free,λb o e hx=>?_,I.base.tups,I.base.frzs,I.base.tbls⟩,⟨_,hn',λj y v' e1 e2 e3=>?_⟩,λy c e=>?_,I.free,I.freeC,λp hp=>?_,tracked ⟨oL,hoL,I.free⟩ hs,by simpa using I.len⟩ ⟨_,hs,.inl Z⟩
  ·exact(hs.2 b (bR (bX (bH e) I.ok.above))).trans (I.base.keep b o e n hb hx)
  ·obtain⟨sl,e1⟩:=I.base.slot b o e n hb hx;exact⟨sl,(hs.2 b (bR (bX (bH e) I.ok.above))).trans e1⟩
  ·obtain⟨o',e1⟩:=I.base.there b o e hx;exact⟨o',(hs.2 b (bR (bX (bH e) I.ok.above))).trans e1⟩
  ·by_cases hj:j=i
   ·subst hj;rw[hi] at e1;cases e1;rw[nB hiσ] at e2;cases e2;exact⟨u,r,.inl ⟨hk,by simp⟩⟩
   ·rw[oy (eW hj)] at e2;obtain⟨u',r',q⟩:=hl j y v' e1 e2 e3;refine⟨u',r',?_⟩;rcases q with ⟨k,e⟩|⟨k,c,e,z⟩
    ·refine .inl ⟨k,?_⟩;have:y≠x:=λe=>hj (QT hN e1 (e ▸ hi));simp[this,e]
    ·exact .inr ⟨k,c,e,z.sameBut hs (cne y c e)⟩
  ·obtain⟨w',z⟩:=I.cell y c e;exact⟨w',z.sameBut hs (cne y c e)⟩
  ·obtain⟨e,n,ne,nf,d⟩:=I.pin p hp;exact⟨(hs.2 p.1 ne).trans e,n,ne,nf,d⟩
 ·have hfn:X.fn x=af:=by
   rcases hf with z|z
   ·exact z
   ·rw[z] at hk;cases hk
  obtain⟨c,hc⟩:=I.ok.has x (.inl hk);obtain⟨w',z⟩:=I.cell x c hc;refine wpAny_storeName_cell I.ok.kind hk hc z (λh' hc' hs=>?_);obtain⟨oc,hoc,hocd⟩:=id z;refine h { s with heap:=h' } ⟨I.ok,I.os,I.bare,⟨λb o e n hb hx=>?_,λb o e n hb hx=>?_,I.base.free,λb o e hx=>?_,I.base.tups,I.base.frzs,I.base.tbls⟩,⟨m,hn.sameBut hs (eW (cne x c hc)),λj y v' e1 e2 e3=>?_⟩,λy c' e=>?_,I.free,I.freeC,λp hp=>?_,tracked ⟨oc,hoc,I.freeC x c hc⟩ hs,by simpa using I.len⟩ ⟨c,hs,.inr hc⟩
  ·exact(hs.2 b (bR (bX (bH e) (I.ok.cab x c hfn hc)))).trans (I.base.keep b o e n hb hx)
  ·obtain⟨sl,e1⟩:=I.base.slot b o e n hb hx;exact⟨sl,(hs.2 b (bR (bX (bH e) (I.ok.cab x c hfn hc)))).trans e1⟩
  ·obtain⟨o',e1⟩:=I.base.there b o e hx;exact⟨o',(hs.2 b (bR (bX (bH e) (I.ok.cab x c hfn hc)))).trans e1⟩
  ·by_cases hj:j=i
   ·subst hj;rw[hi] at e1;cases e1;rw[nB hiσ] at e2;cases e2;exact⟨u,r,.inr ⟨.inl hk,c,hc,hc'⟩⟩
   ·rw[oy (eW hj)] at e2;obtain⟨u',r',q⟩:=hl j y v' e1 e2 e3;refine⟨u',r',?_⟩;rcases q with q|⟨k,c',e,z'⟩
    ·exact .inl q
    ·refine .inr ⟨k,c',e,z'.sameBut hs ?_⟩;rintro rfl;exact hj (QT hN e1 (I.ok.inj _ _ _ e hc ▸ hi))
  ·by_cases hcc:c'=c
   ·subst hcc;exact⟨_,hc'⟩
   ·obtain⟨w2,z2⟩:=I.cell y c' e;exact⟨w2,z2.sameBut hs hcc⟩
  ·obtain⟨e,n,ne,nf,d⟩:=I.pin p hp;refine⟨(hs.2 p.1 ?_).trans e,n,ne,nf,d⟩;intro q;rw[q,hoc] at e;have q':oc=p.2:=bP e;exact d w' (by rw[<-q'];exact hocd)
theorem YO{E:ae->ah->Prop}{Q:Unit->ah->Prop}(I:aO X aa σ H s)(hN:X.N.Nodup)(hi:X.N[i]?=U x)(hx:Loc X.env.scope x)(r:aU v u)
  (h:∀s',aO X aa (σ.set i (U v)) H s'->Q PUnit.unit s') (hf:X.fn x=af\/X.env.scope.names.lookup x=U .local:=by first|exact .inl rfl|exact .inr rfl|assumption):Bf M A (storeName X.env x u) Q E s:=
 JT I hN hi hx r (λs' I' _=>h s' I') hf
theorem aO.call'(I:aO X aa σ H s)(ho:s'.os=s.os)(u:Un (tq X.stack) ch H H' s.heap s'.heap)(hok:tJ X.prog X.w H' s'.heap)(hg:AllBare s'.gens)
  (hch:∀b∈ch,(b∈X.ex\/X.s₀.heap.objs.size<=b)/\b≠X.env.locals/\(∀x c,X.env.cells.lookup x=U c->c≠b)/\∀p∈X.pn++aa,p.1≠b):aO X aa σ H' s':=by
 obtain⟨h',g',d',t',o'⟩:=s';have e:o'=s.os:=ho;subst e;exact I.call (g':=g') (t':=t') (d':=d') u hok hg hch
end
abbrev XK:=ae->Option D->Hp->Prop
abbrev St:=List (Option V)
abbrev VK:=V->Hp->Prop
abbrev TE:=St->Hp->VK->Prop
abbrev TT:=St->Hp->(Bool->Hp->Prop)->Prop
abbrev TA:=St->Hp->(List V->Hp->Prop)->Prop
set_option genSizeOf false in
set_option genInjectivity false in
structure Ja where
 nx:St->Hp->Prop
 rt:VK
 bk:St->Hp->Prop:=λ_ _=>False
 ct:St->Hp->Prop:=λ_ _=>False
abbrev TS:=Ja->St->Hp->Prop
def EP(X:Cx)(aa:List (D×Obj))(σ:St)(Q:VK)(u:ae)(s':ah):Prop:=∃v H',aO X aa σ H' s'/\aU v u/\Q v H'
def TP(X:Cx)(aa:List (D×Obj))(σ:St)(Q:Bool->Hp->Prop)(b:Bool)(s':ah):Prop:=∃H',aO X aa σ H' s'/\Q b H'
def AP(X:Cx)(aa:List (D×Obj))(σ:St)(Q:List V->Hp->Prop)(us:List ae)(s':ah):Prop:=∃vs H',aO X aa σ H' s'/\aR vs us/\Q vs H'
def SP(X:Cx)(aa:List (D×Obj))(Bp:Ja)(f:Flow)(s':ah):Prop :=
 match f with
 |.next=>∃σ' H',aO X aa σ' H' s'/\Bp.nx σ' H'
 |.brk=>∃σ' H',aO X aa σ' H' s'/\Bp.bk σ' H'
 |.cont=>∃σ' H',aO X aa σ' H' s'/\Bp.ct σ' H'
 |.ret u=>∃v σ' H',aO X aa σ' H' s'/\aU v u/\Bp.rt v H'
def PE(X:Cx)(e:aA)(t:TE):Prop :=
 ∀(aa:List (D×Obj)) (s:ah) (σ:St) (H:Hp) (Q:VK),aO X aa σ H s->t σ H Q->Bf (Bg X.prog X.w) X.A (eval e X.env) (EP X aa σ Q) X.xe s
def PT(X:Cx)(e:aA)(t:TT):Prop :=
 ∀(aa:List (D×Obj)) (s:ah) (σ:St) (H:Hp) (Q:Bool->Hp->Prop),aO X aa σ H s->t σ H Q->Bf (Bg X.prog X.w) X.A (isTrue e X.env (eval e X.env)) (TP X aa σ Q) X.xe s
def PW(X:Cx)(e:aA)(t:TT):Prop :=
 ∀(whole:Sem ae) (aa:List (D×Obj)) (s:ah) (σ:St) (H:Hp) (Q:Bool->Hp->Prop),aO X aa σ H s->t σ H Q->Bf (Bg X.prog X.w) X.A (isTrue e X.env whole) (TP X aa σ Q) X.xe s
theorem PW.pt(h:PW X e t):PT X e t:=h _
def PA(X:Cx)(es:List aA)(t:TA):Prop :=
 ∀(pos:Pos) (aa:List (D×Obj)) (s:ah) (σ:St) (H:Hp) (Q:List V->Hp->Prop),aO X aa σ H s->t σ H Q->Bf (Bg X.prog X.w) X.A (spliced (backTo pos (Be es X.env))) (AP X aa σ Q) X.xe s
def PS(X:Cx)(st:ay)(t:TS):Prop :=
 ∀(aa:List (D×Obj)) (s:ah) (σ:St) (H:Hp) (Bp:Ja),aO X aa σ H s->t Bp σ H->Bf (Bg X.prog X.w) X.A (exec st X.env) (SP X aa Bp) X.xe s
def PSs(X:Cx)(st:List ay)(t:TS):Prop :=
 ∀(aa:List (D×Obj)) (s:ah) (σ:St) (H:Hp) (Bp:Ja),aO X aa σ H s->t Bp σ H->Bf (Bg X.prog X.w) X.A (execs st X.env) (SP X aa Bp) X.xe s
theorem hZ{α:Type}{t:Sem α}{Q Q':α->ah->Prop}{E:ae->ah->Prop}(h:Bf M A t Q E s)(hQ:∀a s,Q a s->Q' a s):Bf M A t Q' E s:=dF h hQ λ_ _ x=>x
section
variable {X:Cx}
def B(i:Nat):TE:=λσ H Q=>∃v,σ[i]?=U (U v)/\Q v H
def tC(v:V):TE:=λ_ H Q=>Q v H
theorem zhs{x:Str}{pos:Pos}(hN:X.N[i]?=U x)(hv:Vis X.env.scope x)(hd:(x==("__debug__":Str))=ao:=by lia)(hcd:(x==("__classdict__":Str))=ao:=by lia):PE X (.Name x pos) (B i):=by
 intro aa s σ H Q I h;obtain⟨v,e,h⟩:=h;obtain⟨m,hn,hl⟩:=I.loc;obtain⟨u,r,l⟩:=hl i x v hN e hv;have fin:EP X aa σ Q u s:=⟨v,H,I,r,h⟩;rcases l with ⟨hk,hm⟩|⟨hk,c,hc,hcell⟩
 ·exact wpAny_Name (oz I.ok.kind hk hn hm fin) hd
 ·rcases hk with hk|hk
  ·exact wpAny_Name (wpAny_loadName_cell I.ok.kind hk hc hcell fin) hd
  ·exact wpAny_Name (wpAny_loadName_free I.ok.kind hk hc hcell fin hcd) hd
theorem zg{i j pos}:PE X (.Constant (.int i) j pos) (tC (.int i)):=λ_ _ _ H _ I h=>wpAny_Constant_int ⟨.int i,H,I.tok _,⟨_,Z⟩,h⟩
theorem YQ{b j pos}:PE X (.Constant (.bool b) j pos) (tC (.bl b)):=λ_ _ _ H _ I h=>Constant_bool ⟨.bl b,H,I,Z,h⟩
theorem xD{j pos}:PE X (.Constant .none j pos) (tC .non):=λ_ _ _ H _ I h=>Constant_none ⟨.non,H,I,Z,h⟩
theorem zI{x j pos}:PE X (.Constant (.str x) j pos) (tC (.str x)):=λ_ _ _ H _ I h=>pq ⟨.str x,H,I.tok _,⟨_,Z⟩,h⟩
def Gl(X:Cx)(x:Str):Prop:=X.env.kindOf x=U .globalImplicit
theorem wW{E:ae->ah->Prop}{s:ah}{σ:St}{H:Hp}{x:Str}{u:ae}{pos:Pos}{Q:ae->ah->Prop}(I:aO X aa σ H s)(hg:Gl X x)(hm:X.mg x=U u)(h:Q u s)
  (hd:(x==("__debug__":Str))=ao:=by lia):Bf (Bg X.prog X.w) X.A (eval (.Name x pos) X.env) Q E s:=
 lM I.ok.kind hg (Calls.loadGlobal_global (by rw[I.ok.glob];exact I.mod.glob.keeps I.bk) hm h) hd
theorem W5{E:ae->ah->Prop}{s:ah}{σ:St}{H:Hp}{x:Str}{u:ae}{pos:Pos}{Q:ae->ah->Prop}(I:aO X aa σ H s)(hg:Gl X x)(hm:X.mg x=ak)(hv:Bh x=U u)(h:Q u s)
  (hn:x≠"__name__":=by lia) (hd:(x==("__debug__":Str))=ao:=by lia):Bf (Bg X.prog X.w) X.A (eval (.Name x pos) X.env) Q E s:=by
 obtain⟨mb,h1,h2⟩:=I.mod.blt;exact lM I.ok.kind hg (Calls.loadGlobal_builtin (by rw[I.ok.glob];exact I.mod.glob.keeps I.bk) hm (by rw[I.ok.blt];exact h1.keeps I.bk) ((h2 x hn).trans hv) h) hd
theorem zfT(hg:Gl X x)(hm:X.mg x=U u)(r:aU v u)(hd:(x==("__debug__":Str))=ao:=by lia):PE X (.Name x pos) (tC v):=
 λ_ _ _ H _ I h=>wW I hg hm ⟨v,H,I,r,h⟩ hd
theorem xJ{x:Str}{pos:Pos}(hg:Gl X x)(hm:X.mg x=ak)(hv:Bh x=U u)(r:aU v u)(hn:x≠"__name__":=by lia)(hd:(x==("__debug__":Str))=ao:=by lia):PE X (.Name x pos) (tC v):=
 λ_ _ _ H _ I h=>W5 I hg hm hv ⟨v,H,I,r,h⟩ hn hd
variable {a b:aA}{ta tb:TE}{pos:Pos}
def tB(t:TE):TT:=λσ H Q=>t σ H λx H1=>∃c,x=.bl c/\Q c H1
theorem xE{e:aA}{t:TE}(h:PE X e t)(he:∀whole,isTrue e X.env whole=(do let v <-whole;standAt e.pos;holding [v] (truthy v)):=by intro _;rfl):PT X e (tB t):=by
 intro aa s σ H Q I hw;refine isTrue_plain (hZ (h aa s σ H _ I hw) ?_) (he _);rintro v s1 ⟨x,H1,I1,r1,q1⟩;obtain⟨d,rfl,q⟩:=q1;cases r1;exact fh ⟨H1,I1,q⟩
variable {tA tB':TT}{rest:List aA}
def Jb(t u:TT):TT:=λσ H Q=>t σ H λc H1=>if c=af then u σ H1 Q else Q ao H1
def tOr(t u:TT):TT:=λσ H Q=>t σ H λc H1=>if c=af then Q af H1 else u σ H1 Q
def Wz(t:TT):TT:=λσ H Q=>t σ H λc H1=>Q (!c) H1
theorem ZG(ha:PT X a tA):PW X (.BoolOp .And [a] pos) tA:=by
 intro wh aa s σ H Q I h;refine isTrue_and (hZ (ha aa s σ H Q I h) λc s1 e=>?_);cases c with
 |true=>exact isTrue_and_nil e
 |false=>exact e
theorem kB(ha:PT X a tA):PW X (.BoolOp .Or [a] pos) tA:=by
 intro wh aa s σ H Q I h;refine isTrue_or (hZ (ha aa s σ H Q I h) λc s1 e=>?_);cases c with
 |false=>exact isTrue_or_nil e
 |true=>exact e
theorem XB(ha:PT X a tA)(hb:PW X (.BoolOp .And (b::rest) pos) tB'):PW X (.BoolOp .And (a::b::rest) pos) (Jb tA tB'):=by
 intro wh aa s σ H Q I h;refine isTrue_and (hZ (ha aa s σ H _ I h) ?_);rintro c s1 ⟨H1,I1,q1⟩;cases c with
 |true=>exact hb wh aa s1 σ H1 Q I1 q1
 |false=>exact⟨H1,I1,q1⟩
theorem YR(ha:PT X a tA)(hb:PW X (.BoolOp .Or (b::rest) pos) tB'):PW X (.BoolOp .Or (a::b::rest) pos) (tOr tA tB'):=by
 intro wh aa s σ H Q I h;refine isTrue_or (hZ (ha aa s σ H _ I h) ?_);rintro c s1 ⟨H1,I1,q1⟩;cases c with
 |true=>exact⟨H1,I1,q1⟩
 |false=>exact hb wh aa s1 σ H1 Q I1 q1
theorem kC(ha:PT X a tA):PT X (.UnaryOp .Not a pos) (Wz tA):=by
 intro aa s σ H Q I h;exact isTrue_not (ha aa s σ H (λc H1=>Q (!c) H1) I h)
def QU(ta tb:TE):TE:=λσ H Q=>ta σ H λx H1=>∃c,x=.bl c/\if c=af then tb σ H1 Q else Q (.bl ao) H1
def zio(ta tb:TE):TE:=λσ H Q=>ta σ H λx H1=>∃c,x=.bl c/\if c=af then Q (.bl af) H1 else tb σ H1 Q
def zgW(ta:TE):TE:=λσ H Q=>ta σ H λx H1=>∃c,x=.bl c/\Q (.bl (!c)) H1
theorem KG{op}{t:TE}(h:PE X a t):PE X (.BoolOp op [a] pos) t:=λaa s σ H Q I hw=>BoolOp_one (h aa s σ H Q I hw)
theorem KH(ha:PE X a ta)(hb:PE X (.BoolOp .And (b::rest) pos) tb):PE X (.BoolOp .And (a::b::rest) pos) (QU ta tb):=by
 intro aa s σ H Q I h;refine BoolOp_and (hZ (ha aa s σ H _ I h) ?_);rintro v s1 ⟨x,H1,I1,r1,q1⟩;obtain⟨c,rfl,q1⟩:=q1;cases r1;refine fh ?_;cases c with
 |true=>exact hb aa s1 σ H1 Q I1 q1
 |false=>exact⟨.bl ao,H1,I1,Z,q1⟩
theorem ziq(ha:PE X a ta)(hb:PE X (.BoolOp .Or (b::rest) pos) tb):PE X (.BoolOp .Or (a::b::rest) pos) (zio ta tb):=by
 intro aa s σ H Q I h;refine BoolOp_or (hZ (ha aa s σ H _ I h) ?_);rintro v s1 ⟨x,H1,I1,r1,q1⟩;obtain⟨c,rfl,q1⟩:=q1;cases r1;refine fh ?_;cases c with
 |false=>exact hb aa s1 σ H1 Q I1 q1
 |true=>exact⟨.bl af,H1,I1,Z,q1⟩
theorem zht(ha:PE X a ta):PE X (.UnaryOp .Not a pos) (zgW ta):=by
 intro aa s σ H Q I h;refine UnaryOp_ (hZ (ha aa s σ H _ I h) ?_);rintro v s1 ⟨x,H1,I1,r1,q1⟩;obtain⟨c,rfl,q1⟩:=q1;cases r1;exact not_of (fh ⟨.bl (!c),H1,I1,Z,q1⟩)
def tIf(t:TT)(ta tb:TE):TE:=λσ H Q=>t σ H λc H1=>if c=af then ta σ H1 Q else tb σ H1 Q
theorem vR(hc:PT X c tA)(ha:PE X a ta)(hb:PE X b tb):PE X (.IfExp c a b pos) (tIf tA ta tb):=by
 intro aa s σ H Q I h;refine wpAny_IfExp (hZ (hc aa s σ H _ I h) ?_);rintro d s1 ⟨H1,I1,q1⟩;cases d with
 |true=>exact ha aa s1 σ H1 Q I1 q1
 |false=>exact hb aa s1 σ H1 Q I1 q1
end
def aT(K:bx)(H:Hp)(a:D)(xs:List V):Prop :=
 Rd H a (.lst xs) \/
  ∃(o:Obj) (its:Array ae) (n:Nat),K.lookup a=U o/\o.cls=.type "list"/\o.dict=ak/\o.data=.seq its n/\its.size<=Bb/\aR xs its.toList
def sN(K:bx)(H:Hp)(a:D)(xs:List V):Prop :=
 Rd H a (.tup xs) \/
  ∃(o:Obj) (its:Array ae) (n:Nat),K.lookup a=U o/\o.cls=.type "tuple"/\o.data=.seq its n/\its.size<=Bb/\aR xs its.toList
def ziW:ae->Option V
 |.none=>U .non
 |.bool b=>U (.bl b)
 |.int i _=>U (.int i)
 |.str x _=>U (.str x)
 |.bytes b _=>U (.byt b)
 |.float b _=>U (.flt b)
 |.ref a=>U (.ref a)
 |.type n=>U (.ty n)
 |_=>ak
theorem aU.abs(r:aU x u):ziW u=U x:=by
 cases x with
 |non=>cases r;rfl
 |bl _=>cases r;rfl
 |int _=>obtain⟨t,rfl⟩:=r;rfl
 |str _=>obtain⟨t,rfl⟩:=r;rfl
 |byt _=>obtain⟨t,rfl⟩:=r;rfl
 |flt _=>obtain⟨t,rfl⟩:=r;rfl
 |ref _=>cases r;rfl
 |ty _=>cases r;rfl
theorem aU.inj(r:aU x u)(q:aU y u):x=y:=bP (r.abs.symm.trans q.abs)
theorem aR.inj:∀ {xs ys:List V} {us:List ae},aR xs us->aR ys us->xs=ys
 |_,_,_,.nil,.nil=>rfl
 |_,_,_,.cons r t,.cons r' t'=>by rw[r.inj r',aR.inj t t']
section
variable {X:Cx}{aa:List (D×Obj)}{σ:St}{H:Hp}{s:ah}{a:D}{xs ys:List V}
theorem aT.of{K:bx}(h:H a=U (.lst xs)):aT K H a xs:=.inl (.inl h)
theorem sN.of{K:bx}(h:H a=U (.tup xs)):sN K H a xs:=.inl (.inl h)
theorem aO.list(I:aO X aa σ H s)(h:aT X.K H a xs):∃its:List ae,aR xs its/\PlainL s.heap a its.toArray/\xs.length<=Bb:=by
 rcases h with h|⟨o,its,n,hk,hc,hd,hs,hz,r⟩
 ·obtain⟨z,its,n,r,e⟩:=h.ok I.hok;exact⟨its,r,⟨_,n,e,Z,Z,Z⟩,z⟩
 ·refine⟨its.toList,r,⟨o,n,I.kIn a o hk,hc,hd,by simpa using hs⟩,?_⟩;have e:=r.length;simp only[ck] at e;lia
theorem aO.tuple(I:aO X aa σ H s)(h:sN X.K H a xs):∃its:List ae,aR xs its/\IsTup s.heap a its.toArray/\xs.length<=Bb:=by
 rcases h with h|⟨o,its,n,hk,hc,hs,hz,r⟩
 ·obtain⟨z,its,r,p⟩:=h.ok I.hok;exact⟨its,r,p,z⟩
 ·refine⟨its.toList,r,⟨o,I.kIn a o hk,hc,n,by simpa using hs⟩,?_⟩;have e:=r.length;simp only[ck] at e;lia
theorem aO.list_inj(I:aO X aa σ H s)(h:aT X.K H a xs)(h':aT X.K H a ys):xs=ys:=by
 obtain⟨its,r,⟨o,n,e,_,_,d⟩,_⟩:=I.list h;obtain⟨its',r',⟨o',n',e',_,_,d'⟩,_⟩:=I.list h';rw[e] at e';cases e';rw[d] at d';injection d' with d1 _;have:its=its':=by simpa using congrArg Array.toList d1
 subst this;exact r.inj r'
theorem aO.tuple_inj(I:aO X aa σ H s)(h:sN X.K H a xs)(h':sN X.K H a ys):xs=ys:=by
 obtain⟨its,r,⟨o,e,_,n,d⟩,_⟩:=I.tuple h;obtain⟨its',r',⟨o',e',_,n',d'⟩,_⟩:=I.tuple h';rw[e] at e';cases e';rw[d] at d';injection d' with d1 _;have:its=its':=by simpa using congrArg Array.toList d1
 subst this;exact r.inj r'
end
abbrev Cx.wish(X:Cx)(E:ae->ah->Prop):Cx:={ X with xe:=E }
abbrev Cx.nox(X:Cx):Cx:=X.wish λ_ _=>False
theorem Cx.Ok.wish{X:Cx}(ok:X.Ok)(E:ae->ah->Prop):(X.wish E).Ok :=
 ⟨ok.mod,ok.kind,ok.glob,ok.blt,ok.above,ok.inj,ok.has,ok.cab,ok.hd,ok.frames,ok.stk,ok.exf,ok.bs,ok.bsz,ok.noex,ok.exfs,ok.funs,ok.frf⟩
theorem Cx.Ok.unwish{X:Cx}{E:ae->ah->Prop}(ok:(X.wish E).Ok):X.Ok :=
 ⟨ok.mod,ok.kind,ok.glob,ok.blt,ok.above,ok.inj,ok.has,ok.cab,ok.hd,ok.frames,ok.stk,ok.exf,ok.bs,ok.bsz,ok.noex,ok.exfs,ok.funs,ok.frf⟩
section
variable {X:Cx}{aa:List (D×Obj)}{σ:St}{H:Hp}{s:ah}{E:ae->ah->Prop}
theorem aO.wish(I:aO X aa σ H s)(E:ae->ah->Prop):aO (X.wish E) aa σ H s:=⟨I.ok.wish E,I.os,I.bare,I.base,I.loc,I.cell,I.free,I.freeC,I.pin,I.hok,I.len⟩
theorem aO.unwish(I:aO (X.wish E) aa σ H s):aO X aa σ H s:=⟨I.ok.unwish,I.os,I.bare,I.base,I.loc,I.cell,I.free,I.freeC,I.pin,I.hok,I.len⟩
theorem SP.unwish(h:SP (X.wish E) aa Bp f s'):SP X aa Bp f s':=by
 cases f with
 |next=>obtain⟨σ',H',I,q⟩:=h;exact⟨σ',H',I.unwish,q⟩
 |brk=>obtain⟨σ',H',I,q⟩:=h;exact⟨σ',H',I.unwish,q⟩
 |cont=>obtain⟨σ',H',I,q⟩:=h;exact⟨σ',H',I.unwish,q⟩
 |ret u=>obtain⟨v,σ',H',I,r,q⟩:=h;exact⟨v,σ',H',I.unwish,r,q⟩
theorem PSs.nox{st:List ay}{t:TS}(h:PSs X.nox st t):PSs X st t:=λaa s σ H Bp I hw =>
 dF (h aa s σ H Bp (I.wish _) hw) (λ_ _ q=>q.unwish) λ_ _ z=>c9 z
end
section
variable {X:Cx}{st:ay}{rest:List ay}{t u:TS}{e:aA}{te:TE}{pos:Pos}
def zS:TS:=λBp σ H=>Bp.nx σ H
def zo(t u:TS):TS:=λBp σ H=>t { Bp with nx:=u Bp } σ H
theorem zB:PSs X [] zS:=λ_ _ σ H _ I h=>eS ⟨σ,H,I,h⟩
theorem ze(h1:PS X st t)(h2:PSs X rest u):PSs X (st::rest) (zo t u):=by
 intro aa s σ H Bp I h;refine iT (hZ (h1 aa s σ H { Bp with nx:=u Bp } I h) λf s1 q=>?_);cases f with
 |next =>
  obtain⟨σ',H',I',q⟩:=q;exact h2 aa s1 σ' H' Bp I' q
 |ret v=>exact q
 |brk=>exact q
 |cont=>exact q
theorem zh(h1:PS X st t):PSs X [st] t:=by
 intro aa s σ H Bp I h;refine iT (hZ (h1 aa s σ H Bp I h) λf s1 q=>?_);cases f with
 |next=>exact eS q
 |ret v=>exact q
 |brk=>exact q
 |cont=>exact q
theorem aO.quiet{σ:St}{H:Hp}{s:ah}(I:aO X aa σ H s):interactive X.env=ao:=by simp[interactive,I.ok.kind]
def yh(te:TE):TS:=λBp σ H=>te σ H λ_ H1=>Bp.nx σ H1
theorem zK(he:PE X e te)(hs:swapsWith e ak pos.line X.env=pure ao:=by rfl):PS X (.Expr e pos) (yh te):=by
 intro aa s σ H Bp I h;exact wpAny_Expr_any (hZ (he aa s σ H _ I h) λv s1 ⟨x,H1,I1,r1,q1⟩=>⟨σ,H1,I1,q1⟩) I.quiet hs
def zL(te:TE):TS:=λBp σ H=>te σ H Bp.rt
theorem zq(he:PE X e te):PS X (.Return (U e) pos) (zL te):=by
 intro aa s σ H Bp I h;exact wpAny_Return_some (hZ (he aa s σ H _ I h) λv s1 ⟨x,H1,I1,r1,q1⟩=>⟨x,σ,H1,I1,r1,q1⟩)
def zgX:TS:=λBp _ H=>Bp.rt .non H
theorem zfU:PS X (.Return ak pos) zgX:=λ_ _ σ H _ I h=>wpAny_Return_none ⟨.non,σ,H,I,Z,h⟩
def yc(c:TT)(t u:TS):TS:=λBp σ H=>c σ H λb H1=>if b=af then t Bp σ H1 else u Bp σ H1
theorem zM(hc:PT X c tc)(ha:PSs X a t)(hb:PSs X b u):PS X (.If c a b pos) (yc tc t u):=by
 intro aa s σ H Bp I h;refine wpAny_If (hZ (hc aa s σ H _ I h) ?_);rintro d s1 ⟨H1,I1,q1⟩;cases d with
 |true=>exact ha aa s1 σ H1 Bp I1 q1
 |false=>exact hb aa s1 σ H1 Bp I1 q1
def zbq:TS:=λ_ _ _=>False
theorem QV:PS X st zbq:=λ_ _ _ _ _ _ h=>h.elim
end
abbrev TG:=V->St->Hp->(St->Hp->Prop)->Prop
abbrev TGs:=List V->St->Hp->(St->Hp->Prop)->Prop
def PG(X:Cx)(target:aA)(t:TG):Prop :=
 ∀(aa:List (D×Obj)) (s:ah) (σ:St) (H:Hp) (v:V) (u:ae) (Q:St->Hp->Prop),aO X aa σ H s->aU v u->t v σ H Q ->
  Bf (Bg X.prog X.w) X.A (assign target X.env u) (λ_ s'=>∃σ' H',aO X aa σ' H' s'/\Q σ' H') X.xe s
def PGs(X:Cx)(ts:List aA)(t:TGs):Prop :=
 ∀(aa:List (D×Obj)) (s:ah) (σ:St) (H:Hp) (vs:List V) (us:List ae) (Q:St->Hp->Prop),aO X aa σ H s->aR vs us->t vs σ H Q ->
  Bf (Bg X.prog X.w) X.A (assignInOrder ((assignEach ts X.env).map (·.2)) us) (λ_ s'=>∃σ' H',aO X aa σ' H' s'/\Q σ' H') X.xe s
abbrev TIp:=V->V->Hp->VK->Prop
def PIp(X:Cx)(op:Operator)(t:TIp):Prop :=
 ∀(aa:List (D×Obj)) (s:ah) (σ:St) (H:Hp) (x y:V) (v u:ae) (Q:VK),aO X aa σ H s->aU x v->aU y u->t x y H Q ->
  Bf (Bg X.prog X.w) X.A (inplaceOp op v u) (EP X aa σ Q) X.xe s
section
variable {X:Cx}{pos:Pos}
def zw(i:Nat):TG:=λv σ H Q=>Q (σ.set i (U v)) H
theorem jk(hN:X.N.Nodup)(hi:X.N[i]?=U x)(hx:Loc X.env.scope x)(hf:X.fn x=af\/X.env.scope.names.lookup x=U .local:=by first|exact .inl rfl|exact .inr rfl|assumption):PG X (.Name x pos) (zw i):=by
 intro aa s σ H v u Q I r h;exact wpAny_assign_Name (YO I hN hi hx r (λs' I'=>⟨_,H,I',h⟩) hf)
def zc7:TGs:=λvs σ H Q=>vs=[]/\Q σ H
def qG(t:TG)(u:TGs):TGs:=λvs σ H Q=>∃v r,vs=v::r/\t v σ H λσ' H'=>u r σ' H' Q
theorem WV:PGs X [] zc7:=by
 intro aa s σ H vs us Q I r h;obtain⟨e,h⟩:=h;subst e;cases r;exact assignInOrder_nil ⟨σ,H,I,h⟩
theorem vc{e:aA}{es:List aA}{t:TG}{u:TGs}(h1:PG X e t)(h2:PGs X es u)
  (hs:(assignEach (e::es) X.env).map (·.2)=assign e X.env::(assignEach es X.env).map (·.2):=by rfl):PGs X (e::es) (qG t u):=by
 intro aa s σ H vs us Q I r h;obtain⟨v,vr,e1,h⟩:=h;subst e1;cases r with
 |cons r rr =>
  rw[hs];refine assignInOrder_cons (hZ (h1 aa s σ H _ _ _ I r h) ?_);rintro _ s1 ⟨σ1,H1,I1,q1⟩;exact h2 aa s1 σ1 H1 _ _ Q I1 rr q1
def zc8(K:bx)(n:Nat)(t:TGs):TG:=λv σ H Q=>∃a xs,v=.ref a/\sN K H a xs/\xs.length=n/\t xs σ H Q
theorem KI{es:List aA}{k:Nat}{t:TGs}{n:Nat}(hc:X.calm=af)(h:PGs X es t)
  (hn:(assignEach es X.env).length=n:=by rfl) (hst:(assignEach es X.env).findIdx? (·.1)=ak:=by rfl):PG X (.Tuple es k pos) (zc8 X.K n t):=by
 intro aa s σ H v u Q I r hw;obtain⟨a,xs,e1,hq,hl,hw⟩:=hw;subst e1;cases r;obtain⟨its,rv,ht,hz⟩:=I.tuple hq;refine assign_Tuple_tuple (I.ok.hd hc) ht (by simp[hn,<-hl,rv.length]) hst λh' hx=>?_;have I1:aO X aa σ H { s with heap:=h' }:=I.kept (t':=s.toks) λb o e=>hx b o (bR (bH e)) e;exact h aa _ σ H xs _ Q I1 (by simpa using rv) hw
def zT(te:TE)(g:TG):TS:=λBp σ H=>te σ H λx H1=>g x σ H1 Bp.nx
theorem Yh{te:TE}(hN:X.N.Nodup)(hi:X.N[i]?=U x)(hx:Loc X.env.scope x)(he:PE X e te)(hs:swapsWith e (U (.Name x pos')) pos.line X.env=pure ao:=by rfl)(hf:X.fn x=af\/X.env.scope.names.lookup x=U .local:=by first|exact .inl rfl|exact .inr rfl|assumption) :
  PS X (.Assign [.Name x pos'] e pos) (zT te (zw i)):=by
 intro aa s σ H Bp I h;refine wpAny_Assign_Name (hZ (he aa s σ H _ I h) ?_) hs;rintro v s1 ⟨y,H1,I1,r1,q1⟩;exact YO I1 hN hi hx r1 (λs2 I2=>⟨_,H1,I2,q1⟩) hf
def zir(i:Nat)(te:TE)(ti:TIp):TS:=λBp σ H=>∃x,σ[i]?=U (U x)/\te σ H λy H1=>ti x y H1 λz H2=>Bp.nx (σ.set i (U z)) H2
theorem zhu{te:TE}{ti:TIp}(hN:X.N.Nodup)(hi:X.N[i]?=U x)(hx:Loc X.env.scope x)(he:PE X e te)(ho:PIp X op ti)(hf:X.fn x=af\/X.env.scope.names.lookup x=U .local:=by first|exact .inl rfl|exact .inr rfl|assumption) :
  PS X (.AugAssign (.Name x pos') op e pos) (zir i te ti):=by
 intro aa s σ H Bp I h;obtain⟨v,e1,h⟩:=h;obtain⟨m,hn,hl⟩:=I.loc;have vis:Vis X.env.scope x:=by rcases hx with k|k;exact .inl k;exact .inr (.inl k)
 obtain⟨u,r,l⟩:=hl i x v hi e1 vis;refine wpAny_AugAssign_Name ?_;have go:Bf (Bg X.prog X.w) X.A (eval e X.env) (λw s₂=>Bf (Bg X.prog X.w) X.A (inplaceOp op u w) (λr s₃=>Bf (Bg X.prog X.w) X.A (storeName X.env x r) (λ_=>SP X aa Bp .next) X.xe s₃) X.xe s₂) X.xe s:=by
  refine hZ (he aa s σ H _ I h) ?_;rintro w s1 ⟨y,H1,I1,r1,q1⟩;refine hZ (ho aa s1 σ H1 v y u w _ I1 r r1 q1) ?_;rintro z s2 ⟨zv,H2,I2,r2,q2⟩;exact YO I2 hN hi hx r2 (λs3 I3=>⟨_,H2,I3,q2⟩) hf
 rcases l with ⟨hk,hm⟩|⟨hk,c,hc,hcell⟩
 ·exact oz I.ok.kind hk hn hm go
 ·rcases hk with hk|hk
  ·exact wpAny_loadName_cell I.ok.kind hk hc hcell go
  ·rcases hx with k|k
   ·have:X.env.scope.names.lookup x=U .free:=hk;rw[k] at this;cases this
   ·have:X.env.scope.names.lookup x=U .free:=hk;rw[k] at this;cases this
def ipI(f:Int->Int->Int):TIp:=λx y H Q=>∃i j,x=.int i/\y=.int j/\Q (.int (f i j)) H
theorem zhv:PIp X .Add (ipI λi j=>i+j):=by
 intro aa s σ H x y v u Q I r1 r2 h;obtain⟨i,j,e1,e2,q⟩:=h;subst e1;subst e2;obtain⟨t,rfl⟩:=r1;obtain⟨t',rfl⟩:=r2;exact iadd_int ⟨.int _,H,I.tok _,⟨_,Z⟩,q⟩
end
section
variable {X:Cx}{pos:Pos}
def zbr(c:TT)(tb:TS):TS:=λBp σ H=>∃W:Nat->St->Hp->Prop,(∃m,W m σ H)/\∀m σ H,W m σ H ->
 c σ H λb H1=>if b=af then ∃N:St->Hp->Prop,(∀σ' H',N σ' H'->∃m',m'<m/\W m' σ' H')/\tb { Bp with nx:=N,ct:=N,bk:=Bp.nx } σ H1 else Bp.nx σ H1
theorem QW{tb:TS}(hp:PassesOwn (Bg X.prog X.w) X.A X.env X.xe)(hc:PT X c tc)(hb:PSs X body tb):PS X (.While c body [] pos) (zbr tc tb):=by
 intro aa s σ H Bp I h;obtain⟨W,⟨m0,w0⟩,turn⟩:=h;refine wpAny_While (codeAny_whileLoop (λn s'=>∃σ' H',aO X aa σ' H' s'/\W n σ' H') ?_ m0 ⟨σ,H,I,w0⟩);rintro n s1 ⟨σ1,H1,I1,w1⟩;refine fi hp (hZ (hc aa s1 σ1 H1 _ I1 (turn n σ1 H1 w1)) ?_);rintro b s2 ⟨H2,I2,q2⟩;cases b with
 |true =>
  obtain⟨N,hN,q2⟩:=q2;rw[aq rfl];refine fi hp (hZ (hb aa s2 σ1 H2 _ I2 q2) λf s3 q3=>?_);cases f with
  |next =>
   obtain⟨σ3,H3,I3,n3⟩:=q3;obtain⟨m',hm,w3⟩:=hN σ3 H3 n3;exact⟨m',hm,σ3,H3,I3,w3⟩
  |cont =>
   obtain⟨σ3,H3,I3,n3⟩:=q3;obtain⟨m',hm,w3⟩:=hN σ3 H3 n3;exact⟨m',hm,σ3,H3,I3,w3⟩
  |brk=>exact q3
  |ret v=>exact q3
 |false =>
  rw[am bK];exact eS ⟨σ1,H2,I2,q2⟩
end
set_option genSizeOf false in
set_option genInjectivity false in
structure It where
 go:Nat->Hp->Prop
 yld:Nat->Hp->V->Hp->Prop
 stop:Nat->Hp->Prop
def qB(X:Cx)(aa:List (D×Obj))(H:Hp)(b:D):Prop :=
 H b=ak/\b≠X.env.locals/\b ∉ X.fs/\(b∈X.ex\/X.s₀.heap.objs.size<=b)/\(∀x c,X.env.cells.lookup x=U c->c≠b)/\∀p∈X.pn++aa,p.1≠b
theorem aO.fpOk{aa:List (D×Obj)}{σ:St}{H H':Hp}{s:ah}{b:D}(I:aO X aa σ H s)(hb:s.heap.objs.size<=b)(hn:H' b=ak):qB X aa H' b:=by
 refine⟨hn,eX (bX I.lt hb),I.nofs hb,.inr (bO I.sz hb),λx c e z=>?_,λp hp z=>?_⟩
 ·obtain⟨v,q⟩:=I.cell x c e;exact absurd (bX q.lt (by rw[z];exact hb)) (fB _)
 ·exact absurd (bX (bH (I.pin p hp).1) (by rw[z];exact hb)) (fB _)
structure zbs(P:au)(w:aw)(K:bx)(tg:aA)(J:It)(fp:List D)(it:D)(tn:Nat->av->Prop):Prop where
 mem:it∈fp
 obj:∀i h,tn i h->∀b∈fp,∃o,h.get? b=U o/\∀v,o.data≠.cell v
 keep:∀i h h',tn i h->(∀b∈fp,∀o,h.get? b=U o->h'.get? b=U o)->tn i h'
 item:∀(X:Cx),X.prog=P->X.w=w->X.K=K->X.calm=af->∀(i:Nat) (aa:List (D×Obj)) (s:ah) (σ:St) (H:Hp) (E:ae->ah->Prop),aO X aa σ H s->(∀b∈fp,qB X aa H b)->tn i s.heap->J.go i H ->
  Bf (Bg P w) X.A (pyNext (.ref it)) (λr s1=>∃u,r=U u /\
   Bf (Bg P w) X.A (letOwnedTupleGo tg (.ref it) u) (λ_ s2=>∃x H',aO X aa σ H' s2/\aU x u/\J.yld i H x H'/\tn (i+1) s2.heap/\∀b∈fp,H' b=ak) E s1) E s
 done:∀(X:Cx),X.prog=P->X.w=w->X.K=K->X.calm=af->∀(i:Nat) (aa:List (D×Obj)) (s:ah) (σ:St) (H:Hp) (E:ae->ah->Prop),aO X aa σ H s->(∀b∈fp,qB X aa H b)->tn i s.heap->J.stop i H ->
  Bf (Bg P w) X.A (pyNext (.ref it)) (λr s1=>r=ak/\aO X aa σ H s1) E s
 self:∀(A:ax) (i:Nat) (s:ah) (Q:ae->ah->Prop) (E:ae->ah->Prop),tn i s.heap->Q (.ref it) s->Bf (Bg P w) A (pyIter (.ref it)) Q E s
abbrev TI:=St->Hp->(It->Hp->Prop)->Prop
def PIE(X:Cx)(aa:List (D×Obj))(σ:St)(tg:aA)(R:It->Hp->Prop)(itv:ae)(s2:ah):Prop :=
 ∃(it:D) (fp:List D) (tn:Nat->av->Prop) (J:It) (H':Hp),itv=.ref it/\aO X aa σ H' s2/\zbs X.prog X.w X.K tg J fp it tn/\tn 0 s2.heap/\(∀b∈fp,qB X aa H' b)/\R J H'
def PI(X:Cx)(tg iter:aA)(wi:TI):Prop :=
 ∀(aa:List (D×Obj)) (s:ah) (σ:St) (H:Hp) (R:It->Hp->Prop),aO X aa σ H s->wi σ H R ->
  Bf (Bg X.prog X.w) X.A (eval iter X.env) (λv s1=>Bf (Bg X.prog X.w) X.A (pyIter v) (PIE X aa σ tg R) X.xe s1) X.xe s
theorem zci{E:ae->ah->Prop}{Q:Unit->ah->Prop}(ho:s.heap.get? it=U o)(hc:o.cls=.type n)(hd:o.data=.fields vs)
  (hn:["enumerate","zip","dict_itemiterator","dict_reverseitemiterator","odict_iterator","itertools.zip_longest","itertools.pairwise"].contains n=ao) (hQ:Q PUnit.unit s):Bf M A (letOwnedTupleGo tg (.ref it) u) Q E s:=by
 unfold letOwnedTupleGo;cases tg <;> first
  |exact bh hQ
  | (cases u <;> first
      |exact bh hQ
      | (refine ba (oq ho ?_)
         rw[hc,hd];show Bf M A (if (["enumerate","zip","dict_itemiterator","dict_reverseitemiterator","odict_iterator","itertools.zip_longest","itertools.pairwise"].contains n&&vs[0]?==U (rawInt _))=af then _ else _) Q E s;rw[am (by intro h;rw[hn,Bool.false_and] at h;cases h)];exact bh hQ))
def Itl(K:bx)(a:D):It :=
 ⟨λi H=>∃xs x,aT K H a xs/\xs[i]?=U x,λi H x H'=>H'=H/\∀xs,aT K H a xs->xs[i]?=U x,λi H=>∃xs,aT K H a xs/\xs.length<=i⟩
def Itt(K:bx)(a:D):It :=
 ⟨λi H=>∃xs x,sN K H a xs/\xs[i]?=U x,λi H x H'=>H'=H/\∀xs,sN K H a xs->xs[i]?=U x,λi H=>∃xs,sN K H a xs/\xs.length<=i⟩
def Itr(lo:Int)(n:Nat):It:=⟨λi _=>i<n,λi H x H'=>H'=H/\x=.int (lo+i),λi _=>n<=i⟩
theorem zc9{P:au}{w:aw}{K:bx}{tg:aA}(a it:D):zbs P w K tg (Itl K a) [it] it (λi h=>h.IsListIter it a i) where
 mem:=by simp
 obj:=λi h st b hb=>by
  have e:b=it:=by simpa using hb
  subst e;obtain⟨o,e,c,d⟩:=st;exact⟨o,e,λv z=>by rw[d] at z;cases z⟩
 keep:=λi h h' st k=>st.at λo e=>k it (by simp) o e
 item:=by
  intro X hP hw hK hc i aa s σ H E I hf st hg;subst hP hw hK;obtain⟨xs,x,hq,hx⟩:=hg;obtain⟨its,rv,p,hz⟩:=I.list hq;obtain⟨u,hu,ru⟩:=rv.get hx;obtain⟨f0,f1,f2,f3,f4,f5⟩:=hf it (by simp);refine nD st p.isList (x:=u) (by simpa using hu) λh' st' sb=>?_;have I1:aO X aa σ H { s with heap:=h' }:=I.turned (t':=s.toks) (λb o hb e=>(sb.2 b hb).trans e) f0 f1 f3 f4 f5;obtain⟨o,e,c,d⟩:=id st';exact⟨u,Z,zci (s:={ s with heap:=h' }) e c d () ⟨x,H,I1,ru,⟨rfl,λys hy=>by rw[I.list_inj hy hq];exact hx⟩,st',λb hb=>(hf b hb).1⟩⟩
 done:=by
  intro X hP hw hK hc i aa s σ H E I hf st hg;subst hP hw hK;obtain⟨xs,hq,hx⟩:=hg;obtain⟨its,rv,p,hz⟩:=I.list hq;obtain⟨f0,f1,f2,f3,f4,f5⟩:=hf it (by simp);have hl:=rv.length;exact nO (I.ok.hd hc) st p.isList (by simp;lia) λh' eb=>⟨Z,I.turned (t':=s.toks) (λb o hb e=>eb b o hb e) f0 f1 f3 f4 f5⟩
 self:=λ_ _ _ _ _ st h=>wpAny_pyIter_listiter st h
theorem zbt{P:au}{w:aw}{K:bx}{tg:aA}(a it:D):zbs P w K tg (Itt K a) [it] it (λi h=>h.IsTupleIter it a i) where
 mem:=by simp
 obj:=λi h st b hb=>by
  have e:b=it:=by simpa using hb
  subst e;obtain⟨o,e,c,d⟩:=st;exact⟨o,e,λv z=>by rw[d] at z;cases z⟩
 keep:=λi h h' st k=>st.at λo e=>k it (by simp) o e
 item:=by
  intro X hP hw hK hc i aa s σ H E I hf st hg;subst hP hw hK;obtain⟨xs,x,hq,hx⟩:=hg;obtain⟨its,rv,p,hz⟩:=I.tuple hq;obtain⟨u,hu,ru⟩:=rv.get hx;obtain⟨f0,f1,f2,f3,f4,f5⟩:=hf it (by simp);refine wpAny_pyNext_tuple_item st (show s.heap.IsTuple a its.toArray from p) (x:=u) (by simpa using hu) λh' st' sb=>?_;have I1:aO X aa σ H { s with heap:=h' }:=I.turned (t':=s.toks) (λb o hb e=>(sb.2 b hb).trans e) f0 f1 f3 f4 f5;obtain⟨o,e,c,d⟩:=id st';exact⟨u,Z,zci (s:={ s with heap:=h' }) e c d () ⟨x,H,I1,ru,⟨rfl,λys hy=>by rw[I.tuple_inj hy hq];exact hx⟩,st',λb hb=>(hf b hb).1⟩⟩
 done:=by
  intro X hP hw hK hc i aa s σ H E I hf st hg;subst hP hw hK;obtain⟨xs,hq,hx⟩:=hg;obtain⟨its,rv,p,hz⟩:=I.tuple hq;obtain⟨f0,f1,f2,f3,f4,f5⟩:=hf it (by simp);have hl:=rv.length;exact wpAny_pyNext_tuple_end (I.ok.hd hc) st (show s.heap.IsTuple a its.toArray from p) (by simp;lia) λh' eb=>⟨Z,I.turned (t':=s.toks) (λb o hb e=>eb b o hb e) f0 f1 f3 f4 f5⟩
 self:=λ_ _ _ _ _ st h=>wpAny_pyIter_tupleiter st h
theorem zbu{P:au}{w:aw}{K:bx}{tg:aA}(it:D)(lo:Int)(n:Nat):zbs P w K tg (Itr lo n) [it] it (λi h=>IsRangeIter h it (lo+(i:Nat)*1) ((n:Int)-(i:Nat)) 1) where
 mem:=by simp
 obj:=λi h st b hb=>by
  have e:b=it:=by simpa using hb
  subst e;exact⟨_,st,λv z=>by
   have z':Data.fields _=Data.cell v:=z;cases z'⟩
 keep:=λi h h' st k=>k it (by simp) _ st
 item:=by
  intro X hP hw hK hc i aa s σ H E I hf st hg;subst hP hw hK;obtain⟨f0,f1,f2,f3,f4,f5⟩:=hf it (by simp);have W:=Walks.range (prog:=X.prog) (w:=X.w) (I.ok.hd hc) it lo 1 n;refine W.item i s _ _ hg st λv h' tk hv st' kk=>?_;obtain⟨t,rfl⟩:=hv;have I1:aO X aa σ H { s with heap:=h',toks:=tk }:=I.turned (λb o hb e=>kk b o (by simpa using hb) e) f0 f1 f3 f4 f5;refine⟨_,Z,zci (s:={ s with heap:=h',toks:=tk }) (n:="range_iterator") st' rfl rfl () ⟨.int (lo+i),H,I1,⟨t,?_⟩,⟨rfl,rfl⟩,st',λb hb=>(hf b hb).1⟩⟩;rw[Int.mul_one]
 done:=by
  intro X hP hw hK hc i aa s σ H E I hf st hg;subst hP hw hK;obtain⟨f0,f1,f2,f3,f4,f5⟩:=hf it (by simp);exact wpAny_pyNext_range_end (I.ok.hd hc) st (by have:n<=i:=hg;lia) λh' eb=>⟨Z,I.turned (t':=s.toks) (λb o hb e=>eb b o hb e) f0 f1 f3 f4 f5⟩
 self:=λ_ _ _ _ _ st h=>wpAny_pyIter_rangeiter st h
section
variable {X:Cx}{tg:aA}
def x9(K:bx)(tl:TE):TI:=λσ H R=>tl σ H λx H1=>∃a,x=.ref a/\(∃xs,aT K H1 a xs)/\R (Itl K a) H1
def zis(K:bx)(tl:TE):TI:=λσ H R=>tl σ H λx H1=>∃a,x=.ref a/\(∃xs,sN K H1 a xs)/\R (Itt K a) H1
theorem xa{tl:TE}(hl:PE X l tl):PI X tg l (x9 X.K tl):=by
 intro aa s σ H R I h;refine hZ (hl aa s σ H _ I h) ?_;rintro v s1 ⟨x,H1,I1,r1,q1⟩;obtain⟨a,e,⟨xs,hq⟩,q⟩:=q1;subst e;cases r1;obtain⟨its,rv,p,hz⟩:=I1.list hq;refine wpAny_pyIter_list p.isList ?_;refine⟨s1.heap.objs.size,[s1.heap.objs.size],_,_,H1,Z,I1.kept (t':=s1.toks) λb o e=>bc _ e,zc9 a _,⟨_,bE _ Z,Z,Z⟩,λb hb=>?_,q⟩;have e:b=s1.heap.objs.size:=by simpa using hb
 subst e;exact I1.fpOk (bn _) (I1.hok.fresh (bn _))
theorem zhw{tl:TE}(hl:PE X l tl):PI X tg l (zis X.K tl):=by
 intro aa s σ H R I h;refine hZ (hl aa s σ H _ I h) ?_;rintro v s1 ⟨x,H1,I1,r1,q1⟩;obtain⟨a,e,⟨xs,hq⟩,q⟩:=q1;subst e;cases r1;obtain⟨its,rv,p,hz⟩:=I1.tuple hq;refine lQ (show s1.heap.IsTuple a its.toArray from p) ?_;refine⟨s1.heap.objs.size,[s1.heap.objs.size],_,_,H1,Z,I1.kept (t':=s1.toks) λb o e=>bc _ e,zbt a _,⟨_,bE _ Z,Z,Z⟩,λb hb=>?_,q⟩;have e:b=s1.heap.objs.size:=by simpa using hb
 subst e;exact I1.fpOk (bn _) (I1.hok.fresh (bn _))
theorem zdX{σ:St}{H:Hp}{s:ah}{R:It->Hp->Prop}{E:ae->ah->Prop}{lo hi:Int}{t u v:Tok}{tk:Nat}(I:aO X aa σ H s)(h1:-(2^62)<=lo)(h2:lo<2^62)(h3:-(2^62)<=hi)(h4:hi<2^62)
  (q:R (Itr lo (hi-lo).toNat) H):Bf (Bg X.prog X.w) X.A (pyIter (.ref s.heap.objs.size)) (PIE X aa σ tg R) E { s with heap:=s.heap.push { cls:=.type "range",data:=.fields #[.int lo t,.int hi u,.int 1 v] },toks:=tk }:=by
 refine wpAny_pyIter_range (IsRange.new ..) (small_one h1 h2 h3 h4) ?_;have I1:aO X aa σ H { s with heap:=s.heap.push { cls:=.type "range",data:=.fields #[.int lo t,.int hi u,.int 1 v] },toks:=tk }:=I.kept λb o e=>bc _ e;refine⟨(s.heap.push { cls:=.type "range",data:=.fields #[.int lo t,.int hi u,.int 1 v] }).objs.size,[(s.heap.push { cls:=.type "range",data:=.fields #[.int lo t,.int hi u,.int 1 v] }).objs.size],_,_,H,Z,
  I1.kept (t':=tk) λb o e=>bc _ e,zbu _ lo (hi-lo).toNat,?_,λb hb=>?_,q⟩
 ·have e1:lo+((0:Nat):Int)*1=lo:=by simp
  have e2:(((hi-lo).toNat:Nat):Int)-((0:Nat):Int)=Builtin.Range.rangeSize lo hi 1:=by rw[rangeSize_one];split <;> lia
  show IsRangeIter _ _ (lo+((0:Nat):Int)*1) ((((hi-lo).toNat:Nat):Int)-((0:Nat):Int)) 1;rw[e1,e2];exact bE _ rfl
 ·have e:b=(s.heap.push { cls:=.type "range",data:=.fields #[.int lo t,.int hi u,.int 1 v] }).objs.size:=by simpa using hb
  subst e;exact I1.fpOk (bn _) (I1.hok.fresh (bn _))
def QY(ta:TA):TI:=λσ H R=>ta σ H λvs H1=>∃j:Int,vs=[.int j]/\-(2^62)<=j/\j<2^62/\R (Itr 0 j.toNat) H1
theorem ZH{ta:TA}(hg:Gl X "range")(hm:X.mg "range"=ak)(ha:PA X [a] ta)(hs:Be [a] X.env=[(ao,eval a X.env)]:=by rfl):PI X tg (.Call (.Name "range" p) [a] [] pos) (QY ta):=by
 intro aa s σ H R I h;refine Call_ (W5 I hg hm boot_range (fW (hZ (ha pos aa s σ H _ I h) ?_) hs Z));rintro us s1 ⟨vs,H1,I1,r1,q1⟩;obtain⟨j,e,q1,q2,q⟩:=q1;subst e;cases r1 with
 |cons r rr =>
  cases rr;obtain⟨t,rfl⟩:=r;exact call_range_1 (zdX I1 () () q1 q2 (by simpa using q))
def qC(wi:TI)(g:TG)(tb:TS):TS:=λBp σ H=>wi σ H λJ H1=>∃W:Nat->Nat->St->Hp->Prop,(∃m,W 0 m σ H1)/\∀i m σ H,W i m σ H ->
 (J.stop i H/\Bp.nx σ H)\/(J.go i H/\∃N:St->Hp->Prop,(∀σ' H',N σ' H'->∃m',m'<m/\W (i+1) m' σ' H')/\∀x H',J.yld i H x H'->g x σ H' λσ2 H2=>tb { Bp with nx:=N,ct:=N,bk:=Bp.nx } σ2 H2)
def W6(fp:List D)(h:av):List (D×Obj):=fp.filterMap λb=>(h.get? b).map λo=>(b,o)
theorem kD(hb:b∈fp)(e:h.get? b=U o):(b,o)∈W6 fp h:=fV.mpr ⟨b,hb,by rw[e];rfl⟩
theorem zda(hp:p∈W6 fp h):p.1∈fp/\h.get? p.1=U p.2:=by
 obtain⟨b,hb,e⟩:=List.mem_filterMap.mp hp;cases q:h.get? b with
 |none=>rw[q] at e;cases e
 |some o =>
  rw[q] at e;have e':(b,o)=p:=bP e;subst e';exact⟨hb,q⟩
theorem aO.pinned{σ:St}{H:Hp}{s:ah}{fp:List D}(I:aO X aa σ H s)(hf:∀b∈fp,qB X aa H b)(ho:∀b∈fp,∃o,s.heap.get? b=U o/\∀v,o.data≠.cell v):aO X (aa++W6 fp s.heap) σ H s:=
 I.pins_of λp hp=>(bw.mp hp).elim (λz=>I.pin p (bJ _ z)) λz=>by
  obtain⟨hb,e⟩:=zda z;obtain⟨f0,f1,f2,_⟩:=hf p.1 hb;obtain⟨o,e',d⟩:=ho p.1 hb;rw[e] at e';cases e';exact⟨e,f0,f1,f2,d⟩
theorem aO.unpinned{σ:St}{H:Hp}{s:ah}(I:aO X (aa++pl) σ H s):aO X aa σ H s:=I.pins_of λp hp=>I.pin p (bJ _ (cp _ hp))
theorem xO{wi:TI}{g:TG}{tb:TS}(hp:PassesOwn (Bg X.prog X.w) X.A X.env X.xe)(hc:X.calm=af)(hi:PI X tg iter wi)(hg:PG X tg g)(hb:PSs X body tb)
  (hs:∀x,foldedSetIterable iter X.env x=pure x:=by intro _;rfl):PS X (.For tg iter body [] pos) (qC wi g tb):=by
 intro aa s σ H Bp I h;refine wpAny_For (hZ (hi aa s σ H _ I h) λv s1 h1=>hZ h1 λitv s2 h2=>?_) hs;obtain⟨it,fp,tn,J,H2,e,I2,T,st2,f2,W,⟨m0,w0⟩,turn⟩:=h2;subst e
 -- what stays af of the iterator's objects through the loop
 have stat:∀ {H':Hp},(∀b∈fp,H' b=ak)->∀b∈fp,qB X aa H' b:=λhn b hb=>⟨hn b hb,(f2 b hb).2⟩;refine codeAny_forLoop_any (λn s'=>∃i σ' H',aO X aa σ' H' s'/\tn i s'.heap/\(∀b∈fp,H' b=ak)/\W i n σ' H') ?_ m0 ⟨0,σ,H2,I2,st2,λb hb=>(f2 b hb).1,w0⟩;rintro n s3 ⟨i,σ3,H3,I3,st3,fr3,w3⟩;rcases turn i n σ3 H3 w3 with ⟨stop,qn⟩|⟨go,N,hN,step⟩
 ·refine fi hp (hZ (T.done X Z Z Z hc i aa s3 σ3 H3 X.xe I3 (stat fr3) st3 stop) ?_);rintro r s4 ⟨hr,I4⟩;subst hr;exact eS ⟨σ3,H3,I4,qn⟩
 ·refine fi hp (hZ (T.item X Z Z Z hc i aa s3 σ3 H3 X.xe I3 (stat fr3) st3 go) ?_);rintro r s4 ⟨u,hr,h4⟩;subst hr;refine fi hp (hZ h4 ?_);rintro _ s5 ⟨x,H5,I5,r5,y5,st5,fr5⟩;have I5':=I5.pinned (stat fr5) (T.obj _ _ st5);refine fi hp (hZ (hg _ s5 σ3 H5 x u _ I5' r5 (step x H5 y5)) ?_);rintro _ s6 ⟨σ6,H6,I6,q6⟩;refine fi hp (hZ (hb _ s6 σ6 H6 _ I6 q6) λf s7 q7=>?_);have again:∀ {σ7:St} {H7:Hp},aO X (aa++W6 fp s5.heap) σ7 H7 s7->N σ7 H7->∃m,m<n/\∃i σ' H',aO X aa σ' H' s7/\tn i s7.heap/\(∀b∈fp,H' b=ak)/\W i m σ' H':=λ{σ7 H7} I7 n7=>by
   obtain⟨m',hm,w7⟩:=hN σ7 H7 n7;refine⟨m',hm,i+1,σ7,H7,I7.unpinned,T.keep _ _ _ st5 λb hb o e=>(I7.pin (b,o) (bJ _ (bJ _ (kD hb e)))).1,λb hb=>?_,w7⟩;obtain⟨o,e,d⟩:=T.obj _ _ st5 b hb;exact(I7.pin (b,o) (bJ _ (bJ _ (kD hb e)))).2.1
  cases f with
  |next=>obtain⟨σ7,H7,I7,n7⟩:=q7;exact again I7 n7
  |cont=>obtain⟨σ7,H7,I7,n7⟩:=q7;exact again I7 n7
  |brk=>obtain⟨σ7,H7,I7,q7⟩:=q7;exact⟨σ7,H7,I7.unpinned,q7⟩
  |ret v=>obtain⟨x7,σ7,H7,I7,r7,q7⟩:=q7;exact⟨x7,σ7,H7,I7.unpinned,r7,q7⟩
end
abbrev R2:=V->V->Hp->VK->Prop
def tN(X:Cx)(f:ae->ae->Sem ae)(r:R2):Prop :=
 ∀(aa:List (D×Obj)) (s:ah) (σ:St) (H:Hp) (x y:V) (v u:ae) (Q:VK),aO X aa σ H s->aU x v->aU y u->r x y H Q ->
  Bf (Bg X.prog X.w) X.A (f v u) (EP X aa σ Q) X.xe s
def UnR(X:Cx)(f:ae->Sem ae)(r:V->Hp->VK->Prop):Prop :=
 ∀(aa:List (D×Obj)) (s:ah) (σ:St) (H:Hp) (x:V) (v:ae) (Q:VK),aO X aa σ H s->aU x v->r x H Q ->
  Bf (Bg X.prog X.w) X.A (f v) (EP X aa σ Q) X.xe s
def qp(X:Cx)(f:ae)(r:List V->Hp->VK->Prop):Prop :=
 ∀(aa:List (D×Obj)) (s:ah) (σ:St) (H:Hp) (xs:List V) (us:List ae) (Q:VK),aO X aa σ H s->aR xs us->r xs H Q ->
  Bf (Bg X.prog X.w) X.A (call f us) (EP X aa σ Q) X.xe s
def aN(r:R2)(ta tb:TE):TE:=λσ H Q=>ta σ H λx H1=>tb σ H1 λy H2=>r x y H2 Q
def tUn(r:V->Hp->VK->Prop)(ta:TE):TE:=λσ H Q=>ta σ H λx H1=>r x H1 Q
def rI(C:Int->Int->Prop)(g:Int->Int->V):R2:=λx y H Q=>∃i j,x=.int i/\y=.int j/\C i j/\Q (g i j) H
def rI0(g:Int->Int->V):R2:=λx y H Q=>∃i j,x=.int i/\y=.int j/\Q (g i j) H
def rU(g:Int->V):V->Hp->VK->Prop:=λx H Q=>∃i,x=.int i/\Q (g i) H
section
variable {X:Cx}{a b c:aA}{ta tb tc:TE}{pos:Pos}
theorem zhx(ha:PE X a ta)(hb:PE X b tb){s:ah}{σ:St}{H:Hp}{R:V->V->Hp->Prop}(I:aO X aa σ H s)
  (h:ta σ H λx H1=>tb σ H1 λy H2=>R x y H2) {Q:ae->ah->Prop} {f:ae->ae->Sem ae}
  (hf:∀v u s2 x y H2,aO X aa σ H2 s2->aU x v->aU y u->R x y H2->Bf (Bg X.prog X.w) X.A (f v u) Q X.xe s2) :
  Bf (Bg X.prog X.w) X.A (eval a X.env) (λv s₁=>Bf (Bg X.prog X.w) X.A (eval b X.env) (λu s₂=>Bf (Bg X.prog X.w) X.A (f v u) Q X.xe s₂) X.xe s₁) X.xe s:=by
 refine hZ (ha aa s σ H _ I h) ?_;rintro v s1 ⟨x,H1,I1,r1,q1⟩;refine hZ (hb aa s1 σ H1 _ I1 q1) ?_;rintro u s2 ⟨y,H2,I2,r2,q2⟩;exact hf v u s2 x y H2 I2 r1 r2 q2
theorem zm{r:R2}(ho:tN X (binaryOp op) r)(ha:PE X a ta)(hb:PE X b tb):PE X (.BinOp a op b pos) (aN r ta tb):=by
 intro aa s σ H Q I h;exact wpAny_BinOp (zhx ha hb I h λv u s2 x y H2 I2 rx ry q=>ho aa s2 σ H2 x y v u Q I2 rx ry q)
theorem zgY{r:V->Hp->VK->Prop}(ho:UnR X (unaryOp op) r)(ha:PE X a ta):PE X (.UnaryOp op a pos) (tUn r ta):=by
 intro aa s σ H Q I h;exact UnaryOp_ (hZ (ha aa s σ H _ I h) λv s1 ⟨x,H1,I1,r1,q1⟩=>ho aa s1 σ H1 x v Q I1 r1 q1)
theorem opI{f:ae->ae->Sem ae}{C:Int->Int->Prop}{g:Int->Int->Int}
  (rule:∀(i j:Int) (t u:Tok) (s:ah) (Q:ae->ah->Prop) (E:ae->ah->Prop),C i j->Q (.int (g i j) s.toks) { s with toks:=s.toks+1 }->Bf (Bg X.prog X.w) X.A (f (.int i t) (.int j u)) Q E s) :
  tN X f (rI C λi j=>.int (g i j)):=by
 intro aa s σ H x y v u Q I rx ry h;obtain⟨i,j,rfl,rfl,hc,q⟩:=h;obtain⟨t,rfl⟩:=rx;obtain⟨t',rfl⟩:=ry;exact rule i j t t' s _ _ hc ⟨.int (g i j),H,I.tok _,⟨_,Z⟩,q⟩
theorem zit{f:ae->ae->Sem ae}{g:Int->Int->Int}
  (rule:∀(i j:Int) (t u:Tok) (s:ah) (Q:ae->ah->Prop) (E:ae->ah->Prop),Q (.int (g i j) s.toks) { s with toks:=s.toks+1 }->Bf (Bg X.prog X.w) X.A (f (.int i t) (.int j u)) Q E s) :
  tN X f (rI0 λi j=>.int (g i j)):=by
 intro aa s σ H x y v u Q I rx ry h;obtain⟨i,j,rfl,rfl,q⟩:=h;obtain⟨t,rfl⟩:=rx;obtain⟨t',rfl⟩:=ry;exact rule i j t t' s _ _ ⟨.int (g i j),H,I.tok _,⟨_,Z⟩,q⟩
theorem zhy{f:ae->ae->Sem ae}{g:Int->Int->Bool}
  (rule:∀(i j:Int) (t u:Tok) (s:ah) (Q:ae->ah->Prop) (E:ae->ah->Prop),Q (.bool (g i j)) s->Bf (Bg X.prog X.w) X.A (f (.int i t) (.int j u)) Q E s) :
  tN X f (rI0 λi j=>.bl (g i j)):=by
 intro aa s σ H x y v u Q I rx ry h;obtain⟨i,j,rfl,rfl,q⟩:=h;obtain⟨t,rfl⟩:=rx;obtain⟨t',rfl⟩:=ry;exact rule i j t t' s _ _ ⟨.bl (g i j),H,I,Z,q⟩
def zbv(i j:Int):Prop:=0<=j/\j<=1000000/\i.natAbs<2^64
theorem yb:tN X (binaryOp .Add) (rI0 λi j=>.int (i+j)):=zit λ_ _ _ _ _ _ _ q=>add_int q
theorem jH:tN X (binaryOp .Sub) (rI0 λi j=>.int (i-j)):=zit λ_ _ _ _ _ _ _ q=>sub_int q
theorem zQ:tN X (binaryOp .Mod) (rI (λ_ j=>0<j) λi j=>.int (i%j)):=opI λi j _ _ _ _ _ hc q=>by
 have h1:(0:Int)<j:=hc;exact mod_int' () (by rw[Int.fmod_eq_emod_of_nonneg i ()];exact q)
theorem zfV:tN X (binaryOp .Mod) (rI (λ_ j=>j≠0) λi j=>.int (i.fmod j)):=opI λ_ _ _ _ _ _ _ hc q=>mod_int' hc q
theorem W7:tN X (binaryOp .Pow) (rI zbv λi j=>.int (i^j.toNat)):=opI λ_ _ _ _ _ _ _ hc q=>pow_int_small hc.1 hc.2.1 hc.2.2 q
theorem unI{f:ae->Sem ae}{g:Int->Int}
  (rule:∀(i:Int) (t:Tok) (s:ah) (Q:ae->ah->Prop) (E:ae->ah->Prop),Q (.int (g i) s.toks) { s with toks:=s.toks+1 }->Bf (Bg X.prog X.w) X.A (f (.int i t)) Q E s) :
  UnR X f (rU λi=>.int (g i)):=by
 intro aa s σ H x v Q I rx h;obtain⟨i,rfl,q⟩:=h;obtain⟨t,rfl⟩:=rx;exact rule i t s _ _ ⟨.int (g i),H,I.tok _,⟨_,Z⟩,q⟩
theorem zdY:UnR X (unaryOp .USub) (rU λi=>.int (-i)):=unI λ_ _ _ _ _ q=>neg_int q
end
def ziu:V->V->Bool
 |.non,.non=>af|.non,.int _=>af|.int _,.non=>af|.non,.bl _=>af|.bl _,.non=>af|.non,.str _=>af|.str _,.non=>af
 |.int _,.int _=>af|.bl _,.bl _=>af|.str _,.str _=>af|.byt _,.byt _=>af
 |.int _,.str _=>af|.str _,.int _=>af|.bl _,.str _=>af|.str _,.bl _=>af
 |_,_=>ao
def tj:R2:=λx y H Q=>ziu x y=af/\Q (.bl (decide (x=y))) H
def rNe:R2:=λx y H Q=>ziu x y=af/\Q (.bl (!decide (x=y))) H
theorem zcj{i j:Int}:decide (V.int i=V.int j)=(i==j):=by
 rw[lq];simp
theorem zdZ :decide (V.bl i=V.bl j)=(i==j):=by
 rw[lq];simp
theorem zck :decide (V.str i=V.str j)=(i==j):=by
 rw[lq];simp
theorem zcl :decide (V.byt i=V.byt j)=(i.toList==j.toList):=by
 rw[lq];cases i;cases j;simp
section
variable {X:Cx}{a b c:aA}{ta tb tc:TE}{pos:Pos}
theorem yj{σ:St}{H:Hp}{s:ah}{Q:VK}{k k':Bool}(I:aO X aa σ H s)(q:Q (.bl k) H)(e:k=k'):EP X aa σ Q (.bool k') s:=by
 subst e;exact⟨.bl k,H,I,Z,q⟩
theorem yA:tN X (Bi .Eq) tj:=by
 intro aa s σ H x y v u Q I rx ry h;obtain⟨hs,q⟩:=h;cases x with
 |non =>
  cases rx;cases y with
  |non=>cases ry;exact PySem.EqNone.eq_none_none (yj I q (by simp))
  |bl j=>cases ry;exact PySem.EqNone.eq_none_bool (yj I q (by simp))
  |int j=>obtain⟨t',rfl⟩:=ry;exact PySem.EqNone.eq_none_int (yj I q (by simp))
  |str j=>obtain⟨t',rfl⟩:=ry;exact PySem.EqNone.eq_none_str (yj I q (by simp))
  |_=>exact absurd (show ao=af from hs) bK
 |bl i =>
  cases rx;cases y with
  |non=>cases ry;exact PySem.EqNone.eq_bool_none (yj I q (by simp))
  |bl j=>cases ry;exact eq_bool (yj I q zdZ)
  |str j=>obtain⟨t',rfl⟩:=ry;exact PySem.EqMixed.eq_bool_str (yj I q (by simp))
  |_=>exact absurd (show ao=af from hs) bK
 |int i =>
  obtain⟨t,rfl⟩:=rx;cases y with
  |non=>cases ry;exact PySem.EqNone.eq_int_none (yj I q (by simp))
  |int j=>obtain⟨t',rfl⟩:=ry;exact eq_int (yj I q zcj)
  |str j=>obtain⟨t',rfl⟩:=ry;exact PySem.EqMixed.eq_int_str (yj I q (by simp))
  |_=>exact absurd (show ao=af from hs) bK
 |str i =>
  obtain⟨t,rfl⟩:=rx;cases y with
  |non=>cases ry;exact PySem.EqNone.eq_str_none (yj I q (by simp))
  |bl j=>cases ry;exact PySem.EqMixed.eq_str_bool (yj I q (by simp))
  |int j=>obtain⟨t',rfl⟩:=ry;exact PySem.EqMixed.eq_str_int (yj I q (by simp))
  |str j=>obtain⟨t',rfl⟩:=ry;exact eq_str (yj I q zck)
  |_=>exact absurd (show ao=af from hs) bK
 |byt i =>
  obtain⟨t,rfl⟩:=rx;cases y with
  |byt j=>obtain⟨t',rfl⟩:=ry;exact W.eq_bytes (yj I q zcl)
  |_=>exact absurd (show ao=af from hs) bK
 |_=>cases y <;> exact absurd (show ao=af from hs) bK
theorem YS:tN X (Bi .NotEq) rNe:=by
 intro aa s σ H x y v u Q I rx ry h;obtain⟨hs,q⟩:=h;cases x with
 |non =>
  cases rx;cases y with
  |non=>cases ry;exact PySem.EqNone.ne_none_none (yj I q (by simp))
  |bl j=>cases ry;exact PySem.EqNone.ne_none_bool (yj I q (by simp))
  |int j=>obtain⟨t',rfl⟩:=ry;exact PySem.EqNone.ne_none_int (yj I q (by simp))
  |str j=>obtain⟨t',rfl⟩:=ry;exact PySem.EqNone.ne_none_str (yj I q (by simp))
  |_=>exact absurd (show ao=af from hs) bK
 |bl i =>
  cases rx;cases y with
  |non=>cases ry;exact PySem.EqNone.ne_bool_none (yj I q (by simp))
  |bl j=>cases ry;exact ne_bool (yj I q (congrArg not zdZ))
  |str j=>obtain⟨t',rfl⟩:=ry;exact PySem.EqMixed.ne_bool_str (yj I q (by simp))
  |_=>exact absurd (show ao=af from hs) bK
 |int i =>
  obtain⟨t,rfl⟩:=rx;cases y with
  |non=>cases ry;exact PySem.EqNone.ne_int_none (yj I q (by simp))
  |int j=>obtain⟨t',rfl⟩:=ry;exact ne_int (yj I q (congrArg not zcj))
  |str j=>obtain⟨t',rfl⟩:=ry;exact PySem.EqMixed.ne_int_str (yj I q (by simp))
  |_=>exact absurd (show ao=af from hs) bK
 |str i =>
  obtain⟨t,rfl⟩:=rx;cases y with
  |non=>cases ry;exact PySem.EqNone.ne_str_none (yj I q (by simp))
  |bl j=>cases ry;exact PySem.EqMixed.ne_str_bool (yj I q (by simp))
  |int j=>obtain⟨t',rfl⟩:=ry;exact PySem.EqMixed.ne_str_int (yj I q (by simp))
  |str j=>obtain⟨t',rfl⟩:=ry;exact ne_str (yj I q (congrArg not zck))
  |_=>exact absurd (show ao=af from hs) bK
 |byt i =>
  obtain⟨t,rfl⟩:=rx;cases y with
  |byt j=>obtain⟨t',rfl⟩:=ry;exact W.ne_bytes (yj I q (congrArg not zcl))
  |_=>exact absurd (show ao=af from hs) bK
 |_=>cases y <;> exact absurd (show ao=af from hs) bK
theorem jm:tN X (Bi .Lt) (rI0 λi j=>.bl (decide (i<j))):=zhy λ_ _ _ _ _ _ _ q=>lt_int q
theorem zgZ:tN X (Bi .LtE) (rI0 λi j=>.bl (decide (i<=j))):=zhy λ_ _ _ _ _ _ _ q=>le_int q
theorem zg0:tN X (Bi .GtE) (rI0 λi j=>.bl (decide (j<=i))):=zhy λ_ _ _ _ _ _ _ q=>ge_int q
theorem zbw:tN X (Bi .Is) (λx y H Q=>y=.non/\Q (.bl (decide (x=.non))) H):=by
 intro aa s σ H x y v u Q I rx ry h;obtain⟨rfl,q⟩:=h;cases ry;refine is_none_gen (yj I q ?_);cases x <;> first
  |(cases rx;rfl)
  |(obtain⟨t,rfl⟩:=rx;rfl)
theorem WW:tN X (Bi .IsNot) (λx y H Q=>y=.non/\Q (.bl (!decide (x=.non))) H):=by
 intro aa s σ H x y v u Q I rx ry h;obtain⟨rfl,q⟩:=h;cases ry;refine isnot_none_gen (yj I q ?_);cases x <;> first
  |(cases rx;rfl)
  |(obtain⟨t,rfl⟩:=rx;rfl)
theorem zE(b:aA)(h:op≠.In:=by lia)(h2:op≠.NotIn:=by lia):behindInMarks op b=ao:=by
 have e1:(op==CmpOp.In)=ao:=by cases op <;> first|rfl|exact absurd Z h
 have e2:(op==CmpOp.NotIn)=ao:=by cases op <;> first|rfl|exact absurd Z h2
 cases b <;> simp[behindInMarks,e1,e2]
theorem ZI{r:R2}(ho:tN X (Bi op) r)(ha:PE X a ta)(hb:PE X b tb)(hm:behindInMarks op b=ao):PE X (.Compare a [op] [b] pos) (aN r ta tb):=by
 intro aa s σ H Q I h;exact wpAny_Compare1 (zhx ha hb I h λv u s2 x y H2 I2 rx ry q=>ho aa s2 σ H2 x y v u Q I2 rx ry q) hm
def zG(t:TE):TT:=λσ H Q=>t σ H λx H'=>∃k,x=.bl k/\Q k H'
theorem zt{r:R2}(ho:tN X (Bi op) r)(ha:PE X a ta)(hb:PE X b tb)(hm:behindInMarks op b=ao):PT X (.Compare a [op] [b] pos) (zG (aN r ta tb)):=by
 intro aa s σ H Q I h;refine wpAny_isTrue_Compare1 (hZ (ha aa s σ H _ I h) λv s1 ⟨x,H1,I1,r1,q1⟩=>hZ (hb aa s1 σ H1 _ I1 q1) λu s2 ⟨y,H2,I2,r2,q2⟩ =>
  hZ (ho aa s2 σ H2 x y v u _ I2 r1 r2 q2) λc s3 ⟨z,H3,I3,r3,k,e,q3⟩=>?_) hm
 subst e;cases r3;exact fh ⟨H3,I3,q3⟩
def zd0(r r':R2)(ta tb tc:TE):TE:=λσ H Q=>ta σ H λx H1=>tb σ H1 λy H2=>r x y H2 λz H3=>∃k,z=.bl k /\
 (if k=af then tc σ H3 λw' H4=>r' y w' H4 Q else Q (.bl ao) H3)
theorem zd1{r r':R2}(ho:tN X (Bi op) r)(ho':tN X (Bi op') r')(ha:PE X a ta)(hb:PE X b tb)(hc:PE X c tc)
  (hm:lastMarks [op,op'] [b,c]=ao:=by with_unfolding_all rfl):PE X (.Compare a [op,op'] [b,c] pos) (zd0 r r' ta tb tc):=by
 intro aa s σ H Q I h;refine Compare_chain (hZ (ha aa s σ H _ I h) λv s1 ⟨x,H1,I1,r1,q1⟩=>chain_link (hZ (hb aa s1 σ H1 _ I1 q1) λu s2 ⟨y,H2,I2,r2,q2⟩ =>
  hZ (ho aa s2 σ H2 x y v u _ I2 r1 r2 q2) λd s3 ⟨z,H3,I3,r3,k,e,q3⟩=>?_)) hm
 subst e;cases r3;refine fh ?_;cases k with
 |false=>exact ite_ff ⟨.bl ao,H3,I3,Z,q3⟩
 |true=>exact ite_tt (chain_last (hZ (hc aa s3 σ H3 _ I3 q3) λw' s4 ⟨z',H4,I4,r4,q4⟩=>ho' aa s4 σ H4 y z' u w' Q I4 r2 r4 q4))
theorem KJ:(Bb:Nat)<2^63:=by rw[bN];decide
theorem wL:tN X (binaryOp .Add) (λx y H Q=>∃i j,x=.str i/\y=.str j/\i.length+j.length<=Bb/\Q (.str (i++j)) H):=by
 intro aa s σ H x y v u Q I rx ry h;obtain⟨i,j,rfl,rfl,hz,q⟩:=h;obtain⟨t,rfl⟩:=rx;obtain⟨t',rfl⟩:=ry;exact add_str (λt' tk=>⟨.str (i++j),H,I.tok _,⟨_,Z⟩,q⟩) hz
theorem qH(r:aR [x] us):∃u,us=[u]/\aU x u:=by
 cases r with
 |cons r1 r2=>cases r2;exact⟨_,Z,r1⟩
theorem zg1(r:aR [x,y] us):∃u w',us=[u,w']/\aU x u/\aU y w':=by
 cases r with
 |cons r1 r2 =>
  cases r2 with
  |cons r3 r4=>cases r4;exact⟨_,_,Z,r1,r3⟩
def zhz(K:bx)(x:V)(H:Hp)(n:Nat):Prop :=
 match x with
 |.str y=>y.length<=Bb/\n=y.length
 |.byt y=>y.size<=Bb/\n=y.size
 |.ref p=>(∃xs,aT K H p xs/\n=xs.length)\/∃xs,sN K H p xs/\n=xs.length
 |_=>False
theorem zW:qp X (.builtin "len") (λxs H Q=>∃x n,xs=[x]/\zhz X.K x H n/\Q (.int n) H):=by
 intro aa s σ H xs us Q I r h;obtain⟨x,n,rfl,e,q⟩:=h;obtain⟨u,rfl,rx⟩:=qH r;have hl:=KJ;have hs:Bb=16777216:=bN;cases x with
 |str y =>
  obtain⟨t,rfl⟩:=rx;obtain⟨hy,e'⟩:y.length<=Bb/\n=y.length:=e;subst e';exact len_str () ⟨.int _,H,I.tok _,⟨_,Z⟩,q⟩
 |byt y =>
  obtain⟨t,rfl⟩:=rx;obtain⟨hy,e'⟩:y.size<=Bb/\n=y.size:=e;subst e';exact W.len_bytes () ⟨.int _,H,I.tok _,⟨_,Z⟩,q⟩
 |ref p =>
  cases rx;have e':(∃xs,aT X.K H p xs/\n=xs.length)\/∃xs,sN X.K H p xs/\n=xs.length:=e;rcases e' with ⟨xs,hx,e'⟩|⟨xs,hx,e'⟩
  ·subst e';obtain⟨its,r',pl,hz⟩:=I.list hx;have hlen:=r'.length;exact Calls.call_len_list pl.isList (by simp only[bL];lia) ⟨.int xs.length,H,I.tok _,⟨_,by simp only[bL];rw[hlen]⟩,q⟩
  ·subst e';obtain⟨its,r',pl,hz⟩:=I.tuple hx;have hlen:=r'.length;exact len_tuple pl (by simp only[bL];lia) ⟨.int xs.length,H,I.tok _,⟨_,by simp only[bL];rw[hlen]⟩,q⟩
 |_=>exact(show False from e).elim
end
structure ObjM(h:av)(x dx C:D)(mA:Str->Option ae):Prop where
 obj:h.get? x=U (fN C dx)
 ns:h.Ns1 dx mA
 ne:dx≠x
theorem zdb{h:av}{mA:Str->Option ae}(n:h.Ns1 dx mA):∃od,h.get? dx=U od/\∀name,sg name od=U (mA name):=by
 obtain⟨o,es,ep,ho,hd,hk,_,hm⟩:=n;refine⟨o,ho,λname=>?_⟩;have e:=hm name;unfold nsFind findBy at e;rw[<-Array.find?_toList] at e;unfold sg;rw[hd];dsimp only;split
 ·rename_i y q;rw[q] at e;exact congrArg U e
 ·rename_i q;rw[q] at e;have a:es.toList.any (·.refKey)=ao:=by
   rw[List.any_eq_false];intro y hy;obtain⟨z,t,hkey⟩:=hk y (Array.mem_toList_iff.mp hy);simp[DictEntry.refKey,hkey]
  have a':¬ es.toList.any (·.refKey)=af:=by rw[a];exact bK
  rw[am a'];exact congrArg U e
theorem ObjM.look{mA:Str->Option ae}(I:ObjM h x dx C mA):∃od,W.InstAt h x (fN C dx) C (U od)/\∀name,sg name od=U (mA name):=
 let ⟨od,ho,hl⟩:=zdb I.ns
 ⟨od,⟨I.obj,Z,Z,ho⟩,hl⟩
section
variable {prog:au}{w:aw}{A:ax}{E:ae->ah->Prop}{s:ah}{K:bx}{x dx C f:D}{mA:Str->Option ae}{name:Str}{v:ae}
theorem zfW{Q:ae->ah->Prop}(X:K.In s.heap)(I:ObjM s.heap x dx C mA)(hg:fT K C name=af)(hh:fC K C=af)
  (ha:bZ K (.ref C) name=U ak) (hv:mA name=U v) (hv':W.handedIn v=af) (h:Q v { s with toks:=s.toks+1 }) :
  Bf (Bg prog w) A (getAttr (.ref x) name expr) Q E s:=by
 obtain⟨od,J,hl⟩:=I.look;exact W.get_value X J (pA hg).1 (W.findObj_own hh ha Z (by rw[hl,hv])) hv' h
theorem zd2{pl:Sem Bool}{Q:ae×List ae->ah->Prop}(X:K.In s.heap)(I:ObjM s.heap x dx C mA)(hg:fT K C name=af)
  (hf:bZ K (.ref C) name=U (U (.ref f))) (ht:pB K (.ref f)=af) (hv:mA name=ak) (h:Q (.ref f,[.ref x]) s) :
  Bf (Bg prog w) A (getMethod (.ref x) name pl) Q E s:=by
 obtain⟨od,J,hl⟩:=I.look;exact W.method_fn X J (pA hg).1 (pA hg).2 hf (beq_iff_eq.mp ht) (by show (sg name od).map (·.isSome)=U ao;rw[hl,hv];rfl) h
theorem zfX{Q:Unit->ah->Prop}(X:K.In s.heap)(I:ObjM s.heap x dx C mA)
  (hs:bZ K (.ref C) "__setattr__"=U (U (.builtin "object.__setattr__"))) (hp:fY K C=af) (ht:W.takerIn K C name=U ak) (hh:fC K C=af)
  (hw:p8 mA ns) (hsz:ns.length<=Bb)
  (h:∀h',ObjM h' x dx C (λy=>if y=name then U v else mA y)->cG dx s.heap h'->Q PUnit.unit { s with heap:=h',toks:=s.toks+2 }) :
  Bf (Bg prog w) A (setAttr (.ref x) name v) Q E s:=by
 obtain⟨od,J,hl⟩:=I.look;refine W.set_plain X J hs (W.osa_open (s:={ s with toks:=s.toks+1 }) (r:=ak) X J hp ht λb=>?_);obtain⟨cd,hc,hd'⟩:=W.any_some hh;have hx:s.heap.get? x=U ⟨.ref C,U dx,.plain,#[]⟩:=I.obj;refine ba (bh (ba (ba (wpAny_loadPart hx (ba (W.Looks.here (s:={ s with toks:=s.toks+1 }) (W.looks_clsIn X hc) ?_))))));rw[hd'];refine bh (a:=U dx) (ba (bh (ba ?_)));refine wpAny_nsSet1 (s:={ s with toks:=s.toks+1 }) I.ns λh' hn2 hs2=>?_;obtain⟨oD,esD,epD,hoD,hdD,hcD⟩:=hn2.count (PySem.Within.cons name v hw);refine ba (wpAny_lookBehind hoD (by rw[hdD];exact pastItsLine_dict (bO hcD (by rw[bW];lia))) ?_);exact bh (h _ ⟨(hs2.2 _ (eW I.ne)).trans I.obj,hn2,I.ne⟩ hs2)
theorem zd3{R:aC->ah->Prop}(X:K.In s.heap)(hm:gK K C=af)
  (hi:bZ K (.ref C) "__init__"=U (U (.ref f))) (hf:W.typeIn K (.ref f)=U (.type "function"))
  (h:codeAny (Bg prog w) (A.under (.builtin "type.__call__" ⟨.ref C::vs,kw⟩)) (.call (.ref f) ⟨.ref (s.heap.objs.size+1)::vs,kw⟩) (W.InitBack (s.heap.objs.size+1) R)
   { s with heap:=(s.heap.push dY).push (fN C s.heap.objs.size) }) :
  codeAny (Bg prog w) A (.call (.ref C) ⟨vs,kw⟩) R s:=by
 obtain⟨hh,g,d,t,os⟩:=s;exact W.make_core (W.makes_of X hm) (W.looks_findIn X hi) (λself=>W.bind_fn X self hf) (.inl Z) h
theorem zdc{R:aC->ah->Prop}(X:K.In s.heap)(hm:gK K C=af)
  (hi:bZ K (.ref C) "__init__"=U (U (.builtin "object.__init__")))
  (hb:∀self,si (Bg prog w) s.heap (bindSpecial (.builtin "object.__init__") self) (.builtin "object.__init__",[self]))
  (h:codeAny (Bg prog w) (A.under (.builtin "type.__call__" ⟨[.ref C],[]⟩)) (.call (.builtin "object.__init__") ⟨[.ref (s.heap.objs.size+1)],[]⟩) (W.InitBack (s.heap.objs.size+1) R)
   { s with heap:=(s.heap.push dY).push (fN C s.heap.objs.size) }) :
  codeAny (Bg prog w) A (.call (.ref C) ⟨[],[]⟩) R s:=by
 obtain⟨hh,g,d,t,os⟩:=s;exact W.make_core (W.makes_of X hm) (W.looks_findIn X hi) hb (.inr ⟨Z,Z⟩) h
end
def vG(f:Str)(v:V):List (Str×V)->List (Str×V)
 |[]=>[(f,v)]
 |(g,x)::r=>if g=f then (g,v)::r else (g,x)::vG f v r
theorem We(f g:Str)(v:V):∀fs:List (Str×V),(vG f v fs).lookup g=if g=f then U v else fs.lookup g
 |[]=>by
  show cU g [(f,v)]=_;by_cases h:g=f
  ·have hb:(g==f)=af:=beq_iff_eq.mpr h;simp only[cU,hb,aq h]
  ·have hb:(g==f)=ao:=beq_eq_false_iff_ne.mpr h;simp only[cU,hb,am h]
 |(k,x)::r=>by
  have ih:=We f g v r;rw[show vG f v ((k,x)::r)=(if k=f then (k,v)::r else (k,x)::vG f v r) from rfl];by_cases hk:k=f
  ·rw[aq hk];by_cases h:g=k
   ·have hb:(g==k)=af:=beq_iff_eq.mpr h;simp only[cU,hb,aq (h.trans hk)]
   ·have hb:(g==k)=ao:=beq_eq_false_iff_ne.mpr h;simp only[cU,hb,am (λe:g=f=>h (e.trans hk.symm))]
  ·rw[am hk];by_cases h:g=k
   ·have hb:(g==k)=af:=beq_iff_eq.mpr h;simp only[cU,hb,am (λe:g=f=>hk (h.symm.trans e))]
   ·have hb:(g==k)=ao:=beq_eq_false_iff_ne.mpr h;simp only[cU,hb];exact ih
theorem XC(f:Str)(v:V):∀fs:List (Str×V),f∈(vG f v fs).map (·.1)/\∀g,g∈fs.map (·.1)->g∈(vG f v fs).map (·.1)
 |[]=>⟨by simp[vG],λg h=>by simp at h⟩
 |(k,x)::r=>by
  obtain⟨i1,i2⟩:=XC f v r;rw[show vG f v ((k,x)::r)=(if k=f then (k,v)::r else (k,x)::vG f v r) from rfl];by_cases hk:k=f
  ·rw[aq hk];subst hk;exact⟨by simp,λg h=>by simpa using h⟩
  ·rw[am hk];refine⟨?_,λg h=>?_⟩
   ·rw[bt];exact bq _ i1
   ·rw[bt] at h ⊢;rcases bu.mp h with e|e
    ·exact bu.mpr (.inl e)
    ·exact bq _ (i2 g e)
theorem Wf(f:Str)(v:V):∀fs:List (Str×V),(vG f v fs).length<=fs.length+1
 |[]=>by simp[vG]
 |(k,x)::r=>by
  have ih:=Wf f v r;rw[show vG f v ((k,x)::r)=(if k=f then (k,v)::r else (k,x)::vG f v r) from rfl];by_cases hk:k=f
  ·rw[aq hk,bW,bW];lia
  ·rw[am hk,bW,bW];lia
theorem sY.some_of(r:sY (U v) o):∃u,o=U u/\aU v u:=by
 cases o with
 |none=>exact(show False from r).elim
 |some u=>exact⟨u,Z,r⟩
theorem sY.none_of(r:sY ak o):o=ak:=by
 cases o with
 |none=>rfl
 |some u=>exact(show False from r).elim
theorem zdd(r:aU v u):W.handedIn u=af:=by
 cases v with
 |non=>cases (show u=cF from r);rfl
 |bl b=>cases (show u=iA b from r);rfl
 |int i=>obtain⟨t,e⟩:=(show ∃t,u=fM i t from r);cases e;rfl
 |str x=>obtain⟨t,e⟩:=(show ∃t,u=gX x t from r);cases e;rfl
 |byt b=>obtain⟨t,e⟩:=(show ∃t,u=Value.bytes b t from r);cases e;rfl
 |flt b=>obtain⟨t,e⟩:=(show ∃t,u=rT b t from r);cases e;rfl
 |ref a=>cases (show u=bI a from r);rfl
 |ty n=>cases (show u=mh n from r);rfl
section
variable {P:au}{w:aw}{H H':Hp}{h h':av}{a C dx:D}{fs fs':List (Str×V)}
theorem WX(hok:tJ P w H h)(e:H a=U (.ins C dx fs)):∃mA,ObjM h a dx C mA/\(∀f,sY (fs.lookup f) (mA f))/\p8 mA (fs.map (·.1))/\fs.length<=1000/\H dx=U (.own a):=by
 obtain⟨d,z,ne,ob,mA,n,r,q⟩:=(show aW P w H h a (.ins C dx fs) from hok a _ e);exact⟨mA,⟨ob,n,ne⟩,r,q,z,d⟩
end
structure tD(K:bx)(C:D):Prop where
 pg:fT K C fO=af
 hd:fC K C=af
 po:fY K C=af
 sa:bZ K (.ref C) "__setattr__"=U (U (.builtin "object.__setattr__"))
theorem tD.get{K:bx}(c:tD K C)(f:Str):fT K C f=af:=c.pg
def aQ(K:bx)(C:D)(f:Str):Prop:=bZ K (.ref C) f=U ak
theorem aQ.taker{K:bx}{C:D}(n:aQ K C f):W.takerIn K C f=U ak:=by
 unfold W.takerIn;rw[show bZ K (.ref C) f=U ak from n];rfl
structure KK(K:bx)(C:D)(m:Str)(f:D):Prop where
 at_:bZ K (.ref C) m=U (U (.ref f))
 fn:pB K (.ref f)=af
 kp:dM K (.ref f)=af
section
variable {X:Cx}{aa:List (D×Obj)}{σ:St}{H:Hp}{s:ah}{a C dx:D}{fs:List (Str×V)}{f:Str}{v:V}{A:ax}{E:ae->ah->Prop}
theorem W8{Q:ae->ah->Prop}(I:aO X aa σ H s)(e:H a=U (.ins C dx fs))(c:tD X.K C)(n:aQ X.K C f)(l:fs.lookup f=U v)
  (h:∀u s',aO X aa σ H s'->aU v u->Q u s'):Bf (Bg X.prog X.w) A (getAttr (.ref a) f b) Q E s:=by
 obtain⟨mA,O,r,_,_,_⟩:=WX I.hok e;obtain⟨u,hu,ru⟩:=sY.some_of (v:=v) (o:=mA f) (by rw[<-l];exact r f);exact zfW I.kIn O (c.get f) c.hd n hu (zdd ru) (h u _ (I.tok _) ru)
theorem kE{pl:Sem Bool}{Q:ae×List ae->ah->Prop}(I:aO X aa σ H s)(e:H a=U (.ins C dx fs))(c:tD X.K C)(k:KK X.K C m g)(l:fs.lookup m=ak)
  (h:Q (.ref g,[.ref a]) s):Bf (Bg X.prog X.w) A (getMethod (.ref a) m pl) Q E s:=by
 obtain⟨mA,O,r,_,_,_⟩:=WX I.hok e;have hn:mA m=ak:=sY.none_of (by rw[<-l];exact r m);exact zd2 I.kIn O (c.get m) k.at_ k.fn hn h
theorem Yi{Q:Unit->ah->Prop}(I:aO X aa σ H s)(e:H a=U (.ins C dx fs))(c:tD X.K C)(n:aQ X.K C f)(hl:fs.length<1000)(ry:aU y u)
  (h:∀s',aO X aa σ (upd H a (.ins C dx (vG f y fs))) s'->Q PUnit.unit s'):Bf (Bg X.prog X.w) A (setAttr (.ref a) f u) Q E s:=by
 obtain⟨mA,O,r,wi,_,ho⟩:=WX I.hok e;have hz:(fs.map (·.1)).length<=Bb:=by rw[bf,bN];lia
 refine zfX I.kIn O c.sa c.po n.taker c.hd wi hz λh' O' sb=>h _ ?_;have hd:∃o,h'.get? dx=U o:=let ⟨o,_,_,e',_⟩:=O'.ns;⟨o,e'⟩
 refine I.write (x:=a) (e:=dx) (by rw[e];exact eJ) (.inr ho) (λb q hb z=>(sb.2 b hb).trans z) hd ?_;refine⟨by rw[zl O.ne];exact ho,?_,O.ne,O'.obj,_,O'.ns,λg=>?_,λg hg=>?_⟩
 ·have:=Wf f y fs;lia
 ·show sY ((vG f y fs).lookup g) (if g=f then U u else mA g);rw[We];by_cases q:g=f
  ·rw[aq q,aq q];exact ry
  ·rw[am q,am q];exact r g
 ·by_cases q:g=f
  ·rw[q];exact(XC f y fs).1
  ·refine(XC f y fs).2 g (wi g λz=>hg ?_);show (if g=f then U u else mA g)=ak;rw[am q];exact z
theorem aO.made(I:aO X aa σ H s):aO X aa σ (upd (upd H s.heap.objs.size (.own (s.heap.objs.size+1))) (s.heap.objs.size+1) (.ins C s.heap.objs.size []))
  { s with heap:=(s.heap.push dY).push (fN C s.heap.objs.size) }:=by
 have e1:(s.heap.push dY).get? s.heap.objs.size=U dY:=bE s.heap rfl;have e2:((s.heap.push dY).push (fN C s.heap.objs.size)).get? (s.heap.objs.size+1)=U (fN C s.heap.objs.size):=by
  have:=bE (s.heap.push dY) (o:=fN C s.heap.objs.size) rfl
  rwa [eP] at this
 have e3:(s.heap.push dY).Ns s.heap.objs.size (λ_=>ak):=⟨dY,#[],_,e1,Z,(λe he=>absurd he (by simp)),λ_=>rfl⟩;have I1:=I.laid (a:=s.heap.objs.size) (o:=.own (s.heap.objs.size+1)) (h':=s.heap.push dY) (t':=s.toks) (λb u q=>bc _ q) (bn _) ⟨_,e1⟩;refine I1.laid (a:=s.heap.objs.size+1) (o:=.ins C s.heap.objs.size []) (t':=s.toks) (λb u q=>bc _ q) (nP (eP _ _)) ?_;have ne:s.heap.objs.size≠s.heap.objs.size+1:=bR (nh _);refine⟨by rw[zl ne,zi],bS _,ne,e2,λ_=>ak,(Heap.Ns1.of_empty e3).at λo q=>bc _ q,λ_=>eJ,λy hy=>absurd Z hy⟩
theorem zfY{Q:ae->ah->Prop}(hb:attributeBase e f env (eval e env)=eval e env)
  (h:Bf (Bg prog w) A (eval e env) (λo s₁=>Bf (Bg prog w) A (getAttr o f af) Q E s₁) E s):Bf (Bg prog w) A (eval (.Attribute e f pos) env) Q E s:=
 Attribute_any_ h (by rw[arm_eval_Attribute,hb])
end
def zR(K:bx)(ta:TE)(f:Str):TE:=λσ H Q=>ta σ H λx H1=>∃a C dx fs v,x=.ref a/\H1 a=U (.ins C dx fs)/\tD K C/\aQ K C f/\fs.lookup f=U v/\Q v H1
def xT(K:bx)(ta tv:TE)(f:Str):TS:=λBp σ H=>tv σ H λy H1=>ta σ H1 λx H2=>∃a C dx fs,x=.ref a/\H2 a=U (.ins C dx fs)/\tD K C/\aQ K C f/\fs.length<1000 /\
 Bp.nx σ (upd H2 a (.ins C dx (vG f y fs)))
def ziv(X:Cx)(op:Operator)(rd:V->V->Hp->VK->Prop):Prop :=
 ∀(aa:List (D×Obj)) (s:ah) (σ:St) (H:Hp) (x y:V) (u v:ae) (Q:VK),aO X aa σ H s->aU x u->aU y v->rd x y H Q->Bf (Bg X.prog X.w) X.A (inplaceOp op u v) (EP X aa σ Q) X.xe s
def zcm(K:bx)(ta tv:TE)(rd:V->V->Hp->VK->Prop)(f:Str):TS:=λBp σ H=>ta σ H λx H1=>∃a C dx fs v,x=.ref a/\H1 a=U (.ins C dx fs)/\tD K C/\aQ K C f/\fs.lookup f=U v /\
 tv σ H1 λy H2=>rd v y H2 λz H3=>∃dx' fs',H3 a=U (.ins C dx' fs')/\fs'.length<1000/\Bp.nx σ (upd H3 a (.ins C dx' (vG f z fs')))
section
variable {X:Cx}{o e value:aA}{f:Str}{pos pos' tpos:Pos}{ta tv:TE}
theorem zx(he:PE X e ta)(hb:attributeBase e f X.env (eval e X.env)=eval e X.env):PE X (.Attribute e f pos) (zR X.K ta f):=by
 intro aa s σ H Q I h;refine zfY hb (hZ (he aa s σ H _ I h) ?_);rintro u s1 ⟨x,H1,I1,rx,a,C,dx,fs,v,ex,ea,c,n,l,q⟩;subst ex;obtain rfl:u=bI a:=rx;exact W8 I1 ea c n l λu' s2 I2 ru=>⟨v,H1,I2,ru,q⟩
theorem yy(ha:PE X o ta)(hv:PE X value tv)(hs:swapsWith value (U (.Attribute o f pos')) pos.line X.env=pure ao):PS X (.Assign [.Attribute o f pos'] value pos) (xT X.K ta tv f):=by
 intro aa s σ H Bp I h;refine iB (hZ (hv aa s σ H _ I h) λu s1 ⟨y,H1,I1,ry,q⟩=>hZ (ha aa s1 σ H1 _ I1 q) ?_) hs;rintro ov s2 ⟨x,H2,I2,rx,a,C,dx,fs,ex,ea,c,n,l,q2⟩;subst ex;obtain rfl:ov=bI a:=rx;exact Yi I2 ea c n l ry λs3 I3=>⟨σ,_,I3,q2⟩
theorem zde{rd:V->V->Hp->VK->Prop}(ha:PE X o ta)(hv:PE X value tv)(hop:ziv X op rd):PS X (.AugAssign (.Attribute o f tpos) op value pos) (zcm X.K ta tv rd f):=by
 intro aa s σ H Bp I h;refine wpAny_AugAssign_AttributeAny (hZ (ha aa s σ H _ I h) ?_);rintro ov s1 ⟨x,H1,I1,rx,a,C,dx,fs,v,ex,ea,c,n,l,q⟩;subst ex;obtain rfl:ov=bI a:=rx;refine W8 I1 ea c n l λu s2 I2 ru=>hZ (hv aa s2 σ H1 _ I2 q) λw3 s3 ⟨y,H2,I3,ry,q3⟩=>hZ (hop aa s3 σ H2 v y u w3 _ I3 ru ry q3) ?_;rintro w4 s4 ⟨z,H3,I4,rz,dx',fs',ea',l',q4⟩;exact Yi I4 ea' c n l' rz λs5 I5=>⟨σ,_,I5,q4⟩
def ziw:V->V->Hp->VK->Prop:=λx y H Q=>∃i j,x=.int i/\y=.int j/\Q (.int (i+j)) H
theorem zhA:ziv X .Add ziw:=by
 rintro aa s σ H x y u v Q I rx ry ⟨i,j,rfl,rfl,q⟩;obtain⟨t,rfl⟩:=(show ∃t,u=fM i t from rx);obtain⟨t',rfl⟩:=(show ∃t',v=fM j t' from ry);exact PyProof.Rows.iadd_int ⟨.int (i+j),H,I.tok _,⟨_,Z⟩,q⟩
end
section
variable {X:Cx}{aa:List (D×Obj)}{σ:St}{H:Hp}{s:ah}{A:ax}{E:ae->ah->Prop}{Q:ae->ah->Prop}{c:ae}{b:Bool}
inductive Yj (K:bx) (H:Hp):V->ae->Prop where
 |non:Yj K H .non (.type "NoneType")
 |bl (x:Bool):Yj K H (.bl x) (.type "bool")
 |int (i:Int):Yj K H (.int i) (.type "int")
 |str (x:Str):Yj K H (.str x) (.type "str")
 |flt (x:UInt64):Yj K H (.flt x) (.type "float")
 |lst {a:D} {xs:List V} (e:H a=U (.lst xs)):Yj K H (.ref a) (.type "list")
 |frz {a:D} {o:Obj} {xs:List V} (e:H a=U (.frz o (.lst xs))):Yj K H (.ref a) (.type "list")
 |tup {a:D} {xs:List V} (e:H a=U (.tup xs)):Yj K H (.ref a) (.type "tuple")
 |dK {a:D} {aJ:List (aV×V)} (e:H a=U (.dK aJ)):Yj K H (.ref a) (.type "dict")
 |dT {a:D} {aJ:List (List aV×V)} (e:H a=U (.dT aJ)):Yj K H (.ref a) (.type "dict")
 |ins {a C dx:D} {fs:List (Str×V)} (e:H a=U (.ins C dx fs)) (cl:tD K C) (ha:bZ K (.ref C) "__class__"=U (U (.builtin "object.__class__")))
   (hn:rW K (.builtin "object.__class__") "__get__"=U (U (.builtin "getset_descriptor.__get__"))) (htk:W.takesIn K (.builtin "object.__class__")=U af)
   (hm:sk K C (.type "object")=U af):Yj K H (.ref a) (.ref C)
theorem zdf(I:aO X aa σ H s)(rx:aU x u)(ty:Yj X.K H x t)(e:fE X.K t c=U b)(h:∀tk,Q (.bool b) { s with toks:=tk }) :
  Bf (Bg X.prog X.w) A (call (.builtin "isinstance") [u,c]) Q E s:=by
 cases ty with
 |non=>cases (show u=cF from rx);exact gL W.kitx_none I.kIn eJ e () h
 |bl y=>cases (show u=iA y from rx);exact gL W.kitx_bool I.kIn eJ e () h
 |int i=>obtain⟨t,q⟩:=(show ∃t,u=fM i t from rx);cases q;exact gL W.kitx_int I.kIn eJ e () h
 |str y=>obtain⟨t,q⟩:=(show ∃t,u=gX y t from rx);cases q;exact gL W.kitx_str I.kIn eJ e () h
 |flt y=>obtain⟨t,q⟩:=(show ∃t,u=rT y t from rx);cases q;exact gL W.kitx_float I.kIn eJ e () h
 |@lst a xs ea =>
  cases (show u=bI a from rx);obtain⟨_,_,n,_,h1⟩:=(show aW X.prog X.w H s.heap a (.lst xs) from I.hok a _ ea);exact gL W.kitx_list I.kIn ⟨_,h1,Z⟩ e () h
 |@frz a ob xs ea =>
  cases (show u=bI a from rx);obtain⟨_,_,_,n,_,h1⟩:=(show aW X.prog X.w H s.heap a (.frz ob (.lst xs)) from I.hok a _ ea);exact gL W.kitx_list I.kIn ⟨_,h1,Z⟩ e () h
 |@tup a xs ea =>
  cases (show u=bI a from rx);obtain⟨_,_,_,p⟩:=(show aW X.prog X.w H s.heap a (.tup xs) from I.hok a _ ea);obtain⟨o,h1,h2,_⟩:=p;exact gL W.kitx_tuple I.kIn ⟨o,h1,h2⟩ e () h
 |@dK a aJ ea =>
  cases (show u=bI a from rx);obtain⟨_,_,vs,_,p⟩:=(show aW X.prog X.w H s.heap a (.dK aJ) from I.hok a _ ea);obtain⟨o,es,ep,h1,h2,_⟩:=p;exact gL W.kitx_dict I.kIn ⟨o,h1,h2.1⟩ e () h
 |@dT a aJ ea =>
  cases (show u=bI a from rx);obtain⟨_,_,xs,_,o,es,ep,h1,h2,_⟩:=(show aW X.prog X.w H s.heap a (.dT aJ) from I.hok a _ ea);exact gL W.kitx_dict I.kIn ⟨o,h1,h2.1⟩ e () h
 |@ins a C dx fs ea cl ha hn htk hm =>
  cases (show u=bI a from rx);obtain⟨mA,O,_⟩:=WX I.hok ea;obtain⟨od,J,_⟩:=O.look;exact gL (W.kitx_own (cl.get _) cl.hd ha hn htk hm) I.kIn J e () h
end
structure sG(k:Nat)(A:ax):Prop where
 hd:A.handled=ak
 dp:A.depth+3*k+5<recursionLimit
 un:A.units+16*k+200<cLine
theorem sG.mono(r:sG k A)(h:j<=k):sG j A:=⟨r.hd,by have:=r.dp;lia,by have:=r.un;lia⟩
theorem sG.deeper(r:sG (k+1) A)(env:Env):sG k (A.deeper env):=
 ⟨r.hd,by have:=r.dp;show A.depth+1+3*k+5<_;lia,by have:=r.un;show A.units+3+16*k+200<_;lia⟩
theorem zbx{A:ax}{C:D}{us:List ae} :(A.under (.builtin "type.__call__" ⟨.ref C::us,kw⟩)).depth=A.depth+1:=by
 first|rfl|simp[rc,Code.weight,Code.isCreation,Code.isGuard,Code.isCaller,Code.frames,rf,guardIds]
theorem zby{A:ax}{C:D}{us:List ae} :(A.under (.builtin "type.__call__" ⟨.ref C::us,kw⟩)).units=A.units+1:=by
 first|rfl|simp[rc,Code.cUnits,Code.frames,rf]
theorem sG.make(r:sG (k+1) A)(C:D)(us:List ae)(kw:List (Str×ae)):sG k (A.under (.builtin "type.__call__" ⟨.ref C::us,kw⟩)):=
 ⟨r.hd,by have:=r.dp;rw[zbx];lia,by have:=r.un;rw[zby];lia⟩
theorem sG.depth(r:sG k A):A.depth<recursionLimit:=by have:=r.dp;lia
theorem sG.units(r:sG k A):A.units+64<cLine:=by have:=r.un;lia
def zk:TA:=λ_ H Q=>Q [] H
def zd(ta:TE)(tr:TA):TA:=λσ H Q=>ta σ H λx H1=>tr σ H1 λxs H2=>Q (x::xs) H2
section
variable {X:Cx}{e:aA}{es:List aA}{te:TE}{t:TA}{pos:Pos}
theorem zf:PA X [] zk:=λ_ _ _ _ H Q I h=>eR ⟨[],H,I,.nil,h⟩
theorem za(ha:PE X e te)(hr:PA X es t)(hs:Be (e::es) X.env=(ao,eval e X.env)::Be es X.env:=by rfl):PA X (e::es) (zd te t):=by
 intro pos aa s σ H Q I h;rw[hs];show Bf _ _ (spliced ((ao,eval e X.env)::backTo pos (Be es X.env))) _ _ s;refine cR (hZ (ha aa s σ H _ I h) ?_);rintro u s1 ⟨x,H1,I1,r1,q1⟩;exact hZ (hr pos aa s1 σ H1 _ I1 q1) λus s2 ⟨xs,H2,I2,r2,q2⟩=>⟨x::xs,H2,I2,.cons r1 r2,q2⟩
def yZ(t:TA):TE:=λσ H Q=>t σ H λxs H1=>xs.length<=Bb/\∀p,H1 p=ak->Q (.ref p) (upd H1 p (.tup xs))
def vq(t:TA):TE:=λσ H Q=>t σ H λxs H1=>xs.length<=Bb/\∀p,H1 p=ak->Q (.ref p) (upd H1 p (.lst xs))
theorem zX{x1}(h:PA X es t):PE X (.Tuple es x1 pos) (yZ t):=by
 intro aa s σ H Q I hq;refine wpAny_Tuple_spliced (hZ (h pos aa s σ H _ I hq) λus s1 ⟨xs,H1,I1,r,z,q⟩=>⟨by rw[<-r.length];exact z,?_⟩);have hf:H1 s1.heap.objs.size=ak:=I1.hok.fresh (bn _);refine⟨.ref s1.heap.objs.size,upd H1 s1.heap.objs.size (.tup xs),I1.laid (t':=s1.toks) (λb u e=>bc _ e) (bn _) ?_,Z,q _ hf⟩;exact⟨z,us,r,⟨_,bE _ Z,Z,_,Z⟩⟩
theorem yH(h:PA X es t):PE X (.List es pos) (vq t):=by
 intro aa s σ H Q I hq;refine wpAny_List_spliced (hZ (h pos aa s σ H _ I hq) λus s1 ⟨xs,H1,I1,r,z,q⟩=>⟨by rw[<-r.length];exact z,?_⟩);have hf:H1 s1.heap.objs.size=ak:=I1.hok.fresh (bn _);refine⟨.ref s1.heap.objs.size,upd H1 s1.heap.objs.size (.lst xs),I1.laid (t':=s1.toks) (λb u e=>bc _ e) (bn _) ?_,Z,q _ hf⟩;exact⟨z,us,0,r,bE _ Z⟩
end
abbrev Sp:=List V->Hp->VK->XK->Prop
abbrev CXT:=List Env->Hp->ah->XK->ae->ah->Prop
structure Env0(P:au)(w:aw)(K:bx)(mg:Str->Option ae)(base:av)(A:ax)(outer:List Env)(s:ah)(H:Hp):Prop where
 frames:A.frames=U outer
 mod:Mod K mg base
 bs:∀b o,base.get? b=U o->s.heap.get? b=U o/\H b=ak
 bsz:base.objs.size<=s.heap.objs.size
 funs:s.heap.FunFrames base outer
 frf:∀b∈tq outer,H b=ak
 hok:tJ P w H s.heap
 bare:AllBare s.gens
def CE(outer:List Env)(P:au)(w:aw)(H:Hp)(s:ah)(Q:VK)(u:ae)(s':ah):Prop :=
 ∃v H',s'.os=s.os/\AllBare s'.gens/\Un (tq outer) [] H H' s.heap s'.heap/\tJ P w H' s'.heap/\aU v u/\Q v H'
def CR(CX:CXT)(outer:List Env)(P:au)(w:aw)(H:Hp)(s:ah)(Q:VK)(E:XK)(r:aC)(s':ah):Prop :=
 match r with
 |.ok (.ret u)=>CE outer P w H s Q u s'
 |.ok _=>False
 |.error e=>CX outer H s E e s'
structure mt(P:au)(w:aw)(K:bx)(mg:Str->Option ae)(base:av)(CX:CXT)(k:Nat)(f:D)(fd:Bc)(ps:List Str)(sp:Sp):Prop where
 len:∀vs H Q E,sp vs H Q E->vs.length=ps.length
 run:∀(A:ax) (outer:List Env) (s:ah) (H:Hp) (args:Args) (us:List ae) (vs:List V) (Q:VK) (E:XK),sG k A->Env0 P w K mg base A outer s H->BindsTo s fd args (ps.zip us)->aR vs us->sp vs H Q E ->
  codeAny (Bg P w) A (.call (.ref f) args) (CR CX outer P w H s Q E) s
theorem mt.mono{w:aw}{K:bx}{mg:Str->Option ae}{base:av}{CX:CXT}{j k:Nat}{f:D}{fd:Bc}{ps:List Str}{sp:Sp}(F:mt P w K mg base CX j f fd ps sp)(h:j<=k) :
  mt P w K mg base CX k f fd ps sp:=⟨F.len,λA outer s H args us vs Q E hr=>F.run A outer s H args us vs Q E (hr.mono h)⟩
theorem Env0.make{w:aw}{K:bx}{mg:Str->Option ae}{base:av}{A:ax}{outer:List Env}{s:ah}{H:Hp}(e:Env0 P w K mg base A outer s H)(C:D)(us:List ae)(kw:List (Str×ae)) :
  Env0 P w K mg base (A.under (.builtin "type.__call__" ⟨.ref C::us,kw⟩)) outer s H:=⟨by first|exact e.frames|(simpa[rc,Code.envs,rf,pushEnvs] using e.frames),e.mod,e.bs,e.bsz,e.funs,e.frf,e.hok,e.bare⟩
section
variable {X:Cx}{aa:List (D×Obj)}{σ:St}{H:Hp}{s s':ah}
theorem aO.env0(I:aO X aa σ H s):Env0 X.prog X.w X.K X.mg X.base X.A X.stack s H :=
 ⟨I.ok.frames,I.ok.mod,I.bs,bO I.ok.bsz I.sz,I.stack,I.stkFree,I.hok,I.bare⟩
theorem aO.after{Q:VK}(I:aO X aa σ H s)(h:CE X.stack X.prog X.w H s Q u s'):EP X aa σ Q u s':=by
 obtain⟨v,H',os,bare,un,hok,r,q⟩:=h;obtain⟨hh,g,d,t,os'⟩:=s';obtain rfl:os'=s.os:=os;exact⟨v,H',I.call (h':=hh) (g':=g) (d':=d) (t':=t) (ch:=[]) un hok bare (λb z=>absurd z (by simp)),r,q⟩
end
def zV(sp:Sp)(dvs:List V)(E:XK)(t:TA):TE:=λσ H Q=>t σ H λvs H1=>sp (vs++dvs) H1 Q E
def zN(C:D)(m:Str)(sp:Sp)(dvs:List V)(E:XK)(ta:TE)(t:TA):TE:=λσ H Q=>ta σ H λx H1=>∃a dx fs,x=.ref a/\H1 a=U (.ins C dx fs)/\fs.lookup m=ak /\
 t σ H1 λvs H2=>sp (x::(vs++dvs)) H2 Q E
def Z1(C:D)(sp:Sp)(dvs:List V)(E:XK)(t:TA):TE:=λσ H Q=>t σ H λvs H1=>∀x dx,H1 x=ak->H1 dx=ak->dx≠x ->
 sp (.ref x::(vs++dvs)) (upd (upd H1 dx (.own x)) x (.ins C dx [])) (λv H2=>v=.non/\Q (.ref x) H2) E
def sI(K:bx)(fd:Bc)(ps:List Str)(ds:List ae):Prop :=
 ∀(s:ah) (us:List ae),K.In s.heap->(us++ds).length=ps.length->BindsTo s fd ⟨us,[]⟩ (ps.zip (us++ds))
theorem sI.all{K:bx}{fd:Bc}(h:∀us:List ae,us.length=ps.length->bindArgs fd ⟨us,[]⟩=pure (ps.zip us)):sI K fd ps []:=λs us _ hl=>by
 rw[fj] at hl ⊢;exact .of_eq (h us hl)
def xU(CX:CXT)(X:Cx)(E:XK):Prop:=∀(aa:List (D×Obj)) (σ:St) (H:Hp) (s:ah) (e:ae) (s':ah),aO X aa σ H s->CX X.stack H s E e s'->X.xe e s'
section
variable {X:Cx}{CX:CXT}{k:Nat}{f C:D}{fd:Bc}{ps:List Str}{sp:Sp}{dvs:List V}{ds:List ae}{E:XK}{x m:Str}{p pos sC:Pos}{e o:aA}{es:List aA}{ta:TE}{t:TA}
theorem KL{σ:St}{H:Hp}{s:ah}{Q:VK}{us:List ae}{vs:List V}(F:mt X.prog X.w X.K X.mg X.base CX k f fd ps sp)(hr:sG k X.A)(hb:sI X.K fd ps ds)(hd:aR dvs ds)(hx:xU CX X E)
  (I:aO X aa σ H s) (r:aR vs us) (h:sp (vs++dvs) H Q E):Bf (Bg X.prog X.w) X.A (call (.ref f) us) (EP X aa σ Q) X.xe s:=by
 have r2:aR (vs++dvs) (us++ds):=r.append hd;have hl:(us++ds).length=ps.length:=by rw[<-r2.length];exact F.len _ _ _ _ h
 refine pQ (fZ (F.run X.A X.stack s H ⟨us,[]⟩ (us++ds) (vs++dvs) Q E hr I.env0 (hb s us I.kIn hl) r2 h) λr s' hq=>?_);cases r with
 |error e=>exact hx aa σ H s e s' I hq
 |ok fl =>
  cases fl with
  |ret u=>exact I.after hq
  |next=>exact c9 hq
  |brk=>exact c9 hq
  |cont=>exact c9 hq
theorem YT(F:mt X.prog X.w X.K X.mg X.base CX k f fd ps sp)(hr:sG k X.A)(hg:Gl X x)(hm:X.mg x=U (.ref f))(hk:dM X.K (.ref f)=af)(hb:sI X.K fd ps ds)(hd:aR dvs ds)(hx:xU CX X E)
  (ha:PA X (e::es) t) (hdb:(x==("__debug__":Str))=ao:=by lia) (he:Be (e::es) X.env=(ao,eval e X.env)::Be es X.env:=by rfl) (hpl:(backTo pos (Be es X.env)).any (·.1)=ao:=by rfl) :
  PE X (.Call (.Name x p) (e::es) [] pos) (zV sp dvs E t):=by
 intro aa s σ H Q I h;refine eY (wW I hg hm ?_ hdb);refine lR (h₀:=X.base) I.ok.mod.kin hk (hZ (ha pos aa s σ H _ I h) λus s1 ⟨vs,H1,I1,r,q⟩=>⟨I1.kIn,?_⟩) he hpl;exact KL F hr hb hd hx I1 r q
theorem zcn{pl:Sem Bool}(he:PE X o ta)(c:tD X.K C)(hm:KK X.K C m f)(F:mt X.prog X.w X.K X.mg X.base CX k f fd ps sp)(hr:sG k X.A)(hb:sI X.K fd ps ds)(hd:aR dvs ds)(hx:xU CX X E)(ha:PA X (e::es) t)
  (hst:Be (e::es) X.env=(ao,eval e X.env)::Be es X.env:=by rfl) (hpl:(backTo pos (Be es X.env)).any (·.1)=ao:=by rfl)
  (ht:eval (.Call (.Attribute o m sC) (e::es) [] pos) X.env=(do
   let ov <-eval o X.env
   standAt sC.atName
   let (f,first) <-holding [ov] (getMethod ov m pl)
   callWith pos f first (backTo pos (Be (e::es) X.env)) (backToKw pos (keywordEach [] X.env))):=by rfl) :
  PE X (.Call (.Attribute o m sC) (e::es) [] pos) (zN C m sp dvs E ta t):=by
 intro aa s σ H Q I h;refine lz (pl:=pl) (hZ (he aa s σ H _ I h) ?_) ht;rintro u s1 ⟨x,H1,I1,rx,a,dx,fs,ex,ea,l,q⟩;subst ex;obtain rfl:u=bI a:=rx;refine kE I1 ea c hm l ?_;refine lR (first:=[.ref a]) (h₀:=X.base) I.ok.mod.kin hm.kp (hZ (ha pos aa s1 σ H1 _ I1 q) λus s2 ⟨vs,H2,I2,r,q2⟩=>⟨I2.kIn,?_⟩) hst hpl;exact KL (us:=.ref a::us) (vs:=.ref a::vs) F hr hb hd hx I2 (.cons Z r) q2
theorem QZ{pl:Sem Bool}(he:PE X o ta)(c:tD X.K C)(hm:KK X.K C m f)(F:mt X.prog X.w X.K X.mg X.base CX k f fd ps sp)(hr:sG k X.A)(hb:sI X.K fd ps ds)(hd:aR dvs ds)(hx:xU CX X E)
  (ht:eval (.Call (.Attribute o m sC) [] [] pos) X.env=(do
   let ov <-eval o X.env
   standAt sC.atName
   let (f,first) <-holding [ov] (getMethod ov m pl)
   callWith pos f first (backTo pos (Be [] X.env)) (backToKw pos (keywordEach [] X.env))):=by rfl) :
  PE X (.Call (.Attribute o m sC) [] [] pos) (zN C m sp dvs E ta zk):=by
 intro aa s σ H Q I h;refine lz (pl:=pl) (hZ (he aa s σ H _ I h) ?_) ht;rintro u s1 ⟨x,H1,I1,rx,a,dx,fs,ex,ea,l,q⟩;subst ex;obtain rfl:u=bI a:=rx;refine kE I1 ea c hm l ?_;exact pC (first:=[.ref a]) I1.kIn hm.kp (KL (us:=[.ref a]) (vs:=[.ref a]) F hr hb hd hx I1 (.cons Z .nil) q)
structure Mk(K:bx)(C f:D):Prop where
 makes:gK K C=af
 init:bZ K (.ref C) "__init__"=U (U (.ref f))
 fn:pB K (.ref f)=af
 kp:dM K (.ref C)=af
theorem Q5{σ:St}{H:Hp}{s:ah}{Q:VK}{us:List ae}{vs:List V}(M:Mk X.K C f)(F:mt X.prog X.w X.K X.mg X.base CX k f fd ps sp)(hr:sG (k+1) X.A)(hb:sI X.K fd ps ds)(hd:aR dvs ds)
  (hx:xU CX X E) (I:aO X aa σ H s) (r:aR vs us)
  (h:∀x dx,H x=ak->H dx=ak->dx≠x->sp (.ref x::(vs++dvs)) (upd (upd H dx (.own x)) x (.ins C dx [])) (λv H2=>v=.non/\Q (.ref x) H2) E) :
  Bf (Bg X.prog X.w) X.A (call (.ref C) us) (EP X aa σ Q) X.xe s:=by
 have hq:=h (s.heap.objs.size+1) s.heap.objs.size (I.hok.fresh (rX _)) (I.hok.fresh (bn _)) (bR (nh _));have I2:=aO.made (C:=C) I;have r2:aR (V.ref (s.heap.objs.size+1)::(vs++dvs)) (bI (s.heap.objs.size+1)::(us++ds)):=.cons Z (r.append hd);have hl:(bI (s.heap.objs.size+1)::us++ds).length=ps.length:=by
  have e:=r2.length;rw[F.len _ _ _ _ hq] at e;exact e.symm
 refine pQ (zd3 (f:=f) I.kIn M.makes M.init (beq_iff_eq.mp M.fn) (fZ (F.run _ X.stack _ _ ⟨bI (s.heap.objs.size+1)::us,[]⟩ (bI (s.heap.objs.size+1)::(us++ds)) _ _ E (hr.make C us [])
  (I2.env0.make C us []) (hb _ (bI (s.heap.objs.size+1)::us) I2.kIn hl) r2 hq) λr s' hq'=>?_))
 cases r with
 |error e=>exact hx aa σ _ _ e s' I2 hq'
 |ok fl =>
  cases fl with
  |ret u =>
   obtain⟨v,H',I3,rv,ev,q3⟩:=I2.after hq';subst ev;exact⟨rv,⟨V.ref (s.heap.objs.size+1),H',I3,Z,q3⟩⟩
  |next=>exact c9 hq'
  |brk=>exact c9 hq'
  |cont=>exact c9 hq'
theorem WY(M:Mk X.K C f)(F:mt X.prog X.w X.K X.mg X.base CX k f fd ps sp)(hr:sG (k+1) X.A)(hg:Gl X x)(hm:X.mg x=U (.ref C))(hb:sI X.K fd ps ds)(hd:aR dvs ds)(hx:xU CX X E)
  (ha:PA X (e::es) t) (hdb:(x==("__debug__":Str))=ao:=by lia) (he:Be (e::es) X.env=(ao,eval e X.env)::Be es X.env:=by rfl) (hpl:(backTo pos (Be es X.env)).any (·.1)=ao:=by rfl) :
  PE X (.Call (.Name x p) (e::es) [] pos) (Z1 C sp dvs E t):=by
 intro aa s σ H Q I h;refine eY (wW I hg hm ?_ hdb);refine lR (h₀:=X.base) I.ok.mod.kin M.kp (hZ (ha pos aa s σ H _ I h) λus s1 ⟨vs,H1,I1,r,q⟩=>⟨I1.kIn,?_⟩) he hpl;exact Q5 M F hr hb hd hx I1 r q
theorem zd4(M:Mk X.K C f)(F:mt X.prog X.w X.K X.mg X.base CX k f fd ps sp)(hr:sG (k+1) X.A)(hg:Gl X x)(hm:X.mg x=U (.ref C))(hb:sI X.K fd ps ds)(hd:aR dvs ds)(hx:xU CX X E)
  (hdb:(x==("__debug__":Str))=ao:=by lia):PE X (.Call (.Name x p) [] [] pos) (Z1 C sp dvs E zk):=by
 intro aa s σ H Q I h;refine eY (wW I hg hm ?_ hdb);exact pC I.kIn M.kp (Q5 (us:=[]) M F hr hb hd hx I .nil h)
end
structure aM(N P:List Str)(sc:aB):Prop where
 kind:sc.kind=.function
 co:sc.isCoroutine=ao
 gen:sc.isGenerator=ao
 nd:N.Nodup
 pre:N.take P.length=P
 par:∀x∈P,sc.names.lookup x=U .local\/sc.names.lookup x=U .cell
 nofree:∀y∈sc.names,y.2≠.free
theorem JU{kindOf:Str->Option NameKind}{x:Str}:∀ {binds:List (Str×ae)} {m:Str->Option ae},(∀v,(x,v) ∉ binds)->bindL kindOf binds m x=m x
 |[],_,_=>rfl
 |(n,v)::r,m,h=>by
  unfold bindL;rw[JU λw hw=>h w (bq _ hw)];split
  ·have:x≠n:=by rintro rfl;exact h v br
   simp[this]
  ·rfl
theorem JV{kindOf:Str->Option NameKind}{x:Str}:∀ {binds:List (Str×ae)} {m:Str->Option ae},(∀v,(x,v) ∉ binds)->bindC kindOf binds m x=m x
 |[],_,_=>rfl
 |(n,v)::r,m,h=>by
  unfold bindC;rw[JV λw hw=>h w (bq _ hw)];split
  ·rfl
  ·have:x≠n:=by rintro rfl;exact h v br
   simp[this]
theorem JW{kindOf:Str->Option NameKind}{x:Str}{v:ae}:∀ {P:List Str} {vs:List ae} {i:Nat} {m:Str->Option ae},P.Nodup->P[i]?=U x->vs[i]?=U v->kindOf x=U .local ->
  bindL kindOf (P.zip vs) m x=U v
 |[],_,_,_,_,h,_,_=>by simp at h
 |_::_,[],_,_,_,_,h,_=>by simp at h
 |p::P,w::vs,0,m,nd,h1,h2,hk=>by
  simp at h1 h2;subst h1;subst h2;show bindL kindOf ((p,w)::P.zip vs) m p=_;unfold bindL;rw[JU λv hv=>(bY.mp nd).1 (nQ hv).1,aq hk];simp
 |p::P,w::vs,i+1,m,nd,h1,h2,hk=>by
  show bindL kindOf ((p,w)::P.zip vs) m x=_;unfold bindL;exact JW (i:=i) (bY.mp nd).2 (by simpa using h1) (by simpa using h2) hk
theorem JX{kindOf:Str->Option NameKind}{x:Str}{v:ae}:∀ {P:List Str} {vs:List ae} {i:Nat} {m:Str->Option ae},P.Nodup->P[i]?=U x->vs[i]?=U v->kindOf x≠U .local ->
  bindC kindOf (P.zip vs) m x=U v
 |[],_,_,_,_,h,_,_=>by simp at h
 |_::_,[],_,_,_,_,h,_=>by simp at h
 |p::P,w::vs,0,m,nd,h1,h2,hk=>by
  simp at h1 h2;subst h1;subst h2;show bindC kindOf ((p,w)::P.zip vs) m p=_;unfold bindC;rw[JV λv hv=>(bY.mp nd).1 (nQ hv).1,am hk];simp
 |p::P,w::vs,i+1,m,nd,h1,h2,hk=>by
  show bindC kindOf ((p,w)::P.zip vs) m x=_;unfold bindC;exact JX (i:=i) (bY.mp nd).2 (by simpa using h1) (by simpa using h2) hk
def start(N:List Str)(vs:List V):St:=vs.map U++iG (N.length-vs.length) ak
def qD(CX:CXT)(P:au)(w:aw)(K:bx)(mg:Str->Option ae)(base:av)(N:List Str)(qual:Str)(scope:aB)(f:D)(cd:ae)(A:ax)(outer:List Env)(s:ah)(H:Hp)(E:XK):Cx where
 prog:=P
 w:=w
 K:=K
 mg:=mg
 base:=base
 A:=A.deeper (envOfC qual scope s.heap.objs.size f cd)
 N:=N
 s₀:=s
 H₀:=H
 env:=envOfC qual scope s.heap.objs.size f cd
 outer:=outer
 stack:=envOfC qual scope s.heap.objs.size f cd::outer
 ex:=[]
 calm:=af
 fn:=λ_=>af
 pn:=[]
 xe:=λe s'=>Bf (Bg P w) (A.deeper (envOfC qual scope s.heap.objs.size f cd)) (leaving (envOfC qual scope s.heap.objs.size f cd) e) (λ_ s''=>CX outer H s E e s'') (λe' s''=>CX outer H s E e' s'') s'
theorem Q6{sc:aB}{n:Nat}(h:sc.names.lookup x=U .cell):∃c,(cellsFrom n sc.names []).lookup x=U c:=by
 have q:=W.cellsFrom_some sc.names n [] (.inl h);exact fm.mp q
theorem zdg{CX:CXT}{P:au}{w:aw}{K:bx}{mg:Str->Option ae}{base:av}{N ps:List Str}{qual:Str}{scope:aB}{f:D}{cd:ae}{A:ax}{outer:List Env}{s s1:ah}{H:Hp}{E:XK}{us:List ae}{vs:List V}
  (S:aM N ps scope) (hd:A.handled=ak) (e0:Env0 P w K mg base A outer s H) (hl:vs.length=ps.length) (r:aR vs us)
  (x:InCallC s s.heap.objs.size (bindL (envOfC qual scope s.heap.objs.size f cd).kindOf (ps.zip us) λ_=>ak) (cellsFrom (s.heap.objs.size+1) scope.names []) (bindC (envOfC qual scope s.heap.objs.size f cd).kindOf (ps.zip us) λ_=>ak) s1) :
  aO (qD CX P w K mg base N qual scope f cd A outer s H E) [] (start N vs) H s1:=by
 have hpl:ps.length<=N.length:=by have:=congrArg fG S.pre;rw[cC] at this;lia
 obtain⟨h1,tk,rfl,hk⟩:=x.done;have noA:∀b:D,b ∉ (qD CX P w K mg base N qual scope f cd A outer s H E).ex:=λb z=>absurd (show b∈([]:List D) from z) (by simp);refine⟨⟨e0.mod,S.kind,Z,Z,bn _,λy z c h1 h2=>?_,λy hy=>?_,λy c _ h=>?_,λ_=>hd,Around.frames_deeper e0.frames,.inr ⟨Z,Z⟩,λb z=>absurd z (noA b),e0.bs,e0.bsz,λb _ _=>noA b,λb z=>absurd z (noA b),e0.funs,e0.frf⟩,
  rfl,e0.bare,Un.kept hk,⟨_,x.toInCall.ns,λi y v h1 h2 h3=>?_⟩,λy c h=>⟨_,x.cell y c h⟩,e0.hok.fresh (bn _),λy c h=>?_,λp hp=>absurd (show p∈([]:List (D×Obj)) from hp) (by simp),e0.hok.kept hk,?_⟩
 ·exact name_of_addr x.apart (eT h1) (eT h2)
 ·have hy:scope.names.lookup y=U .cell\/scope.names.lookup y=U .free:=hy;rcases hy with hy|hy
  ·exact Q6 hy
  ·exact absurd Z (S.nofree _ (eT hy))
 ·exact p9 (x.above y c (eT h))
 ·have hi:i<vs.length:=by
   unfold start at h2;by_cases hi:i<vs.length
   ·exact hi
   ·rw[dy (by simpa using hi)] at h2;rw[mQ] at h2;split at h2 <;> cases h2
  have ha:vs[i]?=U v:=by
   unfold start at h2;rw[cy (by simpa using hi),bB] at h2;cases e:vs[i]? with
   |none=>rw[e] at h2;cases h2
   |some a=>rw[e] at h2;cases h2;rfl
  obtain⟨u,hu,rv⟩:=r.get ha;have hp:ps[i]?=U y:=by
   rw[<-S.pre,List.getElem?_take_of_lt ()];exact h1
  have ndP:ps.Nodup:=by rw[<-S.pre];exact S.nd.sublist (pR _ _)
  refine⟨u,rv,?_⟩;rcases S.par y (bT hp) with k|k
  ·exact .inl ⟨k,JW ndP hp hu k⟩
  ·obtain⟨c,e⟩:=Q6 (n:=s.heap.objs.size+1) k;refine .inr ⟨.inl k,c,e,?_⟩;have q:=x.cell y c e;rw[JX ndP hp hu (by show scope.names.lookup y≠_;rw[k];decide)] at q;exact q
 ·exact e0.hok.fresh (p9 (x.above y c (eT h)))
 ·unfold start;show _=N.length;rw[bD,bf,gb];lia
theorem zg2{CX:CXT}{P:au}{w:aw}{K:bx}{mg:Str->Option ae}{base:av}{k:Nat}{f:D}{name qual:Str}{params:Arguments}{body:List ay}{scope:aB}{dV kV doc pm cdv ct oc:ae}{an od:Option D}
  {osl:Array (Option ae)} {N ps:List Str} {sp:Sp} (lk:K.lookup f=U ⟨oc,od,.func (iq name qual params body scope dV kV doc pm an cdv ct),osl⟩) (hcd:gQ K cdv qual=af) (S:aM N ps scope)
  (len:∀vs H Q E,sp vs H Q E->vs.length=ps.length)
  (hbody:∀(A:ax) (outer:List Env) (s:ah) (H:Hp) (vs:List V) (Q:VK) (E:XK),sG k (A.deeper (envOfC qual scope s.heap.objs.size f cdv))->sp vs H Q E ->
   ∃t,PSs (qD CX P w K mg base N qual scope f cdv A outer s H E) body t/\t { nx:=λ_ H'=>Q .non H',rt:=Q } (start N vs) H) :
  mt P w K mg base CX (k+1) f (iq name qual params body scope dV kV doc pm an cdv ct) ps sp:=by
 refine⟨len,λA outer s H args us vs Q E hr e0 hb r hsp=>?_⟩;have hl:=len _ _ _ _ hsp;have KX:K.In s.heap:=e0.mod.kin.keeps λb o e=>(e0.bs b o e).1;have lim:s.heap.NoLimit:=e0.mod.nolimit.keeps λb o e=>(e0.bs b o e).1;have hkind:∀y∈ps.zip us,scope.names.lookup y.1=U .local\/(scope.names.lookup y.1=U .cell/\((cellsFrom (s.heap.objs.size+1) scope.names []).lookup y.1).isSome=af):=λ⟨n,v⟩ hy=>by
  rcases S.par n (nQ hy).1 with q|q
  ·exact .inl q
  ·exact .inr ⟨q,W.cellsFrom_some _ _ _ (.inl q)⟩
 refine codeAny_call_function hr.depth (KX _ _ lk) Z S.co S.gen Z (W.codeRec_of KX hcd) (hb _ _ _ _ ?_);refine wpAny_newFunctionEnv_cells S.kind hkind λenv he s1 x=>?_;subst he;refine⟨lim.keeps x.toInCall.keep,codeAny_func ?_⟩;obtain⟨t,ht,hq⟩:=hbody A outer s H vs Q E (hr.deeper _) hsp;have I:aO (qD CX P w K mg base N qual scope f cdv A outer s H E) [] (start N vs) H s1:=zdg S hr.hd e0 hl r x;refine dF (ht [] s1 (start N vs) H _ I hq) (λfl s' hs=>?_) λe s' hs=>hs;have fin:∀ {σ':St} {H':Hp} {v:V} {u:ae},aO (qD CX P w K mg base N qual scope f cdv A outer s H E) [] σ' H' s'->aU v u->Q v H'->CE outer P w H s Q u s' :=
  λ{σ' H' v u} J rv q=>⟨v,H',J.os,J.bare,J.base,J.hok,rv,q⟩
 cases fl with
 |ret u =>
  obtain⟨v,σ',H',J,rv,q⟩:=hs;exact fin J rv q
 |next =>
  obtain⟨σ',H',J,q⟩:=hs;exact fin (v:=V.non) (u:=cF) J Z q
 |brk =>
  obtain⟨_,_,_,q⟩:=hs;exact c9 q
 |cont =>
  obtain⟨_,_,_,q⟩:=hs;exact c9 q
section
variable {X:Cx}{x:Str}{p pos:Pos}{e:aA}{es:List aA}{t:TA}{id T:String}{r:List V->Hp->VK->Prop}
def sO(r:List V->Hp->VK->Prop)(t:TA):TE:=λσ H Q=>t σ H λvs H1=>r vs H1 Q
theorem zF(hc:qp X (.builtin id) r)(hg:Gl X x)(hm:X.mg x=ak)(hv:Bh x=U (.builtin id))(ha:PA X (e::es) t)(hn:x≠"__name__":=by lia)(hdb:(x==("__debug__":Str))=ao:=by lia)
  (he:Be (e::es) X.env=(ao,eval e X.env)::Be es X.env:=by rfl) (hpl:(backTo pos (Be es X.env)).any (·.1)=ao:=by rfl):PE X (.Call (.Name x p) (e::es) [] pos) (sO r t):=by
 intro aa s σ H Q I h;refine eY (W5 I hg hm hv ?_ hn hdb);exact PyProof.Rows.callWith_builtin1 (hZ (ha pos aa s σ H _ I h) λus s1 ⟨vs,H1,I1,r1,q1⟩=>hc aa s1 σ H1 vs us Q I1 r1 q1) he hpl
theorem yv(hc:qp X (.type T) r)(hg:Gl X x)(hm:X.mg x=ak)(hv:Bh x=U (.type T))(ha:PA X (e::es) t)(hn:x≠"__name__":=by lia)(hdb:(x==("__debug__":Str))=ao:=by lia)
  (he:Be (e::es) X.env=(ao,eval e X.env)::Be es X.env:=by rfl) (hpl:(backTo pos (Be es X.env)).any (·.1)=ao:=by rfl):PE X (.Call (.Name x p) (e::es) [] pos) (sO r t):=by
 intro aa s σ H Q I h;refine eY (W5 I hg hm hv ?_ hn hdb);exact fW (hZ (ha pos aa s σ H _ I h) λus s1 ⟨vs,H1,I1,r1,q1⟩=>hc aa s1 σ H1 vs us Q I1 r1 q1) he hpl
end
end L2
namespace HT
open PySem PyProof.Rows
def zix:List Int->List Int->Bool
 |[],[]=>ao
 |[],_::_=>af
 |_::_,[]=>ao
 |x::xs,y::ys=>if x=y then zix xs ys else decide (x<y)
theorem rcLt_int(A:ax)(s:ah)(a:Int)(t:Tok)(c:Int)(u:Tok)(prog:au)(w:aw)(E:ae->ah->Prop)(Q:ae->ah->Prop)(h:Q (.bool (decide (a<c))) s) :
  Bf (Bg prog w) A (richCompare .Lt (.int a t) (.int c u)) Q E s :=
 (oP h:Bf (Bg prog w) A (Bi .Lt (.int a t) (.int c u)) Q E s)
section
variable {prog:au}{w:aw}{A:ax}{E:ae->ah->Prop}{s:ah}
theorem cat_tup{Q:ae->ah->Prop}(ht:IsTup s.heap t vs.toArray)(hb:IsTup s.heap b ws.toArray)(hv:vs≠[])
  (h1:ws=[]->Q (.ref t) s) (h2:ws≠[]->Q (.ref s.heap.objs.size) { s with heap:=s.heap.push { cls:=.type "tuple",data:=.seq (vs++ws).toArray } })
  (hsz:vs.length+ws.length<=Bb):Bf (Bg prog w) A (binaryOp .Add (.ref t) (.ref b)) Q E s:=by
 obtain⟨⟨cls,dd,data,sl⟩,ho,hc,n,hd⟩:=id ht;obtain⟨⟨cls2,dd2,data2,sl2⟩,ho2,hc2,n2,hd2⟩:=id hb;simp only at hc hd hc2 hd2;subst hc hd hc2 hd2;have e:vs.toArray++ws.toArray=(vs++ws).toArray:=by simp
 by_cases hw:ws=[]
 ·exact concat_meets ⟨_,ho,Z⟩ ⟨_,ho2,Z⟩ noFill_tuple_add seq_tuple_add nE mR (mj _ _)
   (tuple_addW1 t b vs.toArray ws.toArray n n2 dd dd2 sl sl2 (by simpa using hv) (by simp[hw])) ⟨ho,ho2,h1 hw⟩
 ·refine concat_meets ⟨_,ho,Z⟩ ⟨_,ho2,Z⟩ noFill_tuple_add seq_tuple_add nE mR (mj _ _)
   (tuple_addW2 t b vs.toArray ws.toArray n n2 dd dd2 sl sl2 (by simpa using hv) (by simpa using hw) (by rw[bL,bL];exact hsz)) ⟨ho,ho2,?_⟩
  rw[e];exact h2 hw
def sIx(n d:Nat):Option Int->Nat
 |none=>d
 |some v=>if v<0 then (v+(n:Int)).toNat else min v.toNat n
theorem sIx_none(n d:Nat):sIx n d ak=d:=rfl
theorem sIx_nat(n d k:Nat):sIx n d (U (k:Int))=min k n:=by
 show (if (k:Int)<0 then ((k:Int)+(n:Int)).toNat else min (k:Int).toNat n)=min k n;rw[am (),dZ]
theorem sIx_le(n d:Nat)(hd:d<=n)(o:Option Int):sIx n d o<=n:=by
 cases o with
 |none=>exact hd
 |some v =>
  show (if v<0 then (v+(n:Int)).toNat else min v.toNat n)<=n;by_cases hv:v<0
  ·rw[aq hv];lia
  ·rw[am hv];exact Nat.min_le_right _ _
end
end HT
namespace L2
open PySem PySem.Spec PyProof.Rows
abbrev TO:=St->Hp->(Option Int->Hp->Prop)->Prop
def PO(X:Cx)(e:Option aA)(t:TO):Prop :=
 ∀(aa:List (D×Obj)) (s:ah) (σ:St) (H:Hp) (Q:Option Int->Hp->Prop),aO X aa σ H s->t σ H Q ->
  Bf (Bg X.prog X.w) X.A (evalPart e X.env) (λu s'=>∃o H',aO X aa σ H' s'/\IsPart u o/\Q o H') X.xe s
def jn:TO:=λ_ H Q=>Q ak H
def vB(t:TE):TO:=λσ H Q=>t σ H λx H1=>∃i,x=.int i/\Q (U i) H1
section
variable {X:Cx}{e:aA}{te:TE}{lo hi:Option aA}{tl th:TO}{pos p2:Pos}
theorem kF:PO X ak jn:=by
 intro aa s σ H Q I h;rw[evalPart_none];exact bh ⟨ak,H,I,.none,h⟩
theorem xj(h:PE X e te):PO X (U e) (vB te):=by
 intro aa s σ H Q I hw;rw[evalPart_some];refine hZ (h aa s σ H _ I hw) ?_;rintro u s1 ⟨x,H1,I1,r1,q1⟩;obtain⟨i,rfl,q⟩:=q1;obtain⟨t,rfl⟩:=r1;exact⟨U i,H1,I1,.int i t,q⟩
def SlR(X:Cx)(r:V->Option Int->Option Int->Hp->VK->Prop):Prop :=
 ∀(aa:List (D×Obj)) (s:ah) (σ:St) (H:Hp) (x:V) (v vl vu:ae) (lo hi:Option Int) (sl:D) (Q:VK),aO X aa σ H s->aU x v->s.heap.IsSliceOf sl vl vu .none->IsPart vl lo->IsPart vu hi->r x lo hi H Q ->
  ∃T id,typeLookup (.type T) "__getitem__"=pure (U (.builtin id))/\s.TypeIs v T/\Bf (Bg X.prog X.w) X.A (getItem v (.ref sl)) (EP X aa σ Q) X.xe s
def tSl(r:V->Option Int->Option Int->Hp->VK->Prop)(te:TE)(tl th:TO):TE:=λσ H Q=>te σ H λx H1=>tl σ H1 λl H2=>th σ H2 λu H3=>r x l u H3 Q
theorem xF{r:V->Option Int->Option Int->Hp->VK->Prop}(hr:SlR X r)(he:PE X e te)(hl:PO X lo tl)(hu:PO X hi th):PE X (.Subscript e (.Slice lo hi ak p2) pos) (tSl r te tl th):=by
 intro aa s σ H Q I h;refine Subscript_ (hZ (he aa s σ H _ I h) ?_);rintro v s1 ⟨x,H1,I1,r1,q1⟩;refine wpAny_Slice (hZ (hl aa s1 σ H1 _ I1 q1) λvl s2 ⟨l,H2,I2,pl,q2⟩=>hZ (hu aa s2 σ H2 _ I2 q2) ?_);rintro vu s3 ⟨u,H3,I3,pu,q3⟩;rw[evalPart_none];refine bh ?_;have I4:aO X aa σ H3 { s3 with heap:=s3.heap.push { cls:=.type "slice",data:=.fields #[vl,vu,.none] } }:=I3.kept (t':=s3.toks) λb ob q=>bc _ q;obtain⟨T,id,hT,ht,hg⟩:=hr aa { s3 with heap:=s3.heap.push { cls:=.type "slice",data:=.fields #[vl,vu,.none] } } σ H3 x v vl vu l u s3.heap.objs.size Q I4 r1 (Heap.IsSliceOf.new ..) pl pu q3;show Bf (Bg X.prog X.w) X.A (subscriptTail e (.Slice lo hi ak p2) v (.ref s3.heap.objs.size)) (EP X aa σ Q) X.xe { s3 with heap:=s3.heap.push { cls:=.type "slice",data:=.fields #[vl,vu,.none] } };exact tail_any (ops:=[.ref s3.heap.objs.size,v]) ht hT hg (by with_unfolding_all rfl)
def jI(xs:List V)(lo hi:Option Int):List V:=(xs.drop (HT.sIx xs.length 0 lo)).take (HT.sIx xs.length xs.length hi-HT.sIx xs.length 0 lo)
theorem Q7(xs:List V)(lo hi:Option Int):(jI xs lo hi).length<=xs.length:=by
 unfold jI;rw[cC,cL];lia
def zd5(K:bx):R2:=λx y H Q=>∃a b xs ys,x=.ref a/\y=.ref b/\sN K H a xs/\sN K H b ys/\xs≠[]/\xs.length+ys.length<=Bb /\
 (ys=[]->Q (.ref a) H)/\(ys≠[]->∀p,H p=ak->Q (.ref p) (upd H p (.tup (xs++ys))))
theorem aR.nil_iff(r:aR xs us):us=[]↔xs=[]:=by
 cases r with
 |nil=>simp
 |cons _ _=>simp
theorem zco:tN X (binaryOp .Add) (zd5 X.K):=by
 intro aa s σ H x y v u Q I rx ry h;obtain⟨a,b,xs,ys,rfl,rfl,ha,hb,hx,hz,q1,q2⟩:=h;cases rx;cases ry;obtain⟨its,r1,p1,_⟩:=I.tuple ha;obtain⟨its2,r2,p2,_⟩:=I.tuple hb;refine HT.cat_tup p1 p2 (λz=>hx (r1.nil_iff.mp z)) (λz=>⟨.ref a,H,I,Z,q1 (r2.nil_iff.mp z)⟩) (λz=>?_) (by rw[<-r1.length,<-r2.length];exact hz);refine⟨.ref s.heap.objs.size,_,I.laid (t':=s.toks) (o:=.tup (xs++ys)) (λb ob q=>bc _ q) (bn _) ?_,Z,q2 (λw=>z (r2.nil_iff.mpr w)) _ (I.hok.fresh (bn _))⟩;exact⟨by rw[bD];exact hz,_,r1.append r2,IsTup.new _ _⟩
end
def ixN(n:Nat)(i:Int):Option Nat:=if 0<=i then (if i<n then U i.toNat else ak) else if -(n:Int)<=i then U (i+n).toNat else ak
def tL{α:Type}(xs:List α)(i:Int):Option α:=(ixN xs.length i).bind λj=>xs[j]?
theorem zfZ{i:Int}(h:ixN n i=U j):seqIndex? i n=U j/\j<n/\-(n:Int)<=i/\i<n:=by
 unfold ixN at h;by_cases h0:0<=i
 ·rw[aq h0] at h;by_cases h1:i<n
  ·rw[aq h1] at h;have e:i.toNat=j:=bP h;exact⟨by rw[seqIndex_of h0 h1,e],(),(),h1⟩
  ·rw[am h1] at h;cases h
 ·rw[am h0] at h;by_cases h1:-(n:Int)<=i
  ·rw[aq h1] at h;have e:(i+n).toNat=j:=bP h;exact⟨by rw[seqIndex_neg () h1,e],(),h1,()⟩
  ·rw[am h1] at h;cases h
theorem KM{α:Type}{xs:List α}{i:Int}{v:α}(h:tL xs i=U v):∃j,seqIndex? i xs.length=U j/\xs[j]?=U v/\j<xs.length/\-(xs.length:Int)<=i/\i<xs.length:=by
 unfold tL at h;cases e:ixN xs.length i with
 |none=>rw[e] at h;cases h
 |some j =>
  rw[e] at h;obtain⟨h1,h2,h3,h4⟩:=zfZ e;exact⟨j,h1,h,h2,h3,h4⟩
theorem xS{α:Type}{xs:List α}{j:Nat}{v:α}(h:xs[j]?=U v):tL xs (j:Int)=U v:=by
 have hj:j<xs.length:=(bo.mp h).1;have e:ixN xs.length (j:Int)=U j:=by
  unfold ixN;rw[aq (),aq ()];simp
 unfold tL;rw[e];exact h
theorem atI_last{α:Type}(xs:List α)(v:α):tL (xs++[v]) (-1)=U v:=by
 have hl:(xs++[v]).length=xs.length+1:=by simp
 have e:ixN (xs++[v]).length (-1)=U xs.length:=by
  unfold ixN;rw[hl,am (),aq ()];congr 1;lia
 unfold tL;rw[e];show (xs++[v])[xs.length]?=U v;simp
def zcp(b:aA):Prop:=∀o i,subscripted b ao o i=operate [o,i] (getItem o i)
def IxR(X:Cx)(r:R2):Prop :=
 ∀(value slice:aA) (aa:List (D×Obj)) (s:ah) (σ:St) (H:Hp) (x y:V) (v u:ae) (Q:VK),aO X aa σ H s->aU x v->aU y u->r x y H Q ->
  subscripted slice ao v u=operate [v,u] (getItem v u)->Bf (Bg X.prog X.w) X.A (subscriptTail value slice v u) (EP X aa σ Q) X.xe s
def MtR(X:Cx)(id:String)(r:V->List V->Hp->VK->Prop):Prop :=
 ∀(aa:List (D×Obj)) (s:ah) (σ:St) (H:Hp) (x:V) (xs:List V) (v:ae) (us:List ae) (Q:VK),aO X aa σ H s->aU x v->aR xs us->r x xs H Q ->
  Bf (Bg X.prog X.w) X.A (call (.builtin id) (v::us)) (EP X aa σ Q) X.xe s
section
variable {X:Cx}{a b:aA}{ta tb:TE}{pos:Pos}
theorem ziy{r:R2}(hr:IxR X r)(ha:PE X a ta)(hb:PE X b tb)(hs:zcp b):PE X (.Subscript a b pos) (aN r ta tb):=by
 intro aa s σ H Q I h;exact Subscript_ (zhx ha hb I h λv u s2 x y H2 I2 rx ry q=>hr a b aa s2 σ H2 x y v u Q I2 rx ry q (hs _ _))
def y8(K:bx):R2:=λx y H Q=>∃p xs i v,x=.ref p/\y=.int i/\aT K H p xs/\tL xs i=U v/\Q v H
def y9(K:bx):R2:=λx y H Q=>∃p xs i v,x=.ref p/\y=.int i/\sN K H p xs/\tL xs i=U v/\Q v H
def zd6:R2:=λx y H Q=>∃z i c,x=.str z/\y=.int i/\z.length<=Bb/\tL z.cps.toList i=U c/\Q (.str ⟨#[c]⟩) H
theorem zO:IxR X (y8 X.K):=by
 intro value slice aa s σ H x y v u Q I rx ry h hs;obtain⟨p,xs,i,z,rfl,rfl,hq,he,q⟩:=h;cases rx;obtain⟨t,rfl⟩:=ry;obtain⟨its,r,pl,hz⟩:=I.list hq;obtain⟨j,h1,h2,h3,h4,h5⟩:=KM he;obtain⟨w,ew,rw'⟩:=r.get h2;have hl:=r.length;have hn:=KJ;have fin:EP X aa σ Q w s:=⟨z,H,I,rw',q⟩;by_cases h0:0<=i
 ·have hj:i.toNat=j:=by
   rw[seqIndex_of h0 h5] at h1;exact bP h1
  exact item_listR pl.isList h0 () (by rw[hj];simpa using ew) fin hs
 ·have hj:(i+(its.toArray.size:Int)).toNat=j:=by
   rw[seqIndex_neg () h4] at h1;rw[bL,<-hl];exact bP h1
  exact nF (x:=w) pl.isList.typeIs slot_list_getitem.lookup
   (wpAny_getItem_list_neg (Q:=λr s'=>r=w/\EP X aa σ Q r s') pl.isList () (by rw[bL] <;> lia) () (by rw[hj];simpa using ew) ⟨Z,fin⟩) hs
theorem ye:IxR X (y9 X.K):=by
 intro value slice aa s σ H x y v u Q I rx ry h hs;obtain⟨p,xs,i,z,rfl,rfl,hq,he,q⟩:=h;cases rx;obtain⟨t,rfl⟩:=ry;obtain⟨its,r,pl,hz⟩:=I.tuple hq;obtain⟨j,h1,h2,h3,h4,h5⟩:=KM he;obtain⟨w,ew,rw'⟩:=r.get h2;have hl:=r.length;have hn:=KJ;have fin:EP X aa σ Q w s:=⟨z,H,I,rw',q⟩;exact nF (x:=w) pl.typeIs slot_tuple_getitem.lookup
  (getItem_tuple (j:=j) (Q:=λr s'=>r=w/\EP X aa σ Q r s') pl () () (by rw[bL,<-hl];exact h1) (by simpa using ew) ⟨Z,fin⟩) hs
theorem zbz:IxR X zd6:=by
 intro value slice aa s σ H x y v u Q I rx ry h hs;obtain⟨z,i,c,rfl,rfl,hz,he,q⟩:=h;obtain⟨t,rfl⟩:=rx;obtain⟨t',rfl⟩:=ry;obtain⟨j,h1,h2,h3,h4,h5⟩:=KM he;have hl:z.cps.toList.length=z.length:=by simp[iC]
 rw[hl] at h1 h4 h5;have hn:=KJ;exact tail_any (ot s z t) slot_str_getitem.lookup (getItem_str (c:=c) (by
  have e1:decide (i < -(2^63:Int))=ao:=Bk ();have e2:decide (i >= 2^63)=ao:=Bk ();rw[e1,e2,Bool.or_false]) (by rw[h1];simpa using h2) ⟨.str ⟨#[c]⟩,H,I.tok _,⟨_,Z⟩,q⟩) hs
theorem KN(lo hi:Option Int)(n:Nat):(sliceBounds lo hi ak n).1=((HT.sIx n 0 lo:Nat):Int)/\(sliceBounds lo hi ak n).2.1=((HT.sIx n n hi:Nat):Int)/\(sliceBounds lo hi ak n).2.2=1:=by
 refine⟨?_,?_,Z⟩
 ·cases lo with
  |none=>simp[sliceBounds,HT.sIx]
  |some i =>
   simp only[sliceBounds,HT.sIx,rG,show (1:Int) > 0 by lia,if_true];by_cases h:i<0
   ·simp only[h,if_true] <;> lia
   ·simp only[h,if_false] <;> lia
 ·cases hi with
  |none=>simp[sliceBounds,HT.sIx]
  |some i =>
   simp only[sliceBounds,HT.sIx,rG,show (1:Int) > 0 by lia,if_true];by_cases h:i<0
   ·simp only[h,if_true] <;> lia
   ·simp only[h,if_false] <;> lia
theorem Jc(its:List ae)(lo hi:Option Int):slicePick its.toArray lo hi ak=((its.drop (HT.sIx its.length 0 lo)).take (HT.sIx its.length its.length hi-HT.sIx its.length 0 lo)).toArray:=by
 obtain⟨h1,h2,h3⟩:=KN lo hi its.toArray.size;unfold slicePick;rw[h1,h2,h3];simp only[sliceRange_one,pick_run,bL] <;> rfl
def Jd(K:bx):V->Option Int->Option Int->Hp->VK->Prop:=λx lo hi H Q=>∃a xs,x=.ref a/\aT K H a xs/\∀p,H p=ak->Q (.ref p) (upd H p (.lst (jI xs lo hi)))
theorem vH:SlR X (Jd X.K):=by
 intro aa s σ H x v vl vu lo hi sl Q I rx hs pl pu h;obtain⟨a,xs,rfl,hx,q⟩:=h;cases rx;obtain⟨its,r,ht,hz⟩:=I.list hx;have hlen:=r.length;refine⟨"list",_,slot_list_getitem.lookup,ht.isList.typeIs,?_⟩;refine wpAny_getItem_list_slice ht.isList hs pl pu .none (by simp) ?_ (by rw[bL] <;> lia);rw[Jc,<-hlen];refine⟨.ref s.heap.objs.size,_,I.laid (t':=s.toks) (o:=.lst (jI xs lo hi)) (λb ob q=>bc _ q) (bn _) ?_,Z,q _ (I.hok.fresh (bn _))⟩;exact⟨bO (Q7 xs lo hi) hz,_,0,(r.drop (HT.sIx xs.length 0 lo)).take (HT.sIx xs.length xs.length hi-HT.sIx xs.length 0 lo),bE _ Z⟩
def YU:V->Bool
 |.non=>af
 |.bl _=>af
 |.int _=>af
 |.str _=>af
 |_=>ao
def eqV:V->V->Bool
 |.non,.non=>af
 |.bl a,.bl b=>a==b
 |.bl a,.int b=>(if a then 1 else 0)==b
 |.int a,.bl b=>a==(if b then 1 else 0)
 |.int a,.int b=>a==b
 |.str a,.str b=>a==b
 |_,_=>ao
theorem zhB(ry:aU y u)(rx:aU x v)(fy:YU y=af)(fx:YU x=af):SeqAt.EqAt A s u v (eqV y x):=by
 cases y with
 |non =>
  cases ry;cases x with
  |non=>cases rx;exact SeqAt.EqAt.same _
  |bl b=>cases rx;exact SeqAt.EqAt.none_bool b
  |int b=>obtain⟨t,rfl⟩:=rx;exact SeqAt.EqAt.none_int b t
  |str b=>obtain⟨t,rfl⟩:=rx;exact SeqAt.EqAt.none_str b t
  |_=>exact absurd (show ao=af from fx) bK
 |bl a =>
  cases ry;cases x with
  |non=>cases rx;exact SeqAt.EqAt.bool_none a
  |bl b=>cases rx;exact SeqAt.EqAt.bool_bool a b
  |int b=>obtain⟨t,rfl⟩:=rx;exact SeqAt.EqAt.bool_int a b t
  |str b=>obtain⟨t,rfl⟩:=rx;exact SeqAt.EqAt.bool_str a b t
  |_=>exact absurd (show ao=af from fx) bK
 |int a =>
  obtain⟨t',rfl⟩:=ry;cases x with
  |non=>cases rx;exact SeqAt.EqAt.int_none a t'
  |bl b=>cases rx;exact SeqAt.EqAt.int_bool a t' b
  |int b=>obtain⟨t,rfl⟩:=rx;exact lS a t' b t
  |str b=>obtain⟨t,rfl⟩:=rx;exact oZ a t' b t
  |_=>exact absurd (show ao=af from fx) bK
 |str a =>
  obtain⟨t',rfl⟩:=ry;cases x with
  |non=>cases rx;exact SeqAt.EqAt.str_none a t'
  |bl b=>cases rx;exact SeqAt.EqAt.str_bool a t' b
  |int b=>obtain⟨t,rfl⟩:=rx;exact ph a t' b t
  |str b=>obtain⟨t,rfl⟩:=rx;exact lT a t' b t
  |_=>exact absurd (show ao=af from fx) bK
 |_=>exact absurd (show ao=af from fy) bK
def eqU(x:V)(u:ae):Bool:=match u with
 |.none=>eqV .non x
 |.bool b=>eqV (.bl b) x
 |.int i _=>eqV (.int i) x
 |.str z _=>eqV (.str z) x
 |_=>ao
theorem zd7(r:aU y u)(f:YU y=af):eqU x u=eqV y x:=by
 cases y with
 |non=>cases r;rfl
 |bl b=>cases r;rfl
 |int i=>obtain⟨t,rfl⟩:=r;rfl
 |str z=>obtain⟨t,rfl⟩:=r;rfl
 |_=>exact absurd (show ao=af from f) bK
theorem KO{x:V}:∀ {xs:List V} {us:List ae},aR xs us->xs.all YU=af->us.any (eqU x)=xs.any λy=>eqV y x
 |_,_,.nil,_=>rfl
 |y::xs,u::us,.cons r t,f=>by
  rw[gA,b8] at f;rw[i9,i9,zd7 r f.1,KO t f.2]
theorem W9{A:ax}{s:ah}{x:V}{v:ae}(rx:aU x v)(fx:YU x=af):∀ {xs:List V} {us:List ae},aR xs us->xs.all YU=af->∀u∈us,SeqAt.EqAt A s u v (eqU x u)
 |_,_,.nil,_=>λu hu=>by cases hu
 |y::xs,u::us,.cons r t,f=>λu' hu=>by
  rw[gA,b8] at f;rcases bu.mp hu with rfl|hu
  ·rw[zd7 r f.1];exact zhB r rx f.1 fx
  ·exact W9 rx fx t f.2 u' hu
def inV(x:V)(xs:List V):Bool:=xs.any λy=>eqV y x
def rIn(K:bx)(neg:Bool):R2:=λx y H Q=>∃p xs,y=.ref p/\(aT K H p xs\/sN K H p xs)/\YU x=af/\xs.all YU=af/\Q (.bl (if neg then !inV x xs else inV x xs)) H
theorem XD:tN X (Bi .In) (rIn X.K ao):=by
 intro aa s σ H x y v u Q I rx ry h;obtain⟨p,xs,rfl,hq,fx,fs,q⟩:=h;cases ry;rcases hq with hq|hq
 ·obtain⟨its,r,pl,hz⟩:=I.list hq;refine SeqAt.in_listAt (eqU x) pl.isList (λw hw=>W9 rx fx r fs w (by simpa using hw)) ⟨.bl _,H,I,Z,?_⟩;rw[show its.toArray.any (eqU x)=its.any (eqU x) by simp,KO r fs];exact q
 ·obtain⟨its,r,pl,hz⟩:=I.tuple hq;refine SeqAt.in_tupleAt (eqU x) pl (λw hw=>W9 rx fx r fs w (by simpa using hw)) ⟨.bl _,H,I,Z,?_⟩;rw[show its.toArray.any (eqU x)=its.any (eqU x) by simp,KO r fs];exact q
theorem yW:qp X (.type "list") (λxs H Q=>∃p ys,xs=[.ref p]/\(aT X.K H p ys\/sN X.K H p ys)/\∀l,H l=ak->Q (.ref l) (upd H l (.lst ys))):=by
 intro aa s σ H xs us Q I r h;obtain⟨p,ys,rfl,hq,q⟩:=h;obtain⟨u,rfl,rx⟩:=qH r;cases rx;have fin:∀(its:List ae),aR ys its->ys.length<=Bb->∀(h':av) (c':Nat),(∀b o',s.heap.get? b=U o'->h'.get? b=U o') ->
   h'.get? s.heap.objs.size=U { cls:=.type "list",dict:=ak,data:=.seq its.toArray c',slots:=#[] }->EP X aa σ Q (.ref s.heap.objs.size) { s with heap:=h' }:=λits r' hz h' c' kp e =>
  ⟨.ref s.heap.objs.size,_,I.laid (t':=s.toks) kp (bn _) (show aW X.prog X.w _ h' _ (.lst ys) from ⟨hz,its,c',r',e⟩),Z,q _ (I.hok.fresh (bn _))⟩
 rcases hq with hq|hq
 ·obtain⟨its,r',pl,hz⟩:=I.list hq;have hlen:=r'.length;obtain⟨o,ho,hc,n,hd⟩:=pl.isList;exact call_list_seq p (.inl Z) ho hc hd (λh' c' kp e=>fin its r' hz h' c' kp e) (by simp only[bL] <;> lia)
 ·obtain⟨its,r',pl,hz⟩:=I.tuple hq;have hlen:=r'.length;obtain⟨o,ho,hc,n,hd⟩:=pl;exact call_list_seq p (.inr Z) ho hc hd (λh' c' kp e=>fin its r' hz h' c' kp e) (by simp only[bL] <;> lia)
theorem Je:qp X (.type "tuple") (λxs H Q=>∃p ys,xs=[.ref p]/\((aT X.K H p ys/\∀l,H l=ak->Q (.ref l) (upd H l (.tup ys)))\/(sN X.K H p ys/\Q (.ref p) H))):=by
 intro aa s σ H xs us Q I r h;obtain⟨p,ys,rfl,h⟩:=h;obtain⟨u,rfl,rx⟩:=qH r;cases rx;rcases h with ⟨hq,q⟩|⟨hq,q⟩
 ·obtain⟨its,r',pl,hz⟩:=I.list hq;have hlen:=r'.length;refine call_tuple_list pl.isList (λh' kp=>?_) (by simp only[bL] <;> lia);have I1:aO X aa σ H { s with heap:=h' }:=I.kept (t':=s.toks) kp;have I2:aO X aa σ (upd H h'.objs.size (.tup ys)) { s with heap:=h'.push { cls:=.type "tuple",data:=.seq its.toArray } } :=
   I1.laid (t':=s.toks) (λb o e=>bc _ e) (bn _) (show aW X.prog X.w _ _ _ (.tup ys) from ⟨hz,its,r',IsTup.new _ _⟩)
  exact⟨.ref h'.objs.size,_,I2,Z,q _ (I1.hok.fresh (bn _))⟩
 ·obtain⟨its,r',pl,hz⟩:=I.tuple hq;exact call_tuple_same pl ⟨.ref p,H,I,Z,q⟩
def tyV(K:bx)(T:String)(x:V)(H:Hp):Prop:=match x with
 |.str _=>T="str"
 |.int _=>T="int"
 |.ref p=>(T="list"/\∃xs,aT K H p xs)\/(T="tuple"/\∃o,K.lookup p=U o/\o.cls=.type "tuple"/\o.dict=ak) \/
   (T="dict"/\((∃aJ,H p=U (.dK aJ))\/∃aJ,H p=U (.dT aJ)))\/(T="set"/\∃S n,H p=U (.set S n))
 |_=>False
theorem zd8{σ:St}{H:Hp}{s:ah}{T:String}{x:V}{v:ae}(I:aO X aa σ H s)(r:aU x v)(ty:tyV X.K T x H) :
  s.TypeIs v T/\∀a,v=.ref a->∃ob,s.heap.get? a=U ob/\ob.dict=ak:=by
 cases x with
 |str z =>
  obtain⟨t,rfl⟩:=r;cases (show T="str" from ty);exact⟨ot s z t,λ_ e=>nomatch e⟩
 |int i =>
  obtain⟨t,rfl⟩:=r;cases (show T="int" from ty);exact⟨typeIs_int s i t,λ_ e=>nomatch e⟩
 |ref p =>
  cases r;rcases ty with ⟨rfl,xs,hq⟩|⟨rfl,o,hk,hc,hd⟩|⟨rfl,hk⟩|⟨rfl,S,n,hk⟩
  ·obtain⟨its,_,pl,_⟩:=I.list hq;refine⟨pl.isList.typeIs,λa e=>?_⟩;cases e;obtain⟨o,n,e,c,hd,_⟩:=pl;exact⟨o,e,hd⟩
  ·refine⟨⟨o,I.kIn p o hk,hc⟩,λa e=>?_⟩;cases e;exact⟨o,I.kIn _ o hk,hd⟩
  ·have z:∃o,s.heap.get? p=U o/\o.ExactDict:=by
    rcases hk with ⟨aJ,hk⟩|⟨aJ,hk⟩
    ·obtain⟨_,_,_,_,o,_,_,e,ex,_⟩:=I.hok p _ hk;exact⟨o,e,ex⟩
    ·obtain⟨_,_,_,_,o,_,_,e,ex,_⟩:=I.hok p _ hk;exact⟨o,e,ex⟩
   obtain⟨o,e,ex⟩:=z;refine⟨⟨o,e,ex.1⟩,λa e2=>?_⟩;cases e2;exact⟨o,e,ex.2.1⟩
  ·obtain⟨o,_,_,_,e,ex,_⟩:=I.hok p _ hk;refine⟨⟨o,e,ex.1⟩,λa e2=>?_⟩;cases e2;exact⟨o,e,ex.2.1⟩
 |_=>exact c9 ty
def zf0(K:bx)(T:String)(r:V->List V->Hp->VK->Prop)(to:TE):TE:=λσ H Q=>to σ H λx H1=>tyV K T x H1/\r x [] H1 Q
def tBM(K:bx)(T:String)(r:V->List V->Hp->VK->Prop)(to:TE)(t:TA):TE:=λσ H Q=>to σ H λx H1=>tyV K T x H1/\t σ H1 λxs H2=>r x xs H2 Q
variable {o e:aA}{es:List aA}{to:TE}{t:TA}{name:Str}{sC sK:Pos}{T id:String}{r:V->List V->Hp->VK->Prop}
theorem zbA(pa:PlainAttrs T)(slot:Slot T name id)(hty:typeOf (.builtin id)=pure (.type "method_descriptor"))(hm:MtR X id r)(ho:PE X o to)
  (hbase:attributeBase o name X.env (eval o X.env)=eval o X.env:=by rfl) (hline:(sC.endLine==sK.line)=af:=by rfl):PE X (.Call (.Attribute o name sC) [] [] sK) (zf0 X.K T r to):=by
 intro aa s σ H Q I h;refine mT hbase hline (hZ (ho aa s σ H _ I h) ?_);rintro v s1 ⟨x,H1,I1,r1,ty,q1⟩;obtain⟨h1,h2⟩:=zd8 I1 r1 ty;exact⟨T,id,pa,slot,hty,h1,h2,df Z (oQ (hm aa s1 σ H1 x [] v [] Q I1 r1 .nil q1))⟩
theorem vC(pa:PlainAttrs T)(slot:Slot T name id)(hty:typeOf (.builtin id)=pure (.type "method_descriptor"))(hm:MtR X id r)(ho:PE X o to)(ha:PA X (e::es) t)
  (hbase:attributeBase o name X.env (eval o X.env)=eval o X.env:=by rfl)
  (hfew:((backTo sK (Be (e::es) X.env)).all (λx=>!x.1)&&(backToKw sK (keywordEach [] X.env)).all (λx=>x.1.isSome)
   && decide ((e::es).length+([]:List Keyword).length+(if ([]:List Keyword).isEmpty then 0 else 1)<30))=af:=by rfl)
  (hline:(sC.endLine==sK.line)=af:=by rfl) (hs:Be (e::es) X.env=(ao,eval e X.env)::Be es X.env:=by rfl) (hplain:(backTo sK (Be es X.env)).any (·.1)=ao:=by rfl) :
  PE X (.Call (.Attribute o name sC) (e::es) [] sK) (tBM X.K T r to t):=by
 intro aa s σ H Q I h;refine wpAny_Call_method_late hbase hfew hline Z (hZ (ho aa s σ H _ I h) ?_);rintro v s1 ⟨x,H1,I1,r1,ty,q1⟩;obtain⟨h1,h2⟩:=zd8 I1 r1 ty;refine⟨T,id,pa,slot,hty,h1,h2,?_⟩;have hA:=ha sK aa s1 σ H1 _ I1 q1;rw[hs] at hA ⊢;refine df (by show (ao || (backTo sK (Be es X.env)).any (·.1))=ao;rw[hplain] <;> rfl) (dR ?_);exact hZ hA λus s2 ⟨vs,H2,I2,r2,q2⟩=>hm aa s2 σ H2 x vs v us Q I2 r1 r2 q2
end
def MtM(X:Cx)(id:String)(r:V->List V->Hp->VK->Prop):Prop :=
 ∀(aa:List (D×Obj)) (s:ah) (σ:St) (H:Hp) (x:V) (xs:List V) (v:ae) (us:List ae) (Q:VK),aO X aa σ H s->aU x v->aR xs us->r x xs H Q ->
  Bf (Bg X.prog X.w) X.A (call (.builtin id) (v::us)) (EP X aa σ Q) X.xe s
theorem aR.one:∀ {x:V} {us:List ae},aR [x] us->∃u,us=[u]/\aU x u
 |_,_,.cons r .nil=>⟨_,Z,r⟩
theorem aR.zero:∀ {us:List ae},aR [] us->us=[]
 |_,.nil=>rfl
theorem aR.dropLast(h:aR xs us):aR xs.dropLast us.dropLast:=by
 induction h with
 |nil=>exact .nil
 |cons r t ih =>
  cases t with
  |nil=>exact .nil
  |cons q t'=>exact .cons r ih
theorem aR.eraseIdx:∀ {xs:List V} {us:List ae} (i:Nat),aR xs us->aR (xs.eraseIdx i) (us.eraseIdx i)
 |_,_,_,.nil=>.nil
 |_,_,0,.cons _ t=>t
 |_,_,i+1,.cons r t=>.cons r (aR.eraseIdx i t)
theorem zbB{α:Type}(l:List α):l.eraseIdx (l.length-1)=l.dropLast:=by
 induction l with
 |nil=>rfl
 |cons a r ih =>
  cases r with
  |nil=>rfl
  |cons b r =>
   have e:(a::b::r).length-1=((b::r).length-1)+1:=by
    have h1:(a::b::r).length=r.length+2:=rfl;have h2:(b::r).length=r.length+1:=rfl;lia
   rw[e,gY,ih]
   all_goals rfl
theorem JY{α:Type}:∀(l:List α) (i:Nat),(l.eraseIdx i).length<=l.length
 |[],_=>bn _
 |_::_,0=>rX _
 |_::r,i+1=>fP (JY r i)
section
variable {X:Cx}{aa:List (D×Obj)}{σ:St}{H:Hp}{s:ah}{l b:D}{xs ys zs:List V}
theorem aO.lset{its its':List ae}{n:Nat}{f:Array ae->Array ae}(I:aO X aa σ H s)(hH:H l=U (.lst xs))
  (e:s.heap.get? l=U { cls:=.type "list",data:=.seq its.toArray n }) (hf:f its.toArray=its'.toArray) (hv:aR ys its') (hz:ys.length<=Bb) :
  aO X aa σ (upd H l (.lst ys)) { s with heap:=s.heap.update l (dG f),toks:=t' }:=by
 have q:=PySem.IsL.update e f;rw[hf] at q;refine I.write (x:=l) (e:=l) (by rw[hH];exact trivial) (.inl Z) (λb' u hb hu=>(dX s.heap (dG f) (eW hb)).trans hu) ⟨_,q⟩ ?_;exact⟨hz,its',_,hv,q⟩
theorem aO.lnew(I:aO X aa σ H s)(hv:aR ys its)(hz:ys.length<=Bb) :
  aO X aa σ (upd H s.heap.objs.size (.lst ys)) { s with heap:=s.heap.push { cls:=.type "list",data:=.seq its.toArray },toks:=t' }:=
 I.laid (λ_ _ q=>bc _ q) (bn _) ⟨hz,its,0,hv,bE _ Z⟩
theorem aO.fresh(I:aO X aa σ H s):H s.heap.objs.size=ak:=I.hok.fresh (bn _)
theorem aO.lstM(I:aO X aa σ H s)(hH:H l=U (.lst xs)):xs.length<=Bb/\∃(its:List ae) (n:Nat),aR xs its/\xs.length=its.length/\s.heap.get? l=U { cls:=.type "list",data:=.seq its.toArray n }:=by
 obtain⟨z,its,n,r,e⟩:=I.hok l _ hH;exact⟨z,its,n,r,r.length,e⟩
theorem zd9(h:n<=Bb):gT n=ao:=by
 unfold gT;exact Bk ()
end
section
variable {X:Cx}
def zcq:V->List V->Hp->VK->Prop:=λx vs H Q=>∃l xs y,x=.ref l/\vs=[y]/\H l=U (.lst xs)/\xs.length<Bb/\Q .non (upd H l (.lst (xs++[y])))
theorem xn:MtM X "list.append" zcq:=by
 intro aa s σ H x vs v us Q I rx rv h;obtain⟨l,xs,y,rfl,rfl,hH,hz,q⟩:=h;cases rx;obtain⟨u,rfl,ru⟩:=rv.one;obtain⟨z,its,n,r,hl,e⟩:=I.lstM hH;refine iD F.slot_list_append ⟨_,e,Z⟩ F.entry_list_append (F.args_list_append_2 _ _) (PySem.list_append l its.toArray n u (by rw[bL];lia)) ⟨e,?_⟩;refine⟨.non,_,I.lset (its':=its++[u]) hH e (by simp) (r.append (.cons ru .nil)) ?_,Z,q⟩;rw[bD,dH];lia
def zcr:V->List V->Hp->VK->Prop:=λx vs H Q=>∃l b xs zs,x=.ref l/\vs=[.ref b]/\H l=U (.lst xs)/\H b=U (.lst zs)/\xs.length+zs.length<=Bb/\Q .non (upd H l (.lst (xs++zs)))
theorem zdh:MtM X "list.extend" zcr:=by
 intro aa s σ H x vs v us Q I rx rv h;obtain⟨l,b,xs,zs,rfl,rfl,hH,hB,hz,q⟩:=h;cases rx;obtain⟨u,rfl,ru⟩:=rv.one;cases ru;obtain⟨z,its,n,r,hl,e⟩:=I.lstM hH;obtain⟨z2,its2,n2,r2,hl2,e2⟩:=I.lstM hB;have hsz:its.toArray.size+its2.toArray.size<=Bb:=by rw[bL,bL];lia
 have hlong:¬ (!its.toArray.isEmpty&&gT (its.toArray.size+its2.toArray.size))=af:=by
  rw[zd9 hsz,Bool.and_false];exact bK
 refine iD F.slot_list_extend ⟨_,e,Z⟩ F.entry_list_extend (F.args_list_extend_2 _ _)
  (AutoSeq1.list_extend_list_list_0 l its.toArray n b its2.toArray n2 hlong (by rw[bL];lia) ()) ⟨e,e2,?_⟩
 refine⟨.non,_,I.lset (its':=its++its2) hH e (by simp) (r.append r2) ?_,Z,q⟩;rw[bD];lia
def ziz:V->List V->Hp->VK->Prop:=λx vs H Q=>∃l xs y,x=.ref l/\vs=[]/\H l=U (.lst xs)/\xs[xs.length-1]?=U y/\Q y (upd H l (.lst xs.dropLast))
theorem zbC:MtM X "list.pop" ziz:=by
 intro aa s σ H x vs v us Q I rx rv h;obtain⟨l,xs,y,rfl,rfl,hH,hy,q⟩:=h;cases rx;have hus:=rv.zero;subst hus;obtain⟨z,its,n,r,hl,e⟩:=I.lstM hH;obtain⟨u,hu,ru⟩:=r.get hy;have hy':its.toArray[its.toArray.size-1]?=U u:=by
  show its.toArray[its.length-1]?=U u;rw[<-dn,<-hl];exact hu
 refine iD F.slot_list_pop ⟨_,e,Z⟩ F.entry_list_pop (F.args_list_pop_1 _) (MeetsSeq.list_pop_last l its.toArray n u hy' (by rw[bL];lia)) ⟨e,?_⟩;refine⟨y,_,I.lset (its':=its.dropLast) hH e ?_ r.dropLast ?_,ru,q⟩
 ·show its.toArray.eraseIdxIfInBounds (its.toArray.size-1)=its.dropLast.toArray;rw[bL,iE,zbB]
 ·rw[List.length_dropLast];lia
def KP:R2:=λx y H Q=>∃l b xs zs,x=.ref l/\y=.ref b/\H l=U (.lst xs)/\H b=U (.lst zs)/\xs.length+zs.length<=Bb/\∀p,H p=ak->Q (.ref p) (upd H p (.lst (xs++zs)))
theorem qI:tN X (binaryOp .Add) KP:=by
 intro aa s σ H x y v u Q I rx ry h;obtain⟨l,b,xs,zs,rfl,rfl,hH,hB,hz,q⟩:=h;cases rx;cases ry;obtain⟨z,its,n,r,hl,e⟩:=I.lstM hH;obtain⟨z2,its2,n2,r2,hl2,e2⟩:=I.lstM hB;refine PySem.P.add_list e e2 ?_ (by rw[bL,bL];lia);have ea:its.toArray++its2.toArray=(its++its2).toArray:=by simp
 rw[ea];exact⟨.ref _,_,I.lnew (t':=s.toks) (r.append r2) (by rw[bD];lia),Z,q _ I.fresh⟩
end
section
variable {prog:au}{w:aw}{A:ax}{E:ae->ah->Prop}{s:ah}
set_option maxRecDepth 100000 in
end
section
variable {κ:Type} [DecidableEq κ]
def yf(aJ:List (κ×V))(k:κ):Option V:=(aJ.find? λkv=>decide (kv.1=k)).map (·.2)
def yI(aJ:List (κ×V))(k:κ)(v:V):List (κ×V) :=
 if (aJ.any λkv=>decide (kv.1=k))=af then aJ.map (λkv=>if kv.1=k then (kv.1,v) else kv) else aJ++[(k,v)]
def yp(aJ:List (κ×V))(k:κ):List (κ×V):=aJ.filter λkv=>decide (kv.1≠k)
theorem Q8 :yf ([]:List (κ×V)) k=ak:=rfl
theorem yM{p:κ×V}{r:List (κ×V)}(e:p.1=k):yf (p::r) k=U p.2:=by simp[yf,gc,e]
theorem yN{p:κ×V}{r:List (κ×V)}(e:¬ p.1=k):yf (p::r) k=yf r k:=by simp[yf,gc,e]
theorem ve(k:κ):∀aJ:List (κ×V),(aJ.any λkv=>decide (kv.1=k))=(yf aJ k).isSome
 |[]=>rfl
 |p::r=>by
  rw[i9];by_cases e:p.1=k
  ·simp only[yM e,Bj e,Bool.true_or,Option.isSome_some]
  ·rw[yN e,Bk e,Bool.false_or];exact ve k r
theorem Q9(k j:κ)(y:V):∀aJ:List (κ×V),yf (aJ.map λkv=>if kv.1=k then (kv.1,y) else kv) j=(yf aJ j).map λx=>if j=k then y else x
 |[]=>rfl
 |p::r=>by
  have ih:=Q9 k j y r;rw[bt];by_cases h:p.1=k
  ·rw[aq h];by_cases e:p.1=j
   ·rw[yM (p:=(p.1,y)) e,yM e,lA,aq (e.symm.trans h)]
   ·rw[yN (p:=(p.1,y)) e,yN e,ih]
  ·rw[am h];by_cases e:p.1=j
   ·rw[yM (p:=p) e,yM e,lA,am (λz=>h (e.trans z))]
   ·rw[yN (p:=p) e,yN e,ih]
theorem JZ(k j:κ)(y:V):∀aJ:List (κ×V),yf aJ k=ak->yf (aJ++[(k,y)]) j=if j=k then U y else yf aJ j
 |[],_=>by
  by_cases e:k=j
  ·rw[aq e.symm];exact yM (p:=(k,y)) e
  ·rw[am (λz=>e z.symm)];exact yN (p:=(k,y)) e
 |p::r,hn=>by
  rw[dU];have hk:¬ p.1=k:=λz=>by rw[yM z] at hn;cases hn
  rw[yN hk] at hn;have ih:=JZ k j y r hn;by_cases e:p.1=j
  ·rw[yM e,yM e,am (λz=>hk (e.trans z))]
  ·rw[yN e,yN e,ih]
theorem Va(aJ:List (κ×V))(k j:κ)(y:V):yf (yI aJ k y) j=if j=k then U y else yf aJ j:=by
 unfold yI;by_cases a:(aJ.any λkv=>decide (kv.1=k))=af
 ·rw[aq a,Q9];rw[ve] at a;by_cases e:j=k
  ·obtain⟨x,hx⟩:=fm.mp a;rw[aq e,e,hx,lA,aq rfl]
  ·rw[am e];cases yf aJ j with
   |none=>rfl
   |some x=>rw[lA,am e]
 ·rw[am a];refine JZ k j y aJ ?_;rw[ve] at a;cases q:yf aJ k with
  |none=>rfl
  |some x=>rw[q] at a;exact(a Z).elim
theorem wa(aJ:List (κ×V))(k:κ)(v:V):(yI aJ k v).length<=aJ.length+1:=by
 unfold yI;split
 ·rw[bf];lia
 ·rw[bD,bW,nR];lia
theorem vS{aJ:List (κ×V)}(v:V)(h:yf aJ k=ak):yI aJ k v=aJ++[(k,v)]:=by
 unfold yI;rw[ve,h];exact am ()
theorem sY.isSome_eq(r:sY o u):o.isSome=u.isSome:=by
 cases o with
 |none=>cases u with
  |none=>rfl
  |some _=>exact(show False from r).elim
 |some _=>cases u with
  |none=>exact(show False from r).elim
  |some _=>rfl
theorem sY.getD(r:sY o u)(rd:aU d d'):aU (o.getD d) (u.getD d'):=by
 cases o with
 |none=>cases u with
  |none=>exact rd
  |some _=>exact(show False from r).elim
 |some _=>cases u with
  |none=>exact(show False from r).elim
  |some _=>exact r
theorem KV.val(r:KV aJ vs)(k:κ):sY (yf aJ k) (valueAt vs k):=by
 unfold KV at r;induction r with
 |nil=>exact eJ
 |@cons p q ps qs h t ih =>
  obtain⟨h1,h2⟩:=h;by_cases e:p.1=k
  ·have e':q.1=k:=h1.symm.trans e;have b:valueAt (q::qs) k=U q.2:=by simp[valueAt,gc,e']
   rw[yM e,b];exact h2
  ·have e':¬ q.1=k:=λz=>e (h1.trans z);have b:valueAt (q::qs) k=valueAt qs k:=by simp[valueAt,gc,e']
   rw[yN e,b];exact ih
theorem KV.any(r:KV aJ vs)(k:κ):(aJ.any λkv=>decide (kv.1=k))=vs.any λkv=>decide (kv.1=k):=by
 unfold KV at r;induction r with
 |nil=>rfl
 |cons h t ih=>rw[i9,i9,ih,h.1]
theorem KV.repl(r:KV aJ vs)(k:κ)(ry:aU y u) :
  KV (aJ.map λkv=>if kv.1=k then (kv.1,y) else kv) (vs.map λkv=>if kv.1=k then (kv.1,u) else kv):=by
 unfold KV at r ⊢;induction r with
 |nil=>exact .nil
 |@cons p q ps qs h t ih =>
  rw[bt,bt];refine .cons ?_ ih;obtain⟨h1,h2⟩:=h;by_cases e:p.1=k
  ·rw[aq e,aq (h1.symm.trans e)];exact⟨h1,ry⟩
  ·rw[am e,am (λz=>e (h1.trans z))];exact⟨h1,h2⟩
theorem KV.put(r:KV aJ vs)(k:κ)(ry:aU y u):KV (yI aJ k y) (stored vs k u):=by
 unfold yI stored;rw[r.any k];by_cases e:(vs.any λkv=>decide (kv.1=k))=af
 ·rw[aq e,aq e];exact r.repl k ry
 ·rw[am e,am e];exact Paired.snoc r ⟨Z,ry⟩
theorem KV.drop(r:KV aJ vs)(k:κ):KV (yp aJ k) (without vs k):=by
 unfold KV at r ⊢;unfold yp without;induction r with
 |nil=>exact .nil
 |@cons p q ps qs h t ih =>
  obtain⟨h1,h2⟩:=h;rw[du,du];by_cases e:p.1=k
  ·have a:¬ decide (p.1≠k)=af:=by simp[e]
   have b:¬ decide (q.1≠k)=af:=by simp[h1.symm.trans e]
   rw[am a,am b];exact ih
  ·have e':¬ q.1=k:=λz=>e (h1.trans z);have a:decide (p.1≠k)=af:=by simp[e]
   have b:decide (q.1≠k)=af:=by simp[e']
   rw[aq a,aq b];exact .cons ⟨h1,h2⟩ ih
theorem KV.length{vs:List (κ×ae)}(r:KV aJ vs):aJ.length=vs.length:=bF r
theorem zaa(aJ:List (κ×V))(k:κ):(yp aJ k).length<=aJ.length:=nS _ _
end
theorem Wg(r:aU (kV k) u):(yz P w).is k u=af:=by
 cases k with
 |inl i=>obtain⟨t,e⟩:=(show ∃t,u=fM i t from r);subst e;exact QR P w i t
 |inr x=>obtain⟨t,e⟩:=(show ∃t,u=gX x t from r);subst e;exact QS P w x t
theorem XE{P:au}{w:aw}:∀ {ks:List aV} {us:List ae},aR (ks.map kV) us->ItemsAre (yz P w) ks us
 |[],_,r=>by rw[nT] at r;cases r;exact .nil
 |k::ks,_,r=>by
  rw[bt] at r;cases r with
  |cons h t=>exact .cons (Wg h) (XE t)
abbrev KT(H:Hp):List (List aV×V)->List (List aV×D×ae)->Prop:=Paired λp q=>p.1=q.1/\H q.2.1=U (.tup (p.1.map kV))/\aU p.2 q.2.2
theorem KT.val{H:Hp}{aJ:List (List aV×V)}{xs:List (List aV×D×ae)}(r:KT H aJ xs)(k:List aV):sY (yf aJ k) ((atKey xs k).map (·.2)):=by
 induction r with
 |nil=>exact eJ
 |@cons p q ps qs h t ih =>
  obtain⟨h1,_,h2⟩:=h;by_cases e:p.1=k
  ·have e':q.1=k:=h1.symm.trans e;have b:atKey (q::qs) k=U q.2:=by simp[atKey,gc,e']
   rw[yM e,b];exact h2
  ·have e':¬ q.1=k:=λz=>e (h1.trans z);have b:atKey (q::qs) k=atKey qs k:=by simp[atKey,gc,e']
   rw[yN e,b];exact ih
theorem KT.repl{H:Hp}(r:KT H aJ xs)(k:List aV)(ry:aU y u) :
  KT H (aJ.map λkv=>if kv.1=k then (kv.1,y) else kv) (xs.map (putAt k u)):=by
 induction r with
 |nil=>exact .nil
 |@cons p q ps qs h t ih =>
  rw[bt,bt];refine .cons ?_ ih;obtain⟨h1,h2,h3⟩:=h;unfold putAt;by_cases e:p.1=k
  ·rw[aq e,aq (h1.symm.trans e)];exact⟨h1,h2,ry⟩
  ·rw[am e,am (λz=>e (h1.trans z))];exact⟨h1,h2,h3⟩
theorem KT.put{H:Hp}(r:KT H aJ xs)(k:List aV)(hb:H b=U (.tup (k.map kV)))(ry:aU y u) :
  KT H (yI aJ k y) (storedH xs k b u):=by
 have e:(aJ.any λkv=>decide (kv.1=k))=(atKey xs k).isSome:=by
  rw[ve,(r.val k).isSome_eq,mo]
 unfold yI storedH;rw[e];by_cases q:(atKey xs k).isSome=af
 ·rw[aq q,aq q];exact r.repl k ry
 ·rw[am q,am q];exact Paired.snoc r ⟨Z,hb,ry⟩
theorem KT.keeps{H H':Hp}(r:KT H aJ xs)(ht:∀b ys,H b=U (.tup ys)->H' b=U (.tup ys)):KT H' aJ xs:=
 Paired.mapP r λ_ _ z=>⟨z.1,ht _ _ z.2.1,z.2.2⟩
section
variable {P:au}{w:aw}{H:Hp}{h:av}{a:D}
theorem zg3(ok:tJ P w H h)(e:Rd H a u):aW P w H h a u:=e.ok ok
theorem Vb(ok:tJ P w H h)(e:Rd H a (.dK aJ)):aJ.length<=Bb/\(a==sysModules)=ao/\∃vs,KV aJ vs/\h.DictOf (yz P w) a vs:=
 show aW P w H h a (.dK aJ) from zg3 ok e
theorem zea(ok:tJ P w H h)(e:H a=U (.dK aJ)):aJ.length<=Bb/\(a==sysModules)=ao/\∃vs,KV aJ vs/\h.DictOf (yz P w) a vs:=Vb ok (.inl e)
theorem kG(ok:tJ P w H h)(e:H a=U (.tup (ks.map kV))):(tupleKind (yz P w)).is h ks a:=by
 obtain⟨_,its,r,o,h1,h2,n,h3⟩:=(show aW P w H h a (.tup (ks.map kV)) from ok a _ e);exact⟨o,its.toArray,n,h1,h2,h3,by simpa using XE r⟩
theorem Vc(ok:tJ P w H h)(e:Rd H a (.dT aJ)):aJ.length<=Bb/\(a==sysModules)=ao /\
  ∃xs,KT H aJ xs/\h.DictOfH (tupleKind (yz P w)) a xs:=by
 obtain⟨z,y,xs,r,o,es,ep,h1,h2,h3,h4,h5⟩:=(show aW P w H h a (.dT aJ) from zg3 ok e);refine⟨z,y,xs,r,o,es,ep,h1,h2,h3,h4,λx hx=>?_,h5⟩;have all:∀ {l:List (List aV×V)} {m:List (List aV×D×ae)},KT H l m->∀x∈m,(tupleKind (yz P w)).is h x.1 x.2.1:=by
  intro l m q;induction q with
  |nil=>intro x hx;exact nomatch hx
  |@cons p q ps qs hq t ih =>
   intro x hx;rcases bu.mp hx with e|hx
   ·subst e;exact kG ok (by rw[<-hq.1];exact hq.2.1)
   ·exact ih x hx
 exact all r x hx
theorem zab(ok:tJ P w H h)(e:H a=U (.dT aJ)):aJ.length<=Bb/\(a==sysModules)=ao /\
  ∃xs,KT H aJ xs/\h.DictOfH (tupleKind (yz P w)) a xs:=Vc ok (.inl e)
end
def sR(H:Hp)(a:D)(y:V)(r:Option V):Prop :=
 (∃aJ k,Rd H a (.dK aJ)/\y=kV k/\r=yf aJ k)\/∃aJ k b,Rd H a (.dT aJ)/\y=.ref b/\H b=U (.tup (k.map kV))/\r=yf aJ k
def DPut(H:Hp)(a:D)(y v:V)(H':Hp):Prop :=
 (∃aJ k,H a=U (.dK aJ)/\y=kV k/\aJ.length<Bb/\H'=upd H a (.dK (yI aJ k v))) \/
 ∃aJ k b,H a=U (.dT aJ)/\y=.ref b/\H b=U (.tup (k.map kV))/\aJ.length<Bb/\H'=upd H a (.dT (yI aJ k v))
theorem sR.k{H:Hp}{aJ:List (aV×V)}{k:aV}(e:H a=U (.dK aJ)):sR H a (kV k) (yf aJ k):=.inl ⟨aJ,k,.inl e,Z,Z⟩
theorem sR.t{H:Hp}{aJ:List (List aV×V)}{k:List aV}(e:H a=U (.dT aJ))(eb:H b=U (.tup (k.map kV))):sR H a (.ref b) (yf aJ k):=.inr ⟨aJ,k,b,.inl e,Z,eb,Z⟩
theorem DPut.k{H:Hp}{aJ:List (aV×V)}{k:aV}(e:H a=U (.dK aJ))(hl:aJ.length<Bb):DPut H a (kV k) v (upd H a (.dK (yI aJ k v))):=.inl ⟨aJ,k,e,Z,hl,Z⟩
theorem DPut.t{H:Hp}{aJ:List (List aV×V)}{k:List aV}(e:H a=U (.dT aJ))(eb:H b=U (.tup (k.map kV)))(hl:aJ.length<Bb) :
  DPut H a (.ref b) v (upd H a (.dT (yI aJ k v))):=.inr ⟨aJ,k,b,e,Z,eb,hl,Z⟩
section
variable {X:Cx}{aa:List (D×Obj)}{σ:St}{H:Hp}{s:ah}{a:D}{y v:V}{u r:ae}{o:Option V}{A:ax}{E:ae->ah->Prop}
theorem aO.big(I:aO X aa σ H s):sysModules<s.heap.objs.size:=by
 have h:Bd<s.heap.objs.size:=(I.mod.glob.keeps I.bk).lt;exact rg () h
theorem zdi{Q:ae->ah->Prop}(hu:A.units+1<cLine)(I:aO X aa σ H s)(g:sR H a y (U v))(ry:aU y u)(h:∀w' s',aO X aa σ H s'->aU v w'->Q w' s') :
  Bf (Bg X.prog X.w) A (getItem (.ref a) u) Q E s:=by
 rcases g with ⟨aJ,k,e,ey,l⟩|⟨aJ,k,b,e,ey,eb,l⟩
 ·subst ey;obtain⟨z,hd,vs,rel,dd⟩:=Vb I.hok e;obtain⟨w',hw,rw'⟩:=sY.some_of (v:=v) (o:=valueAt vs k) (by rw[l];exact rel.val k);exact wpAny_getItem_of (Wg ry) dd.mapOf hw (h w' _ (I.tok _) rw')
 ·subst ey;cases (show u=bI b from ry);obtain⟨z,hd,xs,rel,dd⟩:=Vc I.hok e;obtain⟨w',hw,rw'⟩:=sY.some_of (v:=v) (o:=(atKey xs k).map (·.2)) (by rw[l];exact rel.val k);obtain⟨p,hp,hp2⟩:=b9.mp hw;refine wpAny_getItem_heap (dN hu) (kG I.hok eb) dd hp ?_;rw[hp2];exact h w' _ (I.tok _) rw'
theorem ziX{Q:ae->ah->Prop}(hu:A.units+1<cLine)(I:aO X aa σ H s)(g:sR H a y o)(ry:aU y u)(h:∀s',aO X aa σ H s'->Q (.bool o.isSome) s') :
  Bf (Bg X.prog X.w) A (Bi .In u (.ref a)) Q E s:=by
 rcases g with ⟨aJ,k,e,ey,l⟩|⟨aJ,k,b,e,ey,eb,l⟩
 ·subst ey;obtain⟨z,hd,vs,rel,dd⟩:=Vb I.hok e;refine wpAny_in_of (Wg ry) hd dd.mapOf ?_;rw[<-(rel.val k).isSome_eq,<-l];exact h _ (I.tok _)
 ·subst ey;cases (show u=bI b from ry);obtain⟨z,hd,xs,rel,dd⟩:=Vc I.hok e;refine wpAny_in_heap (dN hu) (kG I.hok eb) hd dd ?_;have q:=(rel.val k).isSome_eq;rw[mo] at q;rw[<-q,<-l];exact h _ (I.tok _)
theorem zf1{Q:ae->ah->Prop}(hu:A.units+1<cLine)(I:aO X aa σ H s)(g:sR H a y o)(ry:aU y u)(h:∀s',aO X aa σ H s'->Q (.bool (!o.isSome)) s') :
  Bf (Bg X.prog X.w) A (Bi .NotIn u (.ref a)) Q E s:=by
 rcases g with ⟨aJ,k,e,ey,l⟩|⟨aJ,k,b,e,ey,eb,l⟩
 ·subst ey;obtain⟨z,hd,vs,rel,dd⟩:=Vb I.hok e;refine wpAny_notIn_of (Wg ry) hd dd.mapOf ?_;rw[<-(rel.val k).isSome_eq,<-l];exact h _ (I.tok _)
 ·subst ey;cases (show u=bI b from ry);obtain⟨z,hd,xs,rel,dd⟩:=Vc I.hok e;refine wpAny_notIn_heap (dN hu) (kG I.hok eb) hd dd ?_;have q:=(rel.val k).isSome_eq;rw[mo] at q;rw[<-q,<-l];exact h _ (I.tok _)
theorem ZJ(I:aO X aa σ H s)(mu:Mut (H a))(hs:cG a s.heap h')(he:∃q,h'.get? a=U q)(new:aW X.prog X.w (upd H a ob) h' a ob) :
  aO X aa σ (upd H a ob) { s with heap:=h',toks:=t' }:=
 I.write (x:=a) (e:=a) mu (.inl Z) (λb q hb z=>(hs.2 b hb).trans z) he new
theorem XG{H':Hp}(z:aJ.length<=Bb)(hd:(a==sysModules)=ao)(rel:KV aJ vs)(dd:h'.DictOf (yz P w) a vs) :
  aW P w H' h' a (.dK aJ):=⟨z,hd,vs,rel,dd⟩
theorem zdj{H':Hp}{Q:Unit->ah->Prop}(hu:A.units+1<cLine)(I:aO X aa σ H s)(g:DPut H a y v H')(ry:aU y u)(rv:aU v r)(h:∀s',aO X aa σ H' s'->Q PUnit.unit s') :
  Bf (Bg X.prog X.w) A (setItem (.ref a) u r) Q E s:=by
 rcases g with ⟨aJ,k,e,ey,l,eH⟩|⟨aJ,k,b,e,ey,eb,l,eH⟩
 ·subst ey eH;obtain⟨z,hd,vs,rel,dd⟩:=zea I.hok e;have hz:vs.length<=Bb:=by rw[<-rel.length];exact z
  have hl:(yI aJ k v).length<=Bb:=by have:=wa aJ k v;lia
  refine wpAny_setItem_pairs (hsz:=hz) (Wg ry) dd λh' dd' hs=>h _ ?_;have he:∃q,h'.get? a=U q:=let ⟨q,_,_,hq,_⟩:=dd';⟨q,hq⟩
  exact ZJ I (by rw[e];exact eJ) hs he (XG hl hd (rel.put k rv) dd')
 ·subst ey eH;cases (show u=bI b from ry);obtain⟨z,hd,xs,rel,dd⟩:=zab I.hok e;have hz:xs.length<=Bb:=by rw[<-bF rel];exact z
  have hl:(yI aJ k v).length<=Bb:=by have:=wa aJ k v;lia
  refine wpAny_setItem_heap (hsz:=hz) (dN hu) (kG I.hok eb) dd λh' dd' hs=>h _ ?_;obtain⟨q,es,ep,hq,h2,h3,h4,_,h5⟩:=dd';refine ZJ I (by rw[e];exact eJ) hs ⟨q,hq⟩ ⟨hl,hd,_,(rel.put k eb rv).keeps λc ys ec=>?_,q,es,ep,hq,h2,h3,h4,h5⟩;rw[zl (zJ ec e ())];exact ec
end
section
variable {X:Cx}{aa:List (D×Obj)}{σ:St}{H:Hp}{s:ah}{a:D}{aJ:List (aV×V)}{k:aV}{u:ae}{A:ax}{E:ae->ah->Prop}
theorem zg4{Q:ae->ah->Prop}(I:aO X aa σ H s)(e:H a=U (.dK aJ))(ry:aU (kV k) u)(l:yf aJ k=U v)(hm:more=[]\/∃x,more=[x])
  (h:∀w' s',aO X aa σ (upd H a (.dK (yp aJ k))) s'->aU v w'->Q w' s'):Bf (Bg X.prog X.w) A (call (.builtin "dict.pop") (.ref a::u::more)) Q E s:=by
 obtain⟨z,hd,vs,rel,dd⟩:=zea I.hok e;obtain⟨w',hw,rw'⟩:=sY.some_of (v:=v) (o:=valueAt vs k) (by rw[<-l];exact rel.val k);have hp:(keyPart u).isSome=af:=by
  cases k with
  |inl i=>obtain⟨t,q⟩:=(show ∃t,u=fM i t from ry);subst q;rfl
  |inr x=>obtain⟨t,q⟩:=(show ∃t,u=gX x t from ry);subst q;rfl
 have ha:argsOk "dict.pop" ⟨.ref a::u::more,[]⟩:=by
  rcases hm with q|⟨x,q⟩
  ·subst q;exact mU _ _
  ·subst q;exact mV _ _ _
 refine iK eD dd.typeIs ir ha (meets_dict_pop_there (yz X.prog X.w) a (Wg ry) more hm hp)
  ⟨vs,w',dd,by rw[<-rel.length];exact z,hw,λh' dd' hs=>h w' _ ?_ rw'⟩
 have he:∃q,h'.get? a=U q:=let ⟨q,_,_,hq,_⟩:=dd';⟨q,hq⟩
 exact ZJ I (by rw[e];exact eJ) hs he (XG (bO (zaa aJ k) z) hd (rel.drop k) dd')
theorem zhC{Q:ae->ah->Prop}(I:aO X aa σ H s)(e:H a=U (.dK aJ))(ry:aU (kV k) u)(l:yf aJ k=ak)(h:∀s',aO X aa σ H s'->Q r s') :
  Bf (Bg X.prog X.w) A (call (.builtin "dict.pop") [.ref a,u,r]) Q E s:=by
 obtain⟨z,hd,vs,rel,dd⟩:=zea I.hok e;have hn:valueAt vs k=ak:=sY.none_of (by rw[<-l];exact rel.val k);have hp:(keyPart u).isSome=af:=by
  cases k with
  |inl i=>obtain⟨t,q⟩:=(show ∃t,u=fM i t from ry);subst q;rfl
  |inr x=>obtain⟨t,q⟩:=(show ∃t,u=gX x t from ry);subst q;rfl
 exact iK eD dd.typeIs ir (mV _ _ _) (meets_dict_pop_default (yz X.prog X.w) a (Wg ry) hd hp r) ⟨vs,dd,hn,h _ (I.tok _)⟩
end
def ziA(i:aA):Prop:=∀ov iv,subscripted i ao ov iv=operate [ov,iv] (getItem ov iv)
theorem zf2{E:ae->ah->Prop}{env:Env}{pos:Pos}{T id:String}{Q:ae->ah->Prop}
  (hl:typeLookup (.type T) "__getitem__"=pure (U (.builtin id))) (hs:ziA slice)
  (h:Bf (Bg prog w) A (eval value env) (λo s₁=>Bf (Bg prog w) A (eval slice env) (λi s₂=>s₂.TypeIs o T/\Bf (Bg prog w) A (getItem o i) Q E s₂) E s₁) E s) :
  Bf (Bg prog w) A (eval (.Subscript value slice pos) env) Q E s:=by
 refine Subscript_ (dF h (λo s₁ h₁=>dF h₁ (λi s₂ h₂=>?_) λ_ _ x=>x) λ_ _ x=>x);obtain⟨hT,h₂⟩:=h₂;unfold subscriptTail;refine ba ?_;rw[getitemInPython_of_ne hT.not_modules];refine ba (wpAny_specialOf hT hl ?_);have fin:Bf (Bg prog w) A (subscripted slice ao o i) (λr s₃=>Bf (Bg prog w) A (letTemporaryGo value o r >>= λ_=>pure r) Q E s₃) E s₂:=by
  rw[hs o i];exact wpAny_operating (dF h₂ (λr s₃ h₃=>ba (wpAny_letTemporaryGo (bh h₃))) λ_ _ x=>x)
 first
  |exact bh (ba fin)
  |exact ba (bh (ba fin))
  |exact ba fin
theorem zac{aa:List (D×Obj)}{σ:St}{H:Hp}{s:ah}{a:D}{y:V}{o:Option V}(I:aO X aa σ H s)(g:sR H a y o):s.TypeIs (.ref a) "dict":=by
 rcases g with ⟨aJ,k,e,_,_⟩|⟨aJ,k,b,e,_,_,_⟩
 ·obtain⟨_,_,vs,_,dd⟩:=Vb I.hok e;exact dd.typeIs
 ·obtain⟨_,_,xs,_,dd⟩:=Vc I.hok e;exact dd.typeIs
def jW(td ty:TE):TE:=λσ H Q=>td σ H λx H1=>ty σ H1 λy H2=>∃a v,x=.ref a/\sR H2 a y (U v)/\Q v H2
def qJ(td ty tv:TE):TS:=λBp σ H=>tv σ H λv H1=>td σ H1 λx H2=>ty σ H2 λy H3=>∃a H4,x=.ref a/\DPut H3 a y v H4/\Bp.nx σ H4
section
variable {X:Cx}{o i e value:aA}{pos pos' tpos:Pos}{td ty tv:TE}
theorem wj(hu:X.A.units+1<cLine)(ho:PE X o td)(hi:PE X i ty)(hs:ziA i):PE X (.Subscript o i pos) (jW td ty):=by
 intro aa s σ H Q I h;refine zf2 PySem.F.slot_dict_getitem.lookup hs (hZ (ho aa s σ H _ I h) λu s1 ⟨x,H1,I1,rx,q1⟩=>hZ (hi aa s1 σ H1 _ I1 q1) ?_);rintro iv s2 ⟨y,H2,I2,ry,a,v,ex,g,q2⟩;subst ex;obtain rfl:u=bI a:=rx;exact⟨zac I2 g,zdi hu I2 g ry λw' s3 I3 rw'=>⟨v,H2,I3,rw',q2⟩⟩
theorem wX(hu:X.A.units+1<cLine)(ho:PE X o td)(hi:PE X i ty)(hv:PE X value tv)(hs:swapsWith value (U (.Subscript o i pos')) pos.line X.env=pure ao) :
  PS X (.Assign [.Subscript o i pos'] value pos) (qJ td ty tv):=by
 intro aa s σ H Bp I h;refine wpAny_Assign_Subscript (hZ (hv aa s σ H _ I h) λr s1 ⟨v,H1,I1,rv,q1⟩=>hZ (ho aa s1 σ H1 _ I1 q1) λu s2 ⟨x,H2,I2,rx,q2⟩=>hZ (hi aa s2 σ H2 _ I2 q2) ?_) hs;rintro iv s3 ⟨y,H3,I3,ry,a,H4,ex,g,q3⟩;subst ex;obtain rfl:u=bI a:=rx;exact zdj hu I3 g ry rv λs4 I4=>⟨σ,H4,I4,q3⟩
end
theorem zeb{H:Hp}(h:av)(hb:sysModules<h.objs.size):aW P w H (h.push { cls:=.type "dict",data:=.dict #[] }) h.objs.size (.dK []):=
 ⟨bS _,beq_eq_false_iff_ne.mpr (eW (bR hb)),[],.nil,Heap.DictOf.new h⟩
theorem zad{H:Hp}(h:av)(hb:sysModules<h.objs.size):aW P w H (h.push { cls:=.type "dict",data:=.dict #[] }) h.objs.size (.dT []):=
 ⟨bS _,beq_eq_false_iff_ne.mpr (eW (bR hb)),[],.nil,_,#[],0,bE _ Z,⟨Z,Z,Z⟩,Z,Z,cr⟩
def XH:TE:=λ_ H Q=>∀p,H p=ak->Q (.ref p) (upd H p (.dK []))
def Yk:TE:=λ_ H Q=>∀p,H p=ak->Q (.ref p) (upd H p (.dT []))
section
variable {X:Cx}{pos:Pos}
theorem qK:PE X (.Dict [] [] pos) XH:=λaa s σ H Q I h =>
 wpAny_Dict_empty ⟨.ref s.heap.objs.size,_,I.laid (a:=s.heap.objs.size) (o:=.dK []) (t':=s.toks) (λ_ _ q=>bc _ q) (bn _) (zeb s.heap I.big),Z,h _ (I.hok.fresh (bn _))⟩
theorem jX:PE X (.Dict [] [] pos) Yk:=λaa s σ H Q I h =>
 wpAny_Dict_empty ⟨.ref s.heap.objs.size,_,I.laid (a:=s.heap.objs.size) (o:=.dT []) (t':=s.toks) (λ_ _ q=>bc _ q) (bn _) (zad s.heap I.big),Z,h _ (I.hok.fresh (bn _))⟩
end
def zhD:List (TE×TE)->St->Hp->(List (V×V)->Hp->Prop)->Prop
 |[],_,H,Q=>Q [] H
 |(tk,tv)::r,σ,H,Q=>tk σ H λx H1=>tv σ H1 λy H2=>zhD r σ H2 λps H3=>Q ((x,y)::ps) H3
structure M1(X:Cx)(o:aA)(m:Str)(sC:Pos)(e:aA)(sK:Pos):Prop where
 base:attributeBase o m X.env (eval o X.env)=eval o X.env
 few:((backTo sK (Be [e] X.env)).all (λx=>!x.1)&&(backToKw sK (keywordEach [] X.env)).all (λx=>x.1.isSome)
  && decide (([e]:List aA).length+([]:List Keyword).length+(if ([]:List Keyword).isEmpty then 0 else 1)<30))=af
 line:(sC.endLine==sK.line)=af
 trees:backTo sK (Be [e] X.env)=[(ao,eval e X.env)]
structure M2(X:Cx)(o:aA)(m:Str)(sC:Pos)(e f:aA)(sK:Pos):Prop where
 base:attributeBase o m X.env (eval o X.env)=eval o X.env
 few:((backTo sK (Be [e,f] X.env)).all (λx=>!x.1)&&(backToKw sK (keywordEach [] X.env)).all (λx=>x.1.isSome)
  && decide (([e,f]:List aA).length+([]:List Keyword).length+(if ([]:List Keyword).isEmpty then 0 else 1)<30))=af
 line:(sC.endLine==sK.line)=af
 trees:backTo sK (Be [e,f] X.env)=[(ao,eval e X.env),(ao,eval f X.env)]
def IsD(H:Hp)(a:D):Prop:=(∃aJ,Rd H a (.dK aJ))\/∃aJ,Rd H a (.dT aJ)
theorem XI{aa:List (D×Obj)}{σ:St}{H:Hp}{s:ah}{a:D}(I:aO X aa σ H s)(d:IsD H a) :
  s.TypeIs (.ref a) "dict"/\(∀b,bI a=.ref b->∃ob,s.heap.get? b=U ob/\ob.dict=ak)/\(a==sysModules)=ao:=by
 rcases d with ⟨aJ,e⟩|⟨aJ,e⟩
 ·obtain⟨_,hd,vs,_,dd⟩:=Vb I.hok e;refine⟨dd.typeIs,λb q=>?_,hd⟩;cases q;obtain⟨ob,_,_,h1,h2,_⟩:=dd;exact⟨ob,h1,h2.2.1⟩
 ·obtain⟨_,hd,xs,_,dd⟩:=Vc I.hok e;refine⟨dd.typeIs,λb q=>?_,hd⟩;cases q;obtain⟨ob,_,_,h1,h2,_⟩:=dd;exact⟨ob,h1,h2.2.1⟩
section
variable {X:Cx}{aa:List (D×Obj)}{σ:St}{H:Hp}{s:ah}{a:D}{y d:V}{u r:ae}{o:Option V}{A:ax}{E:ae->ah->Prop}
theorem zhE{Q:ae->ah->Prop}(hu:A.units+1<cLine)(I:aO X aa σ H s)(g:sR H a y o)(ry:aU y u)(rd:aU d r)(h:∀w' s',aO X aa σ H s'->aU (o.getD d) w'->Q w' s') :
  Bf (Bg X.prog X.w) A (call (.builtin "dict.get") [.ref a,u,r]) Q E s:=by
 rcases g with ⟨aJ,k,e,ey,l⟩|⟨aJ,k,b,e,ey,eb,l⟩
 ·subst ey;obtain⟨z,hd,vs,rel,dd⟩:=Vb I.hok e;refine iK iL dd.typeIs nG (mW _ _ _) (meets_dict_get_default (yz X.prog X.w) a (Wg ry) hd r) ⟨_,dd.mapOf,h _ _ (I.tok _) ?_⟩;rw[l];exact(rel.val k).getD rd
 ·subst ey;cases (show u=bI b from ry);obtain⟨z,hd,xs,rel,dd⟩:=Vc I.hok e;refine iK iL dd.typeIs nG (mW _ _ _) (meetsH_dict_get_default (tupleKind (yz X.prog X.w)) a b hd r) ⟨dN hu,k,xs,kG I.hok eb,dd,h _ _ (I.tok _) ?_⟩;rw[l];exact(rel.val k).getD rd
end
def qL(td ty tx:TE):TE:=λσ H Q=>td σ H λx H1=>∃a,x=.ref a/\IsD H1 a/\ty σ H1 λy H2=>tx σ H2 λz H3=>∃o,sR H3 a y o/\Q (o.getD z) H3
def KQ(td ty:TE):TE:=λσ H Q=>td σ H λx H1=>∃a,x=.ref a/\IsD H1 a/\ty σ H1 λy H2=>∃aJ k v,H2 a=U (.dK aJ)/\y=kV k/\yf aJ k=U v/\Q v (upd H2 a (.dK (yp aJ k)))
def zbD(td ty tx:TE):TE:=λσ H Q=>td σ H λx H1=>∃a,x=.ref a/\IsD H1 a/\ty σ H1 λy H2=>tx σ H2 λz H3=>∃aJ k,H3 a=U (.dK aJ)/\y=kV k /\
 (∀v,yf aJ k=U v->Q v (upd H3 a (.dK (yp aJ k))))/\(yf aJ k=ak->Q z H3)
section
variable {X:Cx}{o e f:aA}{sC sK:Pos}{td ty tx:TE}
theorem jY(hu:X.A.units+1<cLine)(ho:PE X o td)(he:PE X e ty)(hf:PE X f tx)(m:M2 X o "get" sC e f sK):PE X (.Call (.Attribute o "get" sC) [e,f] [] sK) (qL td ty tx):=by
 intro aa s σ H Q I h;refine gB m.base m.few m.line dO iL PySem.F.type_dict_get (hZ (ho aa s σ H _ I h) ?_);rintro u s1 ⟨x,H1,I1,rx,a,ex,d,q1⟩;subst ex;obtain rfl:u=bI a:=rx;obtain⟨t1,t2,_⟩:=XI I1 d;refine⟨t1,t2,?_⟩;rw[m.trees];refine df Z (dR (cR (hZ (he aa s1 σ H1 _ I1 q1) λiv s2 ⟨y,H2,I2,ry,q2⟩ =>
  cR (hZ (hf aa s2 σ H2 _ I2 q2) λfv s3 ⟨z,H3,I3,rz,ov,g,q3⟩=>eR ?_))))
 exact zhE hu I3 g ry rz λw' s4 I4 rw'=>⟨_,H3,I4,rw',q3⟩
theorem Vd(ho:PE X o td)(he:PE X e ty)(m:M1 X o "pop" sC e sK):PE X (.Call (.Attribute o "pop" sC) [e] [] sK) (KQ td ty):=by
 intro aa s σ H Q I h;refine gB m.base m.few m.line dO eD iM (hZ (ho aa s σ H _ I h) ?_);rintro u s1 ⟨x,H1,I1,rx,a,ex,d,q1⟩;subst ex;obtain rfl:u=bI a:=rx;obtain⟨t1,t2,_⟩:=XI I1 d;refine⟨t1,t2,?_⟩;rw[m.trees];refine df Z (dR (cR (hZ (he aa s1 σ H1 _ I1 q1) λiv s2 ⟨y,H2,I2,ry,aJ,k,v,ea,ey,l,q2⟩=>eR ?_)));subst ey;exact zg4 I2 ea ry l (.inl Z) λw' s3 I3 rw'=>⟨v,_,I3,rw',q2⟩
theorem zae(ho:PE X o td)(he:PE X e ty)(hf:PE X f tx)(m:M2 X o "pop" sC e f sK):PE X (.Call (.Attribute o "pop" sC) [e,f] [] sK) (zbD td ty tx):=by
 intro aa s σ H Q I h;refine gB m.base m.few m.line dO eD iM (hZ (ho aa s σ H _ I h) ?_);rintro u s1 ⟨x,H1,I1,rx,a,ex,d,q1⟩;subst ex;obtain rfl:u=bI a:=rx;obtain⟨t1,t2,_⟩:=XI I1 d;refine⟨t1,t2,?_⟩;rw[m.trees];refine df Z (dR (cR (hZ (he aa s1 σ H1 _ I1 q1) λiv s2 ⟨y,H2,I2,ry,q2⟩ =>
  cR (hZ (hf aa s2 σ H2 _ I2 q2) λfv s3 ⟨z,H3,I3,rz,aJ,k,ea,ey,q3,q4⟩=>eR ?_))))
 subst ey;cases l:yf aJ k with
 |some v=>exact zg4 I3 ea ry l (.inr ⟨fv,Z⟩) λw' s4 I4 rw'=>⟨v,_,I4,rw',q3 v l⟩
 |none=>exact zhC I3 ea ry l λs4 I4=>⟨z,H3,I4,rz,q4 l⟩
end
end L2
namespace Att
open PySem PySem.W PySem.Calls PyProof.Rows
theorem WA :∀(ns:List Int) (vs:List ae),WellAll P h vs (ns.map WData.int)->IntsAre vs ns:=by
 intro ns;induction ns with
 |nil =>
  intro vs w;rw[nT] at w;cases w;exact .nil
 |cons n ns ih =>
  intro vs w;rw[bt] at w;cases w with
  |cons a b =>
   cases a;exact .cons _ _ (ih _ b)
theorem J1{l:OpenLaw}{n:Nat}(hn:l.most=U n){P:Params}{args:List WData}{vals:List ae}
  (hpre:l.row.toRowW.claim.pre args=af) (hwl:WellAll P h vals args) :
  ∃a vs ns,vals=[bI a]/\args=[WData.list (ns.map WData.int)]/\h.get? a=U { cls:=.type "list",data:=.seq vs.toArray }/\IntsAre vs ns/\ns.length<=n:=by
 have hsh:WShape.hasAll [] args [.list .int]=af:=(pre_splitW hpre).1;have hc:l.pre.holds [] { args:=args }=af:=(pre_splitW hpre).2;obtain⟨d,r,rfl,h1,h2⟩:=hasAllW_cons hsh;obtain rfl:=hasAllW_nil h2;obtain⟨xs,rfl,h3⟩:=hasW_list h1;obtain⟨ns,rfl⟩:=items_int h3;have hlen:ns.length<=n:=by
  unfold OpenLaw.pre at hc;have h4:(WTm.not (.lt (.lit (.int (n:Int))) (.len (.arg 0)))).holds [] { args:=[.list (ns.map .int)] }=af:=by
   have h4:=(holds_andW hc).1;rw[hn] at h4;exact h4
  have h5:=condW_of h4 (w_not (w_lt w_lit (w_len_list (w_arg Z))));rw[bf] at h5;refine rH λq=>?_;have q':(n:Int)<((ns.length:Nat):Int):=by lia
  first
   |(rw[Bj q'] at h5;exact absurd h5 ())
   |(simp at h5;lia)
 cases hwl with
 |cons w1 w2 =>
  cases w2;cases w1 with
  |list ho hall=>exact⟨_,_,ns,Z,Z,ho,WA ns _ hall,hlen⟩
theorem J2(l:OpenLaw)(args:List WData):l.row.toRowW.claim.post args (.bool af) args=af :=
 postW_of (r:=l.row.toRowW) (X:=(af==af))
  (show WShape.has [] (.bool af) .bool=af by first|rfl|decide|simp[WShape.has,WShape.arms,WShape.armsAll])
  (show (WTm.eq .res (.lit (.bool af))).value [] { args:=args,res:=U (.bool af),after:=args }=U (.bool (af==af)) from w_eq_bool (w_res Z) w_lit) rfl
theorem attach_call{l:OpenLaw}{n:Nat}{loose:List Str}{XP:(Str->Option ae)->av->Prop}{YP:aw->av->Prop}{d:DefRec}
  (hn:l.most=U n) (hdf:d.params.defaults=[])
  (call:∀(w:aw) (s₀ s₁:ah) (mg mb:Str->Option ae) (fa:D) (o:Obj) (pm cd doc:ae) (a:D) (vs:List ae) (ns:List Int),
   Ground q loose [] XP w s₀ mg mb s₁.heap->YP w s₁.heap ->
   s₁.heap.get? fa=U o->o.data=.func (docDef d.name d.params d.body d.scope pm cd doc)->s₁.heap.CodeRec cd d.name->mg d.name=U (.ref fa) ->
   s₁.heap.get? a=U { cls:=.type "list",data:=.seq vs.toArray }->IntsAre vs ns->ns.length<=n->s₁.gens=#[] ->
   codeAny (Bg l.prog w) callerA (.call (.ref fa) ⟨[.ref a],[]⟩) (λr s'=>r=.ok (.ret (.bool af))/\OldK s₁.heap s'.heap/\s'.os=s₁.os/\AllBare s'.gens) s₁) :
  WalkO q loose XP YP l.row.toRowW d [] (λf vs=>mq f vs):=by
 intro w s₀ s₁ mg mb G Y fa o pm cd doc dV kV ho hd hcd hD hmg hg args vals as hpre hlay hrd hwl hlo;obtain rfl:dV=.none:=Dflts.none hD hdf;obtain rfl:kV=.none:=Dflts.noKw hD;obtain⟨a,vs,ns,rfl,rfl,hobj,hints,hlen⟩:=J1 hn hpre hwl;refine enter_call (fZ (call w s₀ s₁ mg mb fa o pm cd doc a vs ns G Y ho (fd_plain hd) hcd hmg hobj hints hlen hg) λr s' hq=>?_);obtain⟨rfl,h2,h3,h4⟩:=hq;exact⟨.inl ⟨.bool af,.bool af,[],Z,λ_=>rfl,.bool af,J2 l _,λ_=>⟨fo,λ_ hm=>(nomatch hm)⟩⟩,h2,h3,h4⟩
section
variable {prog:au}{w:aw}{A:ax}{E:ae->ah->Prop}{s:ah}{K:Frag}
def ziY(h:av)(Bo d:D):List (D×Obj):=(eI h.objs.size).filterMap λa=>if a=Bo\/a=d then ak else (h.get? a).map λo=>(a,o)
end
end Att
namespace L2
open PySem PySem.Spec PyProof.Rows
theorem J3:∀ {vs:List ae} {ns:List Int},IntsAre vs ns->aR (ns.map V.int) vs
 |_,_,.nil=>.nil
 |_,_,.cons n t h=>.cons ⟨t,Z⟩ (J3 h)
def zbE(H:Hp):Prop:=∀b,H b=ak\/∃o xs,H b=U (.frz o (.lst xs))
theorem zaf{P:au}{w:aw}{K:bx}{mg mb:Str->Option ae}{CX:CXT}{k:Nat}{fa a:D}{fd:Bc}{x:Str}{sp:Sp}{s₁:ah}{vs:List ae}{ns:List Int}
  (KX:K.In s₁.heap) (hns:s₁.heap.Ns Bd mg) (hb:s₁.heap.Ns builtinsNs mb) (hbb:∀x:Str,x≠"__name__"->mb x=Bh x) (hlim:s₁.heap.NoLimit) (hg:s₁.gens=#[])
  (ha:s₁.heap.get? a=U { cls:=.type "list",data:=.seq vs.toArray }) (hi:IntsAre vs ns) (hl:ns.length<=Bb) (hr:sG k callerA)
  (F:∀base:av,K.In base->base.Ns Bd mg->mt P w K mg base CX k fa fd [x] sp) (hbind:∀(s:ah) (u:ae),BindsTo s fd ⟨[u],[]⟩ [(x,u)])
  (hsp:∀H:Hp,zbE H->aT K H a (ns.map V.int)->sp [.ref a] H (λv _=>v=.bl af) λ_ _ _=>False)
  (hCX:∀H e s',CX [] H s₁ (λ_ _ _=>False) e s'->False) :
  codeAny (Bg P w) callerA (.call (.ref fa) ⟨[.ref a],[]⟩) (λr s'=>r=.ok (.ret (.bool af))/\OldK s₁.heap s'.heap/\s'.os=s₁.os/\AllBare s'.gens) s₁:=by
 have rv:=J3 hi;have lenV:=hi.length
 -- from an abstract heap in which nothing but the script may be tracked
 have core:∀H:Hp,zbE H->aT K H a (ns.map V.int)->tJ P w H s₁.heap->(∀b,H b≠ak->b=a)->(H a≠ak->K.lookup a=ak) ->
   codeAny (Bg P w) callerA (.call (.ref fa) ⟨[.ref a],[]⟩) (λr s'=>r=.ok (.ret (.bool af))/\OldK s₁.heap s'.heap/\s'.os=s₁.os/\AllBare s'.gens) s₁:=by
  intro H hO hS hok hA hK;have base_of:∀ {b:D} {o:Obj},s₁.heap.get? b=U o->H b=ak->(KD s₁.heap H).get? b=U o:=λe n=>zdW e n;have noA:∀ {b:D} {o:Obj} {es:Array DictEntry} {ep:Nat},s₁.heap.get? b=U o->o.data=.dict es ep->H b=ak:=λ{b o es ep} e d=>by
   cases q:H b with
   |none=>rfl
   |some u =>
    have e':b=a:=hA b (by rw[q];simp);subst e';rw[ha] at e;cases e;have d':Data.seq vs.toArray _=Data.dict es ep:=d;cases d'
  have nsK:∀ {b:D} {m:Str->Option ae},s₁.heap.Ns b m->(KD s₁.heap H).Ns b m:=λ{b m} ⟨o,es,ep,e,d,r⟩=>⟨o,es,ep,base_of e (noA e d),d,r⟩;have hKb:K.In (KD s₁.heap H):=λb o e=>base_of (KX b o e) (by
   cases q:H b with
   |none=>rfl
   |some u =>
    have e':b=a:=hA b (by rw[q];simp);subst e';rw[hK (by rw[q];simp)] at e;cases e)
  have hM:Mod K mg (KD s₁.heap H):=⟨hKb,nsK hns,⟨mb,nsK hb,hbb⟩,let ⟨mc,h1,h2⟩:=hlim;⟨mc,nsK h1,h2⟩⟩;have e0:Env0 P w K mg (KD s₁.heap H) callerA [] s₁ H:=⟨Z,hM,λb o e=>zfR e,nP (zc6 _ _),trivial,λb hb=>absurd (show b∈([]:List D) from hb) (by simp),hok,.of_eq hg⟩;refine fZ ((F _ hKb (nsK hns)).run callerA [] s₁ H ⟨[.ref a],[]⟩ [.ref a] [.ref a] _ _ hr e0 (hbind s₁ (.ref a)) (.cons Z .nil) (hsp H hO hS)) λr s' h=>?_;cases r with
  |error e=>exact(hCX H e s' h).elim
  |ok fl =>
   cases fl with
   |next=>exact c9 h
   |brk=>exact c9 h
   |cont=>exact c9 h
   |ret u =>
    obtain⟨v,H',os,bare,un,hok',r',q⟩:=h;have q':v=.bl af:=q;subst q';obtain rfl:u=iA af:=r';refine⟨Z,OldK.of_keep λb o e=>?_,os,bare⟩;cases q:H b with
    |none=>exact un.keep b o e q (by intro z;exact absurd (show b∈([]:List D) from z) (by simp)) (by simp)
    |some u =>
     rcases hO b with z|⟨ob,xs,z⟩
     ·rw[q] at z;cases z
     ·have z2:=un.frzs b ob _ z;obtain⟨e1,_⟩:=hok b _ z;obtain⟨e2,_⟩:=hok' b _ z2;rw[e] at e1;cases e1;exact e2
 cases hk:K.lookup a with
 |some o =>
  -- the script is one of the module's own objects
  have e:=KX a o hk;rw[ha] at e;cases e;refine core (λ_=>ak) (λ_=>.inl Z) (.inr ⟨_,vs.toArray,_,hk,Z,Z,Z,by rw[bL,lenV];exact hl,by simpa using rv⟩) (λb u z=>by have z':(ak:Option HO)=U u:=z;cases z') (λb z=>absurd rfl z) λz=>absurd rfl z
 |none =>
  refine core (λb=>if b=a then U (.frz { cls:=.type "list",data:=.seq vs.toArray } (.lst (ns.map V.int))) else ak) (λb=>?_) (.inl (.inr ⟨{ cls:=.type "list",data:=.seq vs.toArray },aq Z⟩)) (λb u z=>?_) (λb z=>?_) λ_=>hk
  ·by_cases hb:b=a
   ·exact .inr ⟨_,_,aq hb⟩
   ·exact .inl (am hb)
  ·by_cases hb:b=a
   ·have z':=(aq hb).symm.trans z;cases z';subst hb;exact⟨ha,by rw[bf];exact hl,vs,_,rv,ha⟩
   ·have z':=(am hb).symm.trans z;cases z'
  ·by_cases hb:b=a
   ·exact hb
   ·exact absurd (am hb) z
abbrev KOf{K:bx}{h:av}(_:K.In h):bx:=K
theorem zcs{l:pD}{n k:Nat}{q:au}{loose:List Str}{XP:(Str->Option ae)->av->Prop}{YP:aw->av->Prop}{d:DefRec}{K:Params->bx}{CX:aw->CXT}{sp:aw->Sp}{x:Str}
  (hn:l.most=U n) (hn2:n<=Bb) (hdf:d.params.defaults=[]) (hr:sG k callerA)
  (hY:∀(w:aw) (h:av),YP w h->(K w.params).In h)
  (F:∀(w:aw) (mg:Str->Option ae) (fa:D) (h:av),(K w.params).In h->h.Ns Bd mg->mg d.name=U (.ref fa) ->
   ∃fd:Bc,(∀(s:ah) (u:ae),BindsTo s fd ⟨[u],[]⟩ [(x,u)]) /\
    ∀base:av,(K w.params).In base->base.Ns Bd mg->mt l.prog w (K w.params) mg base (CX w) k fa fd [x] (sp w))
  (hsp:∀(w:aw) (H:Hp) (a:D) (ns:List Int),ns.length<=n->zbE H->aT (K w.params) H a (ns.map V.int)->sp w [.ref a] H (λv _=>v=.bl af) λ_ _ _=>False)
  (hCX:∀(w:aw) (H:Hp) (s:ah) (e:ae) (s':ah),CX w [] H s (λ_ _ _=>False) e s'->False) :
  sq q loose XP YP l.row.toRowW d [] (λf vs=>mq f vs):=by
 refine Att.attach_call hn hdf λw s₀ s₁ mg mb fa o pm cd doc a vs ns G Y ho hd hcd hmg hobj hints hlen hg=>?_;have KX:=hY w _ Y;obtain⟨fd,hb,hF⟩:=F w mg fa _ KX G.T.g hmg;exact zaf KX G.T.g G.T.b G.T.builtins G.T.nolimit hg hobj hints (bO hlen hn2) hr hF hb (λH hO hS=>hsp w H a ns hlen hO hS) λH e s'=>hCX w H s₁ e s'
theorem ziB{l:pD}{n k:Nat}{q:au}{loose:List Str}{XP:(Str->Option ae)->av->Prop}{YP:aw->av->Prop}{d:DefRec}{K:Params->bx}{CX:CXT}{sp:bx->Sp}{x:Str}
  (hn:l.most=U n) (hn2:n<=Bb) (hdf:d.params.defaults=[]) (hr:sG k callerA)
  (hY:∀(w:aw) (h:av),YP w h->(K w.params).In h)
  (F:∀(w:aw) (mg:Str->Option ae) (fa:D) (h:av),(K w.params).In h->h.Ns Bd mg->mg d.name=U (.ref fa) ->
   ∃fd:Bc,(∀(s:ah) (u:ae),BindsTo s fd ⟨[u],[]⟩ [(x,u)]) /\
    ∀base:av,(K w.params).In base->base.Ns Bd mg->mt l.prog w (K w.params) mg base CX k fa fd [x] (sp (K w.params)))
  (hsp:∀(K:bx) (H:Hp) (a:D) (ns:List Int),ns.length<=n->zbE H->aT K H a (ns.map V.int)->sp K [.ref a] H (λv _=>v=.bl af) λ_ _ _=>False)
  (hCX:∀(H:Hp) (s:ah) (e:ae) (s':ah),CX [] H s (λ_ _ _=>False) e s'->False) :
  sq q loose XP YP l.row.toRowW d [] (λf vs=>mq f vs) :=
 zcs (K:=K) (CX:=λ_=>CX) (sp:=λw=>sp (K w.params)) hn hn2 hdf hr hY F (λw H a ns h1 h2 h3=>hsp (K w.params) H a ns h1 h2 h3) λ_ H s e s'=>hCX H s e s'
def zP(s:ay)(j:Nat):ay:=match s with
 |.ClassDef _ _ _ body _ _ _ _ _ _ _=>body.getD j (.Pass ⟨0,0,0,0⟩)
 |_=>.Pass ⟨0,0,0,0⟩
def yX(s:ay):Arguments:=match s with
 |.FunctionDef _ a _ _ _ _ _ _ _ _=>a
 |_=>{ posonlyargs:=[],args:=[],vararg:=ak,kwonlyargs:=[],kw_defaults:=[],kwarg:=ak,defaults:=[] }
def yt(s:ay):List ay:=match s with
 |.FunctionDef _ _ b _ _ _ _ _ _ _=>b
 |_=>[]
def zj(s:ay):aB:=match s with
 |.FunctionDef _ _ _ _ _ _ sc _ _ _=>sc
 |_=>{ kind:=.function,names:=[],isGenerator:=ao,isCoroutine:=ao }
abbrev E0:XK:=λ_ _ _=>False
structure Fun(K:bx)(x qual:Str)(st:ay)(f:D)(fd:Bc):Prop where
 ex:∃(oc:ae) (od:Option D) (kV doc pm:ae) (an:Option D) (cdv ct:ae) (osl:Array (Option ae)),
  fd=iq x qual (yX st) (yt st) (zj st) .none kV doc pm an cdv ct/\K.lookup f=U ⟨oc,od,.func fd,osl⟩/\gQ K cdv qual=af
 kp:dM K (.ref f)=af
section
variable {P:au}{w:aw}{K:bx}{mg:Str->Option ae}{base:av}
theorem Fun.binds{st:ay}{f:D}{fd:Bc}{ps:List Str}(F:Fun K x qual st f fd)
  (h:∀(kV doc pm:ae) (an:Option D) (cdv ct:ae) (us:List ae),us.length=ps.length->bindArgs (iq x qual (yX st) (yt st) (zj st) .none kV doc pm an cdv ct) ⟨us,[]⟩=pure (ps.zip us)):sI K fd ps []:=by
 obtain⟨oc,od,kV,doc,pm,an,cdv,ct,osl,rfl,lk,hcd⟩:=F.ex;exact .all (h kV doc pm an cdv ct)
theorem XJ{st:ay}{f:D}{oc:ae}{od an:Option D}{osl:Array (Option ae)}{kV doc pm cdv ct:ae}(l:K.lookup f=U ⟨oc,od,.func (iq x qual (yX st) (yt st) (zj st) .none kV doc pm an cdv ct),osl⟩)
  (c:gQ K cdv qual=af) (k:dM K (.ref f)=af):Fun K x qual st f (iq x qual (yX st) (yt st) (zj st) .none kV doc pm an cdv ct):=⟨⟨oc,od,kV,doc,pm,an,cdv,ct,osl,Z,l,c⟩,k⟩
end
theorem yC(hr:sG k A):A.units+1<cLine:=b6 (oR (by lia:1<=64) _) hr.units
section
variable {X:Cx}
theorem L(i:Nat){pos:Pos}(hN:X.N[i]?=U x:=by rfl)(hv:Vis X.env.scope x:=by first|exact lU rfl|exact oI (lU Z)|exact oI (oI Z))(hd:(x==("__debug__":Str))=ao:=by lia)
  (hcd:(x==("__classdict__":Str))=ao:=by lia):PE X (.Name x pos) (B i):=zhs hN hv hd hcd
end
theorem YV{c A Bn:Prop} [Decidable c](h1:c->A)(h2:¬ c->Bn):if c then A else Bn:=by
 by_cases h:c
 ·rw[aq h];exact h1 h
 ·rw[am h];exact h2 h
def aL(H H':Hp):Prop:=∀b o,H b=U o->H' b=U o
theorem aL.refl(H:Hp):aL H H:=λ_ _ h=>h
theorem aL.trans{H H1 H2:Hp}(a:aL H H1)(b:aL H1 H2):aL H H2:=λc o h=>b c o (a c o h)
section
variable {κ:Type} [DecidableEq κ]
theorem zag{aJ:List (κ×V)}{k:κ}(h:yf aJ k=ak):¬ k∈aJ.map (·.1):=by
 intro m;obtain⟨p,hp,e⟩:=bG.mp m;have q:(aJ.any λkv=>decide (kv.1=k))=af:=iU.mpr ⟨p,hp,Bj e⟩;rw[ve,h] at q;exact absurd q (by simp)
theorem zct{aJ:List (κ×V)}{k:κ}{v:V}(h:yf aJ k=U v):k∈aJ.map (·.1):=by
 have q:(aJ.any λkv=>decide (kv.1=k))=af:=by
  rw[ve,h]
  all_goals rfl
 obtain⟨p,hp,e⟩:=iU.mp q;exact bG.mpr ⟨p,hp,of_decide_eq_true e⟩
theorem zcu:∀ {l:List κ} {k:κ},l.Nodup->¬ k∈l->(l++[k]).Nodup
 |[],k,_,_=>by simp
 |a::r,k,h,hk=>by
  obtain⟨h1,h2⟩:=bY.mp h;show (a::(r++[k])).Nodup;refine bY.mpr ⟨λm=>?_,zcu h2 λm=>hk (bu.mpr (oI m))⟩;rcases bw.mp m with q|q
  ·exact h1 q
  ·exact hk (bu.mpr (lU (bp.mp q).symm))
theorem zf3{aJ:List (κ×V)}{k:κ}(v:V)(hn:(aJ.map (·.1)).Nodup)(h:yf aJ k=ak):((yI aJ k v).map (·.1)).Nodup:=by
 rw[vS v h,bQ];exact zcu hn (zag h)
theorem J4{p:κ×V}{r:List (κ×V)}(e:p.1=k):yp (p::r) k=yp r k:=by
 unfold yp;rw[du,am (by simp[e])]
theorem XL{p:κ×V}{r:List (κ×V)}(e:¬ p.1=k):yp (p::r) k=p::yp r k:=by
 unfold yp;rw[du,aq (by simp[e])]
theorem zec:∀ {aJ:List (κ×V)} {k:κ},¬ k∈aJ.map (·.1)->yp aJ k=aJ
 |[],_,_=>rfl
 |p::r,k,h=>by
  have h':¬ k∈r.map (·.1):=λm=>by
   obtain⟨q,hq,e⟩:=bG.mp m;exact h (bG.mpr ⟨q,bu.mpr (oI hq),e⟩)
  rw[XL λe=>h (bG.mpr ⟨p,bu.mpr (lU Z),e⟩),zec h']
theorem zdk{aJ:List (κ×V)}{p:κ×V}(h:p∈yp aJ k):p∈aJ:=(b7.mp h).1
end
end L2
set_option Elab.async false
set_option linter.all false
set_option maxRecDepth 100000
set_option maxHeartbeats 4000000
namespace L2
open PySem PySem.Spec PyProof.Rows
def Cx.comp(X:Cx)(scope:aB)(cl:List (Str×D))(C:D)(N:List Str)(fp:List D)(s:ah)(H:Hp):Cx :=
 { X with env:=compEnvC scope cl C X.env,N:=N,s₀:=s,H₀:=H,outer:=X.stack,ex:=fp,fn:=λ_=>ao,pn:=[],xe:=λ_ _=>False }
structure ZK(X:Cx)(scope:aB)(cl:List (Str×D))(ix:List Nat):Prop where
 clos:closureFor scope X.env=pure cl
 nocell:∀y∈scope.names,y.2≠.cell
 kind:scope.kind=.function
 names:∀y∈scope.names,y.2=.local->scope.names.lookup y.1=U .local
 sub:∀y c,cl.lookup y=U c->X.env.cells.lookup y=U c
 has:∀y,((relabel scope X.env).names.lookup y=U .cell\/(relabel scope X.env).names.lookup y=U .free)->∃c,cl.lookup y=U c
 cap:∀i∈ix,∃y,X.N[i]?=U y/\(X.env.kindOf y=U .cell\/X.env.kindOf y=U .free)/\((relabel scope X.env).names.lookup y=U .cell\/(relabel scope X.env).names.lookup y=U .free)
def qM(scope:aB)(env:Env):List (Str×D):=scope.names.foldl (λcs y=>if y.2==.free then (y.1,(env.cells.lookup y.1).getD 0)::cs else cs) []
def zcv(osc:aB)(N:List Str)(sc:aB)(ix:List Nat):Bool :=
 sc.kind==.function&&sc.names.all (λy=>y.2 != .cell&&(y.2 != .local || sc.names.lookup y.1==U .local)&&(y.2 != .free || osc.names.lookup y.1==U .cell || osc.names.lookup y.1==U .free)) &&
  ix.all λi=>match N[i]? with
   |some y=>sc.names.lookup y==U .free
   |none=>ao
theorem vf{l:List (Str×NameKind)}{y:Str}(h:l.lookup y=U k):(y,k)∈l:=eT h
theorem kH{env:Env}:∀ {names:List (Str×NameKind)} {x:Str} {k:NameKind},(names.map λ(n,k)=>if (k==dh&&env.scope.kind==.function&&env.kindOf n==U .cell) then (n,mX) else (n,k)).lookup x=U k ->
  ∃k',names.lookup x=U k'/\(k'=.free\/k'=k)
 |[],_,_,h=>by simp at h
 |(n,k')::r,x,k,h=>by
  have ih:=@kH env r x k;rw[bt] at h;cases hx:x==n with
  |true =>
   by_cases hc:(k'==dh&&env.scope.kind==.function&&env.kindOf n==U .cell)=af
   ·have e:k'=.free:=by
     have:=(b8 _ _ ▸ (b8 _ _ ▸ hc).1).1;simpa using this
    exact⟨k',by simp[ca,hx],.inl e⟩
   ·simp only[am hc,ca,hx] at h;exact⟨k',by simp[ca,hx],.inr (bP h)⟩
  |false =>
   have h':(r.map λ(n,k)=>if (k==dh&&env.scope.kind==.function&&env.kindOf n==U .cell) then (n,mX) else (n,k)).lookup x=U k:=by
    by_cases hc:(k'==dh&&env.scope.kind==.function&&env.kindOf n==U .cell)=af
    ·simp only[aq hc,ca,hx] at h;exact h
    ·simp only[am hc,ca,hx] at h;exact h
   obtain⟨q,e,r'⟩:=ih h';exact⟨q,by simp only[ca,hx];exact e,r'⟩
theorem YW{env:Env}:∀ {names:List (Str×NameKind)} {x:Str},names.lookup x=U .free ->
  ((names.map λ(n,k)=>if (k==dh&&env.scope.kind==.function&&env.kindOf n==U .cell) then (n,mX) else (n,k)).lookup x=U .cell \/
   (names.map λ(n,k)=>if (k==dh&&env.scope.kind==.function&&env.kindOf n==U .cell) then (n,mX) else (n,k)).lookup x=U .free)
 |[],_,h=>by simp at h
 |(n,k')::r,x,h=>by
  have ih:=@YW env r x;rw[bt];cases hx:x==n with
  |true =>
   simp only[ca,hx] at h;cases h;by_cases hc:(dh==dh&&env.scope.kind==.function&&env.kindOf n==U .cell)=af
   ·left;simp only[aq hc,ca,hx]
   ·right;simp only[am hc,ca,hx]
  |false =>
   simp only[ca,hx] at h;by_cases hc:(k'==dh&&env.scope.kind==.function&&env.kindOf n==U .cell)=af
   ·simp only[aq hc,ca,hx];exact ih h
   ·simp only[am hc,ca,hx];exact ih h
theorem J5{env:Env}:∀(l:List (Str×NameKind)) (cs:List (Str×D)),(∀y∈l,y.2=.free->∃c,env.cells.lookup y.1=U c) ->
  (∀y c,cs.lookup y=U c->env.cells.lookup y=U c)->∀y c,(l.foldl (λcs y=>if y.2==.free then (y.1,(env.cells.lookup y.1).getD 0)::cs else cs) cs).lookup y=U c->env.cells.lookup y=U c
 |[],_,_,h,y,c,e=>h y c e
 |z::r,cs,hl,h,y,c,e=>by
  rw[eU] at e;refine J5 r _ (λy hy=>hl y (bq _ hy)) (λy' c' e'=>?_) y c e;by_cases hz:z.2=.free
  ·obtain⟨c0,h0⟩:=hl z br hz;have hb:(z.2==dh)=af:=by simpa using hz
   rw[aq hb,h0,ca] at e';cases hq:y'==z.1 with
   |true =>
    rw[hq] at e';have e2:y'=z.1:=by simpa using hq
    cases e';rw[e2];exact h0
   |false=>rw[hq] at e';exact h _ _ e'
  ·have hb:(z.2==dh)=ao:=by simpa using hz
   rw[hb] at e';exact h _ _ e'
theorem zah{env:Env}:∀(l:List (Str×NameKind)) (cs:List (Str×D)) (y:Str),((∃c,cs.lookup y=U c)\/(y,dh)∈l) ->
  ∃c,(l.foldl (λcs y=>if y.2==.free then (y.1,(env.cells.lookup y.1).getD 0)::cs else cs) cs).lookup y=U c
 |[],_,_,h=>h.elim id λz=>nomatch z
 |z::r,cs,y,h=>by
  rw[eU];refine zah r _ y ?_;rcases h with ⟨c,h⟩|h
  ·left
   by_cases hz:(z.2==dh)=af
   ·rw[aq hz,ca];cases y==z.1 with
    |true=>exact⟨_,Z⟩
    |false=>exact⟨c,h⟩
   ·rw[am hz];exact⟨c,h⟩
  ·rcases bu.mp h with h|h
   ·left
    subst h;rw[aq (by rfl),ca];simp
   ·exact .inr h
theorem KR{env:Env}:∀(l:List (Str×NameKind)) (cs:List (Str×D)),(∀y∈l,y.2=.free->∃c,env.cells.lookup y.1=U c) ->
  forIn (m:=Sem) l cs (λx r=>match x with|(name,kind)=>if (kind==dh)=af then do let c <-cellOf env name;pure (gg ((name,c)::r)) else pure (gg r)) =
   pure (l.foldl (λcs y=>if y.2==.free then (y.1,(env.cells.lookup y.1).getD 0)::cs else cs) cs)
 |[],_,_=>rfl
 |(n,k)::r,cs,h=>by
  rw[nU,eU];by_cases hz:(k==dh)=af
  ·obtain⟨c,hc⟩:=h (n,k) br (by simpa using hz);have e:cellOf env n=pure c:=by unfold cellOf;rw[hc]
   simp only[hz,if_true,e,pure_bind];rw[KR r _ λy hy=>h y (bq _ hy)];simp only[hc,Option.getD_some]
  ·simp only[hz,if_false,pure_bind];exact KR r _ λy hy=>h y (bq _ hy)
theorem YX(ok:X.Ok)(h:zcv osc N scope ix=af)(hs:X.env.scope=osc)(hN:X.N=N):ZK X scope (qM scope X.env) ix:=by
 subst hs hN;unfold zcv at h;rw[b8,b8,iV,iV] at h;obtain⟨⟨h1,h2⟩,h3⟩:=h;have p:∀y∈scope.names,y.2≠.cell/\(y.2=.local->scope.names.lookup y.1=U .local)/\(y.2=.free->X.env.kindOf y.1=U .cell\/X.env.kindOf y.1=U .free):=λy hy=>by
  have q:=h2 y hy;rw[b8,b8] at q;obtain⟨⟨q1,q2⟩,q3⟩:=q;refine⟨by simpa using q1,λe=>?_,λe=>?_⟩
  ·rw[e] at q2;simpa using q2
  ·rw[e] at q3;have q3':X.env.scope.names.lookup y.1=U .cell\/X.env.scope.names.lookup y.1=U .free:=by simpa using q3
   exact q3'
 have f:∀y∈scope.names,y.2=.free->∃c,X.env.cells.lookup y.1=U c:=λy hy e=>ok.has y.1 ((p y hy).2.2 e);refine⟨?_,λy hy=>(p y hy).1,by simpa using h1,λy hy=>(p y hy).2.1,λy c e=>J5 scope.names [] f (λ_ _ z=>by simp at z) y c e,λy hy=>?_,λi hi=>?_⟩
 ·have e:=KR scope.names [] f;unfold closureFor qM;refine Eq.trans (congrArg (λm=>m >>= λs=>(pure s:Sem (List (Str×D)))) e) ?_;rw[pure_bind]
 ·refine zah scope.names [] y (.inr ?_);rcases hy with hy|hy
  ·obtain⟨k',e,z|z⟩:=kH hy
   ·subst z;exact vf e
   ·subst z;exact absurd Z (p _ (vf e)).1
  ·obtain⟨k',e,z|z⟩:=kH hy
   ·subst z;exact vf e
   ·subst z;exact vf e
 ·have q:=h3 i hi;cases hy:X.N[i]? with
  |none=>rw[hy] at q;cases q
  |some y =>
   rw[hy] at q;have q':scope.names.lookup y=U .free:=by simpa using q
   exact⟨y,Z,(p _ (vf q')).2.2 Z,YW q'⟩
def zbF(ix:List Nat)(σ:St):St:=ix.map λi=>(σ[i]?).getD ak
def jZ(ix:List Nat)(N:List Str):List Str:=ix.map λi=>(N[i]?).getD ""
section
variable {X:Cx}{aa:List (D×Obj)}{σ:St}{H:Hp}{s:ah}{scope:aB}{cl:List (Str×D)}{ix:List Nat}{fp:List D}{C:D}{xs:List Str}
theorem aO.compOk(I:aO X aa σ H s)(S:ZK X scope cl ix)(hC:C=s.heap.objs.size)(hf:∀b∈fp,qB X aa H b)(hl:∀b∈fp,b<s.heap.objs.size)(N':List Str) :
  (X.comp scope cl C N' fp s H).Ok where
 mod:=I.ok.mod
 kind:=S.kind
 glob:=I.ok.glob
 blt:=I.ok.blt
 above:=nP hC.symm
 inj:=λx y c h1 h2=>I.ok.inj x y c (S.sub x c h1) (S.sub y c h2)
 has:=λx hx=>S.has x hx
 cab:=λx c h1 _=>nomatch h1
 hd:=I.ok.hd
 frames:=I.ok.frames
 stk:=.inl rfl
 exf:=λb hb=>⟨λz=>absurd (hl b hb) (by rw[z];show ¬ C<_;rw[hC];exact fB _),λx c h=>(hf b hb).2.2.2.2.1 x c (S.sub x c h)⟩
 bs:=I.bs
 bsz:=bO I.ok.bsz I.sz
 noex:=λb o e hb=>by
  rcases(hf b hb).2.2.2.1 with z|z
  ·exact I.ok.noex b o e z
  ·exact absurd (bX (bH e) (bO I.ok.bsz z)) (fB _)
 exfs:=λb hb z=>by
  rcases bu.mp (I.stkSub b z) with e|e
  ·exact(hf b hb).2.1 e
  ·exact(hf b hb).2.2.1 e
 funs:=I.stack
 frf:=I.stkFree
theorem aO.comp{h₁:av}{m₁:Str->Option ae}{t':Nat}(I:aO X aa σ H s)(S:ZK X scope cl ix)(hC:C=s.heap.objs.size)(hf:∀b∈fp,qB X aa H b)(hl:∀b∈fp,b<s.heap.objs.size)
  (hn:h₁.Ns C m₁) (hk:∀b o,s.heap.get? b=U o->h₁.get? b=U o) :
  aO (X.comp scope cl C (xs++jZ ix X.N) fp s H) [] (iG xs.length ak++zbF ix σ) H { s with heap:=h₁,toks:=t' } where
 ok:=I.compOk S hC hf hl _
 os:=rfl
 bare:=I.bare
 base:=Un.kept hk
 loc:=by
  refine⟨m₁,hn,λi y v e1 e2 e3=>?_⟩;by_cases hi:i<xs.length
  ·rw[cy (by simpa using hi),mQ,aq hi] at e2;cases e2
  ·have e1':(xs++jZ ix X.N)[i]?=U y:=e1;rw[dy ()] at e1';rw[dy (by rw[gb];lia),gb] at e2;generalize i-xs.length=j at e1' e2;unfold jZ at e1';unfold zbF at e2;rw[bB] at e1' e2;cases hj:ix[j]? with
   |none=>rw[hj] at e1';cases e1'
   |some k =>
    rw[hj] at e1' e2;obtain⟨y',c1,c2,c3⟩:=S.cap k (bT hj);have ey:y'=y:=by
     have q:(X.N[k]?).getD ""=y:=bP e1';rw[c1] at q;exact q
    subst ey;have ev:σ[k]?=U (U v):=by
     have q:(σ[k]?).getD ak=U v:=bP e2;cases hs:σ[k]? with
     |none=>rw[hs] at q;cases q
     |some o=>rw[hs] at q;exact congrArg U q
    obtain⟨m,hm,hv⟩:=I.loc;obtain⟨u,r,l⟩:=hv k y' v c1 ev (c2.elim (λz=>.inr (.inl z)) λz=>.inr (.inr z));refine⟨u,r,.inr ⟨c3,?_⟩⟩;rcases l with ⟨l1,_⟩|⟨_,c,lc,⟨o,ho,hd⟩⟩
    ·rcases c2 with z|z <;> (rw[l1] at z;cases z)
    ·obtain⟨c',hc'⟩:=S.has y' c3;have e:=S.sub _ _ hc';rw[lc] at e;cases e;exact⟨c,hc',o,hk _ _ ho,hd⟩
 cell:=λx c e=>by
  obtain⟨v,o,ho,hd⟩:=I.cell x c (S.sub x c e);exact⟨v,o,hk _ _ ho,hd⟩
 free:=I.hok.fresh (nP hC.symm)
 freeC:=λx c e=>I.freeC x c (S.sub x c e)
 pin:=λp hp=>absurd (show p∈([]:List (D×Obj)) from hp) (by simp)
 hok:=I.hok.kept hk
 len:=by
  show (iG xs.length ak++zbF ix σ).length=(xs++jZ ix X.N).length;rw[bD,bD,gb,zbF,jZ,bf,bf]
theorem aO.uncomp{σ':St}{H':Hp}{N':List Str}{h':av}(I:aO X aa σ H s)(hC:C=s.heap.objs.size)(hf:∀b∈fp,qB X aa H b)
  (J:aO (X.comp scope cl C N' fp s H) [] σ' H' s') (hb:cG C s'.heap h'):aO X aa σ H' { s' with heap:=h' }:=by
 have lt:∀b o,s.heap.get? b=U o->b≠C:=λb o e=>by
  rw[hC];exact bR (bH e)
 have Bn:Un (tq X.stack) fp H H' s.heap s'.heap:=J.base;refine I.call' (s':={ s' with heap:=h' }) (ch:=fp) J.os ?_ ?_ J.bare ?_
 ·exact⟨λb o e n h1 h2=>(hb.2 b (lt b o e)).trans (Bn.keep b o e n h1 h2),λb o e n h1 h2=>by
   obtain⟨sl,q⟩:=Bn.slot b o e n h1 h2;exact⟨sl,(hb.2 b (lt b o e)).trans q⟩,Bn.free,λb o e h1=>by
   obtain⟨o',q⟩:=Bn.there b o e h1;exact⟨o',(hb.2 b (lt b o e)).trans q⟩,Bn.tups,Bn.frzs,Bn.tbls⟩
 ·intro b o e;refine(J.hok b o e).stay (λc u hc q=>(hb.2 c ?_).trans q) (λ_ q=>q) λ_ _ q=>q;have hC0:H' C=ak:=J.free;rintro rfl;rcases hc with rfl|hc
  ·rw[hC0] at e;cases e
  ·rw[hC0] at hc;cases hc
 ·intro b hb';obtain⟨f0,f1,f2,f3,f4,f5⟩:=hf b hb';exact⟨f3,f1,f4,f5⟩
end
def PTs(X:Cx)(ifs:List aA)(t:TT):Prop :=
 ∀(aa:List (D×Obj)) (s:ah) (σ:St) (H:Hp) (Q:Bool->Hp->Prop),aO X aa σ H s->t σ H Q ->
  Bf (Bg X.prog X.w) X.A (forIn ifs af λc r=>if r=af then do let ok <-isTrue c X.env (eval c X.env);pure (gg ok) else pure (gg r)) (TP X aa σ Q) X.xe s
def zai:TT:=λ_ H Q=>Q af H
theorem ZM :PTs X [] zai:=λ_ _ _ H _ I h=>wpAny_tests_nil ⟨H,I,h⟩
theorem zf4(h:PT X c t):PTs X [c] t:=λaa s σ H Q I q=>wpAny_tests_one (h aa s σ H Q I q)
section
variable {prog:au}{w:aw}{A:ax}{R:aC->ah->Prop}{s:ah}
theorem KS{elt target iter:aA}{ifs:List aA}{scope:aB}{pos:Pos}{it acc:ae}{env:Env}(W:Nat->ah->Prop){EE:ae->ah->Prop}
  (hE:∀e s',EE e s'->notedBy (Bg prog w) A env (λe s'=>R (.error e) s') e s')
  (turn:∀n s,W n s->Bf (Bg prog w) A (pyNext it) (λr s₁=>match r with
   |none=>R (.ok .next) s₁
   |some v=>Bf (Bg prog w) A (letOwnedTupleGo target it v) (λ_ t₁=>Bf (Bg prog w) A (assign target env v) (λ_ s₂ =>
     Bf (Bg prog w) A (forIn ifs af λc r=>if r=af then do let ok <-isTrue c env (eval c env);pure (gg ok) else pure (gg r)) (λok s₃ =>
      if ok=af then Bf (Bg prog w) A (eval elt env) (λx s₄=>Bf (Bg prog w) A (call (.builtin "list.append") [acc,x]) (λ_ s₅=>∃m,m<n/\W m s₅) EE s₄) EE s₃
      else ∃m,m<n/\W m s₃) EE s₂) EE t₁) EE s₁) EE s)
  (n:Nat) (h:W n s):codeAny (Bg prog w) A (.compLoop (.ListComp elt [⟨target,iter,ifs,0⟩] scope pos) 0 it acc env) R s:=by
 refine codeAny_loop Z W (λn s hW=>?_) n h;show Bf _ A ((compTurn (.ListComp elt [⟨target,iter,ifs,0⟩] scope pos) 0 it acc env).onRaise (λx=>do noteFrame x env;theTreesLotGoes x)) _ _ s;refine wpAny_noted (dF ?_ (λ_ _ q=>q) hE);rw[compTurn_list];refine ba (wpAny_standAt (ba (hZ (turn n s hW) λr s₁ h₁=>?_)));cases r with
 |none=>exact bh h₁
 |some v =>
  refine ba (hZ h₁ λ_ t₁ k₁=>?_);refine ba (hZ k₁ λ_ s₂ h₂=>ba (hZ h₂ λok s₃ h₃=>?_));cases ok with
  |false=>exact bh ⟨Z,h₃⟩
  |true=>exact ba (ba (hZ h₃ λx s₄ h₄=>ba (hZ h₄ λ_ s₅ h₅=>bh (bh ⟨Z,h₅⟩))))
end
def qq(wi:TI)(g:TG)(tt:TT)(te:TE)(k:Nat)(ix:List Nat):TE:=λσ H Q=>wi σ H λJ H1=>∀Bp,H1 Bp=ak ->
 ∃W:Nat->Nat->List V->St->Hp->Prop,(∃m,W 0 m [] (iG k ak++zbF ix σ) (upd H1 Bp (.lst [])))/\∀i m ys τ H,W i m ys τ H->H Bp=U (.lst ys) /\
  ((J.stop i H/\Q (.ref Bp) H)\/(J.go i H/\ys.length<Bb/\∃N:V->St->Hp->Prop,
   (∀v τ' H',N v τ' H'->H' Bp=U (.lst ys)/\∃m',m'<m/\W (i+1) m' (ys++[v]) τ' (upd H' Bp (.lst (ys++[v]))))/\∃Nf:St->Hp->Prop,(∀τ' H',Nf τ' H'->∃m',m'<m/\W (i+1) m' ys τ' H') /\
   ∀x H',J.yld i H x H'->g x τ H' λτ2 H2=>tt τ2 H2 λb H3=>if b=af then te τ2 H3 λv H4=>N v τ2 H4 else Nf τ2 H3))
section
variable {X:Cx}{elt iter tg:aA}{ifs:List aA}{scope:aB}{pos:Pos}{cl:List (Str×D)}{ix:List Nat}{xs:List Str}{wi:TI}{g:TG}{tt:TT}{te:TE}
theorem Ve(S:ZK X scope cl ix)(hc:X.calm=af)(hi:PI X tg iter wi)
  (hg:∀C fp s H,PG (X.comp scope cl C (xs++jZ ix X.N) fp s H) tg g) (ht:∀C fp s H,PTs (X.comp scope cl C (xs++jZ ix X.N) fp s H) ifs tt)
  (he:∀C fp s H,PE (X.comp scope cl C (xs++jZ ix X.N) fp s H) elt te)
  {s:ah} {σ:St} {H:Hp} {Q:VK} (I:aO X aa σ H s) (h:qq wi g tt te xs.length ix σ H Q) {RR:ae->D->aC->ah->Prop}
  (hR:∀v u s' C,aU v u->(∃H',Q v H'/\(∃m,s'.heap.Ns C m)/\(∀h',cG C s'.heap h'->aO X aa σ H' { s' with heap:=h' })/\qB X aa H' C)->RR u C (.ok .next) s') :
  Bf (Bg X.prog X.w) X.A (eval iter X.env) (λx s₁=>Bf (Bg X.prog X.w) X.A (pyIter x) (λit s₂=>Bf (Bg X.prog X.w) X.A (newList []) (λacc s₃ =>
   Bf (Bg X.prog X.w) X.A (newFunctionEnv scope X.env.globals cl [] X.env.qual ak .none (U X.env)) (λcenv s₄ =>
    codeAny (Bg X.prog X.w) X.A (.compStart (.ListComp elt [⟨tg,iter,ifs,0⟩] scope pos) 0 it acc { cenv with scope:=relabel scope X.env }) (RR acc cenv.locals) s₄) X.xe s₃) X.xe s₂) X.xe s₁) X.xe s:=by
 refine hZ (hi aa s σ H _ I h) λv s1 h1=>hZ h1 λitv s2 h2=>?_;obtain⟨it,fp,tn,J,H2,e,I2,T,st2,f2,hW⟩:=h2;subst e;refine cQ (wpAny_newFunctionEnv S.nocell (λy hy=>nomatch hy) (λh₁ hns₁ hsb₁=>?_) S.kind);dsimp only at hns₁ hsb₁ ⊢;obtain⟨W,⟨m0,w0⟩,turn⟩:=hW s2.heap.objs.size I2.fresh;have I3:=I2.lnew (t':=s2.toks) (ys:=[]) (its:=[]) .nil (bS _);have hl3:∀b∈fp,b<s2.heap.objs.size:=λb hb=>by
  obtain⟨o,e,_⟩:=T.obj _ _ st2 b hb;exact bH e
 generalize hs3:({ s2 with heap:=s2.heap.push { cls:=.type "list",data:=.seq ([]:List ae).toArray },toks:=s2.toks }:ah)=s3 at I3;have hs3h:s3.heap=s2.heap.push { cls:=.type "list",data:=.seq ([]:List ae).toArray }:=by rw[<-hs3]
 have hsz:s3.heap.objs.size=s2.heap.objs.size+1:=by rw[hs3h,eP]
 have f3:∀b∈fp,qB X aa (upd H2 s2.heap.objs.size (.lst [])) b:=λb hb=>by
  obtain⟨q0,q⟩:=f2 b hb;exact⟨by rw[zl (bR (hl3 b hb))];exact q0,q⟩
 have hl3':∀b∈fp,b<s3.heap.objs.size:=λb hb=>by rw[hsz];exact pS (hl3 b hb)
 rw[<-hs3h] at hns₁ hsb₁ ⊢;have hk:∀b o,s3.heap.get? b=U o->h₁.get? b=U o:=λb o e=>(hsb₁.2 b (bR (bH e))).trans (bc _ e);have hk2:∀b o,s2.heap.get? b=U o->s3.heap.get? b=U o:=λb o e=>by rw[hs3h];exact bc _ e
 have J0:=I3.comp (xs:=xs) (t':=s2.toks) (C:=s3.heap.objs.size) S Z f3 hl3' hns₁ hk;have st3:tn 0 h₁:=T.keep _ _ _ st2 λb _ o e=>hk b o (hk2 b o e);have loop:∀tk,codeAny (Bg X.prog X.w) X.A (.compLoop (.ListComp elt [⟨tg,iter,ifs,0⟩] scope pos) 0 (.ref it) (.ref s2.heap.objs.size) (compEnvC scope cl s3.heap.objs.size X.env))
   (RR (.ref s2.heap.objs.size) s3.heap.objs.size) { s3 with heap:=h₁,toks:=tk }:=by
  intro tk;refine KS (EE:=λ_ _=>False) (λn s'=>∃i ys τ H',aO (X.comp scope cl s3.heap.objs.size (xs++jZ ix X.N) fp s3 (upd H2 s2.heap.objs.size (.lst []))) [] τ H' s'/\tn i s'.heap/\(∀b∈fp,H' b=ak)/\W i n ys τ H')
   (λ_ _ z=>z.elim) ?_ m0 ⟨0,[],_,_,J0.tok tk,st3,λb hb=>(f3 b hb).1,w0⟩
  rintro n s' ⟨i,ys,τ,H',I',st',fr',w'⟩;have stat:∀ {H':Hp},(∀b∈fp,H' b=ak)->∀b∈fp,qB (X.comp scope cl s3.heap.objs.size (xs++jZ ix X.N) fp s3 (upd H2 s2.heap.objs.size (.lst []))) [] H' b:=λhn b hb =>
   ⟨hn b hb,(I'.ok.exf b hb).1,I'.ok.exfs b hb,.inl hb,(I'.ok.exf b hb).2,λp hp=>absurd (show p∈([]:List (D×Obj)) from hp) (by simp)⟩
  obtain⟨hD,⟨stop,q⟩|⟨go,hz,N,hN,Nf,hNf,step⟩⟩:=turn i n ys τ H' w'
  ·refine hZ (T.done (X.comp scope cl s3.heap.objs.size (xs++jZ ix X.N) fp s3 (upd H2 s2.heap.objs.size (.lst []))) Z Z Z hc i [] s' τ H' _ I' (stat fr') st' stop) ?_;rintro r s4 ⟨hr,I4⟩;subst hr;refine hR (.ref s2.heap.objs.size) _ s4 _ Z ⟨H',q,?_,λh' hb=>I3.uncomp Z f3 I4 hb,I3.fpOk (bn _) I4.free⟩;obtain⟨m,hn,_⟩:=I4.loc;exact⟨m,hn⟩
  ·refine hZ (T.item (X.comp scope cl s3.heap.objs.size (xs++jZ ix X.N) fp s3 (upd H2 s2.heap.objs.size (.lst []))) Z Z Z hc i [] s' τ H' _ I' (stat fr') st' go) ?_;rintro r s4 ⟨u,hr,h4⟩;subst hr;refine hZ h4 ?_;rintro _ s5 ⟨x,H5,I5,r5,y5,st5,fr5⟩;have I5':=I5.pinned (stat fr5) (T.obj _ _ st5);refine hZ (hg _ _ _ _ _ s5 τ H5 x u _ I5' r5 (step x H5 y5)) ?_;rintro _ s6 ⟨τ6,H6,I6,q6⟩;refine hZ (ht _ _ _ _ _ s6 τ6 H6 _ I6 q6) ?_;rintro ok s7 ⟨H7,I7,q7⟩;have back:∀ {s8:ah} {H8:Hp} {m:Nat} {zs:List V},aO (X.comp scope cl s3.heap.objs.size (xs++jZ ix X.N) fp s3 (upd H2 s2.heap.objs.size (.lst []))) ([]++W6 fp s5.heap) τ6 H8 s8->W (i+1) m zs τ6 H8 ->
     ∃i ys τ H',aO (X.comp scope cl s3.heap.objs.size (xs++jZ ix X.N) fp s3 (upd H2 s2.heap.objs.size (.lst []))) [] τ H' s8/\tn i s8.heap/\(∀b∈fp,H' b=ak)/\W i m ys τ H':=λ{s8 H8 m zs} I8 w8=>by
    refine⟨i+1,zs,τ6,H8,I8.unpinned,T.keep _ _ _ st5 λb hb o e=>(I8.pin (b,o) (bJ _ (bJ _ (kD hb e)))).1,λb hb=>?_,w8⟩;obtain⟨o,e,d⟩:=T.obj _ _ st5 b hb;exact(I8.pin (b,o) (bJ _ (bJ _ (kD hb e)))).2.1
   cases ok with
   |false =>
    rw[am bK] at q7 ⊢;obtain⟨m',hm,w7⟩:=hNf _ _ q7;exact⟨m',hm,back I7 w7⟩
   |true =>
    rw[aq rfl] at q7 ⊢;refine hZ (he _ _ _ _ _ s7 τ6 H7 _ I7 q7) ?_;rintro y s8 ⟨v8,H8,I8,r8,n8⟩;obtain⟨hD8,m',hm,w8⟩:=hN _ _ _ n8;refine hZ (xn _ s8 τ6 H8 (.ref s2.heap.objs.size) [v8] (.ref s2.heap.objs.size) [y] (λ_ Hn=>∃m,m<n/\W (i+1) m (ys++[v8]) τ6 Hn) I8 Z (.cons r8 .nil) ⟨_,ys,v8,Z,Z,hD8,hz,m',hm,w8⟩) ?_;rintro _ s9 ⟨_,H9,I9,_,m9,hm9,w9⟩;exact⟨m9,hm9,back I9 w9⟩
 have e3:∀tk,({ s3 with heap:=h₁,toks:=tk }:ah)={ s2 with heap:=h₁,toks:=tk }:=λtk=>by rw[<-hs3]
 have loop':∀tk,codeAny (Bg X.prog X.w) X.A (.compLoop (.ListComp elt [⟨tg,iter,ifs,0⟩] scope pos) 0 (.ref it) (.ref s2.heap.objs.size) (compEnvC scope cl s3.heap.objs.size X.env))
   (RR (.ref s2.heap.objs.size) s3.heap.objs.size) { s2 with heap:=h₁,toks:=tk }:=λtk=>by rw[<-e3];exact loop tk
 exact codeAny_compStart_list (loop' _) (T.self _ 0 _ _ _ st3 (loop' _))
theorem YY(hc:X.calm=af)(hD:zcv osc N scope ix=af)(hi:PI X tg iter wi)
  (hg:∀C fp s H,PG (X.comp scope (qM scope X.env) C (xs++jZ ix X.N) fp s H) tg g) (ht:∀C fp s H,PTs (X.comp scope (qM scope X.env) C (xs++jZ ix X.N) fp s H) ifs tt)
  (he:∀C fp s H,PE (X.comp scope (qM scope X.env) C (xs++jZ ix X.N) fp s H) elt te) (hsc:X.env.scope=osc:=by rfl) (hN:X.N=N:=by rfl) (hs:∀x,foldedSetIterable iter X.env x=pure x:=by intro _;rfl) :
  PE X (.ListComp elt [⟨tg,iter,ifs,0⟩] scope pos) (qq wi g tt te xs.length ix):=by
 intro aa s σ H Q I h;have S:=YX I.ok hD hsc hN;rw[eval_ListComp];refine mz (use:=ak) Z hs S.clos S.kind S.names (Ve S hc hi hg ht he I h (RR:=λacc C=>compPost (Bg X.prog X.w) X.A X.xe ak (EP X aa σ Q) acc C) ?_);rintro v u s' C r ⟨H',q,⟨m,hn⟩,hI,_⟩;exact⟨m,hn,λh' hb=>⟨v,H',hI h' hb,r,q⟩⟩
theorem Vf{N:List Str}{y:Str}{py:Pos}{j:Nat}{spos:Pos}(hNd:X.N.Nodup)(hj:X.N[j]?=U y)(hc:X.calm=af)(hy:Loc X.env.scope y)(hD:zcv osc N scope ix=af)(hi:PI X tg iter wi)
  (hg:∀C fp s H,PG (X.comp scope (qM scope X.env) C (xs++jZ ix X.N) fp s H) tg g) (ht:∀C fp s H,PTs (X.comp scope (qM scope X.env) C (xs++jZ ix X.N) fp s H) ifs tt)
  (he:∀C fp s H,PE (X.comp scope (qM scope X.env) C (xs++jZ ix X.N) fp s H) elt te) (hsc:X.env.scope=osc:=by rfl) (hN:X.N=N:=by rfl)
  (hsw:swapsWith (.ListComp elt [⟨tg,iter,ifs,0⟩] scope pos) (U (.Name y py)) spos.line X.env=pure af:=by rfl)
  (hs:∀x,foldedSetIterable iter X.env x=pure x:=by intro _;rfl) (hf:X.fn y=af\/X.env.scope.names.lookup y=U .local:=by first|exact .inl rfl|exact .inr rfl|assumption) :
  PS X (.Assign [.Name y py] (.ListComp elt [⟨tg,iter,ifs,0⟩] scope pos) spos) (zT (qq wi g tt te xs.length ix) (zw j)):=by
 intro aa s σ H Bp I h;have S:=YX I.ok hD hsc hN;rw[exec_Assign_Name_used _ _ _ _ hsw];refine ba (wpAny_standAt (ba ?_));show Bf _ X.A (do let _ <-comprehension (.ListComp elt [⟨tg,iter,ifs,0⟩] scope pos) scope X.env _ (newList []) ao (eval iter X.env) (U (assign (.Name y py) X.env))) _ _ s;refine ba (hZ (mz (use:=U (assign (.Name y py) X.env)) (Q:=λ_ s'=>SP X aa Bp .next s') rfl hs S.clos S.kind S.names
  (Ve S hc hi hg ht he I h (RR:=λacc C=>compPost (Bg X.prog X.w) X.A X.xe (U (assign (.Name y py) X.env)) (λ_ s'=>SP X aa Bp .next s') acc C) ?_)) λ_ s' hq=>bh (bh hq))
 rintro v u s' C r ⟨H',q,⟨m,hn⟩,hI,f0,f1,f2,f3,f4,f5⟩;have I':aO X aa σ H' s':=hI s'.heap (.refl ..);show Bf _ X.A (assign (.Name y py) X.env u) _ _ _;refine wpAny_assign_Name (JT I' hNd hj hy r (λs2 I2 hx=>?_) hf);obtain⟨a,hb,ha⟩:=hx;have hCa:C≠a:=by
  rcases ha with rfl|ha
  ·exact f1
  ·exact eW (f4 _ _ ha)
 refine⟨m,hn.sameBut hb hCa,λh' hb'=>⟨_,H',?_,q⟩⟩;exact I2.turned (t':=s2.toks) (λb o hne e=>(hb'.2 b hne).trans e) f0 f1 f3 f4 f5
end
abbrev J6:R2:=λx y H Q=>∃i j,x=.str i/\y=.str j/\i.length+j.length<=Bb/\Q (.str (i++j)) H
abbrev zhF:R2:=λx y H Q=>y=.non/\Q (.bl (decide (x=.non))) H
abbrev zcw:R2:=λx y H Q=>y=.non/\Q (.bl (!decide (x=.non))) H
abbrev RC:=List V->Hp->VK->Prop
abbrev wI(K:bx):RC:=λxs H Q=>∃x n,xs=[x]/\zhz K x H n/\Q (.int n) H
abbrev ZS(K:bx):RC:=λxs H Q=>∃x c t b,xs=[x,c]/\Yj K H x t/\(∃T,c=.ty T/\fE K t (.type T)=U b)/\Q (.bl b) H
abbrev RM:=V->List V->Hp->VK->Prop
theorem sQ(p:D){H:Hp}(h:H p=ak):aL H (upd H p o):=λb u e=>by rw[zl (zC e h)];exact e
theorem yB:Bh "len"=U (.builtin "len"):=by lia
theorem yd:Bh "isinstance"=U (.builtin "isinstance"):=by lia
theorem ZN:Bh "sorted"=U (.builtin "sorted"):=by lia
theorem zhG:Bh "zip"=U (.type "zip"):=by lia
theorem zbG:Bh "str"=U (.type "str"):=by lia
theorem zed:Bh "int"=U (.type "int"):=by lia
theorem zcx:Bh "bool"=U (.type "bool"):=by lia
theorem xb:Bh "list"=U (.type "list"):=by lia
theorem Vg:Bh "tuple"=U (.type "tuple"):=by lia
theorem KU:Bh "dict"=U (.type "dict"):=by lia
section
variable {X:Cx}
def big:Int:=10^200
def yD(_ j:Int):Prop:=0<j/\j<big
def CMulB(i j:Int):Prop:=(-big<i/\i<big)/\(-big<j/\j<big)
theorem Vh{j:Int}(h:j.natAbs<10^200):j.natAbs.log2<700:=by
 by_cases h0:j.natAbs=0
 ·rw[h0];decide
 ·exact(Nat.log2_lt h0).mpr (bX h ())
theorem KW{j:Int}(h:-big<j/\j<big):j.natAbs<10^200:=by
 have e:big=((10^200:Nat):Int):=by lia
 rw[e] at h;lia
theorem CMulB.ok{i j:Int}(h:CMulB i j):IntMulOk i j:=by
 have b:∀k:Int,(-big<k/\k<big)->lB k<=2^20:=λk hk=>by
  have q:=Vh (KW hk);unfold lB;split <;> lia
 exact .of_bits (b i h.1) (b j h.2)
theorem wY:tN X (binaryOp .Mult) (rI CMulB λi j=>.int (i*j)):=opI λ_ _ _ _ _ _ _ hc q=>mul_int q hc.ok
theorem zU:tN X (binaryOp .FloorDiv) (rI yD λi j=>.int (i/j)):=opI λi j _ _ _ _ _ hc q=>by
 have h1:(0:Int)<j:=hc.1;refine floordiv_int () ?_ (.inl (mC (rg (Vh (KW ⟨by have:=hc.2;lia,hc.2⟩)) ())));rw[Int.fdiv_eq_ediv_of_nonneg i ()];exact q
theorem xg:qp X (.builtin "isinstance") (ZS X.K):=by
 intro aa s σ H xs us Q I r h;obtain⟨x,c,t,b,rfl,ty,⟨T,rfl,e⟩,q⟩:=h;obtain⟨u,w',rfl,r1,r2⟩:=zg1 r;cases r2;exact zdf I r1 ty e λtk=>⟨.bl b,H,I.tok tk,Z,q⟩
def zhH:V->Option Int->Option Int->Hp->VK->Prop:=λx lo hi H Q=>∃z,x=.str z/\z.length<=Bb/\Q (.str (gM z lo hi)) H
theorem zee:SlR X zhH:=by
 intro aa s σ H x v vl vu lo hi sl Q I rx hs pl pu h;obtain⟨z,rfl,hz,q⟩:=h;obtain⟨t,rfl⟩:=rx;obtain⟨o,ho,hc,hd⟩:=hs;refine⟨"str",_,F.slot_str_getitem.lookup,ot _ _ _,?_⟩;obtain⟨l,e1,e2⟩:∃l:Option (Int×Tok),vl=partValue l/\lo=l.map (·.1):=by
  cases pl with
  |none=>exact⟨ak,Z,Z⟩
  |int i t=>exact⟨U (i,t),Z,Z⟩
 obtain⟨u,e3,e4⟩:∃l:Option (Int×Tok),vu=partValue l/\hi=l.map (·.1):=by
  cases pu with
  |none=>exact⟨ak,Z,Z⟩
  |int i t=>exact⟨U (i,t),Z,Z⟩
 subst e1 e2 e3 e4;exact wpAny_getItem_str_slice (l:=l) (u:=u) (st:=ak) ⟨o,ho,hc,hd⟩ rfl
  (post_val_or_str ⟨bO (Txt.slice_le z _ _) hz,λt' k=>⟨.str (gM z (l.map (·.1)) (u.map (·.1))),H,I.tok k,⟨t',Z⟩,q⟩⟩)
end
theorem aW.there{H:Hp}(x:aW P w H h a o):∃u,h.get? a=U u:=by
 cases o with
 |lst xs=>obtain⟨_,_,_,_,e⟩:=x;exact⟨_,e⟩
 |tup xs=>obtain⟨_,_,_,o,e,_⟩:=x;exact⟨_,e⟩
 |dK aJ=>obtain⟨_,_,_,_,o,_,_,e,_⟩:=x;exact⟨_,e⟩
 |dT aJ=>obtain⟨_,_,_,_,o,_,_,e,_⟩:=x;exact⟨_,e⟩
 |set S n=>obtain⟨o,_,_,_,e,_⟩:=x;exact⟨_,e⟩
 |ins C dx fs=>obtain⟨_,_,_,e,_⟩:=x;exact⟨_,e⟩
 |own y=>exact x
 |xd fs=>obtain⟨_,⟨o,_,_,e,_⟩,_⟩:=x;exact⟨_,e⟩
 |rng lo hi=>obtain⟨_,_,_,e⟩:=x;exact⟨_,e⟩
 |frz ob u=>obtain⟨e,_⟩:=x;exact⟨_,e⟩
 |tbl ps=>exact⟨_,(show h.get? a=U _ from x)⟩
 |met f y=>exact⟨_,(show h.get? a=U _ from x)⟩
 |ext φ=>obtain⟨_,e,_⟩:=x;exact e
def XF(g h:av)(H:Hp)(e:D)(cls:ae):Prop :=
 ∃oe vs a0 T oT ts,h.get? e=U oe/\(oe.cls=cls/\vs[0]?=U a0)/\oe.data=.fields vs/\vs[1]?=U (.ref T)/\T≠e/\h.get? T=U oT/\oT.data=.fields ts/\ts[3]?=U .none /\
  g.get? e=ak/\g.get? T=ak/\H e=ak/\H T=ak
def tQ(P:au)(w:aw):CXT:=λouter H s E ev s'=>∃e cls H',ev=.ref e/\s'.os=s.os/\AllBare s'.gens/\Un (tq outer) [] H H' s.heap s'.heap/\tJ P w H' s'.heap/\XF s.heap s'.heap H' e cls/\E cls ak H'
theorem j6{g h:av}(k:∀b o,g.get? b=U o->∃o',h.get? b=U o')(e:h.get? b=ak):g.get? b=ak:=by
 cases q:g.get? b with
 |none=>rfl
 |some o =>
  obtain⟨o',z⟩:=k b o q;rw[e] at z;cases z
theorem XF.older{H:Hp}(x:XF g h H e cls)(k:∀b o,g'.get? b=U o->∃o',g.get? b=U o'):XF g' h H e cls:=by
 obtain⟨oe,vs,a0,T,oT,ts,h1,h2,h3,h4,h5,h6,h7,h8,h9,h10,h11,h12⟩:=x;exact⟨oe,vs,a0,T,oT,ts,h1,h2,h3,h4,h5,h6,h7,h8,j6 k h9,j6 k h10,h11,h12⟩
section
variable {X:Cx}{aa:List (D×Obj)}{σ:St}{H:Hp}{s:ah}
theorem aO.stackFields(J:aO X aa σ H s)(hb:b∈tq X.stack):∃o,s.heap.get? b=U o/\∀vs,o.data≠.fields vs:=(J.stack.mem hb).2
theorem aO.there0(hex:X.ex=[])(J:aO X aa σ H s):∀b o,X.s₀.heap.get? b=U o->∃o',s.heap.get? b=U o':=λb o e=>J.base.there b o e (by rw[hex];simp)
theorem aO.behind{cs:List D}(hex:X.ex=[])(J:aO X aa σ H s)(hcs:∀b∈cs,H b=ak/\X.s₀.heap.get? b=ak)
  (hB:∀b o,s.heap.get? b=U o->b ∉ tq X.stack->b ∉ cs->h2.get? b=U o) (hF:∀b o,s.heap.get? b=U o->b∈tq X.stack->∃sl,h2.get? b=U { o with slots:=sl }) :
  Un X.fs [] X.H₀ H X.s₀.heap h2/\tJ X.prog X.w H h2:=by
 have Bn:Un X.fs [] X.H₀ H X.s₀.heap s.heap:=by have:=J.base;rw[hex] at this;exact this
 have nL:∀b o,X.s₀.heap.get? b=U o->b≠X.env.locals:=λb o e=>bR (bX (bH e) J.ok.above);have nC:∀b o,X.s₀.heap.get? b=U o->b ∉ cs:=λb o e z=>by rw[(hcs b z).2] at e;cases e
 have any:∀b o,s.heap.get? b=U o->b ∉ cs->∃sl,h2.get? b=U { o with slots:=sl }:=λb o e n=>by
  by_cases hb:b∈tq X.stack
  ·exact hF b o e hb
  ·exact⟨o.slots,hB b o e hb n⟩
 refine⟨⟨λb o e n h1 _=>?_,λb o e n h1 _=>?_,Bn.free,λb o e h1=>?_,Bn.tups,Bn.frzs,Bn.tbls⟩,λb u e=>?_⟩
 ·refine hB b o (Bn.keep b o e n h1 (by simp)) (λz=>?_) (nC b o e);rcases bu.mp (J.stkSub b z) with q|q
  ·exact nL b o e q
  ·exact h1 q
 ·obtain⟨sl,q⟩:=Bn.slot b o e n h1 (by simp);obtain⟨sl',q'⟩:=any b _ q (nC b o e);exact⟨sl',q'⟩
 ·obtain⟨o',q⟩:=Bn.there b o e (by simp);obtain⟨sl,q'⟩:=any b o' q (nC b o e);exact⟨_,q'⟩
 ·refine(J.hok b u e).stay (λc v hc q=>?_) (λ_ q=>q) λ_ _ q=>q;have hn:H c≠ak:=by
   rcases hc with rfl|hc
   ·rw[e];simp
   ·rw[hc];simp
  exact hB c v q (λz=>hn (J.stkFree c z)) λz=>hn (hcs c z).1
theorem aO.flown{cs:List D}(hex:X.ex=[])(J:aO X aa σ H s)(hcs:∀b∈cs,H b=ak/\X.s₀.heap.get? b=ak)
  (hB:∀b o,s.heap.get? b=U o->b ∉ tq X.stack->b ∉ cs->Bn.get? b=U o) (hF:∀b o,s.heap.get? b=U o->b∈tq X.stack->∃sl,h2.get? b=U { o with slots:=sl })
  (he:H e=ak) (he0:X.s₀.heap.get? e=ak) (kb:Bn.StaysIn h2) (tr:h2.TracedW Bn e cls a0) :
  Un X.fs [] X.H₀ H X.s₀.heap h2/\tJ X.prog X.w H h2/\XF X.s₀.heap h2 H e cls:=by
 have hk:=J.behind (h2:=h2) hex hcs (λb o q n1 n2=>kb b o (hB b o q n1 n2)) hF;refine⟨hk.1,hk.2,?_⟩;obtain⟨oe,vs,T,oT,ts,h1,h2',h3,h4,h5,h6,h7,h8,h9⟩:=tr;have noT:∀o,s.heap.get? T=U o->T∈cs:=λo q=>by
  by_cases hb:T∈tq X.stack
  ·obtain⟨o',q',nf⟩:=J.stackFields hb;obtain⟨sl,z⟩:=hF T o' q' hb;rw[h7] at z;have z':oT={ o' with slots:=sl }:=bP z;exact absurd (by rw[<-h8,z']) (nf ts)
  ·by_cases hc:T∈cs
   ·exact hc
   ·rw[hB T o q hb hc] at h5;cases h5
 refine⟨oe,vs,a0,T,oT,ts,h1,h2',h3,h4,h6,h7,h8,h9,he0,?_,he,?_⟩
 ·cases q:X.s₀.heap.get? T with
  |none=>rfl
  |some o =>
   obtain⟨o',q'⟩:=J.there0 hex T o q;rw[(hcs T (noT o' q')).2] at q;cases q
 ·cases q:H T with
  |none=>rfl
  |some u =>
   obtain⟨o,z⟩:=(J.hok T u q).there;rw[(hcs T (noT o z)).1] at q;cases q
theorem zdl{h':av}{e:D}{cls:ae}{vs:List ae}{E:XK}{EE:ae->ah->Prop}(hst:X.stack=X.env::X.outer/\X.env.frame=U X.env.locals)(hex:X.ex=[])(J:aO X aa σ H s)(hx:Heap.MadeExcOf s.heap h' e cls vs)(hE:E cls ak H) :
  Bf (Bg X.prog X.w) X.A (leaving X.env (.ref e)) (λ_ s2=>tQ X.prog X.w X.outer X.H₀ X.s₀ E (.ref e) s2) EE { s with heap:=h' }:=by
 have fr:s.heap.FunFrames (gJ s.heap (tq X.stack)) (X.env::X.outer):=by
  have q:=iW (as:=tq X.stack) J.stack λenv he a ha=>fV.mpr ⟨env,he,ha⟩;rw[hst.1] at q ⊢;exact q
 refine wpAny_leaves_madeW (s:={ s with heap:=h' }) (base:=gJ s.heap (tq X.stack)) (h:=s.heap) (by rw[J.ok.frames,hst.1]) hst.2 (λb o q=>lP _ q) fr hx λh2 t hfl _ _ hup=>?_;obtain⟨f1,f2,f3,f4⟩:=hfl;have hF:∀b o,s.heap.get? b=U o->b∈tq X.stack->∃sl,h2.get? b=U { o with slots:=sl }:=λb o q hb=>by
  obtain⟨o',q',nf⟩:=J.stackFields hb;rw[q] at q';cases q';exact hup b o (hx.keeps b o q) nf
 obtain⟨r1,r2,r3⟩:=J.flown (cs:=[]) hex (λb z=>nomatch z) (λb o q n _=>i8 _ q n) hF
  (by
   cases q:H e with
   |none=>rfl
   |some u =>
    obtain⟨o,z⟩:=(J.hok e u q).there;rw[hx.new] at z;cases z)
  (j6 (J.there0 hex) hx.new) f1 f4
 exact⟨e,cls,H,Z,J.os,J.bare,r1,r2,r3,hE⟩
theorem zef{e:D}{cls:ae}{E:XK}{EE:ae->ah->Prop}(hst:X.stack=X.env::X.outer/\X.env.frame=U X.env.locals)(hex:X.ex=[])(J:aO X aa σ H s)(xf:XF X.s₀.heap s.heap H e cls)(hE:E cls ak H) :
  Bf (Bg X.prog X.w) X.A (leaving X.env (.ref e)) (λ_ s2=>tQ X.prog X.w X.outer X.H₀ X.s₀ E (.ref e) s2) EE s:=by
 obtain⟨oe,vs,a0,T,oT,ts,h1,h2,h3,h4,h5,h6,h7,h8,h9,h10,h11,h12⟩:=id xf;have fr:s.heap.FunFrames (gJ s.heap (tq X.stack++[e,T])) (X.env::X.outer):=by
  have q:=iW (as:=tq X.stack++[e,T]) J.stack λenv he a ha=>cp _ (fV.mpr ⟨env,he,ha⟩);rw[hst.1] at q ⊢;exact q
 refine wpAny_leaves_onW (base:=gJ s.heap (tq X.stack++[e,T])) (a0:=a0) (by rw[J.ok.frames,hst.1]) hst.2
  ⟨λb o q=>lP _ q,fS _ (bJ _ (by simp)),fr,oe,vs,T,oT,ts,h1,h2,h3,h4,fS _ (bJ _ (by simp)),h5,h6,h7,h8⟩ λh2' hfl hup=>?_
 obtain⟨f1,f2,f3,f4⟩:=hfl;have hF:∀b o,s.heap.get? b=U o->b∈tq X.stack->∃sl,h2'.get? b=U { o with slots:=sl }:=λb o q hb=>by
  obtain⟨o',q',nf⟩:=J.stackFields hb;rw[q] at q';cases q';exact hup b o q nf
 obtain⟨r1,r2,r3⟩:=J.flown (cs:=[e,T]) hex (λb z=>by
   have z':b=e\/b=T:=by simpa using z
   rcases z' with rfl|rfl
   ·exact⟨h11,h9⟩
   ·exact⟨h12,h10⟩) (λb o q n n2=>i8 _ q λz=>(bw.mp z).elim n n2) hF h11 h9 f1 f4
 exact⟨e,cls,H,Z,J.os,J.bare,r1,r2,r3,hE⟩
end
def zeg(X:Cx)(E:XK):Prop:=∀(aa:List (D×Obj)) (σ:St) (H:Hp) (s:ah) (h':av) (e:D) (cls:ae) (vs:List ae),aO X aa σ H s->Heap.MadeExcOf s.heap h' e cls vs->E cls ak H->X.xe (.ref e) { s with heap:=h' }
section
variable {P:au}{w:aw}{K:bx}{mg:Str->Option ae}{base:av}{N:List Str}{qual:Str}{scope:aB}{f:D}{cd:ae}{A:ax}{outer:List Env}{s₀:ah}{H₀:Hp}{E:XK}
theorem vT:xU (tQ P w) (qD (tQ P w) P w K mg base N qual scope f cd A outer s₀ H₀ E) E:=by
 intro aa σ H s ev s' I hcx;obtain⟨e,cls,H',rfl,os,bare,un,hok,xf,hE⟩:=hcx;have J:=I.call' (ch:=[]) os un hok bare (λb z=>nomatch z);exact zef (X:=qD (tQ P w) P w K mg base N qual scope f cd A outer s₀ H₀ E) ⟨Z,Z⟩ Z J (xf.older (I.there0 Z)) hE
theorem zcy:zeg (qD (tQ P w) P w K mg base N qual scope f cd A outer s₀ H₀ E) E:=by
 intro aa σ H s h' e cls vs I hx hE;exact zdl (X:=qD (tQ P w) P w K mg base N qual scope f cd A outer s₀ H₀ E) ⟨Z,Z⟩ Z I hx hE
theorem ziZ:PassesOwn (Bg P w) (qD (tQ P w) P w K mg base N qual scope f cd A outer s₀ H₀ E).A (qD (tQ P w) P w K mg base N qual scope f cd A outer s₀ H₀ E).env (qD (tQ P w) P w K mg base N qual scope f cd A outer s₀ H₀ E).xe:=PassesOwn.leaving
end
abbrev zaj:List ae:=[.type "ValueError",.type "Exception",.type "BaseException",.type "object"]
abbrev XM:String:="ValueError.__new__"
def zbH(C:D)(ta:TA)(E:XK):TS:=λ_ σ H=>ta σ H λvs H1=>vs.length<=Bb/\E (.ref C) ak H1
theorem zf5{K:bx}{h:av}{C:D}{bmB:List ae}(X:K.In h)(q:pT K C bmB newId=af) :
  ∃bm N nm qn bs hdct sn sub ab col dd k0 k1 k2 k3 k5 mN,h.get? C=U (excClassObj nm qn C N bs bm hdct sn sub ab col dd k0 k1 k2 k3 k5 newId)/\h.Ns N mN/\mN "__init__"=ak/\OwnTail h bmB bm:=by
 unfold pT at q;split at q
 case h_2=>cases q
 rename_i dd cd sl ho;split at q
 case h_2=>cases q
 rename_i C' bm k0 k1 k2 k3 n k5 hm hs;rw[b8,b8,b8,b8,b8] at q;obtain⟨⟨⟨⟨⟨q1,q2⟩,q3⟩,q4⟩,q5⟩,q6⟩:=q;obtain rfl:C'=C:=by simpa using q1
 obtain rfl:n=newId:=by simpa using q2
 obtain⟨nm,bs,mro,ns,qn,hd,sn,sub,ab,col,del⟩:=cd;have hdel:del=ao:=by simpa using q3
 have hm':mro=.ref C'::bm:=hm;subst hdel hm';have hsl:sl=#[k0,k1,k2,k3,U (.builtin n),k5]:=by
  apply Array.ext';exact hs
 subst hsl;exact⟨bm,ns,nm,qn,bs,hd,sn,sub,ab,col,dd,k0,k1,k2,k3,k5,_,X _ _ ho,.of_isNs (W.isNs_of_in X q5),W.nsMap_none_of_in X q5 (by simpa using q6),W.tail_of_in X q4⟩
section
variable {X:Cx}{x:Str}{C:D}{np sK pos:Pos}{e₀:aA}{rest:List aA}{ta:TA}{E:XK}
theorem zak(hc:X.calm=af)(q:pT X.K C zaj XM=af)(hr:zeg X E)(hg:Gl X x)(hm:X.mg x=U (.ref C))(ha:PA X (e₀::rest) ta)
  (he:Be (e₀::rest) X.env=(ao,eval e₀ X.env)::Be rest X.env:=by rfl) (hp:(backTo sK (Be rest X.env)).any (·.1)=ao:=by rfl) (hd:(x==("__debug__":Str))=ao:=by lia) :
  PS X (.Raise (U (.Call (.Name x np) (e₀::rest) [] sK)) ak pos) (zbH C ta E):=by
 intro aa s σ H Bp I h;obtain⟨tl,N,nm,qn,bs,hdct,sn,sub,ab,col,dd,k0,k1,k2,k3,k5,mN,hC,hN,hni,T⟩:=zf5 I.ok.mod.kin q;refine wpAny_Raise_call_subT (C:=C) (nm:=nm) (q:=qn) (N:=N) (bs:=bs) (bm:=tl) (hdct:=hdct) (sn:=sn) (sub:=sub) (ab:=ab) (col:=col) (dd:=dd) (k0:=k0) (k1:=k1) (k2:=k2) (k3:=k3) (k5:=k5) (newId:=XM)
  PySem.F.excBase_ValueError (mN:=mN) (T.hasType PySem.F.excBase_ValueError.hasBase) (I.ok.hd hc) (by rw[he];exact hp) hni (wW I hg hm ⟨Z,?_⟩ hd)
 have hA:=ha sK aa s σ H _ I h;rw[he] at hA ⊢;refine dR (hZ hA ?_);rintro us s2 ⟨vs,H2,I2,r2,z2,q2⟩;exact⟨Z,by rw[<-r2.length];exact z2,I2.bk _ _ hC,hN.keeps I2.bk,T.keeps I2.bk,λh' e hm=>hr aa σ H2 s2 h' e _ _ I2 hm q2⟩
end
def Asc(x:Str):Prop:=∀c∈x.cps.toList,c<128
section
variable {X:Cx}{e:aA}{te:TE}{a:Str}{j:Nat}{p1 p2 p3:Pos}
def zeh(te:TE):TE:=λσ H Q=>te σ H λv H1=>∃x:Str,v=.str x/\x.length<=100000/\∀y:Str,Q (.str y) H1
theorem zcz(he:PE X e te)(hl:a.length<=1000:=by lia):PE X (.JoinedStr [.FormattedValue e (-1) ak p2,.Constant (.str a) j p1] p3) (zeh te):=by
 intro aa s σ H Q I h;refine wpAny_JoinedStr ?_;show Bf _ _ (eval (.FormattedValue e (-1) ak p2) X.env) _ _ s;refine wpAny_FormattedValue_plain (hZ (he aa _ σ H _ I h) ?_);rintro v s1 ⟨x,H1,I1,r1,z,ex,hz,q⟩;subst ex;obtain⟨t,rfl⟩:=r1;have hs:Bb=16777216:=bN;have e0:(fO++z).length=z.length:=by rw[mD];simp[fO,iC]
 have fin:∀(t':Tok) (tk:Nat),∃y u,gX z t'=gX y u/\(fO++y).length<=Bb/\Joins (Bg X.prog X.w) X.A X.xe (evalEach [.Constant (.str a) j p1] X.env) (fO++y) (λout s₁=>out.length<=Bb/\EP X aa σ Q (.str out s₁.toks) { s₁ with toks:=s₁.toks+1 }) { s1 with toks:=tk }:=λt' tk=>by
  refine⟨_,_,Z,by rw[e0];lia,?_⟩;show Bf _ _ (eval (.Constant (.str a) j p1) X.env) _ _ _;have hz2:(fO++z++a).length<=Bb:=by rw[mD,e0];lia
  refine pq ⟨a,_,Z,hz2,hz2,.str _,H1,I1.tok _,⟨_,Z⟩,q _⟩
 exact wpAny_formatField_str (fin _ _) (fin _ _) ()
end
structure ExC(K:bx)(C:D):Prop where
 ga:bZ K (.ref C) "__getattribute__"=U (U (.builtin "BaseException.__getattribute__"))
 gx:bZ K (.ref C) "__getattr__"=U ak
 cl:bZ K (.ref C) "__class__"=U (U (.builtin "object.__class__"))
 ob:sk K C (.type "object")=U af
 be:sk K C (.type "BaseException")=U af
 ge:rW K (.builtin "object.__class__") "__get__"=U (U (.builtin "getset_descriptor.__get__"))
 tk:W.takesIn K (.builtin "object.__class__")=U af
section
variable {X:Cx}{aa:List (D×Obj)}{σ:St}{H:Hp}{s:ah}
theorem aO.land{cs:List D}(hex:X.ex=[])(I:aO X aa σ H s)(hcs:∀b∈cs,H b=ak/\X.s₀.heap.get? b=ak)(hcp:∀b∈cs,∀p∈X.pn++aa,p.1≠b)
  (hB:∀b o,s.heap.get? b=U o->b ∉ tq X.stack->b ∉ cs->h2.get? b=U o) (sm:s.heap.UpToSlots h2):aO X aa σ H { s with heap:=h2 }:=by
 have hF:∀b o,s.heap.get? b=U o->b∈tq X.stack->∃sl,h2.get? b=U { o with slots:=sl }:=λb o q hb=>by
  obtain⟨o',q',nf⟩:=I.stackFields hb;rw[q] at q';cases q';exact sm b o q nf
 obtain⟨r1,r2⟩:=I.behind hex hcs hB hF;have ce:∀c v,s.heap.IsCell c v->h2.IsCell c v:=λc v ⟨o,ho,hd⟩=>by
  obtain⟨sl,q⟩:=sm c o ho λvs z=>by rw[hd] at z;cases z
  exact⟨_,q,hd⟩
 refine⟨I.ok,I.os,I.bare,by rw[hex];exact r1,?_,λx c e=>?_,I.free,I.freeC,λp hp=>?_,r2,I.len⟩
 ·obtain⟨m,hn,hl⟩:=I.loc;refine⟨m,sm.ns hn,λi x v e1 e2 e3=>?_⟩;obtain⟨u,r,l⟩:=hl i x v e1 e2 e3;refine⟨u,r,?_⟩;rcases l with l|⟨k,c,e,z⟩
  ·exact .inl l
  ·exact .inr ⟨k,c,e,ce c _ z⟩
 ·obtain⟨v,z⟩:=I.cell x c e;exact⟨v,ce c v z⟩
 ·obtain⟨e,n,ne,nf,d⟩:=I.pin p hp;exact⟨hB _ _ e (λz=>(bu.mp (I.stkSub _ z)).elim ne nf) λz=>hcp _ z p hp Z,n,ne,nf,d⟩
end
abbrev Cx.sub(X:Cx)(e:D):Cx:={ X with A:=X.A.mark (U (.ref e)),calm:=ao,xe:=λ_ _=>False }
section
variable {X:Cx}{aa:List (D×Obj)}{σ:St}{H:Hp}{s:ah}{e:D}
theorem aO.toSub(I:aO X aa σ H s):aO (X.sub e) aa σ H s :=
 ⟨⟨I.ok.mod,I.ok.kind,I.ok.glob,I.ok.blt,I.ok.above,I.ok.inj,I.ok.has,I.ok.cab,(),I.ok.frames,I.ok.stk,I.ok.exf,I.ok.bs,I.ok.bsz,I.ok.noex,I.ok.exfs,I.ok.funs,I.ok.frf⟩,I.os,I.bare,I.base,I.loc,I.cell,I.free,I.freeC,I.pin,I.hok,I.len⟩
theorem aO.ofSub{J:aO X aa σ H s}{σ':St}{H':Hp}(I:aO (X.sub e) aa σ' H' s'):aO X aa σ' H' s':=
 ⟨J.ok,I.os,I.bare,I.base,I.loc,I.cell,I.free,I.freeC,I.pin,I.hok,I.len⟩
end
abbrev EXK:=ae->St->Hp->Prop
def PX(X:Cx)(aa:List (D×Obj))(EX:EXK):ae->ah->Prop:=λev s'=>∃e cls σ s1 H1 H',ev=.ref e/\aO X aa σ H1 s1/\aO X aa σ H' s'/\XF s1.heap s'.heap H' e cls/\EX cls σ H'
def PEX(X:Cx)(ex:aA)(t:EXK->TE):Prop :=
 ∀(aa:List (D×Obj)) (s:ah) (σ:St) (H:Hp) (Q:VK) (EX:EXK),aO X aa σ H s->t EX σ H Q->Bf (Bg X.prog X.w) X.A (eval ex X.env) (EP X aa σ Q) (PX X aa EX) s
def PSX(X:Cx)(st:ay)(t:EXK->TS):Prop :=
 ∀(aa:List (D×Obj)) (s:ah) (σ:St) (H:Hp) (Bp:Ja) (EX:EXK),aO X aa σ H s->t EX Bp σ H->Bf (Bg X.prog X.w) X.A (exec st X.env) (SP X aa Bp) (PX X aa EX) s
section
variable {X:Cx}{ex:aA}{tx:EXK->TE}{pos p1:Pos}{i:Nat}{y:Str}
def zg5(tx:EXK->TE)(i:Nat)(EX:EXK):TS:=λBp σ H=>tx EX σ H λv H1=>Bp.nx (σ.set i (U v)) H1
theorem zf6(hN:X.N.Nodup)(hi:X.N[i]?=U y)(hx:Loc X.env.scope y)(he:PEX X ex tx)(hs:swapsWith ex (U (.Name y pos')) pos.line X.env=pure ao:=by rfl)(hf:X.fn y=af\/X.env.scope.names.lookup y=U .local:=by first|exact .inl rfl|exact .inr rfl|assumption) :
  PSX X (.Assign [.Name y pos'] ex pos) (zg5 tx i):=by
 intro aa s σ H Bp EX I h;refine wpAny_Assign_Name (hZ (he aa s σ H _ EX I h) ?_) hs;rintro v s1 ⟨x,H1,I1,r1,q1⟩;exact YO I1 hN hi hx r1 (λs2 I2=>⟨_,H1,I2,q1⟩) hf
end
structure ExK(K:bx)(C:D):Prop extends ExC K C where
 has:(W.clsIn K C).isSome=af
theorem zp :xU (tQ P w) X E0:=λ_ _ _ _ _ _ _ h=>by
 obtain⟨_,_,_,_,_,_,_,_,_,z⟩:=h;exact z.elim
section
variable {P:au}{w:aw}{K:bx}{mg:Str->Option ae}{base:av}
theorem Fun.ok1{x qual:Str}{st:ay}{f:D}{fd:Bc}{N ps:List Str}{k:Nat}{sp:Sp}(F:Fun K x qual st f fd)(S:aM N ps (zj st))(len:∀vs H Q E,sp vs H Q E->vs.length=ps.length)
  (hbody:∀(cdv:ae) (A:ax) (outer:List Env) (s:ah) (H:Hp) (vs:List V) (Q:VK) (E:XK),sG k (A.deeper (envOfC qual (zj st) s.heap.objs.size f cdv))->sp vs H Q E ->
   ∃t,PSs (qD (tQ P w) P w K mg base N qual (zj st) f cdv A outer s H E) (yt st) t/\t { nx:=λ_ H'=>Q .non H',rt:=Q } (start N vs) H):mt P w K mg base (tQ P w) (k+1) f fd ps sp:=by
 obtain⟨oc,od,kV,doc,pm,an,cdv,ct,osl,rfl,lk,hcd⟩:=F.ex;exact zg2 lk hcd S len λA outer s H vs Q E hr hsp=>hbody cdv A outer s H vs Q E hr hsp
theorem Fun.ok0{x qual:Str}{st:ay}{f:D}{fd:Bc}{N ps:List Str}{k:Nat}{sp:Sp}(F:Fun K x qual st f fd)(S:aM N ps (zj st))(len:∀vs H Q E,sp vs H Q E->vs.length=ps.length)
  (hbody:∀(cdv:ae) (A:ax) (outer:List Env) (s:ah) (H:Hp) (vs:List V) (Q:VK) (E:XK),sG k (A.deeper (envOfC qual (zj st) s.heap.objs.size f cdv))->sp vs H Q E ->
   ∃t,PSs (qD (tQ P w) P w K mg base N qual (zj st) f cdv A outer s H E).nox (yt st) t/\t { nx:=λ_ H'=>Q .non H',rt:=Q } (start N vs) H):mt P w K mg base (tQ P w) (k+1) f fd ps sp :=
 F.ok1 S len λcdv A outer s H vs Q E hr h=>let ⟨t,a,b⟩:=hbody cdv A outer s H vs Q E hr h;⟨t,a.nox,b⟩
end
theorem ziC{l:pD}{n k:Nat}{q:au}{loose:List Str}{XP:(Str->Option ae)->av->Prop}{YP:aw->av->Prop}{d:DefRec}{K:Params->bx}{sp:bx->Sp}{x:Str}
  (hn:l.most=U n) (hn2:n<=Bb) (hdf:d.params.defaults=[]) (hr:sG k callerA)
  (hY:∀(w:aw) (h:av),YP w h->(K w.params).In h)
  (F:∀(w:aw) (mg:Str->Option ae) (fa:D) (h:av),(K w.params).In h->h.Ns Bd mg->mg d.name=U (.ref fa) ->
   ∃fd:Bc,(∀(s:ah) (u:ae),BindsTo s fd ⟨[u],[]⟩ [(x,u)]) /\
    ∀base:av,(K w.params).In base->base.Ns Bd mg->mt l.prog w (K w.params) mg base (tQ l.prog w) k fa fd [x] (sp (K w.params)))
  (hsp:∀(K:bx) (H:Hp) (a:D) (ns:List Int),ns.length<=n->zbE H->aT K H a (ns.map V.int)->sp K [.ref a] H (λv _=>v=.bl af) λ_ _ _=>False) :
  sq q loose XP YP l.row.toRowW d [] (λf vs=>mq f vs) :=
 zcs (K:=K) (CX:=λw=>tQ l.prog w) (sp:=λw=>sp (K w.params)) hn hn2 hdf hr hY F (λw H a ns h1 h2 h3=>hsp (K w.params) H a ns h1 h2 h3) λ_ _ _ _ _ z=>by
  obtain⟨_,_,_,_,_,_,_,_,_,y⟩:=z;exact y
end L2
namespace L2
open PySem
section
variable {σ:St}{H:Hp}{nx:St->Hp->Prop}{Bn:V->St->Hp->(St->Hp->Prop)->Prop}
theorem Yl{lo:Int}(Pv:Nat->St->Hp->Prop)(h0:Pv 0 σ H)(hs:∀i σ H,i<n->Pv i σ H->Bn (.int (lo+i)) σ H (Pv (i+1)))(hd:∀σ H,Pv n σ H->nx σ H) :
  ∃W:Nat->Nat->St->Hp->Prop,(∃m,W 0 m σ H)/\∀i m σ H,W i m σ H->((Itr lo n).stop i H/\nx σ H)\/((Itr lo n).go i H/\∃N:St->Hp->Prop,(∀σ' H',N σ' H'->∃m',m'<m/\W (i+1) m' σ' H')/\∀x H',(Itr lo n).yld i H x H'->Bn x σ H' N):=by
 refine⟨λi m σ H=>m=n-i/\i<=n/\Pv i σ H,⟨n,by simp,bS _,h0⟩,?_⟩;rintro i m σ H ⟨rfl,hi,p⟩;by_cases hlt:i<n
 ·refine .inr ⟨hlt,Pv (i+1),λσ' H' p'=>⟨n-(i+1),(),Z,hlt,p'⟩,?_⟩;rintro x H' ⟨rfl,rfl⟩;exact hs i σ _ hlt p
 ·obtain rfl:i=n:=by lia
  exact .inl ⟨bn _,hd σ H p⟩
theorem xo(xs:List V)(Pv:Nat->St->Hp->Prop)(h0:Pv 0 σ H)(hl:∀i σ H,Pv i σ H->aT K H a xs)(hs:∀i x σ H,xs[i]?=U x->Pv i σ H->Bn x σ H (Pv (i+1)))(hd:∀σ H,Pv xs.length σ H->nx σ H) :
  ∃W:Nat->Nat->St->Hp->Prop,(∃m,W 0 m σ H)/\∀i m σ H,W i m σ H->((Itl K a).stop i H/\nx σ H)\/((Itl K a).go i H/\∃N:St->Hp->Prop,(∀σ' H',N σ' H'->∃m',m'<m/\W (i+1) m' σ' H')/\∀x H',(Itl K a).yld i H x H'->Bn x σ H' N):=by
 refine⟨λi m σ H=>m=xs.length-i/\i<=xs.length/\Pv i σ H,⟨xs.length,by simp,bS _,h0⟩,?_⟩;rintro i m σ H ⟨rfl,hi,p⟩;have q:=hl i σ H p;by_cases hlt:i<xs.length
 ·refine .inr ⟨⟨xs,xs[i],q,by simp[hlt]⟩,Pv (i+1),λσ' H' p'=>⟨xs.length-(i+1),(),Z,hlt,p'⟩,?_⟩;rintro x H' ⟨rfl,y⟩;exact hs i x σ _ (y xs q) p
 ·obtain rfl:i=xs.length:=by lia
  exact .inl ⟨⟨xs,q,bn _⟩,hd σ H p⟩
theorem zei(xs:List V)(Pv:Nat->St->Hp->Prop)(h0:Pv 0 σ H)(hl:∀i σ H,Pv i σ H->sN K H a xs)(hs:∀i x σ H,xs[i]?=U x->Pv i σ H->Bn x σ H (Pv (i+1)))(hd:∀σ H,Pv xs.length σ H->nx σ H) :
  ∃W:Nat->Nat->St->Hp->Prop,(∃m,W 0 m σ H)/\∀i m σ H,W i m σ H->((Itt K a).stop i H/\nx σ H)\/((Itt K a).go i H/\∃N:St->Hp->Prop,(∀σ' H',N σ' H'->∃m',m'<m/\W (i+1) m' σ' H')/\∀x H',(Itt K a).yld i H x H'->Bn x σ H' N):=by
 refine⟨λi m σ H=>m=xs.length-i/\i<=xs.length/\Pv i σ H,⟨xs.length,by simp,bS _,h0⟩,?_⟩;rintro i m σ H ⟨rfl,hi,p⟩;have q:=hl i σ H p;by_cases hlt:i<xs.length
 ·refine .inr ⟨⟨xs,xs[i],q,by simp[hlt]⟩,Pv (i+1),λσ' H' p'=>⟨xs.length-(i+1),(),Z,hlt,p'⟩,?_⟩;rintro x H' ⟨rfl,y⟩;exact hs i x σ _ (y xs q) p
 ·obtain rfl:i=xs.length:=by lia
  exact .inl ⟨⟨xs,q,bn _⟩,hd σ H p⟩
end
theorem zej{J:It}{Bp:D}{τ₀:St}{H1:Hp}{Q:Hp->Prop}{Bn:V->St->Hp->(V->St->Hp->Prop)->(St->Hp->Prop)->Prop}(n:Nat)(hn:n<=1000000)(C:St->Prop)(R:Nat->V->Prop)(hC:C τ₀)
  (go:∀i H,aL H1 H->i<n->J.go i H) (stop:∀H,aL H1 H->J.stop n H) (hD:H1 Bp=ak)
  (hs:∀i x τ H H',C τ->aL H1 H->i<n->J.yld i H x H'->Bn x τ H' (λv τ' H4=>C τ'/\R i v/\aL H H4) (λ_ _=>False))
  (hd:∀ys H,ys.length=n->(∀i v,ys[i]?=U v->R i v)->aL H1 H->H Bp=U (.lst ys)->Q H) :
  ∃W:Nat->Nat->List V->St->Hp->Prop,(∃m,W 0 m [] τ₀ (upd H1 Bp (.lst [])))/\∀i m ys τ H,W i m ys τ H->H Bp=U (.lst ys) /\
  ((J.stop i H/\Q H)\/(J.go i H/\ys.length<Bb/\∃N:V->St->Hp->Prop,
   (∀v τ' H',N v τ' H'->H' Bp=U (.lst ys)/\∃m',m'<m/\W (i+1) m' (ys++[v]) τ' (upd H' Bp (.lst (ys++[v]))))/\∃Nf:St->Hp->Prop,(∀τ' H',Nf τ' H'->∃m',m'<m/\W (i+1) m' ys τ' H') /\
   ∀x H',J.yld i H x H'->Bn x τ H' N Nf)):=by
 have ext:∀ {H:Hp} {o:HO},aL H1 H->aL H1 (upd H Bp o):=λ{H o} h b u e=>by
  rw[zl (zC e hD)];exact h b u e
 refine⟨λi m ys τ H=>m=n-i/\i<=n/\ys.length=i/\(∀j v,ys[j]?=U v->R j v)/\aL H1 H/\H Bp=U (.lst ys)/\C τ,⟨n,by simp,bS _,Z,by simp,ext (aL.refl _),zi,hC⟩,?_⟩;rintro i m ys τ H ⟨rfl,hi,hl,hR,hS,hy,hc⟩;refine⟨hy,?_⟩;by_cases hlt:i<n
 ·refine .inr ⟨go i H hS hlt,b6 (by lia:ys.length<=1000000) (),(λv τ' H4=>C τ'/\R i v/\aL H H4),?_,(λ_ _=>False),λ_ _ z=>z.elim,λx H' y=>hs i x τ H H' hc hS hlt y⟩;rintro v τ' H4 ⟨c4,r4,s4⟩;refine⟨s4 _ _ hy,n-(i+1),(),Z,hlt,by simp[hl],λj u hj=>?_,ext (hS.trans s4),zi,c4⟩;rcases Nat.lt_trichotomy j ys.length with h|h|h
  ·exact hR j u (by rwa [cy h] at hj)
  ·subst h;simp at hj;subst hj;rw[hl];exact r4
  ·rw[cz (by simp;lia)] at hj;cases hj
 ·obtain rfl:i=n:=by lia
  exact .inl ⟨stop H hS,hd ys H hl hR hS hy⟩
theorem KY(n d:Nat)(v:Int):max (0:Int) (min (if v<0 then v+n else v) n)=((HT.sIx n d (U v):Nat):Int):=by
 show _=(((if v<0 then (v+(n:Int)).toNat else min v.toNat n):Nat):Int);by_cases hv:v<0
 ·simp only[aq hv];lia
 ·simp only[am hv];lia
theorem zf7(a b:Nat):sliceRange (a:Int) (b:Int) 1=(eI (b-a)).map λk=>a+k:=by
 simp only[sliceRange,show ((1:Int) > 0)=True from by simp,if_true];by_cases hlt:(a:Int)<b
 ·have e3:(((b:Int)-a+1-1)/1).toNat=b-a:=by rw[Int.ediv_one];lia
  simp only[hlt,if_true,e3];refine dC λk _=>?_;lia
 ·have:b-a=0:=by lia
  simp[hlt,this]
theorem zek(lo hi:Option Int)(n:Nat):lE lo hi 1 n=(eI (HT.sIx n n hi-HT.sIx n 0 lo)).map λk=>HT.sIx n 0 lo+k:=by
 rw[<-zf7];unfold lE;simp only[show ((1:Int) > 0)=True from by simp,if_true];cases lo with
 |none =>
  cases hi with
  |none=>rfl
  |some v=>simp only[KY n n v];rfl
 |some u =>
  cases hi with
  |none=>simp only[KY n 0 u];rfl
  |some v=>simp only[KY n n v,KY n 0 u]
theorem J7(x:Str)(lo hi:Option Int):(gM x lo hi).cps.toList=(x.cps.toList.drop (HT.sIx x.length 0 lo)).take (HT.sIx x.length x.length hi-HT.sIx x.length 0 lo):=by
 have hb:=HT.sIx_le x.length x.length (bn _) hi;have hn:x.cps.toList.length=x.length:=by simp[iC]
 unfold gM;rw[zek];split
 ·rename_i h;have h':HT.sIx x.length x.length hi-HT.sIx x.length 0 lo=x.length:=by simpa using h
  have e0:HT.sIx x.length 0 lo=0\/x.length=0:=by lia
  rcases e0 with e0|e0
  ·rw[e0,gN,bU];lia
  ·rw[fQ (by lia:x.cps.toList.length=0)];simp
 ·by_cases hab:HT.sIx x.length 0 lo<=HT.sIx x.length x.length hi
  ·have h:=StrLaws.picks x.cps.toList (HT.sIx x.length x.length hi-HT.sIx x.length 0 lo) (HT.sIx x.length 0 lo) ();simpa using h
  ·have:HT.sIx x.length x.length hi-HT.sIx x.length 0 lo=0:=by lia
   rw[this];simp
theorem Vi(x:Str)(k:Nat):(gM x (U (k:Int)) ak).cps.toList=x.cps.toList.drop k:=by
 rw[J7,HT.sIx_none,HT.sIx_nat];have hn:x.cps.toList.length=x.length:=by simp[iC]
 by_cases h:k<=x.length
 ·rw[cw h,bU (by rw[cL];lia)]
 ·rw[nH (by lia:x.cps.toList.length<=k),cZ (),nH ()];simp
theorem zal(x:Str)(k:Nat):(gM x ak (U (k:Int))).cps.toList=x.cps.toList.take k:=by
 rw[J7,HT.sIx_none,HT.sIx_nat,gN,rj];have hn:x.cps.toList.length=x.length:=by simp[iC]
 by_cases h:k<=x.length
 ·rw[cw h]
 ·rw[cZ (),bU (),bU ()]
theorem zf8{x y:Str}(h:x.cps.toList=y.cps.toList):x=y:=by
 obtain⟨a⟩:=x;obtain⟨b⟩:=y;have:a=b:=nu.mp h;rw[this]
theorem zf9(x y:Str):(x++y).cps.toList=x.cps.toList++y.cps.toList:=by
 show (x.cps++y.cps).toList=_;simp
open PySem.NumText in
section
def zi0(w:Int):Str:=bg (toString w)
def dg(m:Nat):List Nat:=(Nat.toDigits 10 m).map Char.toNat
theorem YZ(x:Str):x.length=x.cps.toList.length:=by simp[iC]
def inF(c:Nat):Bool:=!(gZ "0123456789" ⟨#[c]⟩ 0 (iC "0123456789") 1).isEmpty
def ziD(x:Str):Bool:=!decide (x="")&&x.cps.toList.all inF
def sP(i:Int):Bool:=decide (-1000000000000000000000000000000<=i/\i<=1000000000000000000000000000000)
def zg6(x:Str):Str:=if (x.cps.toList.take 1==[45])=af then gM x (U 1) ak else x
def zel(x:Str):Int:=(intText? x).getD 0
def ziE(x:Str):Bool:=!(decide (31<(zg6 x).length) || !ziD (zg6 x))&&(sP (zel x)&&decide (zi0 (zel x)=x))
end
end L2
namespace L2
open PySem PySem.Spec PyProof.Rows
def zcA(x y:Str):Int:=match gZ x y 0 x.length 1 with|i::_=>(i:Int)|[]=>-1
abbrev J8:RM:=λx xs H Q=>∃a b,x=.str a/\xs=[.str b]/\Q (.int (zcA a b)) H
def J9(sep:Str):List Str->Str
 |[p]=>p
 |l=>mE sep l
def zem(sep:Str)(ls:List Str):Nat:=ls.foldl (λn p=>n+p.length+sep.length) 0
abbrev XN(K:bx):RM:=λx xs H Q=>∃sep a ls,x=.str sep/\xs=[.ref a]/\aT K H a (ls.map V.str)/\zem sep ls<=Bb/\Q (.str (J9 sep ls)) H
theorem KZ(sep:Str):∀(ls:List Str) (k:Nat),ls.foldl (λn p=>n+p.length+sep.length) k=k+(ls.map (·.length)).sum+ls.length*sep.length
 |[],k=>by simp
 |p::r,k=>by
  rw[eU,KZ sep r,bt,cE,bW,Nat.add_mul,Nat.one_mul];lia
theorem zdm(sep:Str)(ls:List Str):(J9 sep ls).length<=zem sep ls:=by
 unfold zem;rw[KZ];have g:(mE sep ls).length<=0+(ls.map (·.length)).sum+ls.length*sep.length:=by
  rw[size_glued];have:(ls.length-1)*sep.length<=ls.length*sep.length:=Nat.mul_le_mul_right _ ();lia
 unfold J9;split
 ·simp only[bt,nT,cE,List.sum_nil,bW,nR];lia
 ·exact g
theorem zen(ls:List Str):(J9 "" ls).cps.toList=(ls.map λp=>p.cps.toList).flatten:=by
 have g:∀(r:List Str) (a:Array Nat),(r.foldl (λacc p=>acc++(bg "").cps++p.cps) a).toList=a.toList++(r.map λp=>p.cps.toList).flatten:=by
  intro r;induction r with
  |nil=>intro a;simp
  |cons p r ih =>
   intro a;have e:(bg "").cps=#[]:=by lia
   rw[eU,ih,e];simp
 unfold J9;split
 ·simp
 ·unfold mE;cases ls with
  |nil=>lia
  |cons p r=>exact g r p.cps
theorem Ka:∀ {ls:List Str} {us:List ae},aR (ls.map V.str) us->∃l:List (Str×Tok),us=strValues l/\l.map (·.1)=ls
 |[],_,.nil=>⟨[],Z,Z⟩
 |x::r,_,.cons h t=>by
  obtain⟨l,rfl,e⟩:=Ka t;obtain⟨k,rfl⟩:=h;exact⟨(x,k)::l,Z,by rw[bt,e]⟩
section
variable {X:Cx}
theorem zga:MtR X "str.find" J8:=by
 intro aa s σ H x xs v us Q I rx rs h;obtain⟨a,b,rfl,rfl,q⟩:=h;obtain⟨t,rfl⟩:=rx;obtain⟨u,rfl,t',rfl⟩:=qH rs;exact call_gives F.slot_str_find (ot s a t) F.entry_str_find (F.args_str_find_2 _ _) (gives_str_find a b t t') ⟨.int (zcA a b),H,I.tok _,⟨_,Z⟩,q⟩
theorem zgb:MtR X "str.join" (XN X.K):=by
 intro aa s σ H x xs v us Q I rx rs h;obtain⟨sep,a,ls,rfl,rfl,hq,hl,q⟩:=h;obtain⟨t,rfl⟩:=rx;obtain⟨u,rfl,r1⟩:=qH rs;cases r1;obtain⟨its,rv,p,hz⟩:=I.list hq;obtain⟨l,rfl,e⟩:=Ka rv;have tl:oS ((l.map (·.1)).toArray.foldl (· + ·.length+sep.length) 0)=ao:=by
  rw[e,List.foldl_toArray];unfold oS;exact Bk (by unfold zem at hl;lia)
 have jl:=zdm sep ls;refine iD F.slot_str_join (ot s sep t) F.entry_str_join (F.args_str_join_2 _ _) (meets_str_join_list sep t a l tl) ⟨p.isList,?_⟩;subst e
 match l,q,jl,hl with
 |[],q,jl,hl=>exact⟨bO jl hl,.str _,H,I.tok _,⟨_,Z⟩,q⟩
 |[p],q,jl,hl=>exact⟨.str p.1,H,I,⟨_,Z⟩,q⟩
 |p::p'::r,q,jl,hl=>exact⟨bO jl hl,.str _,H,I.tok _,⟨_,Z⟩,q⟩
end
theorem vI(x y:Str):(x++y).length=x.length+y.length:=mD x y
def zg7(_ j:Int):Prop:=j≠0/\-big<j/\j<big
section
variable {X:Cx}
theorem zeo:tN X (binaryOp .FloorDiv) (rI zg7 λi j=>.int (i.fdiv j)):=opI λi j _ _ _ _ _ hc q =>
 floordiv_int hc.1 q (.inl (mC (rg (Vh (KW hc.2)) ())))
end
theorem zgc(r:sG k A):A.units+64<cLine:=by have:=r.un;lia
def qE:V->PyData
 |.non=>.none
 |.bl b=>.bool b
 |.int i=>.int i
 |.str x=>.str x
 |_=>.none
def yO:V->Bool
 |.non=>af
 |.bl _=>af
 |.int _=>af
 |.str x=>cN x
 |_=>ao
theorem Asc.flat(h:Asc x):yO (.str x)=af:=by
 unfold yO cN;rw[Array.all_eq_true];intro i hi;have:=h x.cps[i] (by simp);exact Bj ()
def zhI:V->V->Bool
 |.bl _,.int _=>ao
 |.int _,.bl _=>ao
 |_,_=>af
def K0:List V->List V->Bool
 |x::xs,y::ys=>zhI x y&&K0 xs ys
 |_,_=>af
theorem vU:∀ {xs:List V} {us:List ae},xs.all yO=af->aR xs us->CarriedAll us (xs.map qE)
 |[],_,_,.nil=>.nil
 |x::r,_,h,.cons rx t=>by
  rw[gA,b8] at h;refine .cons ?_ (vU h.2 t);cases x with
  |non=>cases rx;exact .none
  |bl b=>cases rx;exact .bool b
  |int i=>obtain⟨t,rfl⟩:=rx;exact .int i t
  |str x=>obtain⟨t,rfl⟩:=rx;exact .str x t
  |byt b=>exact absurd h.1 (by simp[yO])
  |flt b=>exact absurd h.1 (by simp[yO])
  |ref a=>exact absurd h.1 (by simp[yO])
  |ty n=>exact absurd h.1 (by simp[yO])
theorem zep(hx:yO x=af)(hy:yO y=af):rY (qE x) (qE y)=decide (x=y):=by
 cases x <;> cases y <;> simp_all [yO,qE,rY] <;> (rename_i a b;by_cases e:a=b <;> simp[e])
theorem qN:∀ {xs ys:List V},xs.all yO=af->ys.all yO=af->lV (xs.map qE) (ys.map qE)=decide (xs=ys)
 |[],[],_,_=>by simp[lV]
 |[],_::_,_,_=>by simp[lV]
 |_::_,[],_,_=>by simp[lV]
 |x::r,y::t,hx,hy=>by
  rw[gA,b8] at hx hy;rw[bt,bt,lV,zep hx.1 hy.1,qN hx.2 hy.2];by_cases a:x=y <;> by_cases b:r=t <;> simp[a,b]
theorem zdn(hx:yO x=af)(hy:yO y=af)(h:zhI x y=af):oU (qE x) (qE y)=af:=by
 cases x <;> cases y <;> simp_all [yO,qE,oU,zhI]
theorem kI:∀ {xs ys:List V},xs.all yO=af->ys.all yO=af->K0 xs ys=af->iH (xs.map qE) (ys.map qE)=af
 |[],[],_,_,_=>by simp[iH]
 |[],_::_,_,_,_=>by simp[iH]
 |_::_,[],_,_,_=>by simp[iH]
 |x::r,y::t,hx,hy,h=>by
  rw[gA,b8] at hx hy;rw[K0,b8] at h;rw[bt,bt,iH,zdn hx.1 hy.1 h.1,kI hx.2 hy.2 h.2];rfl
theorem kJ{xs:List V}(h:xs.all yO=af):nV (.list (xs.map qE))=af/\nV (.tuple (xs.map qE))=af:=by
 have a:∀x,yO x=af->(qE x).canLay0=af/\(qE x).depth=0:=λx=>by cases x <;> simp[qE,oJ,nW,yO]
 have l:∀ys:List V,ys.all yO=af->pU (ys.map qE)=af/\ib (ys.map qE)=0:=by
  intro ys;induction ys with
  |nil=>exact λ_=>⟨Z,Z⟩
  |cons y r ih =>
   intro h;rw[gA,b8] at h;exact⟨by rw[bt,pU,(a y h.1).1,(ih h.2).1];rfl,by rw[bt,ib,(a y h.1).2,(ih h.2).2];rfl⟩
 exact⟨by simp[nV,oJ,nW,(l xs h).1,(l xs h).2],by simp[nV,oJ,nW,(l xs h).1,(l xs h).2]⟩
abbrev ziF(K:bx)(neg:Bool):R2:=λx y H Q=>∃a b xs ys,x=.ref a/\y=.ref b/\aT K H a xs/\aT K H b ys/\(xs.all yO=af/\ys.all yO=af/\K0 xs ys=af)/\Q (.bl (if neg then !decide (xs=ys) else decide (xs=ys))) H
section
variable {X:Cx}
theorem zhJ(hu:X.A.units+64<cLine):tN X (Bi .Eq) (ziF X.K ao):=by
 intro aa s σ H x y v u Q I rx ry h;obtain⟨a,b,xs,ys,rfl,rfl,ha,hb,⟨f1,f2,f3⟩,q⟩:=h;cases rx;cases ry;obtain⟨us,r1,p1,_⟩:=I.list ha;obtain⟨ws,r2,p2,_⟩:=I.list hb;refine eq_dataH_same (mY p1.isList (vU f1 r1)) (mY p2.isList (vU f2 r2)) (kJ f1).1 (kJ f2).1 hu (by rw[oU];exact kI f1 f2 f3) ?_;rw[rY,qN f1 f2];exact⟨.bl _,H,I,Z,q⟩
theorem zhK(hu:X.A.units+64<cLine):tN X (Bi .NotEq) (ziF X.K af):=by
 intro aa s σ H x y v u Q I rx ry h;obtain⟨a,b,xs,ys,rfl,rfl,ha,hb,⟨f1,f2,f3⟩,q⟩:=h;cases rx;cases ry;obtain⟨us,r1,p1,_⟩:=I.list ha;obtain⟨ws,r2,p2,_⟩:=I.list hb;refine ne_dataH_same (mY p1.isList (vU f1 r1)) (mY p2.isList (vU f2 r2)) (kJ f1).1 (kJ f2).1 hu (by rw[oU];exact kI f1 f2 f3) ?_;rw[rY,qN f1 f2];exact⟨.bl _,H,I,Z,q⟩
abbrev zbI(K:bx):R2:=λx y H Q=>∃a b xs,x=.ref a/\y=.ref b/\aT K H a xs/\aT K H b []/\Q (.bl (decide (xs=[]))) H
theorem zam(hu:X.A.units+64<cLine):tN X (Bi .Eq) (zbI X.K):=by
 intro aa s σ H x y v u Q I rx ry h;obtain⟨a,b,xs,rfl,rfl,ha,hb,q⟩:=h;by_cases e:xs=[]
 ·subst e;exact zhJ hu aa s σ H _ _ v u Q I rx ry ⟨a,b,[],[],Z,Z,ha,hb,⟨Z,Z,Z⟩,q⟩
 ·cases rx;cases ry;obtain⟨us,r1,p1,_⟩:=I.list ha;obtain⟨ws,r2,p2,_⟩:=I.list hb;cases r2;have e1:=r1.length;have e2:xs.length≠0:=λz=>e (fQ z);refine PySem.SeqAt.eq_list_lengthsAt p1.isList p2.isList (by simp;intro z;rw[z] at e1;exact e2 e1) () ?_;rw[Bk e] at q;exact⟨.bl ao,H,I,Z,q⟩
end
abbrev yY:RM:=zcq
abbrev Vj:RM:=ziz
def jw:List V:=[.str "plus",.str "minus",.str "times",.str "over",.str "rest",.str "under",.str "same"]
def isJ(v:V):Bool:=inV v jw
inductive Er where
 |nought|great|stuck
 deriving DecidableEq
def Vk(w:Str)(a b:Int):Int :=
 if w="plus" then a+b else if w="minus" then a-b else if w="times" then a*b else if w="under" then (if a<b then 1 else 0) else if w="same" then (if a=b then 1 else 0) else if w="over" then a.fdiv b else a.fmod b
def Vl(w:Str):Prop:=¬ w="plus"/\¬ w="minus"/\¬ w="times"/\¬ w="under"/\¬ w="same"
instance (w:Str):Decidable (Vl w):=by unfold Vl;infer_instance
def j7(w:Str)(a b:Int):Except Er Int:=if Vl w/\b=0 then .error .nought else if sP (Vk w a b)=af then .ok (Vk w a b) else .error .great
def zeq(aJ:List (aV×V)):V->Int
 |.int i=>i
 |.str x=>(match yf aJ (.inr x) with|some (.int i)=>i|_=>0)
 |_=>0
def wJ(aJ:List (aV×V))(st:List Int)(v:V):Except Er (List Int) :=
 if isJ v=af then (match v,st.reverse with|.str w,b::a::r=>(match j7 w a b with|.ok c=>.ok (r.reverse++[c])|.error e=>.error e)|_,_=>.error .stuck) else .ok (st++[zeq aJ v])
def wM(aJ:List (aV×V)):List V->List Int->Except Er (List Int)
 |[],st=>.ok st
 |v::r,st=>match wJ aJ st v with|.ok st'=>wM aJ r st'|.error e=>.error e
section
variable {aJ:List (aV×V)}
theorem qO:∀(p q:List V) (st:List Int),wM aJ (p++q) st=match wM aJ p st with|.ok st'=>wM aJ q st'|.error e=>.error e
 |[],q,st=>rfl
 |v::r,q,st=>by
  show (match wJ aJ st v with|.ok st'=>wM aJ (r++q) st'|.error e=>.error e)=match (match wJ aJ st v with|.ok st'=>wM aJ r st'|.error e=>.error e) with|.ok st'=>wM aJ q st'|.error e=>.error e
  cases wJ aJ st v with
  |error e=>rfl
  |ok st'=>exact qO r q st'
def Good(aJ:List (aV×V))(ps:List V)(r:Except Er Int):Prop:=(∀st,wM aJ ps st=match r with|.ok i=>.ok (st++[i])|.error e=>.error e)/\r≠.error .stuck
theorem zdo(h:isJ v=ao):Good aJ [v] (.ok (zeq aJ v)):=by
 refine⟨λst=>?_,λz=>nomatch z⟩;unfold wM wJ;rw[h,am ()];rfl
def zg8(w:Str)(r1 r2:Except Er Int):Except Er Int:=match r1 with|.error e=>.error e|.ok a=>match r2 with|.error e=>.error e|.ok b=>j7 w a b
theorem zer(w:Str)(a b:Int):j7 w a b≠.error .stuck:=by
 unfold j7;split
 ·exact λz=>nomatch z
 ·split <;> exact λz=>nomatch z
theorem zdp{r1 r2:Except Er Int}(hw:isJ (.str w)=af)(g1:Good aJ p1 r1)(g2:Good aJ p2 r2):Good aJ (p1++p2++[.str w]) (zg8 w r1 r2):=by
 refine⟨λst=>?_,?_⟩
 ·rw[qO,qO,g1.1];cases r1 with
  |error e=>rfl
  |ok a =>
   show (match wM aJ p2 (st++[a]) with|.ok st'=>wM aJ [.str w] st'|.error e=>.error e)=_;rw[g2.1];cases r2 with
   |error e=>rfl
   |ok b =>
    show wM aJ [.str w] (st++[a]++[b])=match j7 w a b with|.ok i=>.ok (st++[i])|.error e=>.error e
    unfold wM wJ;rw[hw,aq rfl];simp only[oV,pV,rJ,gh,dU,cB];cases j7 w a b with
    |error e=>rfl
    |ok c=>simp[wM]
 ·unfold zg8;cases r1 with
  |error e=>exact g1.2
  |ok a =>
   cases r2 with
   |error e=>exact g2.2
   |ok b=>exact zer w a b
theorem zcB{st:List Int}(h:wM aJ (ps.take i) st=.error e):wM aJ ps st=.error e:=by
 have:=qO (aJ:=aJ) (ps.take i) (ps.drop i) st;rw[dq,h] at this;exact this
theorem zgd{ps:List V}{i:Nat}{st st0:List Int}(h:wM aJ (ps.take i) st0=.ok st)(hv:ps[i]?=U v):wM aJ (ps.take (i+1)) st0=wJ aJ st v:=by
 rw[cq,hv];show wM aJ (ps.take i++[v]) st0=_;rw[qO,h];show (match wJ aJ st v with|.ok st'=>wM aJ [] st'|.error e=>.error e)=_;cases wJ aJ st v <;> rfl
end
def kK(v:V):Prop:=(∃i,v=.int i/\sP i=af)\/∃x:Str,v=.str x/\x.length<=1000
def xc(aJ:List (aV×V)):Prop:=∀k v,yf aJ k=U v->∃i,v=.int i/\sP i=af
theorem zan(h:xc aJ)(hv:kK v):sP (zeq aJ v)=af:=by
 rcases hv with ⟨i,rfl,hi⟩|⟨x,rfl,_⟩
 ·exact hi
 ·show sP (match yf aJ (.inr x) with|some (.int i)=>i|_=>0)=af;cases e:yf aJ (.inr x) with
  |none=>rfl
  |some u =>
   obtain⟨i,rfl,hi⟩:=h _ _ e;exact hi
theorem tU{i:Int}:sP i=af↔-1000000000000000000000000000000<=i/\i<=1000000000000000000000000000000:=by unfold sP;rw[decide_eq_true_eq]
theorem K3{i:Int}(h:sP i=af):-big<i/\i<big:=by
 have:=tU.mp h;have hb:(1000000000000000000000000000001:Int)<big:=by lia
 lia
abbrev zao(K:bx):RC:=λxs H Q=>∃p ys,xs=[.ref p]/\(aT K H p ys\/sN K H p ys)/\∀l,H l=ak->Q (.ref l) (upd H l (.lst ys))
def inL(c:Nat):Bool:=!(gZ "abcdefghijklmnopqrstuvwxyz" ⟨#[c]⟩ 0 (iC "abcdefghijklmnopqrstuvwxyz") 1).isEmpty
def wl:List V:=[.str "take",.str "give",.str "let",.str "say",.str "off",.str "if",.str "else",.str "end",.str "as"]
def yP(x:Str):Bool:=!(decide (x="") || decide (6<x.length)) && !(inV (.str x) jw || inV (.str x) wl)&&x.cps.toList.all inL
theorem zge(c:Nat):inL c=af->97<=c/\c<=122:=by
 unfold inL;rw[StrLaws.found_one,decide_eq_true_eq];exact(by lia:∀c∈(bg "abcdefghijklmnopqrstuvwxyz").cps.toList,97<=c/\c<=122) c
theorem Y0(h:yP x=af):x.cps.toList≠[]/\x.length<=6/\isJ (.str x)=ao/\x.cps.toList.all inL=af:=by
 unfold yP at h;rw[b8,b8,mF,mF,iZ,iZ,decide_eq_false_iff_not,decide_eq_false_iff_not] at h;refine⟨λz=>h.1.1.1 (zf8 (by rw[z];lia)),(),h.1.2.1,h.2⟩
def zes(w:Str):Option V:=if yP w=af then U (.str w) else if ziE w=af then U (.int (zel w)) else ak
inductive Tw where
 |leaf (w:Str)|node (w:Str) (a b:Tw)
def pre:Tw->List Str
 |.leaf w=>[w]
 |.node w a b=>w::(pre a++pre b)
def wfT:Tw->Prop
 |.leaf w=>isJ (.str w)=ao
 |.node w a b=>isJ (.str w)=af/\wfT a/\wfT b
def okT:Tw->Bool
 |.leaf w=>(zes w).isSome
 |.node _ a b=>okT a&&okT b
def pvw(w:Str):V:=(zes w).getD (.str w)
def pst:Tw->List V
 |.leaf w=>[pvw w]
 |.node w a b=>pst a++pst b++[.str w]
def ziG:List Str->Nat->Option Nat
 |_,0=>U 0
 |[],_+1=>ak
 |w::r,d+1=>(ziG r (if isJ (.str w)=af then d+2 else d)).map (· + 1)
def yS(st:List (List V))(w:Str):Except Bool (List (List V)) :=
 if isJ (.str w)=af then (match st.reverse with|a::b::r=>.ok (r.reverse++[a++b++[.str w]])|_=>.error ao) else (match zes w with|some v=>.ok (st++[[v]])|none=>.error af)
def zbJ:List Str->List (List V)->Except Bool (List (List V))
 |[],st=>.ok st
 |w::r,st=>match yS st w with|.ok st'=>zbJ r st'|.error e=>.error e
theorem zet:∀(p q:List Str) (st:List (List V)),zbJ (p++q) st=match zbJ p st with|.ok st'=>zbJ q st'|.error e=>.error e
 |[],q,st=>rfl
 |v::r,q,st=>by
  show (match yS st v with|.ok st'=>zbJ (r++q) st'|.error e=>.error e)=match (match yS st v with|.ok st'=>zbJ r st'|.error e=>.error e) with|.ok st'=>zbJ q st'|.error e=>.error e
  cases yS st v with
  |error e=>rfl
  |ok st'=>exact zet r q st'
theorem zbK :Be (.Constant c j p::es) env=(ao,eval (.Constant c j p) env)::Be es env:=by
 first|rfl|simp only[Be]
theorem kL{t:TA}(hr:PA X es t):PA X (.Constant (.str x) j p::es) (zd (tC (.str x)) t):=za zI hr zbK
section
variable {X:Cx}
theorem zeu{aJ:List (aV×V)}{k:aV}(h:yf aJ k=U v):∃p∈aJ,p.2=v:=by
 unfold yf at h;obtain⟨p,hp,e⟩:=b9.mp h;exact⟨p,List.mem_of_find?_eq_some hp,e⟩
end
theorem zev(h:yP x=af):Asc x:=λc hc=>by
 have:=zge c (List.all_eq_true.mp (Y0 h).2.2.2 c hc);lia
section
variable {P:au}{w:aw}{A:ax}{E:ae->ah->Prop}{s:ah}
theorem zew{Q:ae->ah->Prop}(hi:s.heap.IsTupleIter it tp i)(ht:s.heap.IsTuple tp xs)
  (yes:∀x h,xs[i]?=U x->h.IsTupleIter it tp (i+1)->cG it s.heap h->Q x { s with heap:=h })
  (no:xs[i]?=ak->A.handled=ak/\∀h e,rZ it s.heap h->(∃o,h.get? e=U o/\o.cls=.type "StopIteration")->E (.ref e) { s with heap:=h }) :
  Bf (Bg P w) A (eu (.ref it)) Q E s:=by
 obtain⟨o,ho,hc,hd⟩:=id hi;obtain⟨q,hq,_,n,hq2⟩:=ht;unfold eu;refine ba (dv (name:=bg "__next__") hi.typeIs lN (c8 lN hi.typeIs F.entry_tuple_iterator_next ?_ (F.args_tuple_iterator_next_1 _)));show Bf _ _ (field (.ref it) 0 >>= _) _ _ s;refine ba (dD ho hd (x:=.ref tp) Z ?_);show Bf _ _ (if (bI tp==cF)=af then _ else _) _ _ s;rw[am (show ¬ ((bI tp==cF)=af) from bK)];show Bf _ _ (field (.ref it) 1 >>= _) _ _ s;refine ba (dD ho hd (x:=.int i 0) Z ?_);show Bf _ _ (seqItems? (.ref tp) >>= _) _ _ s;refine ba (fU hq hq2 ?_);cases hx:xs[i]? with
 |some x =>
  simp only[dZ,hx];refine ba (iI ho hd (by simp) (bh ⟨x,Z,bh (yes x _ hx ?_ (cV ..))⟩));refine⟨_,eE _ ho (nX (ic hd _)),(pW ..).trans hc,?_⟩;rw[ic hd];simp[rawInt]
 |none =>
  obtain⟨hh,no⟩:=no hx;simp only[dZ,hx];refine ba (lh (ba (iI ho hd (by simp) ?_)));show Bf _ _ (newExc (.type "StopIteration") [] >>= _) _ _ _;refine ba ?_;simp only[newExc,newTuple];refine ba (cQ ?_ (by size_fits));refine ba (m:=firstArgMember _ _) (wpAny_of_eq (a:=cF) (by first|rfl|(simp only[firstArgMember];rfl)) ?_);refine cQ ?_ (by size_fits);simp only[raiseNew];refine ba (pE ?_);first|rw[show A.in1.handled=ak from hh]|rw[hh]
  refine ba (bh (wpAny_throw ?_));exact no _ _ (((cV ..).extBut.push _).push _) ⟨_,bE _ Z,Z⟩
end
section
variable {P:au}{w:aw}{A:ax}{E:ae->ah->Prop}{s:ah}
structure XO(z a b i j p q:D):Prop where
 az:a≠z
 bz:b≠z
 iz:i≠z
 jz:j≠z
 ab:a≠b
 ai:a≠i
 aj:a≠j
 bi:b≠i
 bj:b≠j
 ij:i≠j
 pz:p≠z
 pb:p≠b
 pi:p≠i
 pj:p≠j
 qz:q≠z
 qb:q≠b
 qi:q≠i
 qj:q≠j
def ZT(z a b i j p q:D)(k:Nat)(h:av):Prop:=IsZip h z a b .none/\IsPair h a (.ref i) (.ref j)/\(∃u v,IsPair h b u v)/\h.IsTupleIter i p k/\h.IsTupleIter j q k
theorem zdq{Q:ae->ah->Prop}(Bp:XO z a b i j p q)(st:ZT z a b i j p q k s.heap)
  (hp:s.heap.IsTuple p xs) (hq:s.heap.IsTuple q ys) (hx:xs[k]?=U x) (hy:ys[k]?=U y)
  (cont:∀g h,(∀c o,c ∉ [z,b,i,j]->s.heap.get? c=U o->g.get? c=U o)->g.objs.size=s.heap.objs.size->IsPair g b x y->g.IsTupleIter i p (k+1)->g.IsTupleIter j q (k+1) ->
   cG z (g.push { cls:=.type "tuple",data:=.seq #[x,y] }) h->IsZip h z a b (rawInt g.objs.size)->Q (.ref g.objs.size) { s with heap:=h }) :
  Bf (Bg P w) A (Builtin.«zip.__next__» ⟨[.ref z],[]⟩) (λr s'=>∃v,r=.done (.ret v)/\Q v s') E s:=by
 obtain⟨hz,ha,⟨u,v,hb⟩,hi,hj⟩:=st;show Bf _ _ (field (.ref z) 2 >>= _) _ _ _;refine ba (dD hz Z (x:=.bool ao) Z ?_);show Bf _ _ (field (.ref z) 3 >>= _) _ _ _;refine ba (dD hz Z (x:=.ref a) Z ?_);refine ba (fU ha Z ?_);show Bf _ _ (dE (.ref z) >>= _) _ _ _;refine ba ?_;unfold dE;refine ba (dD hz Z (x:=.none) Z (bh ?_));simp only[if_true];refine ba (lh ?_);refine ba (dD hz Z (x:=.ref b) Z ?_);refine ba (cS hz (by simp) λg1 z1 r1=>?_);replace z1:IsZip g1 z a b .ellipsis:=z1;refine ba ?_;simp only[rK,r6,nU,List.forIn_nil];refine ba (ba (pF ?_));show Bf _ _ (eu (.ref i) >>= _) _ _ _;refine ba (zew (hi.extBut r1.extBut Bp.iz) (hp.extBut r1.extBut Bp.pz) (λx' g2 ex i2 r2=>bh ?_) λex=>by rw[hx] at ex;cases ex);obtain rfl:x'=x:=bP (ex.symm.trans hx);have b2:IsPair g2 b u v:=r2.extBut _ _ Bp.bi (r1.extBut _ _ Bp.bz hb);refine ba (fU b2 Z ?_);refine ba (oA b2 λg3 b3 r3=>?_);replace b3:IsPair g3 b x' v:=b3;refine ba (mZ (bh ?_));refine ba (ba (pF ?_));show Bf _ _ (eu (.ref j) >>= _) _ _ _;refine ba (zew (((hj.extBut r1.extBut Bp.jz).extBut r2.extBut Bp.ij.symm).extBut r3.extBut Bp.bj.symm) (((hq.extBut r1.extBut Bp.qz).extBut r2.extBut Bp.qi).extBut r3.extBut Bp.qb) (λy' g4 ey j4 r4=>bh ?_) λey=>by rw[hy] at ey;cases ey);obtain rfl:y'=y:=bP (ey.symm.trans hy);have b4:IsPair g4 b x' v:=r4.extBut _ _ Bp.bj b3;refine ba (fU b4 Z ?_);refine ba (oA b4 λg5 b5 r5=>?_);replace b5:IsPair g5 b x' y':=b5;refine ba (mZ (bh (bh ?_)));refine ba (fU b5 Z ?_);refine ba (oK ?_);have sz:g5.objs.size=s.heap.objs.size:=by rw[r5.1,r4.1,r3.1,r2.1,r1.1]
 have z5:IsZip g5 z a b .ellipsis:=r5.extBut _ _ Bp.bz.symm (r4.extBut _ _ Bp.jz.symm (r3.extBut _ _ Bp.bz.symm (r2.extBut _ _ Bp.iz.symm z1)));have k5:∀c o,c ∉ [z,b,i,j]->s.heap.get? c=U o->g5.get? c=U o:=λc o hc e=>by
  simp only[bu,cf,or_false,not_or] at hc;exact r5.extBut _ _ hc.2.1 (r4.extBut _ _ hc.2.2.2 (r3.extBut _ _ hc.2.1 (r2.extBut _ _ hc.2.2.1 (r1.extBut _ _ hc.1 e))))
 have i5:g5.IsTupleIter i p (k+1):=((i2.extBut r3.extBut Bp.bi.symm).extBut r4.extBut Bp.ij).extBut r5.extBut Bp.bi.symm;have j5:g5.IsTupleIter j q (k+1):=j4.extBut r5.extBut Bp.bj.symm;show Bf _ _ (gO (.ref z) (.ref g5.objs.size) >>= _) _ _ _;refine ba ?_;unfold gO;have z6:IsZip (g5.push { cls:=.type "tuple",data:=.seq #[x',y'] }) z a b .ellipsis:=bc _ z5;refine ba (cS z6 (by simp) λg7 z7 r7=>?_);replace z7:IsZip g7 z a b (rawInt g5.objs.size):=z7;refine cS z7 (by simp) λg8 z8 r8=>?_;replace z8:IsZip g8 z a b (rawInt g5.objs.size):=z8;exact bh ⟨_,Z,cont g5 g8 k5 sz b5 i5 j5 ⟨r8.1.trans r7.1,λc hc=>(r8.2 c hc).trans (r7.2 c hc)⟩ z8⟩
theorem zex{Q:Fin->ah->Prop}(hh:A.handled=ak)(Bp:XO z a b i j p q)(st:ZT z a b i j p q k s.heap)
  (hp:s.heap.IsTuple p xs) (hq:s.heap.IsTuple q ys) (hx:xs[k]?=ak) (hE:∀h e,(∀c o,c ∉ [z,b,i,j]->s.heap.get? c=U o->h.get? c=U o)->(∃o,h.get? e=U o/\o.cls=.type "StopIteration")->E (.ref e) { s with heap:=h }) :
  Bf (Bg P w) A (Builtin.«zip.__next__» ⟨[.ref z],[]⟩) Q E s:=by
 obtain⟨hz,ha,⟨u,v,hb⟩,hi,hj⟩:=st;show Bf _ _ (field (.ref z) 2 >>= _) _ _ _;refine ba (dD hz Z (x:=.bool ao) Z ?_);show Bf _ _ (field (.ref z) 3 >>= _) _ _ _;refine ba (dD hz Z (x:=.ref a) Z ?_);refine ba (fU ha Z ?_);show Bf _ _ (dE (.ref z) >>= _) _ _ _;refine ba ?_;unfold dE;refine ba (dD hz Z (x:=.none) Z (bh ?_));simp only[if_true];refine ba (lh ?_);refine ba (dD hz Z (x:=.ref b) Z ?_);refine ba (cS hz (by simp) λg1 z1 r1=>?_);replace z1:IsZip g1 z a b .ellipsis:=z1;refine ba ?_;simp only[rK,r6,nU,List.forIn_nil];refine ba (ba (pF ?_));show Bf _ _ (eu (.ref i) >>= _) _ _ _;refine ba (zew (hi.extBut r1.extBut Bp.iz) (hp.extBut r1.extBut Bp.pz) (λx' g2 ex i2 r2=>by rw[hx] at ex;cases ex) λex=>⟨hh,λg2 e r2 he=>?_⟩);obtain⟨oe,hoe,hce⟩:=he;have z2:IsZip g2 z a b .ellipsis:=r2 _ _ Bp.iz.symm z1;have ez:e≠z:=λx=>by subst x;rw[z2] at hoe;cases hoe;simp at hce
 refine cS z2 (by simp) λg3 _ r3=>hE g3 e (λc o hc y=>?_) ⟨oe,r3.extBut _ _ ez hoe,hce⟩;simp only[bu,cf,or_false,not_or] at hc;exact r3.extBut _ _ hc.1 (r2 _ _ hc.2.2.1 (r1.extBut _ _ hc.1 y))
theorem zbL{Q:Option ae->ah->Prop}(Bp:XO z a b i j p q)(st:ZT z a b i j p q k s.heap)
  (hp:s.heap.IsTuple p xs) (hq:s.heap.IsTuple q ys) (hx:xs[k]?=U x) (hy:ys[k]?=U y)
  (cont:∀g h,(∀c o,c ∉ [z,b,i,j]->s.heap.get? c=U o->g.get? c=U o)->g.objs.size=s.heap.objs.size->IsPair g b x y->g.IsTupleIter i p (k+1)->g.IsTupleIter j q (k+1) ->
   cG z (g.push { cls:=.type "tuple",data:=.seq #[x,y] }) h->IsZip h z a b (rawInt g.objs.size)->Q (U (.ref g.objs.size)) { s with heap:=h }) :
  Bf (Bg P w) A (pyNext (.ref z)) Q E s:=by
 have T:s.TypeIs (.ref z) "zip":=⟨_,st.1,Z⟩;unfold pyNext;exact ba (ie (dv (name:=bg "__next__") T lF (c8 lF T F.entry_zip_next
   (zdq Bp st hp hq hx hy λg h a1 a2 a3 a4 a5 a6 a7=>bh (cont g h a1 a2 a3 a4 a5 a6 a7)) (F.args_zip_next_1 _))))
theorem zdr{Q:Option ae->ah->Prop}(hh:A.handled=ak)(Bp:XO z a b i j p q)(st:ZT z a b i j p q k s.heap)
  (hp:s.heap.IsTuple p xs) (hq:s.heap.IsTuple q ys) (hx:xs[k]?=ak) (cont:∀h,(∀c o,c ∉ [z,b,i,j]->s.heap.get? c=U o->h.get? c=U o)->Q ak { s with heap:=h }):Bf (Bg P w) A (pyNext (.ref z)) Q E s:=by
 have T:s.TypeIs (.ref z) "zip":=⟨_,st.1,Z⟩;unfold pyNext;refine ba (ie (dv (name:=bg "__next__") T lF (c8 lF T F.entry_zip_next (zex hh Bp st hp hq hx λh e hk he=>?_) (F.args_zip_next_1 _))));obtain⟨o,ho,hc⟩:=he;exact ba (nA (T:="StopIteration") (b:=af) ⟨o,ho,hc⟩ oM (bh (cont _ hk)))
end
abbrev zp1(h:av)(p:D):av:=h.push { cls:=.type "tuple_iterator",data:=.fields #[.ref p,.int 0 0] }
abbrev zp3(h:av)(p q:D):av:=(zp1 (zp1 h p) q).push { cls:=.type "tuple",data:=.seq #[.ref h.objs.size,.ref (zp1 h p).objs.size] }
abbrev zp4(h:av)(p q:D):av:=(zp3 h p q).push { cls:=.type "tuple",data:=.seq #[.none,.none] }
abbrev zp5(h:av)(p q:D):av:=(zp4 h p q).push { cls:=.type "zip",data:=.fields #[.none,.bool ao,.bool ao,.ref (zp1 (zp1 h p) q).objs.size,.ref (zp3 h p q).objs.size] }
theorem zbM(p q:D)(xs ys:Array ae):Meets (Builtin.«zip.__new__» ⟨[.type "zip",.ref p,.ref q],[]⟩) (λ_ R s=>s.heap.IsTuple p xs/\s.heap.IsTuple q ys /\
   R (.ok (.ret (.ref (zp4 s.heap p q).objs.size))) { s with heap:=zp5 s.heap p q }) :=
 .of_wp λprog w A R s h=>by
  obtain⟨hp,g,d,tk,os⟩:=s;obtain⟨h1,h2,h⟩:=h;have hsub:=sub_zip;have l1:Heap.IsTuple (Shared.heap ⟨hp,g,d,tk,os⟩) p xs:=h1;have l2:Heap.IsTuple (Shared.heap ⟨hp.push { cls:=.type "tuple_iterator",data:=.fields #[.ref p,.int 0 0] },g,d,tk,os⟩) q ys:=Heap.IsTuple.push h2 _
  wp_walk using lQ l1,lQ l2
  exact⟨_,Z,h⟩
section
variable {P:au}{w:aw}{A:ax}{E:ae->ah->Prop}{s:ah}
theorem zds{Q:ae->ah->Prop}(hp:s.heap.IsTuple p xs)(hq:s.heap.IsTuple q ys)
  (h:∀h',ZT (s.heap.objs.size+4) (s.heap.objs.size+2) (s.heap.objs.size+3) s.heap.objs.size (s.heap.objs.size+1) p q 0 h'->(∀c o,s.heap.get? c=U o->h'.get? c=U o)->Q (.ref (s.heap.objs.size+4)) { s with heap:=h' }) :
  Bf (Bg P w) A (call (.type "zip") [.ref p,.ref q]) Q E s:=by
 refine callType_new F.called_zip () (F.typeCall_zip_2 _ _) (F.newCall_zip_2 _ _) (λobj=>F.args_object_init_3 obj _ _) F.entry_zip_new (zbM p q xs ys) ⟨hp,hq,?_⟩;have e1:(zp1 s.heap p).objs.size=s.heap.objs.size+1:=eP ..;have e2:(zp1 (zp1 s.heap p) q).objs.size=s.heap.objs.size+2:=by rw[eP,e1]
 have e3:(zp3 s.heap p q).objs.size=s.heap.objs.size+3:=by rw[eP,e2]
 have e4:(zp4 s.heap p q).objs.size=s.heap.objs.size+4:=by rw[eP,e3]
 have f5:(zp5 s.heap p q).get? (zp4 s.heap p q).objs.size=U _:=bE _ rfl;have f4:(zp5 s.heap p q).get? (zp3 s.heap p q).objs.size=U _:=bc _ (bE _ Z);have f3:(zp5 s.heap p q).get? (zp1 (zp1 s.heap p) q).objs.size=U _:=bc _ (bc _ (bE _ Z));have f2:(zp5 s.heap p q).get? (zp1 s.heap p).objs.size=U _:=bc _ (bc _ (bc _ (bE _ Z)));have f1:(zp5 s.heap p q).get? s.heap.objs.size=U _:=bc _ (bc _ (bc _ (bc _ (bE _ Z))));show _/\_;rw[e2,e3,e4] at f5;rw[e1,e2] at f3;rw[e3] at f4;rw[e1] at f2;rw[e4];exact⟨⟨_,f5,Z⟩,h _ ⟨f5,f3,⟨_,_,f4⟩,⟨_,f1,Z,Z⟩,⟨_,f2,Z,Z⟩⟩ λc o x=>bc _ (bc _ (bc _ (bc _ (bc _ x))))⟩
end
theorem aO.turnedL{aa:List (D×Obj)}{σ:St}{H:Hp}{s:ah}{h':av}{t':Nat}{ch:List D}(I:aO X aa σ H s)(k:∀b o,b ∉ ch->s.heap.get? b=U o->h'.get? b=U o)(hf:∀b∈ch,qB X aa H b) :
  aO X aa σ H { s with heap:=h',toks:=t' }:=by
 have nit:∀b u,H b=U u->b ∉ ch:=λb u e z=>by rw[(hf b z).1] at e;cases e
 refine I.step (g':=s.gens) (d':=s.drawn) (ch:=ch) (λb hb=>?_) (λb o _ _ hc e _=>k b o hc e) (λb o _ _ hc e _=>⟨o.slots,k b o hc e⟩) (λ_ _ _ _ n=>n) (λb o hc e=>⟨o,k b o hc e⟩) (λ_ _ e=>e) (λ_ _ _ e=>e) (λb ps e=>⟨#[],by rw[e];simp⟩) (λm hm=>?_) (λb u e=>?_) I.bare
 ·obtain⟨f0,f1,f2,f3,f4,f5⟩:=hf b hb;exact⟨f3,f1,f4,f5⟩
 ·obtain⟨o,es,ep,ho,r⟩:=hm;exact⟨o,es,ep,k _ o (λz=>(hf _ z).2.1 Z) ho,r⟩
 ·refine(I.hok b u e).stay (λc v hc q=>k c v ?_ q) (λ_ q=>q) λ_ _ q=>q;rcases hc with z|z
  ·rw[z];exact nit b u e
  ·exact nit c _ z
def Itz(K:bx)(p q:D)(xs ys:List V):It:=⟨λi H=>i<xs.length/\sN K H p xs/\sN K H q ys,λi H x H'=>∃T u v,x=.ref T/\H T=ak/\H'=upd H T (.tup [u,v])/\xs[i]?=U u/\ys[i]?=U v,λi H=>xs.length<=i/\sN K H p xs/\sN K H q ys⟩
theorem zey{P:au}{w:aw}{K:bx}{elts:List aA}{x1}{pos:Pos}{z a b i j p q:D}{xs ys:List V}(Bp:XO z a b i j p q)(hl:xs.length=ys.length) :
  zbs P w K (.Tuple elts x1 pos) (Itz K p q xs ys) [z,a,b,i,j] z (ZT z a b i j p q) where
 mem:=by simp
 obj:=λk h st c hc=>by
  obtain⟨hz,ha,⟨u,v,hb⟩,⟨oi,hi,ci,di⟩,⟨oj,hj,cj,dj⟩⟩:=st;simp only[bu,cf,or_false] at hc;rcases hc with rfl|rfl|rfl|rfl|rfl
  ·exact⟨_,hz,λv z=>by cases z⟩
  ·exact⟨_,ha,λv z=>by cases z⟩
  ·exact⟨_,hb,λv z=>by cases z⟩
  ·exact⟨_,hi,λv z=>by rw[di] at z;cases z⟩
  ·exact⟨_,hj,λv z=>by rw[dj] at z;cases z⟩
 keep:=λk h h' st kk=>by
  obtain⟨hz,ha,⟨u,v,hb⟩,⟨oi,hi,ci⟩,⟨oj,hj,cj⟩⟩:=st;exact⟨kk z (by simp) _ hz,kk a (by simp) _ ha,⟨u,v,kk b (by simp) _ hb⟩,⟨oi,kk i (by simp) _ hi,ci⟩,⟨oj,kk j (by simp) _ hj,cj⟩⟩
 item:=by
  intro X hP hw hK hc k aa s σ H E I hf st hg;subst hP hw hK;obtain⟨hlt,h1,h2⟩:=hg;obtain⟨us,r1,p1,_⟩:=I.tuple h1;obtain⟨vs,r2,p2,_⟩:=I.tuple h2;obtain⟨u,hu,ru⟩:=r1.get (i:=k) (x:=xs[k]) (bb hlt);obtain⟨v,hv,rv⟩:=r2.get (i:=k) (x:=ys[k]'(hl ▸ hlt)) (bb (hl ▸ hlt));have sub:∀c∈[z,b,i,j],c∈[z,a,b,i,j]:=λc hc=>by
   simp only[bu,cf,or_false] at hc ⊢;rcases hc with h|h|h|h <;> simp[h]
  refine zbL Bp st (show s.heap.IsTuple p us.toArray from p1) (show s.heap.IsTuple q vs.toArray from p2) (x:=u) (y:=v) (by simpa using hu) (by simpa using hv) λg h k5 sz b5 i5 j5 sb z8=>?_;have I5:aO X aa σ H { s with heap:=g }:=I.turnedL (t':=s.toks) k5 λc hc=>hf c (sub c hc);have I6:aO X aa σ (upd H g.objs.size (.tup [xs[k],ys[k]'(hl ▸ hlt)])) { s with heap:=g.push { cls:=.type "tuple",data:=.seq #[u,v] } } :=
   I5.laid (a:=g.objs.size) (o:=.tup [xs[k],ys[k]'(hl ▸ hlt)]) (t':=s.toks) (λb u e=>bc _ e) (bn _) ⟨by show 2<=Bb;decide,[u,v],.cons ru (.cons rv .nil),⟨_,bE _ Z,Z,_,Z⟩⟩
  have zlt:z<s.heap.objs.size:=bH st.1;have old:∀c∈[z,a,b,i,j],c≠g.objs.size:=λc hc=>by
   obtain⟨hz,ha,⟨u,v,hb⟩,⟨oi,hi,ci⟩,⟨oj,hj,cj⟩⟩:=st;rw[sz];simp only[bu,cf,or_false] at hc;rcases hc with rfl|rfl|rfl|rfl|rfl
   ·exact bR (bH hz)
   ·exact bR (bH ha)
   ·exact bR (bH hb)
   ·exact bR (bH hi)
   ·exact bR (bH hj)
  have free:∀c∈[z,a,b,i,j],upd H g.objs.size (HO.tup [xs[k],ys[k]'(hl ▸ hlt)]) c=ak:=λc hc=>by rw[zl (old c hc)];exact(hf c hc).1
  have fz:qB X aa (upd H g.objs.size (HO.tup [xs[k],ys[k]'(hl ▸ hlt)])) z:=⟨free z (by simp),(hf z (by simp)).2⟩;refine⟨.ref g.objs.size,Z,lY z8 λh2 z9 sb2=>?_⟩;have up:∀c o,c≠z->g.get? c=U o->h2.get? c=U o:=λc o hc e=>by
   rw[show h2.get? c=h.get? c from sb2.2 c hc,sb.2 c hc];exact bc _ e
  have I7:aO X aa σ (upd H g.objs.size (.tup [xs[k],ys[k]'(hl ▸ hlt)])) { s with heap:=h2 }:=I6.turnedL (s:={ s with heap:=g.push { cls:=.type "tuple",data:=.seq #[u,v] } }) (t':=s.toks) (ch:=[z]) (λc o hc e=>by
   have hc:c≠z:=by simpa using hc
   rw[show h2.get? c=h.get? c from sb2.2 c hc,sb.2 c hc];exact e) λc hc=>by
    have:c=z:=by simpa using hc
    rw[this];exact fz
  refine⟨.ref g.objs.size,_,I7,Z,⟨_,_,_,Z,by have:=I5.hok.fresh (bn g.objs.size);exact this,Z,bb hlt,bb (hl ▸ hlt)⟩,?_,free⟩;have ka:g.get? a=_:=k5 a _ (by simp[Bp.az,Bp.ab,Bp.ai,Bp.aj]) st.2.1;obtain⟨oi,hi,ci⟩:=i5;obtain⟨oj,hj,cj⟩:=j5;exact⟨z9,up a _ Bp.az ka,⟨_,_,up b _ Bp.bz b5⟩,⟨oi,up i _ Bp.iz hi,ci⟩,⟨oj,up j _ Bp.jz hj,cj⟩⟩
 done:=by
  intro X hP hw hK hc k aa s σ H E I hf st hg;subst hP hw hK;obtain⟨hlt,h1,h2⟩:=hg;obtain⟨us,r1,p1,_⟩:=I.tuple h1;obtain⟨vs,r2,p2,_⟩:=I.tuple h2;have hl1:=r1.length;refine zdr (I.ok.hd hc) Bp st (show s.heap.IsTuple p us.toArray from p1) (show s.heap.IsTuple q vs.toArray from p2) (by simp;lia) λh hk=>⟨Z,I.turnedL (t':=s.toks) hk λc hc=>hf c ?_⟩;simp only[bu,cf,or_false] at hc ⊢;rcases hc with h|h|h|h <;> simp[h]
 self:=λ_ _ _ _ _ st h=>iX st.1 h
section
variable {σ:St}{H:Hp}{nx:St->Hp->Prop}{Bn:V->St->Hp->(St->Hp->Prop)->Prop}
theorem zez{K:bx}(xs ys:List V)(Pv:Nat->St->Hp->Prop)(h0:Pv 0 σ H)(hl:∀i σ H,Pv i σ H->sN K H p xs/\sN K H q ys)
  (hs:∀i u v T σ H,xs[i]?=U u->ys[i]?=U v->H T=ak->Pv i σ H->Bn (.ref T) σ (upd H T (.tup [u,v])) (Pv (i+1))) (hd:∀σ H,Pv xs.length σ H->nx σ H) :
  ∃W:Nat->Nat->St->Hp->Prop,(∃m,W 0 m σ H)/\∀i m σ H,W i m σ H->((Itz K p q xs ys).stop i H/\nx σ H)\/((Itz K p q xs ys).go i H/\∃N:St->Hp->Prop,(∀σ' H',N σ' H'->∃m',m'<m/\W (i+1) m' σ' H')/\∀x H',(Itz K p q xs ys).yld i H x H'->Bn x σ H' N):=by
 refine⟨λi m σ H=>m=xs.length-i/\i<=xs.length/\Pv i σ H,⟨xs.length,by simp,bS _,h0⟩,?_⟩;rintro i m σ H ⟨rfl,hi,L⟩;by_cases hlt:i<xs.length
 ·refine .inr ⟨⟨hlt,hl i σ H L⟩,Pv (i+1),λσ' H' p'=>⟨xs.length-(i+1),(),Z,hlt,p'⟩,?_⟩;rintro x H' ⟨T,u,v,rfl,hT,rfl,hu,hv⟩;exact hs i u v T σ H hu hv hT L
 ·obtain rfl:i=xs.length:=by lia
  exact .inl ⟨⟨bn _,hl _ σ H L⟩,hd σ H L⟩
end
abbrev zi1(K:bx):RC:=λxs H Q=>∃p ys,xs=[.ref p]/\((aT K H p ys/\∀l,H l=ak->Q (.ref l) (upd H l (.tup ys)))\/(sN K H p ys/\Q (.ref p) H))
def zcC(st:List (List V))(v:V):Option (List (List V)):=if isJ v=af then (match st.reverse with|b::a::r=>U (r.reverse++[v::(a++b)])|_=>ak) else U (st++[[v]])
def zbN:List V->List (List V)->Option (List (List V))
 |[],st=>U st
 |v::r,st=>(zcC st v).bind (zbN r)
theorem zeA:∀(p q:List V) (st:List (List V)),zbN (p++q) st=(zbN p st).bind (zbN q)
 |[],q,st=>rfl
 |v::r,q,st=>by
  show (zcC st v).bind (zbN (r++q))=((zcC st v).bind (zbN r)).bind (zbN q);cases zcC st v with
  |none=>rfl
  |some st'=>exact zeA r q st'
end L2
namespace L2
open PySem PySem.W PyProof.Rows
section
variable {α β:Type}{lt:Nat->Nat->Bool}{n:Nat}
def kOk(lt:Nat->Nat->Bool)(n:Nat):KasT α->(α->Prop)->Prop
 |.ret a,R=>R a
 |.ask i j k,R=>i<n/\j<n/\i≠j/\kOk lt n (k (lt i j)) R
theorem j8:∀ {t:KasT α} {f:α->KasT β} {R:β->Prop},kOk lt n t (λa=>kOk lt n (f a) R)->kOk lt n (t.bind f) R
 |.ret _,_,_,h=>h
 |.ask _ _ _,_,_,h=>⟨h.1,h.2.1,h.2.2.1,j8 h.2.2.2⟩
theorem vg:∀ {t:KasT α} {R R':α->Prop},kOk lt n t R->(∀a,R a->R' a)->kOk lt n t R'
 |.ret _,_,_,h,m=>m _ h
 |.ask _ _ _,_,_,h,m=>⟨h.1,h.2.1,h.2.2.1,vg h.2.2.2 m⟩
structure SO(lt:Nat->Nat->Bool)(n:Nat):Prop where
 irr:∀i,i<n->lt i i=ao
 trans:∀i j k,i<n->j<n->k<n->lt i j=af->lt j k=af->lt i k=af
 tot:∀i j,i<n->j<n->i≠j->lt i j=ao->lt j i=af
def PP(n:Nat)(p:Array Nat):Prop:=p.Perm (eI n).toArray
def gt(p:Array Nat)(k:Nat):Nat:=p.getD k 0
theorem j9(h:k<p.size):p[k]?=U (gt p k):=by
 unfold gt;rw[Array.getD_eq_getD_getElem?,cA h];rfl
theorem PP.size(h:PP n p):p.size=n:=by
 have:=h.size_eq;simpa using this
theorem PP.blt(h:PP n p)(hk:k<n):gt p k<n:=by
 have hs:=h.size;have m:gt p k∈p:=Array.mem_of_getElem? (j9 ());have m2:gt p k∈(eI n).toArray:=(pG h).mp m;simpa using m2
theorem PP.inj(h:PP n p)(hi:i<n)(hj:j<n)(e:gt p i=gt p j):i=j:=by
 have hs:=h.size;have nd:p.toList.Nodup:=by
  have:p.toList.Perm (eI n):=by
   have:=gF.mp h;simpa using this
  exact this.nodup_iff.mpr rL
 have e1:=j9 (p:=p) (k:=i) ();have e2:=j9 (p:=p) (k:=j) ();rw[<-e] at e2;have e1':p.toList[i]?=U (gt p i):=by simpa using e1
 have e2':p.toList[j]?=U (gt p i):=by simpa using e2
 obtain⟨a1,b1⟩:=bo.mp e1';obtain⟨a2,b2⟩:=bo.mp e2';exact(iS nd).mp (b1.trans b2.symm)
def ZU(lt:Nat->Nat->Bool)(p:Array Nat)(m:Nat):Prop:=∀i j,i<j->j<m->lt (gt p i) (gt p j)=af
def zhL(lt:Nat->Nat->Bool)(p:Array Nat)(m:Nat):Prop:=∀i j,i<j->j<m->lt (gt p j) (gt p i)=af
theorem zbO(S:SO lt n){p:Array Nat}(hp:PP n p):∀(f a:Nat),1<=a->a+f<=n->ZU lt p a->kOk lt n (kas_asc p f a) λm=>a<=m/\m<=a+f/\ZU lt p m/\(m<a+f->lt (gt p m) (gt p (m-1))=af)
 |0,a,h1,h2,hr=>⟨bn _,bn _,hr,λz=>absurd z (fB _)⟩
 |f+1,a,h1,h2,hr=>by
  refine⟨hp.blt (),hp.blt (),(λz=>by have:=hp.inj () () z;lia),?_⟩;show kOk lt n (if lt (gt p a) (gt p (a-1))=af then .ret a else kas_asc p f (a+1)) _;by_cases c:lt (gt p a) (gt p (a-1))=af
  ·rw[aq c];exact⟨bn _,(),hr,λ_=>c⟩
  ·rw[am c];have up:lt (gt p (a-1)) (gt p a)=af:=S.tot _ _ (hp.blt ()) (hp.blt ()) (λz=>by have:=hp.inj () () z;lia) (eo.mpr c);refine vg (zbO S hp f (a+1) () () λi j hij hj=>?_) λm ⟨x1,x2,x3,x4⟩=>⟨(),(),x3,λz=>x4 ()⟩;by_cases hja:j<a
   ·exact hr i j hij hja
   ·obtain rfl:j=a:=by lia
    by_cases hi:i=j-1
    ·rw[hi];exact up
    ·exact S.trans _ _ _ (hp.blt ()) (hp.blt ()) (hp.blt ()) (hr i (j-1) () ()) up
theorem zcD(S:SO lt n){p:Array Nat}(hp:PP n p):∀(f a:Nat),1<=a->a+f<=n->zhL lt p a->kOk lt n (kas_desc f p a 0) λr=>r.1=p/\r.2.2=0/\a<=r.2.1/\r.2.1<=a+f/\zhL lt p r.2.1
 |0,a,h1,h2,hr=>⟨Z,Z,bn _,bn _,hr⟩
 |f+1,a,h1,h2,hr=>by
  refine⟨hp.blt (),hp.blt (),(λz=>by have:=hp.inj () () z;lia),?_⟩;show kOk lt n (if lt (gt p a) (gt p (a-1))=af then (if 0 > 0 then _ else kas_desc f p (a+1) 0) else .ask (gt p (a-1)) (gt p a) λd=>if d=af then .ret (p,a,0) else kas_desc f p (a+1) (0+1)) _;by_cases c:lt (gt p a) (gt p (a-1))=af
  ·rw[aq c,am ()];refine vg (zcD S hp f (a+1) () () λi j hij hj=>?_) λm ⟨x1,x2,x3,x4,x5⟩=>⟨x1,x2,(),(),x5⟩;by_cases hja:j<a
   ·exact hr i j hij hja
   ·obtain rfl:j=a:=by lia
    by_cases hi:i=j-1
    ·rw[hi];exact c
    ·exact S.trans _ _ _ (hp.blt ()) (hp.blt ()) (hp.blt ()) c (hr i (j-1) () ())
  ·rw[am c];have up:lt (gt p (a-1)) (gt p a)=af:=S.tot _ _ (hp.blt ()) (hp.blt ()) (λz=>by have:=hp.inj () () z;lia) (eo.mpr c);refine⟨hp.blt (),hp.blt (),(λz=>by have:=hp.inj () () z;lia),?_⟩;show kOk lt n (if lt (gt p (a-1)) (gt p a)=af then .ret (p,a,0) else _) _;rw[aq up];exact⟨Z,Z,bn _,eK _ _,hr⟩
theorem zeB(hm:m<=p.size)(hk:k<m):gt (kas_rev p 0 m) k=gt p (m-1-k):=by
 have e:=getElem?_mirror_all (xs:=p) (i:=0) (j:=m) hm k;rw[aq ⟨bS _,hk⟩] at e;have e1:=j9 (p:=kas_rev p 0 m) (k:=k) (by unfold kas_rev;rw[mirror_size];lia);have e2:=j9 (p:=p) (k:=m-1-k) ();unfold kas_rev at e1 ⊢;rw[e,show 0+m-1-k=m-1-k by lia,e2] at e1;exact(bP e1).symm
theorem PP.rev(h:PP n p)(m:Nat):PP n (kas_rev p 0 m):=rM (mirror_perm _ _ _ _) h
theorem zgf(S:SO lt n)(hp:PP n p)(h1:1<=m)(h2:m<=n)(hf:zhL lt p m):kOk lt n (kas_tail3 m n p) λr=>PP n r.2/\ZU lt r.2 r.1/\1<=r.1/\r.1<=n:=by
 refine j8 (vg (zbO S (hp.rev m) (n-m) m h1 () λi j hij hj=>?_) λa ⟨x1,x2,x3,_⟩=>⟨hp.rev m,x3,(),()⟩);have hs:=hp.size;rw[zeB () (),zeB () hj];exact hf _ _ () ()
theorem zeC(S:SO lt n)(hp:PP n p)(hn:1<=n):kOk lt n (kas_count n p) λr=>PP n r.2/\ZU lt r.2 r.1/\1<=r.1/\r.1<=n:=by
 refine j8 (vg (zbO S hp (n-1) 1 (bn _) () λi j hij hj=>by lia) λm ⟨x1,x2,x3,x4⟩=>?_);by_cases e:(m==n)=af
 ·rw[aq e];exact⟨hp,x3,x1,()⟩
 ·rw[am e];have ne:m≠n:=by simpa using e
  by_cases h:m > 1
  ·rw[aq h];refine⟨hp.blt (),hp.blt (),(λz=>by have:=hp.inj () () z;lia),?_⟩;show kOk lt n (if lt (gt p 0) (gt p (m-1))=af then .ret (m,p) else _) _;rw[aq (x3 0 (m-1) () ())];exact⟨hp,x3,x1,()⟩
  ·rw[am h];obtain rfl:m=1:=by lia
   have c:=x4 ();refine j8 (vg (zcD S hp (n-2) 2 () () λi j hij hj=>?_) λr ⟨y1,y2,y3,y4,y5⟩=>?_)
   ·obtain rfl:j=1:=by lia
    obtain rfl:i=0:=by lia
    exact c
   ·rw[am (),y1];exact zgf S hp () () y5
theorem Vm(S:SO lt n){p:Array Nat}(hp:PP n p){k:Nat}(hk:k<n)(hr:ZU lt p k):∀(f l r:Nat),l<=r->r<=k->r-l<=f->(∀i,i<l->lt (gt p i) (gt p k)=af)->(∀i,r<=i->i<k->lt (gt p k) (gt p i)=af) ->
  kOk lt n (nY p k f l r) λm=>m<=k/\(∀i,i<m->lt (gt p i) (gt p k)=af)/\∀i,m<=i->i<k->lt (gt p k) (gt p i)=af
 |0,l,r,h1,h2,h3,h4,h5=>⟨(),h4,λi hi hik=>h5 i () hik⟩
 |f+1,l,r,h1,h2,h3,h4,h5=>by
  unfold nY;by_cases c:l >= r
  ·rw[aq c];exact⟨(),h4,λi hi hik=>h5 i () hik⟩
  ·rw[am c];refine⟨hp.blt (),hp.blt (),(λz=>by have:=hp.inj () () z;lia),?_⟩;show kOk lt n (if lt (gt p k) (gt p ((l+r)/2))=af then _ else _) _;by_cases d:lt (gt p k) (gt p ((l+r)/2))=af
   ·rw[aq d];refine Vm S hp hk hr f l ((l+r)/2) () () () h4 λi hi hik=>?_;by_cases e:i=(l+r)/2
    ·rw[e];exact d
    ·exact S.trans _ _ _ (hp.blt ()) (hp.blt ()) (hp.blt ()) d (hr _ i () hik)
   ·rw[am d];have up:lt (gt p ((l+r)/2)) (gt p k)=af:=S.tot _ _ (hp.blt ()) (hp.blt ()) (λz=>by have:=hp.inj () () z;lia) (eo.mpr d);refine Vm S hp hk hr f ((l+r)/2+1) r () () () (λi hi=>?_) h5;by_cases e:i=(l+r)/2
    ·rw[e];exact up
    ·exact S.trans _ _ _ (hp.blt ()) (hp.blt ()) (hp.blt ()) (hr i _ () ()) up
theorem zeD(hk:k<p.size)(hd:d<=k)(hj:j<p.size):gt (bubble p k d) j=if j=k-d then gt p k else if k-d<j/\j<=k then gt p (j-1) else gt p j:=by
 have e:=getElem?_bubble hk d hd j;rw[j9 (p:=bubble p k d) (k:=j) (by rw[bubble_size];exact hj)] at e;by_cases h1:j=k-d
 ·rw[aq h1,j9 hk] at e;rw[aq h1];exact bP e
 ·rw[am h1] at e ⊢;by_cases h2:k-d<j/\j<=k
  ·rw[aq h2,j9 ()] at e;rw[aq h2];exact bP e
  ·rw[am h2,j9 hj] at e;rw[am h2];exact bP e
theorem zeE(S:SO lt n):∀(f:Nat) {p:Array Nat} (k:Nat),PP n p->k+f=n->ZU lt p k->kOk lt n (kas_bin f p k) λp'=>PP n p'/\ZU lt p' n
 |0,p,k,hp,hk,hr=>⟨hp,by rw[<-hk];exact hr⟩
 |f+1,p,k,hp,hk,hr=>by
  have hs:=hp.size;refine j8 (vg (Vm S hp () hr k 0 k (bS _) (bn _) () (λi hi=>by lia) (λi h1 h2=>by lia)) λl ⟨x1,x2,x3⟩=>?_);refine zeE S f (k+1) (rM (bubble_perm _ _ _) hp) () λi j hij hj=>?_;rw[zeD () () (),zeD () () ()];have e:k-(k-l)=l:=by lia
  rw[e];by_cases hi:i=l
  ·rw[aq hi,am (),aq ()];exact x3 _ () ()
  ·rw[am hi];by_cases hi2:l<i/\i<=k
   ·rw[aq hi2,am (),aq ()];exact hr _ _ () ()
   ·rw[am hi2];by_cases hj1:j=l
    ·rw[aq hj1];exact x2 _ ()
    ·rw[am hj1];by_cases hj2:l<j/\j<=k
     ·rw[aq hj2];by_cases hij2:i<j-1
      ·exact hr _ _ hij2 ()
      ·lia
     ·rw[am hj2];exact hr _ _ hij ()
theorem zgg(S:SO lt n)(hn:1<=n):kOk lt n (kas_sort n) λp=>PP n p/\ZU lt p n:=by
 refine j8 (vg (zeC S (p:=rm (eI n)) (r9 _) hn) ?_);rintro r ⟨x1,x2,x3,x4⟩;by_cases h:r.1<n
 ·rw[aq h,Nat.max_eq_left x3];exact zeE S _ _ x1 () x2
 ·rw[am h];obtain e:r.1=n:=by lia
  exact⟨x1,by rw[<-e];rw[e] at x2 ⊢;exact x2⟩
end
theorem zeF{α:Type}{lt:Nat->Nat->Bool}{n:Nat}{s:ah}{cmp:Nat->Nat->(Bool->ah->Prop)->ah->Prop}(hc:∀i j C,i<n->j<n->i≠j->C (lt i j) s->cmp i j C s):∀ {t:KasT α} {R:α->Prop} {Q:α->ah->Prop},kOk lt n t R->(∀a,R a->Q a s)->t.kasWp cmp Q s
 |.ret _,_,_,h,m=>m _ h
 |.ask _ _ _,_,_,h,m=>hc _ _ _ h.1 h.2.1 h.2.2.1 (zeF hc h.2.2.2 m)
def Kp(a:D)(h h':av):Prop:=∀b o,b≠a->h.get? b=U o->h'.get? b=U o
def vV(vs:List ae)(p:Array Nat):List ae:=p.toList.map λi=>vs.getD i cF
theorem zap(vs:List ae):vV vs (rm (eI vs.length))=vs:=by
 unfold vV;apply fq;intro i;simp only[bB];by_cases h:i<vs.length
 ·rw[bb (l:=vs) h];simp[lG h,h]
 ·rw[cz (by lia:vs.length<=i)];simp;lia
section
variable {P:au}{w:aw}{A:ax}{E:ae->ah->Prop}{s:ah}
theorem Vn{a:D}{vs:List ae}{n:Nat}{κ:SortKind}{lt:Nat->Nat->Bool}{R:PySem.Fin->ah->Prop}(ho:s.heap.get? a=U (seqObj "list" vs.toArray n))(h64:vs.length<64)
  (hk:2<=vs.length->∀(h:av) (Q:SortKind->ah->Prop),Kp a s.heap h->Q κ { s with heap:=h }->Bf (Bg P w) A (keyKind' vs.toArray) Q (λ_ _=>False) { s with heap:=h })
  (hc:∀(h:av) i j C,Kp a s.heap h->i<vs.length->j<vs.length->i≠j->C (lt i j) { s with heap:=h }->kas_ask P w A κ vs i j C { s with heap:=h }) (S:SO lt vs.length)
  (fin:∀h p c,Kp a s.heap h->h.get? a=U (seqObj "list" (vV vs p).toArray c)->PP vs.length p->ZU lt p vs.length->R (.done (.ret .none)) { s with heap:=h }) :
  Bf (Bg P w) A (Builtin.«list.sort» ⟨[.ref a],[]⟩) R E s:=by
 have ha:a<s.heap.objs.size:=bH ho;obtain⟨e1,o1⟩:∃e1,(s.heap.update a (dG λ_=>(#[]:Array ae))).get? a=U (seqObj "list" #[] e1):=⟨_,get?_update_seq ho λ_=>#[]⟩;have k1:Kp a s.heap (((s.heap.update a (dG λ_=>(#[]:Array ae))).push (seqObj "tuple" vs.toArray 0)).push (seqObj "list" #[] 0)):=λb o hb e =>
  bc _ (bc _ ((dX _ _ (eW hb)).trans e))
 have o3:(((s.heap.update a (dG λ_=>(#[]:Array ae))).push (seqObj "tuple" vs.toArray 0)).push (seqObj "list" #[] 0)).get? a=U (seqObj "list" #[] e1):=bc _ (bc _ o1);have last:∀out:List ae,out.length=vs.length->∃c,((((s.heap.update a (dG λ_=>(#[]:Array ae))).push (seqObj "tuple" vs.toArray 0)).push (seqObj "list" #[] 0)).update a (dG λ_=>out.toArray)).get? a=U (seqObj "list" out.toArray c):=λout _=>⟨_,get?_update_seq o3 λ_=>out.toArray⟩;have keep2:∀out:List ae,Kp a s.heap ((((s.heap.update a (dG λ_=>(#[]:Array ae))).push (seqObj "tuple" vs.toArray 0)).push (seqObj "list" #[] 0)).update a (dG λ_=>out.toArray)):=λout b o hb e =>
  (dX _ _ (eW hb)).trans (k1 b o hb e)
 rw[list_sort_plain];refine ba (listItems_at ho Z ?_);refine ba (pH ho Z ?_ (by rw[bL,bN];lia) (bS _));refine ba (seqEpoch_at o1 Z ?_);refine ba (oK ?_ (by show vs.length<=_;rw[bN];lia));refine ba (m3 ?_ (bS _));refine eA ?_;show Bf (Bg P w) A _ R E { s with heap:=((s.heap.update a (dG λ_=>(#[]:Array ae))).push (seqObj "tuple" vs.toArray 0)).push (seqObj "list" #[] 0) };generalize hH:((s.heap.update a (dG λ_=>(#[]:Array ae))).push (seqObj "tuple" vs.toArray 0)).push (seqObj "list" #[] 0)=g at *
 dsimp only;have up:∀out:List ae,out.length=vs.length->∀p,out=vV vs p->PP vs.length p->ZU lt p vs.length->R (.done (.ret .none)) { s with heap:=g.update a (dG λ_=>out.toArray) }:=λout hl p e hp hr=>by
  obtain⟨c,hcc⟩:=last out hl;refine fin _ p c (keep2 out) ?_ hp hr;rw[<-e];exact hcc
 by_cases h2:vs.toArray.size<2
 ·have hl2:vs.length<2:=by simpa using h2
  rw[aq h2,aq h2];refine ba (bh ?_);rw[StateT.run_pure];refine ba (bh ?_);dsimp only;have ez:((vs.toArray.zip vs.toArray).map (·.2))=vs.toArray:=by
   apply nu.mp;rw[Array.toList_map,Array.toList_zip];simp[List.map_snd_zip]
  refine ba (seqEpoch_at o3 Z ?_);rw[show (arrOf (SortSt.mk' general' (vs.toArray.zip vs.toArray) #[] 7 ak))=vs.toArray.zip vs.toArray from rfl,ez];refine ba (pH o3 Z ?_ (bS _) (by rw[bL,bN];lia));simp only[bne_self_eq_false,cO,if_false];exact bh (up vs Z _ (zap vs).symm (r9 _) λi j hij hj=>by lia)
 ·have hl2:2<=vs.length:=by simpa using h2
  rw[am h2,am h2];refine ba (dF (hk hl2 g (λκ' s'=>κ'=κ/\s'={ s with heap:=g }) k1 ⟨rfl,rfl⟩) (λκ' s' hs=>?_) λ_ _ x=>x.elim);obtain⟨rfl,rfl⟩:=hs;have run:=zeF (s:={ s with heap:=g }) (cmp:=kas_ask P w A κ' vs) (λi j C hi hj hij hC=>hc g i j C k1 hi hj hij hC) (zgg S ()) (Q:=λp s'=>s'={ s with heap:=g }/\PP vs.length p/\ZU lt p vs.length) λp hp=>⟨rfl,hp⟩;refine ba (dF (kat_run (ks:=vs) (Q:=λst s'=>∃p:Array Nat,arrOf st=p.map (kas_item (vs.toArray.zip vs.toArray))/\failedOf st=ak/\s'={ s with heap:=g }/\PP vs.length p/\ZU lt p vs.length) rfl hl2 h64 (λp st s' _ a2 a3 a4=>⟨p,a2,a3,a4⟩) run) ?_ λ_ _ e=>e);rintro⟨⟨⟩,st⟩ s' ⟨p,har,hf,rfl,hp,hr⟩;dsimp only;have out:=kat_snds (ks:=vs) Z har;have ol:(vV vs p).length=vs.length:=by unfold vV;rw[bf,ck,hp.size]
  rw[out];refine ba (seqEpoch_at o3 Z ?_);refine ba (pH o3 Z ?_ (bS _) (by show (rm (vV vs p)).size<=_;rw[bL,ol,bN];lia));rw[hf];simp only[bne_self_eq_false,cO,if_false];exact bh (up (vV vs p) ol p Z hp hr)
theorem zaq{l:D}{vs:List ae}{κ:SortKind}{lt:Nat->Nat->Bool}{Q:ae->ah->Prop}(h64:vs.length<64)(S:SO lt vs.length)
  (coll:∀R:List ae->ah->Prop,(∀(h:av) (tk:Nat),(∀b o,s.heap.get? b=U o->h.get? b=U o)->R vs { s with heap:=h,toks:=tk })->Bf (Bg P w) A.in1 (collect (.ref l)) R E s)
  (hk:2<=vs.length->∀(h:av) (tk:Nat) (Q:SortKind->ah->Prop),(∀b o,s.heap.get? b=U o->h.get? b=U o)->Q κ { s with heap:=h,toks:=tk }->Bf (Bg P w) A.in1.in1 (keyKind' vs.toArray) Q (λ_ _=>False) { s with heap:=h,toks:=tk })
  (hc:∀(h:av) (tk:Nat) i j C,(∀b o,s.heap.get? b=U o->h.get? b=U o)->i<vs.length->j<vs.length->i≠j->C (lt i j) { s with heap:=h,toks:=tk }->kas_ask P w A.in1.in1 κ vs i j C { s with heap:=h,toks:=tk })
  (fin:∀(h:av) (tk:Nat) (h':av) (p:Array Nat) (c:Nat),(∀b o,s.heap.get? b=U o->h.get? b=U o)->(∀b o,h.get? b=U o->h'.get? b=U o)->h'.get? h.objs.size=U (seqObj "list" (vV vs p).toArray c)->PP vs.length p->ZU lt p vs.length->Q (.ref h.objs.size) { s with heap:=h',toks:=tk }) :
  Bf (Bg P w) A (call (.builtin "sorted") [.ref l]) Q E s:=by
 refine lZ kind_sorted ro rq (rA _) ?_;unfold Builtin.«sorted»;refine ba (m:=checkCount "sorted" 1 1 _) (bh ?_);refine ba (coll _ λh tk hk1=>?_);refine ba (m3 ?_ (by rw[bN];lia));have hoL:(h.push (seqObj "list" vs.toArray 0)).get? h.objs.size=U (seqObj "list" vs.toArray 0):=bE _ rfl;have kept:∀h',Kp h.objs.size (h.push (seqObj "list" vs.toArray 0)) h'->∀b o,h.get? b=U o->h'.get? b=U o:=λh' k b o e=>k b o (bR (bH e)) (bc _ e);refine ba (eA (c8 oN ⟨_,hoL,Z⟩ nZ (Vn (s:={ s with heap:=h.push (seqObj "list" vs.toArray 0),toks:=tk }) hoL h64 (κ:=κ) (lt:=lt) (λh2 h' Q' k q=>?_) (λh' i j C k hi hj hij q=>?_) S λh' p c k ho hp hr=>?_) (oO _)))
 ·exact hk h2 h' tk Q' (λb o e=>kept h' k b o (hk1 b o e)) q
 ·exact hc h' tk i j C (λb o e=>kept h' k b o (hk1 b o e)) hi hj hij q
 ·exact⟨_,Z,bh ⟨_,Z,fin h tk h' p c hk1 (kept h' k) ho hp hr⟩⟩
end
section
variable {lt:Nat->Nat->Bool}{n:Nat}
theorem PP.ask(h:PP n p)(hi:i<n)(hj:j<n)(hij:i≠j):gt p i<n/\gt p j<n/\gt p i≠gt p j:=⟨h.blt hi,h.blt hj,λz=>hij (h.inj hi hj z)⟩
theorem Kb{p:Array Nat}(hp:PP n p){k:Nat}(hk:k<n):∀(f l r:Nat),l<=r->r<=k->kOk lt n (nY p k f l r) λm=>m<=k
 |0,l,r,h1,h2=>bO h1 h2
 |f+1,l,r,h1,h2=>by
  unfold nY;split
  ·exact bO h1 h2
  ·obtain⟨x,y,z⟩:=hp.ask (i:=k) (j:=(l+r)/2) () () ();refine⟨x,y,z,?_⟩;show kOk lt n (if lt (gt p k) (gt p ((l+r)/2))=af then nY p k f l ((l+r)/2) else nY p k f ((l+r)/2+1) r) _;split
   ·exact Kb hp hk f l _ () ()
   ·exact Kb hp hk f _ r () ()
end
def yo(a b:Str×Int):Bool:=if a.1=b.1 then decide (a.2<b.2) else decide (a.1.cps.toList<b.1.cps.toList)
def tV(h:av)(v:ae)(q:Str×Int):Prop:=∃a o t u n,v=.ref a/\h.get? a=U o/\o.cls=.type "tuple"/\o.data=.seq #[.str q.1 t,.int q.2 u] n
section
variable {P:au}{w:aw}{A:ax}{E:ae->ah->Prop}{s:ah}
theorem zgh{Q:Bool->ah->Prop}(h:Q (decide (a.cps.toList<c.cps.toList)) s):Bf (Bg P w) A (oneLt' af (.str a t) (.str c u)) Q E s:=by
 rw[<-keyLt'_oneType];exact kas_lt_str h
theorem zgi{a c:Int}{Q:Bool->ah->Prop}(h:Q (decide (a<c)) s):Bf (Bg P w) A (oneLt' ao (.int a t) (.int c u)) Q E s:=
 kat_one _ _ (oP (show W.BoolBack Q (.bool (decide (a<c))) s from h))
theorem zdt{a b:Str×Int}{Q:Bool->ah->Prop}(hx:tV s.heap x a)(hy:tV s.heap y b)(h:Q (yo a b) s)(hn:a≠b):Bf (Bg P w) A (keyLt' (tuples' af) x y) Q E s:=by
 obtain⟨p,o,t,u,n,rfl,ho,hc,hd⟩:=hx;obtain⟨p2,o2,t2,u2,n2,rfl,ho2,hc2,hd2⟩:=hy;refine kat_lt ho hd ho2 hd2 (kat_cons (wpAny_eqBool_str (kat_go (λe=>kat_yes (kat_cons (wpAny_eqBool_int (kat_go (λe2=>?_) λe2=>kat_no ?_)))) λe=>kat_no ?_)))
 ·exact absurd (pI (of_decide_eq_true e) (by simpa using e2)) hn
 ·have e:=of_decide_eq_true e;unfold yo at h;rw[aq e] at h;exact zgi h
 ·have e:=of_decide_eq_false e;unfold yo at h;rw[am e] at h;exact zgh h
theorem zbP{vs:List ae}{qs:List (Str×Int)}{Q:SortKind->ah->Prop}(hl:vs.length=qs.length)(hv:∀(i:Nat) (v:ae) (q:Str×Int),vs[i]?=U v->qs[i]?=U q->tV s.heap v q)(h2:0<vs.length)(h:Q (tuples' af) s) :
  Bf (Bg P w) A (keyKind' vs.toArray) Q E s:=by
 have T:∀(vs:List ae) (qs:List (Str×Int)),vs.length=qs.length->(∀(i:Nat) (v:ae) (q:Str×Int),vs[i]?=U v->qs[i]?=U q->tV s.heap v q)->∃fs,KatTups s.heap vs fs/\fs.length=vs.length/\∀v∈fs,∃x t,v=gX x t:=by
  intro vs;induction vs with
  |nil=>exact λqs _ _=>⟨[],trivial,Z,λ_ z=>nomatch z⟩
  |cons v r ih =>
   intro qs hl hv
   match qs,hl with
   |q::qr,hl =>
    obtain⟨fs,k,kl,kf⟩:=ih qr (by simpa using hl) λi v' q' e1 e2=>hv (i+1) v' q' (by simpa using e1) (by simpa using e2);obtain⟨a,o,t,u,n,rfl,ho,hc,hd⟩:=hv 0 v q Z rfl;refine⟨.str q.1 t::fs,sB ho hc hd Z k,by simp[kl],λz hz=>?_⟩;rcases bu.mp hz with rfl|hz
    ·exact⟨_,_,Z⟩
    ·exact kf z hz
 obtain⟨fs,k,kl,kf⟩:=T vs qs hl hv;refine kat_kind (T:=.type "str") k () (λv hv=>?_) () h;obtain⟨x,t,rfl⟩:=kf v hv;exact Looks.of_pure rfl
end
theorem zar{x y:Str}(h:x.cps.toList=y.cps.toList):x=y:=by
 obtain⟨a⟩:=x;obtain⟨b⟩:=y;have:a=b:=nu.mp h;rw[this]
theorem Vo{qs:List (Str×Int)}(hn:qs.Nodup):SO (λi j=>yo (qs.getD i ("",0)) (qs.getD j ("",0))) qs.length where
 irr:=λi _=>by
  unfold yo;rw[aq rfl];exact Bk ()
 trans:=λi j k _ _ _ h1 h2=>by
  generalize qs.getD i ("",0)=a at *
  generalize qs.getD j ("",0)=b at *
  generalize qs.getD k ("",0)=c at *
  unfold yo at *
  by_cases e1:a.1=b.1
  ·rw[aq e1] at h1;by_cases e2:b.1=c.1
   ·rw[aq e2] at h2;rw[aq (e1.trans e2)];have h1:=of_decide_eq_true h1;have h2:=of_decide_eq_true h2;exact Bj ()
   ·rw[am e2] at h2;rw[am (by rw[e1];exact e2),e1];exact h2
  ·rw[am e1] at h1;have h1:=of_decide_eq_true h1;by_cases e2:b.1=c.1
   ·rw[am (by rw[<-e2];exact e1),<-e2];exact Bj h1
   ·rw[am e2] at h2;have h2:=of_decide_eq_true h2;have h3:=List.lt_trans h1 h2;rw[am (λz=>by rw[z] at h3;exact List.lt_irrefl _ h3)];exact Bj h3
 tot:=λi j hi hj hij h=>by
  have ne:qs.getD i ("",0)≠qs.getD j ("",0):=λz=>hij (by
   rw[bM,bM,bb hi,bb hj] at z;exact(iS hn).mp z)
  generalize qs.getD i ("",0)=a at *
  generalize qs.getD j ("",0)=b at *
  unfold yo at *
  by_cases e:a.1=b.1
  ·rw[aq e] at h;rw[aq e.symm];have h:=of_decide_eq_false h;have:a.2≠b.2:=λz=>ne (pI e z);exact Bj ()
  ·rw[am e] at h;rw[am (λz=>e z.symm)];have h:=of_decide_eq_false h;refine Bj ?_;rcases List.le_iff_lt_or_eq.mp (List.not_lt.mp h) with z|z
   ·exact z
   ·exact absurd (zar z.symm) e
end L2
namespace L2
open PySem
def sZ(h:av)(d:D)(es:Array DictEntry)(ep:Nat):Prop:=∃o,h.get? d=U o/\o.ExactDict/\o.data=.dict es ep
section
variable {P:au}{w:aw}{A:ax}{E:ae->ah->Prop}{s:ah}
theorem sZ.type(x:sZ s.heap d es ep):s.TypeIs (.ref d) "dict":=let ⟨o,ho,hc,_⟩:=x;⟨o,ho,hc.1⟩
theorem sZ.at(x:sZ h d es ep)(e:∀o,h.get? d=U o->h'.get? d=U o):sZ h' d es ep:=let ⟨o,ho,r⟩:=x;⟨o,e _ ho,r⟩
theorem zas{Q:ae->ah->Prop}(lo:(d==sysModules)=ao)(hm:sZ s.heap d es ep)
  (q:Q (.ref s.heap.objs.size) { s with heap:=s.heap.push { cls:=.type "dict_keyiterator",data:=.fields #[.ref d,.int 0 0,.int es.size 0,.int ep 0] } }):Bf (Bg P w) A (pyIter (.ref d)) Q E s:=by
 have T:=hm.type;obtain⟨o,ho,hc,hd⟩:=id hm;refine wpAny_pyIter_slot T F.slot_dict_iter (c8 F.slot_dict_iter T F.entry_dict_iter ?_ (F.args_dict_iter_1 _));unfold Builtin.«dict.__iter__»;refine ba ?_;unfold Builtin.Dict.dictSlotNone;refine ba (eZ T ?_);show Bf _ _ (pure (bI d)) _ _ s;refine bh ?_;show Bf _ _ (gj d >>= _) _ _ s;unfold gj;rw[am (by rw[lo];exact bK)];refine ba (bh ?_);refine ba (dI ho hd ?_);refine ba (gp ho hd ?_);refine ba (cQ (bh ⟨_,Z,"dict_keyiterator",_,⟨_,bE _ Z,Z⟩,F.slot_dict_keyiterator_next.lookup,?_⟩));simpa[rawInt] using q
theorem zat{Q:Option ae->ah->Prop}(hit:s.heap.IsKeyIter it d i es.size ep)(hm:sZ s.heap d es ep)(hx:es[i]?=U e)
  (q:∀h,h.IsKeyIter it d (i+1) es.size ep->cG it s.heap h->Q (U e.key) { s with heap:=h }):Bf (Bg P w) A (pyNext (.ref it)) Q E s:=by
 obtain⟨o,ho,hc,hd⟩:=id hit;obtain⟨od,hod,hcd,hdd⟩:=id hm;have lt:i<es.size:=by
  rcases gq i es.size with h|h
  ·exact h
  ·rw[iu h] at hx;cases hx
 unfold pyNext;refine ba (ie (dv (name:=bg "__next__") hit.typeIs eN (c8 eN hit.typeIs iY ?_ (iN _))));refine ba (bh ?_);refine ba ?_;refine ba ?_
 first|(refine ba (eL hit.typeIs (bh ?_)))|(refine ba (fu hit.typeIs (bh ?_)))
 refine ba (l8 ho hd ?_);have own:dL "dict_keyiterator"=ao:=by lia
 simp only[own,cO,if_false];show Bf _ _ (if (bI d==cF)=af then _ else _) _ _ s;rw[am (show ¬ ((bI d==cF)=af) from bK)];refine ba (bh ?_);refine ba (dI hod hdd ?_);rw[am (by simp)];refine ba (bh ?_);refine ba (gp hod hdd ?_);rw[am (by simp)];refine bh ?_;simp only[show ¬ ((i:Int)<0) from by lia,if_false,dZ,hx];refine ba ?_
 first|(refine ba (eL hit.typeIs (bh ?_)))|(refine ba (fu hit.typeIs (bh ?_)))
 refine ba (n9 hit.typeIs ?_);show Bf _ _ (setField (.ref it) 1 (rawInt ((i:Int)+1)) >>= _) _ _ s;refine ba (iI ho hd (by simp) ?_);have next:(s.heap.update it (Obj.mapFields (·.setIfInBounds 1 (rawInt ((i:Int)+1))))).IsKeyIter it d (i+1) es.size ep:=by
  refine⟨_,eE _ ho (nX (ic hd _)),(pW ..).trans hc,?_⟩;rw[ic hd];simp[rawInt]
 refine ba (eA ?_);refine ba (n9 (s:={ s with heap:=s.heap.update it (Obj.mapFields (·.setIfInBounds 1 (rawInt ((i:Int)+1)))) }) next.typeIs ?_);show Bf _ _ (pure e.key) _ _ _;exact bh (bh ⟨_,Z,bh (q _ next (cV ..))⟩)
theorem zcE{Q:Option ae->ah->Prop}(hh:A.handled=ak)(hit:s.heap.IsKeyIter it d i es.size ep)(hm:sZ s.heap d es ep)(hx:es.size<=i)
  (q:∀h,rZ it s.heap h->Q ak { s with heap:=h }):Bf (Bg P w) A (pyNext (.ref it)) Q E s:=by
 obtain⟨o,ho,hc,hd⟩:=id hit;obtain⟨od,hod,hcd,hdd⟩:=id hm;unfold pyNext;refine ba (ie (dv (name:=bg "__next__") hit.typeIs eN (c8 eN hit.typeIs iY ?_ (iN _))));refine ba (bh ?_);refine ba ?_;refine ba ?_
 first|(refine ba (eL hit.typeIs (bh ?_)))|(refine ba (fu hit.typeIs (bh ?_)))
 refine ba (l8 ho hd ?_);have own:dL "dict_keyiterator"=ao:=by lia
 simp only[own,cO,if_false];show Bf _ _ (if (bI d==cF)=af then _ else _) _ _ s;rw[am (show ¬ ((bI d==cF)=af) from bK)];refine ba (bh ?_);refine ba (dI hod hdd ?_);rw[am (by simp)];refine ba (bh ?_);refine ba (gp hod hdd ?_);rw[am (by simp)];refine bh ?_;simp only[show ¬ ((i:Int)<0) from by lia,if_false,dZ,iu hx];refine ba ?_
 first|(refine ba (eL hit.typeIs (bh ?_)))|(refine ba (fu hit.typeIs (bh ?_)))
 show Bf _ _ (setField (.ref it) 0 .none >>= _) _ _ s;refine ba (iI ho hd (by simp) ?_);show Bf _ _ (newExc (.type "StopIteration") [] >>= _) _ _ _;refine ba ?_;simp only[newExc,newTuple];refine ba (cQ ?_ (by size_fits));refine ba (m:=firstArgMember _ _) (wpAny_of_eq (a:=cF) (by first|rfl|(simp only[firstArgMember];rfl)) ?_);refine cQ ?_ (by size_fits);simp only[raiseNew];refine ba (pE ?_);rw[show A.in1.handled=ak from hh];refine ba (bh (wpAny_throw ?_));exact ba (nA (T:="StopIteration") (b:=af) ⟨_,bE _ Z,Z⟩ oM (bh (q _ (((cV ..).extBut.push _).push _))))
theorem zdu(hh:A.handled=ak)(I d:D)(hne:d≠I)(es:Array DictEntry)(ep:Nat) :
  Walks P w A I [I,d] [I] es.size (λi v=>∃e,es[i]?=U e/\v=e.key) (λi h=>h.IsKeyIter I d i es.size ep/\sZ h d es ep) where
 sub:=λb hb=>by simp at hb;simp[hb]
 frame:=λ_ _ _ st hk=>⟨st.1.at λo e=>hk I (by simp) o e,st.2.at λo e=>hk d (by simp) o e⟩
 item:=λi s Q E hi st hQ=>by
  refine zat st.1 st.2 (cA hi) λh' hit' hs'=>?_;exact hQ _ h' s.toks ⟨_,cA hi,Z⟩ ⟨hit',st.2.at λo e=>hs'.extBut d o hne e⟩ λb o hb e=>hs'.extBut b o (λh=>hb (by simp[h])) e
 done:=λs Q E st hQ=>zcE hh st.1 st.2 (bn _) λh' he'=>hQ h' s.toks λb o hb e=>he' b o (λh=>hb (by simp[h])) e
 self:=λ_ _ _ _ st hQ=>oB st.1 hQ
end
end L2
namespace L2
open PySem PySem.Spec PyProof.Rows
section
open PySem.SeqAt
open PySem.AutoSeq1 (wpAny_loadPart')
open PySem.MeetsSeq PySem.MeetsSeq2 PySem.MeetsSeq3
theorem Vp(l b:D)(x y:Str)(i j:Int)(t u t2 u2:Tok)(n n2:Nat)(dd dd2:Option D)(sl sl2:Array (Option ae)) :
  Meets (Builtin.«tuple.__lt__» ⟨[.ref l,.ref b],[]⟩) (λ_ R s=>s.heap.get? l=U { cls:=.type "tuple",dict:=dd,data:=.seq #[.str x t,.int i u] n,slots:=sl } /\
   s.heap.get? b=U { cls:=.type "tuple",dict:=dd2,data:=.seq #[.str y t2,.int j u2] n2,slots:=sl2 }/\R (.ok (.ret (.bool (yo (x,i) (y,j))))) s) :=
 .of_wp λprog w A R s h=>by
  obtain⟨hp,g,d,tk,os⟩:=s;obtain⟨hl,hb,h⟩:=h;have f2:=AutoSeq1.sub_tuple_tuple;have lt1:∀(E:ae->ah->Prop) (Q:ae->ah->Prop) (s:ah),Q (.bool (decide (x.cps.toList<y.cps.toList))) s->Bf (Bg prog w) A.in1 (richCompare .Lt (.str x t) (.str y t2)) Q E s:=λE Q s q=>(PyProof.Rows.lt_str q:Bf (Bg prog w) A.in1 (Bi .Lt (.str x t) (.str y t2)) Q E s);have lt2:=HT.rcLt_int A.in1 ⟨hp,g,d,tk,os⟩ i u j u2 prog w;by_cases e:x=y
  ·subst e;have eq1:=lT (A:=A.in1) (s:=⟨hp,g,d,tk,os⟩) x t x t2 prog w;rw[beq_self_eq_true] at eq1;unfold yo at h;rw[aq rfl] at h;by_cases e2:i=j
   ·subst e2;have eq2:=lS (A:=A.in1) (s:=⟨hp,g,d,tk,os⟩) i u i u2 prog w;rw[beq_self_eq_true] at eq2
    wp_walk using gu hl,gu hb,eq1,eq2
    exact⟨_,Z,by simpa[Builtin.Tuple.tupleCompareSizes] using h⟩
   ·have eq2:=lS (A:=A.in1) (s:=⟨hp,g,d,tk,os⟩) i u j u2 prog w;rw[show (i==j)=ao from by simpa using e2] at eq2
    wp_walk using gu hl,gu hb,eq1,eq2,lt2
    exact⟨_,Z,by simpa using h⟩
  ·have eq1:=lT (A:=A.in1) (s:=⟨hp,g,d,tk,os⟩) x t y t2 prog w;rw[show (x==y)=ao from by simpa using e] at eq1;unfold yo at h;rw[am e] at h
   wp_walk using gu hl,gu hb,eq1,lt1
   exact⟨_,Z,by simpa using h⟩
end
section
variable {P:au}{w:aw}{A:ax}{E:ae->ah->Prop}{s:ah}
theorem sZ.lt(x:sZ h d es ep):d<h.objs.size:=let ⟨_,ho,_⟩:=x;bH ho
theorem K4{d:D}{es:Array DictEntry}{ep:Nat}(lo:(d==sysModules)=ao):W.KdlSrc P w "dict" d d es.size (λi v=>∃e,es[i]?=U e/\v=e.key) (λh=>sZ h d es ep) where
 type:=λ_ hm=>hm.type
 there:=λ_ hm=>⟨hm.lt,hm.lt⟩
 keep:=λ_ _ hm hk=>hm.at λo e=>hk d (.inl Z) o e
 notList:=by lia
 notTuple:=by lia
 hint:=λ_ _ _ _ hm hq=>W.kdl_hint_dict hm.type hq
 iter:=λ_ _ hh hm=>⟨_,_,(λ_ _ hq=>zas lo hm hq),zdu hh _ d (bR hm.lt) es ep,⟨⟨_,bE _ Z,Z,Z⟩,hm.at λo e=>bc _ e⟩⟩
theorem Wh{G:Nat->ae->Prop}{OK:av->Prop}{R:List ae->ah->Prop}(K:W.KdlSrc P w T r d n G OK)(hh:A.handled=ak)(hok:OK s.heap)(hn:n<=Bb)
  (h:∀(h':av) (tk:Nat) (vs:List ae),(∀b o,s.heap.get? b=U o->h'.get? b=U o)->vs.length=n->(∀j v,vs[j]?=U v->G j v)->R vs { s with heap:=h',toks:=tk }) :
  Bf (Bg P w) A (collect (.ref r)) R E s:=by
 obtain⟨lr,ld⟩:=K.there _ hok;unfold collect;refine ba (wpAny_runValue (eV oC ?_));rw[dz lH _];show Bf _ A.in1 (newList [] >>= λl=>again (.builtin "list.__iadd__" ⟨[l,.ref r],[]⟩)) _ _ s;refine ba (cQ ?_);refine bh ⟨gC fH _,eV entry_list_iadd' ?_⟩;rw[dz fH _];have hS:(s.heap.push { cls:=.type "list",data:=.seq ([]:List ae).toArray }).get? s.heap.objs.size=U { cls:=.type "list",data:=.seq #[] }:=bE _ rfl;show Bf _ A.in1 (dt (.ref s.heap.objs.size) (.ref r) (.ref s.heap.objs.size)) _ _ _;have key:=W.kdl_extend (A:=A) (s:={ s with heap:=s.heap.push { cls:=.type "list",data:=.seq ([]:List ae).toArray } }) (R:=λ(q:aC) (s':ah)=>∃(h':av) (tk:Nat) (acc:Array ae) (c:Nat),q=.ok (.ret (.ref s.heap.objs.size))/\s'={ s with heap:=h',toks:=tk } /\
   (∀b o,s.heap.get? b=U o->h'.get? b=U o)/\h'.get? s.heap.objs.size=U { cls:=.type "list",dict:=ak,data:=.seq acc c,slots:=#[] }/\ItemsOf G acc n) K hh (K.keep _ _ hok λb _ o e=>bc _ e) s.heap.objs.size (eX lr) (eX ld) (.ref s.heap.objs.size) 0 hS
  (λh' tk acc c hk hS' hacc=>⟨h',tk,acc,c,Z,Z,λb o e=>hk b o (bR (bH e)) (bc _ e),hS',hacc⟩) hn
 refine dF key (λfin s' x=>?_) λe s' x=>?_
 ·cases fin with
  |done f =>
   obtain⟨h',tk,acc,c,e,rfl,hk,hS',hacc⟩:=x;cases e;show Bf _ A (load s.heap.objs.size >>= _) _ _ _;refine ba (oq hS' ?_);exact bh (h h' tk acc.toList hk (by rw[ck];exact hacc.1) λj v e=>hacc.2 j v (by rw[<-dn];exact e))
  |again c =>
   refine⟨x.1,fZ x.2 λq s' x=>?_⟩;obtain⟨h',tk,acc,c,rfl,rfl,hk,hS',hacc⟩:=x;show Bf _ A (load s.heap.objs.size >>= _) _ _ _;refine ba (oq hS' ?_);exact bh (h h' tk acc.toList hk (by rw[ck];exact hacc.1) λj v e=>hacc.2 j v (by rw[<-dn];exact e))
 ·obtain⟨h',tk,acc,c,e',_⟩:=x;cases e'
end
def zy(q:Str×Int):List aV:=[.inr q.1,.inl q.2]
abbrev zcF:RC:=λxs H Q=>∃(a:D) (aJ:List (List aV×V)) (qs:List (Str×Int)),xs=[.ref a]/\H a=U (.dT aJ)/\aJ.map (·.1)=qs.map zy/\aJ.length<64 /\
 ∀(l:D) (ps:List (D×(Str×Int))),H l=ak->(ps.map (·.2)).Perm qs->(ps.map (·.2)).Pairwise (λa b=>yo a b=af)->(∀n∈ps,H n.1=U (.tup [.str n.2.1,.int n.2.2]))->Q (.ref l) (upd H l (.lst (ps.map λn=>V.ref n.1)))
theorem yQ{α β:Type}{F:α->β->Prop}:∀ {l₁:List α} {l₂:List β},Paired F l₁ l₂->∀ {i:Nat} {a:α} {b:β},l₁[i]?=U a->l₂[i]?=U b->F a b
 |_,_,.nil,i,a,b,h,_=>by simp at h
 |_,_,.cons x r,0,a,b,h1,h2=>by
  simp only[eO,fA] at h1 h2;subst h1 h2;exact x
 |_,_,.cons x r,i+1,a,b,h1,h2=>yQ r (by simpa using h1) (by simpa using h2)
theorem tV.keep{q:Str×Int}(x:tV h v q)(k:∀b o,h.get? b=U o->h'.get? b=U o):tV h' v q:=by
 obtain⟨a,o,t,u,n,e,ho,r⟩:=x;exact⟨a,o,t,u,n,e,k _ _ ho,r⟩
section
variable {X:Cx}
theorem zau{σ:St}{H:Hp}{s:ah}{a:D}{q:Str×Int}(I:aO X aa σ H s)(h:H a=U (.tup [.str q.1,.int q.2])):tV s.heap (.ref a) q:=by
 obtain⟨its,rv,⟨o,ho,hc,n,hd⟩,_⟩:=I.tuple (sN.of h);cases rv with
 |cons r1 rr =>
  cases rr with
  |cons r2 rn =>
   cases rn;obtain⟨t,rfl⟩:=r1;obtain⟨u,rfl⟩:=r2;exact⟨a,o,t,u,n,Z,ho,hc,hd⟩
theorem xp{α β:Type}{f:α->β}:∀ {l:List α},(l.map f).Nodup->l.Nodup
 |[],_=>cr
 |a::r,h=>by
  rw[bt,bY] at h;exact bY.mpr ⟨λz=>h.1 (bC z),xp h.2⟩
theorem Y4(hc:X.calm=af):qp X (.builtin "sorted") zcF:=by
 intro aa s σ H xs us Q I r h;obtain⟨a,aJ,qs,rfl,ha,hk,h64,q⟩:=h;obtain⟨u,rfl,ru⟩:=qH r;cases ru;obtain⟨hz,lo,xs,rel,o,es,ep,ho,hx,hd,he,hn⟩:=(show aW X.prog X.w H s.heap a (.dT aJ) from I.hok a _ ha);have hh:X.A.handled=ak:=I.ok.hd hc;have lk:aJ.length=qs.length:=by have:=congrArg fG hk;simpa using this
 have lx:aJ.length=xs.length:=bF rel;have les:es.size=xs.length:=by rw[<-ck,he,bf]
 -- the keys in their order
 have key:∀(i:Nat) (x:List aV×D×ae),xs[i]?=U x->∃q,qs[i]?=U q/\x.1=zy q/\H x.2.1=U (.tup [.str q.1,.int q.2]):=λi x hx=>by
  have hi:=(bo.mp hx).1;obtain⟨kv,hkv⟩:∃kv,aJ[i]?=U kv:=⟨_,bb ()⟩;obtain⟨q,hq⟩:∃q,qs[i]?=U q:=⟨_,bb ()⟩;have rl:=yQ rel hkv hx;have e1:kv.1=zy q:=by
   have e1:(aJ.map (·.1))[i]?=U kv.1:=by rw[bB,hkv];rfl
   have e2:(qs.map zy)[i]?=U (zy q):=by rw[bB,hq];rfl
   rw[hk,e2] at e1;exact(bP e1).symm
  refine⟨q,hq,by rw[<-rl.1,e1],?_⟩;have:=rl.2.1;rw[e1] at this;exact this
 have nq:qs.Nodup:=by
  refine xp (f:=zy) ?_;have e:xs.map (·.1)=qs.map zy:=by
   rw[<-hk];apply fq;intro i;rw[bB,bB];cases hx:xs[i]? with
   |none =>
    have:xs.length<=i:=by simpa using hx
    rw[cz (by lia:aJ.length<=i)];rfl
   |some x =>
    have hi:=(bo.mp hx).1;have hkv:aJ[i]?=U aJ[i]:=bb ();rw[hkv];have:=(yQ rel hkv hx).1;simp[this]
  rw[<-e];exact hn
 have vv:∀(i:Nat) (v:ae) (q:Str×Int),(xs.map λx=>bI x.2.1)[i]?=U v->qs[i]?=U q->tV s.heap v q:=λi v q hv hq=>by
  rw[bB] at hv;obtain⟨x,hx,rfl⟩:=b9.mp hv;obtain⟨q',hq',_,hH⟩:=key i x hx;rw[hq] at hq';cases hq';exact zau I hH
 have lv:(xs.map λx=>bI x.2.1).length=qs.length:=by rw[bf];lia
 have vat:∀i,i<qs.length->tV s.heap ((xs.map λx=>bI x.2.1).getD i cF) (qs.getD i ("",0)):=λi hi=>by
  refine vv i _ _ ?_ ?_
  ·rw[bM,bb (by rw[lv];exact hi)];rfl
  ·rw[bM,bb hi];rfl
 have S:=Vo nq;rw[<-lv] at S;refine zaq (vs:=xs.map λx=>bI x.2.1) (κ:=tuples' af) (by rw[bf];lia) S (λR hR=>?_) (λh2 h tk Q' kp q'=>?_) (λh tk i j C kp hi hj hij q'=>?_) λh tk h' p c k1 k2 hD hp hr=>?_
 ·refine Wh (K4 (ep:=ep) (es:=es) lo) hh ⟨o,ho,hx,hd⟩ (by rw[les];lia) λh' tk vs kp hl hG=>?_;have ev:vs=xs.map λx=>bI x.2.1:=by
   apply fq;intro i;by_cases hi:i<vs.length
   ·obtain⟨e,hes,ek⟩:=hG i vs[i] (bb hi);have e2:es.toList[i]?=U e:=by rw[dn];exact hes
    rw[he,bB] at e2;obtain⟨x,hxx,ex⟩:=b9.mp e2;rw[bb hi,ek,bB,hxx,<-ex];rfl
   ·rw[cz (),cz (by rw[bf];lia)]
  rw[ev];exact hR h' tk kp
 ·exact zbP (s:={ s with heap:=h,toks:=tk }) lv (λi v q hv hq=>(vv i v q hv hq).keep kp) () q'
 ·rw[lv] at hi hj;refine zdt (s:={ s with heap:=h,toks:=tk }) ((vat i hi).keep kp) ((vat j hj).keep kp) q' λz=>hij ?_;rw[bM,bM,bb hi,bb hj] at z;exact(iS nq).mp z
 ·have I1:aO X aa σ H { s with heap:=h,toks:=tk }:=I.kept k1;have ps:∃ps:List (D×(Str×Int)),ps.map (λn=>bI n.1)=vV (xs.map λx=>bI x.2.1) p/\ps.map (·.2)=p.toList.map (λi=>qs.getD i ("",0))/\∀n∈ps,H n.1=U (.tup [.str n.2.1,.int n.2.2]):=by
   have pl:∀i∈p.toList,i<xs.length:=λi hi=>by
    have:i∈p:=by simpa using hi
    have:=(pG hp).mp this;rw[bf] at this;simpa using this
   refine⟨p.toList.map λi=>((xs.getD i ([],0,.none)).2.1,qs.getD i ("",0)),?_,by rw[dJ];rfl,λn hn=>?_⟩
   ·unfold vV;rw[dJ];refine dC λi hi=>?_;have:=pl i hi;simp[bM,bB,bb this]
   ·obtain⟨i,hi,rfl⟩:=bG.mp hn;have hl:=pl i hi;obtain⟨q,hq,_,hH⟩:=key i xs[i] (bb hl);have e1:xs.getD i ([],0,.none)=xs[i]:=by rw[bM,bb hl];rfl
    have e2:qs.getD i ("",0)=q:=by rw[bM,hq];rfl
    show H (xs.getD i ([],0,.none)).2.1=U (.tup [.str (qs.getD i ("",0)).1,.int (qs.getD i ("",0)).2]);rw[e1,e2];exact hH
  obtain⟨ps,e1,e2,hps⟩:=ps;have vr:aR (ps.map λn=>V.ref n.1) (ps.map λn=>bI n.1):=by
   clear e1 e2 hps;induction ps with
   |nil=>exact .nil
   |cons n r ih=>exact .cons Z ih
  have psz:p.size=xs.length:=by have:=hp.size;rw[bf] at this;exact this
  have pln:ps.length=xs.length:=by have:=congrArg fG e1;unfold vV at this;simpa[psz] using this
  have I2:aO X aa σ (upd H h.objs.size (.lst (ps.map λn=>V.ref n.1))) { s with heap:=h',toks:=tk }:=I1.laid (s:={ s with heap:=h,toks:=tk }) (a:=h.objs.size) (o:=.lst (ps.map λn=>V.ref n.1)) (t':=tk) k2 (bn _)
   ⟨by rw[bf];lia,ps.map λn=>bI n.1,c,vr,by rw[e1];exact hD⟩
  refine⟨.ref h.objs.size,_,I2,Z,q _ ps (I1.hok.fresh (bn _)) ?_ ?_ hps⟩
  ·rw[e2];have pr:p.toList.Perm (eI qs.length):=by
    have:=gF.mp hp;rw[lv] at this;simpa using this
   refine(pr.map _).trans ?_;have:(eI qs.length).map (λi=>qs.getD i ("",0))=qs:=by
    apply fq;intro i;rw[bB];by_cases hi:i<qs.length
    ·rw[lG hi,bb hi];simp[bM,bb hi]
    ·rw[cz (by simpa using hi),cz ()];rfl
   rw[this]
  ·rw[e2,gD,e9];intro i j hi hj hij;rw[ck] at hi hj;have g1:=j9 hi;have g2:=j9 hj;have r:=hr i j hij (by rw[bf];lia);have x1:p.toList[i]=gt p i:=by
    rw[cA hi] at g1;simpa using g1
   have x2:p.toList[j]=gt p j:=by
    rw[cA hj] at g2;simpa using g2
   rw[x1,x2];exact r
end
def Itd(a:D)(o:Obj)(aJ:List (List aV×V)):It :=
 ⟨λi H=>H a=U (.frz o (.dT aJ))/\i<aJ.length,λi H x H'=>H'=H/\∃k v p,aJ[i]?=U (k,v)/\x=.ref p/\H p=U (.tup (k.map kV)),λi H=>H a=U (.frz o (.dT aJ))/\aJ.length<=i⟩
section
variable {X:Cx}
theorem K7{σ:St}{H:Hp}{s:ah}{a:D}{o:Obj}{aJ:List (List aV×V)}(I:aO X aa σ H s)(ha:H a=U (.frz o (.dT aJ))) :
  (a==sysModules)=ao/\∃(es:Array DictEntry) (ep:Nat),o.data=.dict es ep/\sZ s.heap a es ep/\es.size=aJ.length/\∀(i:Nat) (e:DictEntry),es[i]?=U e->∃(k:List aV) (v:V) (p:D),aJ[i]?=U (k,v)/\e.key=bI p/\H p=U (.tup (k.map kV)):=by
 obtain⟨hg,hz,lo,xs,rel,o',es,ep,ho,hx,hd,he,hn⟩:=(show aW X.prog X.w H s.heap a (.frz o (.dT aJ)) from I.hok a _ ha);rw[hg] at ho;cases ho;have lx:aJ.length=xs.length:=bF rel;have les:es.size=xs.length:=by rw[<-ck,he,bf]
 refine⟨lo,es,ep,hd,⟨o,hg,hx,hd⟩,(),λi e hi=>?_⟩;have e2:es.toList[i]?=U e:=by rw[dn];exact hi
 rw[he,bB] at e2;obtain⟨x,hxx,ex⟩:=b9.mp e2;have hl:=(bo.mp hxx).1;have hk:aJ[i]?=U aJ[i]:=bb ();have rl:=yQ rel hk hxx;refine⟨aJ[i].1,aJ[i].2,x.2.1,hk,by rw[<-ex];rfl,rl.2.1⟩
theorem zbQ{P:au}{w:aw}{K:bx}{tg:aA}{a it:D}{o:Obj}{aJ:List (List aV×V)}{es:Array DictEntry}{ep:Nat}(hd:o.data=.dict es ep) :
  zbs P w K tg (Itd a o aJ) [it] it (λi h=>h.IsKeyIter it a i es.size ep) where
 mem:=by simp
 obj:=λi h st b hb=>by
  have e:b=it:=by simpa using hb
  subst e;obtain⟨o,e,c,d⟩:=st;exact⟨o,e,λv z=>by rw[d] at z;cases z⟩
 keep:=λi h h' st k=>st.at λo e=>k it (by simp) o e
 item:=by
  intro X hP hw hK hc i aa s σ H E I hf st hg;subst hP hw hK;obtain⟨ha,hi⟩:=hg;obtain⟨lo,es',ep',hd',raw,hs,key⟩:=K7 I ha;rw[hd] at hd';cases hd';obtain⟨f0,f1,f2,f3,f4,f5⟩:=hf it (by simp);have hx:es[i]?=U es[i]:=cA ();obtain⟨k,v,p,hk,ek,hp⟩:=key i _ hx;refine zat st raw hx λh' st' sb=>?_;have I1:aO X aa σ H { s with heap:=h' }:=I.turned (t':=s.toks) (λb o hb e=>(sb.2 b hb).trans e) f0 f1 f3 f4 f5;obtain⟨o',e,c,d⟩:=id st';exact⟨_,Z,zci (s:={ s with heap:=h' }) e c d () ⟨.ref p,H,I1,by rw[ek];rfl,⟨Z,k,v,p,hk,Z,hp⟩,st',λb hb=>(hf b hb).1⟩⟩
 done:=by
  intro X hP hw hK hc i aa s σ H E I hf st hg;subst hP hw hK;obtain⟨ha,hi⟩:=hg;obtain⟨lo,es',ep',hd',raw,hs,key⟩:=K7 I ha;rw[hd] at hd';cases hd';obtain⟨f0,f1,f2,f3,f4,f5⟩:=hf it (by simp);exact zcE (I.ok.hd hc) st raw () λh' eb=>⟨Z,I.turned (t':=s.toks) (λb o hb e=>eb b o hb e) f0 f1 f3 f4 f5⟩
 self:=λ_ _ _ _ _ st h=>oB st h
def iDT(tl:TE):TI:=λσ H R=>tl σ H λx H1=>∃a o aJ,x=.ref a/\H1 a=U (.frz o (.dT aJ))/\R (Itd a o aJ) H1
theorem zeG{tl:TE}(hl:PE X l tl):PI X tg l (iDT tl):=by
 intro aa s σ H R I h;refine hZ (hl aa s σ H _ I h) ?_;rintro v s1 ⟨x,H1,I1,r1,q1⟩;obtain⟨a,o,aJ,e,ha,q⟩:=q1;subst e;cases r1;obtain⟨lo,es,ep,hd,raw,hs,key⟩:=K7 I1 ha;refine zas lo raw ?_;refine⟨s1.heap.objs.size,[s1.heap.objs.size],_,_,H1,Z,I1.kept (t':=s1.toks) λb o e=>bc _ e,zbQ hd,⟨_,bE _ Z,Z,Z⟩,λb hb=>?_,q⟩;have e:b=s1.heap.objs.size:=by simpa using hb
 subst e;exact I1.fpOk (bn _) (I1.hok.fresh (bn _))
def zeH:HO->Prop
 |.tup _=>False
 |.own _=>False
 |.tbl _=>False
 |_=>True
theorem aO.relab{σ:St}{H:Hp}{s:ah}{a:D}{u u':HO}(I:aO X aa σ H s)(ha:H a=U u)(hp:zeH u)(hf:∀o z,X.H₀ a≠U (.frz o z))(ho:aW X.prog X.w (upd H a u') s.heap a u'):aO X aa σ (upd H a u') s:=by
 have nn:∀b,H b=ak->b≠a:=λb n z=>by subst z;rw[n] at ha;cases ha
 have ntup:∀b xs,H b=U (.tup xs)->b≠a:=λb xs q z=>by subst z;rw[ha] at q;cases q;exact hp
 have nown:∀b y,H b=U (.own y)->b≠a:=λb y q z=>by subst z;rw[ha] at q;cases q;exact hp
 have ntbl:∀b y,H b=U (.tbl y)->b≠a:=λb y q z=>by subst z;rw[ha] at q;cases q;exact hp
 refine⟨I.ok,I.os,I.bare,⟨I.base.keep,I.base.slot,λb o q n hb=>?_,I.base.there,λb xs q=>?_,λb o z q=>?_,λb ps q=>?_⟩,I.loc,I.cell,?_,λx c e=>?_,λp hp=>?_,λb v q=>?_,I.len⟩
 ·have:=I.base.free b o q n hb;rw[zl (nn b this)];exact this
 ·have:=I.base.tups b xs q;rw[zl (ntup b xs this)];exact this
 ·have:=I.base.frzs b o z q;rw[zl (λe=>hf o z (by rw[<-e];exact q))];exact this
 ·obtain⟨m,e⟩:=I.base.tbls b ps q;exact⟨m,by rw[zl (ntbl b _ e)];exact e⟩
 ·rw[zl (nn _ I.free)];exact I.free
 ·have:=I.freeC x c e;rw[zl (nn _ this)];exact this
 ·obtain⟨h1,h2,h3⟩:=I.pin p hp;exact⟨h1,by rw[zl (nn _ h2)];exact h2,h3⟩
 ·by_cases hb:b=a
  ·subst hb;rw[zi] at q;cases q;exact ho
  ·rw[zl hb] at q;exact(I.hok b v q).stay (λ_ _ _ r=>r) (λc r=>by rw[zl (nown c b r)];exact r) λc xs r=>by rw[zl (ntup c xs r)];exact r
def ziH(t:TS):TS:=λBp σ H=>∃a u0 aJ,H a=U u0/\(u0=.dT aJ\/∃o,u0=.frz o (.dT aJ))/\∀o,t
 ⟨λσ' H'=>H' a=U (.frz o (.dT aJ))/\Bp.nx σ' (upd H' a u0),λv H'=>H' a=U (.frz o (.dT aJ))/\Bp.rt v (upd H' a u0),λσ' H'=>H' a=U (.frz o (.dT aJ))/\Bp.bk σ' (upd H' a u0),λσ' H'=>H' a=U (.frz o (.dT aJ))/\Bp.ct σ' (upd H' a u0)⟩ σ (upd H a (.frz o (.dT aJ)))
theorem aW.upd_dT{H:Hp}(ha:H a=U u)(hp:zeH u)(x:aW P w H h a (.dT aJ)):aW P w (upd H a u') h a (.dT aJ):=by
 refine x.stay (λ_ _ _ r=>r) (λc r=>?_) λc xs r=>?_
 ·rw[zl λz=>by subst z;rw[ha] at r;cases r;exact hp];exact r
 ·rw[zl λz=>by subst z;rw[ha] at r;cases r;exact hp];exact r
theorem zhM{st:ay}{t:TS}(hst:PS X st t):PS X st (ziH t):=by
 rintro aa s σ H Bp I ⟨a,u0,aJ,ha,hu,h⟩;have pl:zeH u0:=by rcases hu with rfl|⟨o,rfl⟩ <;> trivial
 -- the object as it stands
 have ob:∃o,s.heap.get? a=U o/\(u0=.dT aJ\/u0=.frz o (.dT aJ)):=by
  rcases hu with rfl|⟨o,rfl⟩
  ·obtain⟨hz,lo,xs,rel,o,es,ep,ho,_⟩:=(show aW X.prog X.w H s.heap a (.dT aJ) from I.hok a _ ha);exact⟨o,ho,.inl Z⟩
  ·exact⟨o,(show aW X.prog X.w H s.heap a (.frz o (.dT aJ)) from I.hok a _ ha).1,.inr Z⟩
 obtain⟨o,ho,hu⟩:=ob;have I1:aO X aa σ (upd H a (.frz o (.dT aJ))) s:=by
  rcases hu with rfl|rfl
  ·refine I.relab ha trivial (λo' z q=>?_) ⟨ho,aW.upd_dT ha trivial (I.hok a _ ha)⟩;have:=I.base.frzs a o' z q;rw[ha] at this;cases this
  ·have e:upd H a (.frz o (.dT aJ))=H:=by
    funext b;unfold upd;split
    ·next z=>rw[z];exact ha.symm
    ·rfl
   rw[e];exact I
 have back:∀ {σ':St} {H':Hp} {s':ah},aO X aa σ' H' s'->H' a=U (.frz o (.dT aJ))->aO X aa σ' (upd H' a u0) s':=λ{σ' H' s'} I' ha'=>by
  rcases hu with rfl|rfl
  ·refine I'.relab ha' trivial (λo' z q=>?_) (aW.upd_dT ha' trivial (show aW X.prog X.w H' s'.heap a (.frz o (.dT aJ)) from I'.hok a _ ha').2);have:=I.base.frzs a o' z q;rw[ha] at this;cases this
  ·have e:upd H' a (.frz o (.dT aJ))=H':=by
    funext b;unfold upd;split
    ·next z=>rw[z];exact ha'.symm
    ·rfl
   rw[e];exact I'
 refine hZ (hst aa s σ _ _ I1 (h o)) λf s' q=>?_;cases f with
 |next=>obtain⟨σ',H',I',ha',q⟩:=q;exact⟨σ',_,back I' ha',q⟩
 |brk=>obtain⟨σ',H',I',ha',q⟩:=q;exact⟨σ',_,back I' ha',q⟩
 |cont=>obtain⟨σ',H',I',ha',q⟩:=q;exact⟨σ',_,back I' ha',q⟩
 |ret v=>obtain⟨x,σ',H',I',r,ha',q⟩:=q;exact⟨x,σ',_,back I' ha',r,q⟩
end
section
variable {σ:St}{H:Hp}{nx:St->Hp->Prop}{Bn:V->St->Hp->(St->Hp->Prop)->Prop}
theorem zbR(Pv:Nat->St->Hp->Prop)(h0:Pv 0 σ H)(hl:∀i σ H,Pv i σ H->H a=U (.frz o (.dT aJ)))
  (hs:∀i k v p σ H,aJ[i]?=U (k,v)->H p=U (.tup (k.map kV))->Pv i σ H->Bn (.ref p) σ H (Pv (i+1))) (hd:∀σ H,Pv aJ.length σ H->nx σ H) :
  ∃W:Nat->Nat->St->Hp->Prop,(∃m,W 0 m σ H)/\∀i m σ H,W i m σ H->((Itd a o aJ).stop i H/\nx σ H)\/((Itd a o aJ).go i H/\∃N:St->Hp->Prop,(∀σ' H',N σ' H'->∃m',m'<m/\W (i+1) m' σ' H')/\∀x H',(Itd a o aJ).yld i H x H'->Bn x σ H' N):=by
 refine⟨λi m σ H=>m=aJ.length-i/\i<=aJ.length/\Pv i σ H,⟨aJ.length,by simp,bS _,h0⟩,?_⟩;rintro i m σ H ⟨rfl,hi,L⟩;by_cases hlt:i<aJ.length
 ·refine .inr ⟨⟨hl i σ H L,hlt⟩,Pv (i+1),λσ' H' p'=>⟨aJ.length-(i+1),(),Z,hlt,p'⟩,?_⟩;rintro x H' ⟨rfl,k,v,p,hk,rfl,hp⟩;exact hs i k v p σ _ hk hp L
 ·obtain rfl:i=aJ.length:=by lia
  exact .inl ⟨⟨hl _ σ H L,bn _⟩,hd σ H L⟩
end
mutual
inductive Dat (K:bx) (H:Hp):V->PyData->Prop
 |non:Dat K H .non .none
 |bl (b:Bool):Dat K H (.bl b) (.bool b)
 |int (i:Int):Dat K H (.int i) (.int i)
 |str (x:Str):Dat K H (.str x) (.str x)
 |lst {a:D} {xs:List V} {ds:List PyData}:aT K H a xs->XQ K H xs ds->Dat K H (.ref a) (.list ds)
 |tup {a:D} {xs:List V} {ds:List PyData}:sN K H a xs->XQ K H xs ds->Dat K H (.ref a) (.tuple ds)
inductive XQ (K:bx) (H:Hp):List V->List PyData->Prop
 |nil:XQ K H [] []
 |cons {x:V} {d:PyData} {xs:List V} {ds:List PyData}:Dat K H x d->XQ K H xs ds->XQ K H (x::xs) (d::ds)
end
section
variable {K:bx}{H H':Hp}
theorem aT.mono(k:aL H H')(h:aT K H a xs):aT K H' a xs:=by
 rcases h with (h|⟨o,h⟩)|h
 ·exact .inl (.inl (k _ _ h))
 ·exact .inl (.inr ⟨o,k _ _ h⟩)
 ·exact .inr h
end
mutual
def zbS:PyData->Bool
 |.none=>af
 |.int _=>af
 |.str x=>cN x
 |.list xs=>ZO xs
 |.tuple xs=>ZO xs
 |.bool _=>ao
 |.dict _=>ao
def ZO:List PyData->Bool
 |[]=>af
 |x::xs=>zbS x&&ZO xs
end
abbrev zav(neg:Bool):R2:=λx y H Q=>∃a o,y=.ref a/\sR H a x o/\Q (.bl (if neg then !o.isSome else o.isSome)) H
section
variable {X:Cx}
theorem WZ(hu:X.A.units+1<cLine):tN X (Bi .In) (zav ao):=by
 intro aa s σ H x y v u Q I rx ry h;obtain⟨a,o,rfl,g,q⟩:=h;cases ry;exact ziX hu I g rx λs' I'=>⟨.bl _,H,I',Z,q⟩
theorem Vq(hu:X.A.units+1<cLine):tN X (Bi .NotIn) (zav af):=by
 intro aa s σ H x y v u Q I rx ry h;obtain⟨a,o,rfl,g,q⟩:=h;cases ry;exact zf1 hu I g rx λs' I'=>⟨.bl _,H,I',Z,q⟩
end
end L2
namespace L2
open PySem
abbrev Pl:=Str×Int
abbrev aP:=Pl×Int
def zD:List aP->Pl->Option Int
 |[],_=>ak
 |r::t,p=>(zD t p).or (if r.1=p then U r.2 else ak)
def Y5(aJ:List (List aV×V))(q:aP):List (List aV×V):=yI aJ (zy q.1) (.int q.2)
def sJ(aK:List aP):List (List aV×V):=aK.foldl Y5 []
theorem yL{p q:Pl}(h:zy p=zy q):p=q:=by
 unfold zy at h;simp only[gy,Sum.inr.injEq,Sum.inl.injEq,and_true] at h;exact pI h.1 h.2
theorem zaw:∀(aK:List aP) (aJ:List (List aV×V)) (p:Pl),yf (aK.foldl Y5 aJ) (zy p)=((zD aK p).map V.int).or (yf aJ (zy p))
 |[],_,_=>rfl
 |r::t,aJ,p=>by
  rw[eU,zaw t,zD];show _=_;rw[Y5,Va];cases zD t p with
  |some w=>rfl
  |none =>
   by_cases e:r.1=p
   ·subst e;simp
   ·rw[am (λz=>e (yL z).symm)];simp[e]
theorem wq(aK:List aP)(p:Pl):yf (sJ aK) (zy p)=(zD aK p).map V.int:=by
 unfold sJ;rw[zaw,Q8];cases zD aK p <;> rfl
theorem qP(aK:List aP)(q:aP):sJ (aK++[q])=yI (sJ aK) (zy q.1) (.int q.2):=by
 unfold sJ;rw[List.foldl_append];rfl
def OkKv(aJ:List (List aV×V)):Prop:=(aJ.map (·.1)).Nodup/\∀kv∈aJ,∃(p:Pl) (w:Int),kv=(zy p,.int w)
theorem OkKv.put(h:OkKv aJ)(p:Pl)(w:Int):OkKv (yI aJ (zy p) (.int w)):=by
 cases e:yf aJ (zy p) with
 |none =>
  refine⟨zf3 _ h.1 e,λkv hk=>?_⟩;rw[vS _ e] at hk;rcases bw.mp hk with hk|hk
  ·exact h.2 kv hk
  ·exact⟨p,w,bp.mp hk⟩
 |some v =>
  have q:(aJ.any λkv=>decide (kv.1=zy p))=af:=by rw[ve,e];rfl
  unfold yI;rw[aq q];constructor
  ·rw[dJ];have:((λx:List aV×V=>x.1) ∘ λkv:List aV×V=>if kv.1=zy p then (kv.1,V.int w) else kv)=λx=>x.1:=by
    funext kv
    show (if kv.1=zy p then (kv.1,V.int w) else kv).1=kv.1;split <;> rfl
   rw[this];exact h.1
  ·intro kv hk;obtain⟨z,hz,rfl⟩:=bG.mp hk;by_cases e:z.1=zy p
   ·exact⟨p,w,by rw[aq e,e]⟩
   ·rw[am e];exact h.2 z hz
theorem Kc:∀(aK:List aP) (aJ:List (List aV×V)),OkKv aJ->OkKv (aK.foldl Y5 aJ)
 |[],_,h=>h
 |r::t,aJ,h=>Kc t _ (h.put r.1 r.2)
theorem kg(aK:List aP):OkKv (sJ aK):=Kc aK [] ⟨cr,λ_ h=>nomatch h⟩
theorem zgj(aJ:List (List aV×V))(k:List aV)(v:V):(yI aJ k v).length<=aJ.length+1:=by
 unfold yI;split
 ·rw[bf];lia
 ·rw[bD];simp
theorem zax:∀(aK:List aP) (aJ:List (List aV×V)),(aK.foldl Y5 aJ).length<=aJ.length+aK.length
 |[],_=>by simp
 |r::t,aJ=>by
  have:=zax t (Y5 aJ r);have:=zgj aJ (zy r.1) (.int r.2);rw[eU,bW];unfold Y5 at *
  lia
theorem wZ(aK:List aP):(sJ aK).length<=aK.length:=by have:=zax aK [];simpa[sJ] using this
theorem K8{aJ:List (List aV×V)}:(aJ.map (·.1)).Nodup->∀kv∈aJ,yf aJ kv.1=U kv.2:=by
 induction aJ with
 |nil=>exact λ_ kv h=>nomatch h
 |cons a r ih =>
  intro hn kv hk;rw[bt,bY] at hn;rcases bu.mp hk with rfl|hk
  ·exact yM rfl
  ·rw[yN λz=>hn.1 (by rw[z];exact bC hk)];exact ih hn.2 kv hk
theorem tR :kv∈sJ aK↔∃p w,kv=(zy p,.int w)/\zD aK p=U w:=by
 constructor
 ·intro h;obtain⟨p,w,rfl⟩:=(kg aK).2 kv h;have:=K8 (kg aK).1 _ h;rw[wq] at this;obtain⟨w',e1,e2⟩:=b9.mp this;cases e2;exact⟨p,w,Z,e1⟩
 ·rintro⟨p,w,rfl,h⟩;have e:yf (sJ aK) (zy p)=U (.int w):=by rw[wq,h];rfl
  obtain⟨kv,hk,e1⟩:=bG.mp (zct e);have:=K8 (kg aK).1 _ hk;rw[e1,e] at this;have e2:kv=(zy p,V.int w):=pI e1 (bP this).symm;rw[<-e2];exact hk
theorem jo(a:Pl):yo a a=ao:=by
 unfold yo;rw[aq rfl];exact Bk ()
theorem Jf{a b c:Pl}(h1:yo a b=af)(h2:yo b c=af):yo a c=af:=by
 unfold yo at *
 by_cases e1:a.1=b.1
 ·rw[aq e1] at h1;by_cases e2:b.1=c.1
  ·rw[aq e2] at h2;rw[aq (e1.trans e2)];have h1:=of_decide_eq_true h1;have h2:=of_decide_eq_true h2;exact Bj ()
  ·rw[am e2] at h2;rw[am (by rw[e1];exact e2),e1];exact h2
 ·rw[am e1] at h1;have h1:=of_decide_eq_true h1;by_cases e2:b.1=c.1
  ·rw[am (by rw[<-e2];exact e1),<-e2];exact Bj h1
  ·rw[am e2] at h2;have h2:=of_decide_eq_true h2;have h3:=List.lt_trans h1 h2;rw[am (λz=>by rw[z] at h3;exact List.lt_irrefl _ h3)];exact Bj h3
def sV(l:List aP):Prop:=l.Pairwise λa b=>yo a.1 b.1=af
def zay(aK out:List aP):Prop:=sV out/\∀p w,(p,w)∈out↔zD aK p=U w/\w≠0
theorem sV.nd(h:sV l):(l.map (·.1)).Nodup:=by
 unfold gU;rw[gD];exact mG (λ{a b} h z=>by rw[z,jo] at h;cases h) h
theorem Kd{p:Pl}:∀ {l:List aP},(∀r∈l,r.1≠p)->zD l p=ak
 |[],_=>rfl
 |r::t,h=>by
  rw[zD,Kd λr hr=>h r (bq _ hr),am (h r br)];rfl
theorem W0{p:Pl}{w:Int}:∀ {l:List aP},(l.map (·.1)).Nodup->(zD l p=U w↔(p,w)∈l)
 |[],_=>by simp[zD]
 |r::t,hn=>by
  rw[bt,bY] at hn;have ih:=W0 (p:=p) (w:=w) hn.2;by_cases e:r.1=p
  ·have z:zD t p=ak:=Kd λq hq zz=>hn.1 (by rw[e,<-zz];exact bC hq);rw[zD,z,aq e];constructor
   ·intro h;have:r.2=w:=by simpa using h
    rw[<-e,<-this];exact br
   ·intro h;rcases bu.mp h with h|h
    ·rw[<-h];rfl
    ·exact absurd (bC (f:=(·.1)) h) (by rw[<-e];exact hn.1)
  ·rw[zD,am e,Option.or_none,ih,bu];constructor
   ·exact .inr
   ·rintro(h|h)
    ·exact absurd (by rw[<-h]) e
    ·exact h
theorem Ym:∀ {a b:List aP},sV a->sV b->(∀x,x∈a↔x∈b)->a=b
 |[],[],_,_,_=>rfl
 |[],y::_,_,_,h=>absurd ((h y).mpr br) (by simp)
 |x::_,[],_,_,h=>absurd ((h x).mp br) (by simp)
 |x::a,y::b,ha,hb,h=>by
  unfold sV at ha hb;rw[pJ] at ha hb;have e:x=y:=by
   rcases bu.mp ((h x).mp br) with e|e
   ·exact e
   ·rcases bu.mp ((h y).mpr br) with e'|e'
    ·exact e'.symm
    ·have:=Jf (ha.1 y e') (hb.1 x e);rw[jo] at this;cases this
  subst e;have nx:x ∉ a:=λz=>by have:=ha.1 x z;rw[jo] at this;cases this
  have ny:x ∉ b:=λz=>by have:=hb.1 x z;rw[jo] at this;cases this
  rw[Ym ha.2 hb.2 λz=>?_];constructor
  ·intro hz;rcases bu.mp ((h z).mp (bq _ hz)) with e|e
   ·subst e;exact absurd hz nx
   ·exact e
  ·intro hz;rcases bu.mp ((h z).mpr (bq _ hz)) with e|e
   ·subst e;exact absurd hz ny
   ·exact e
theorem xK{α:Type} [DecidableEq α]:∀ {a b:List α},a.Nodup->(∀x∈a,x∈b)->a.length<=b.length
 |[],_,_,_=>bS _
 |x::a,b,hn,h=>by
  rw[bY] at hn;have hx:=h x br;have:=xK (a:=a) (b:=b.erase x) hn.2 λy hy=>(oE λz=>hn.1 (by rw[<-z];exact hy)).mpr (h y (bq _ hy));rw[List.length_erase_of_mem hx] at this;have:0<b.length:=List.length_pos_of_mem hx;rw[bW];lia
end L2
namespace L2
open PySem PySem.Spec PyProof.Rows
def ZL(z a b i j p q:D)(k:Nat)(h:av):Prop:=IsZip h z a b .none/\IsPair h a (.ref i) (.ref j)/\(∃u v,IsPair h b u v)/\h.IsListIter i p k/\h.IsListIter j q k
def zeI(K:bx)(p q:D)(xs ys:List V):It:=⟨λi H=>i<xs.length/\aT K H p xs/\aT K H q ys,λi H x H'=>∃T u v,x=.ref T/\H T=ak/\H'=upd H T (.tup [u,v])/\xs[i]?=U u/\ys[i]?=U v,λi H=>xs.length<=i/\aT K H p xs/\aT K H q ys⟩
theorem zdv{P:au}{w:aw}{K:bx}{elts:List aA}{x1}{pos:Pos}{z a b i j p q:D}{xs ys:List V}(Bp:ZipApart z a b i j p q)(hl:xs.length=ys.length) :
  zbs P w K (.Tuple elts x1 pos) (zeI K p q xs ys) [z,a,b,i,j] z (ZL z a b i j p q) where
 mem:=by simp
 obj:=λk h st c hc=>by
  obtain⟨hz,ha,⟨u,v,hb⟩,⟨oi,hi,ci,di⟩,⟨oj,hj,cj,dj⟩⟩:=st;simp only[bu,cf,or_false] at hc;rcases hc with rfl|rfl|rfl|rfl|rfl
  ·exact⟨_,hz,λv z=>by cases z⟩
  ·exact⟨_,ha,λv z=>by cases z⟩
  ·exact⟨_,hb,λv z=>by cases z⟩
  ·exact⟨_,hi,λv z=>by rw[di] at z;cases z⟩
  ·exact⟨_,hj,λv z=>by rw[dj] at z;cases z⟩
 keep:=λk h h' st kk=>by
  obtain⟨hz,ha,⟨u,v,hb⟩,⟨oi,hi,ci⟩,⟨oj,hj,cj⟩⟩:=st;exact⟨kk z (by simp) _ hz,kk a (by simp) _ ha,⟨u,v,kk b (by simp) _ hb⟩,⟨oi,kk i (by simp) _ hi,ci⟩,⟨oj,kk j (by simp) _ hj,cj⟩⟩
 item:=by
  intro X hP hw hK hc k aa s σ H E I hf st hg;subst hP hw hK;obtain⟨hlt,h1,h2⟩:=hg;obtain⟨us,r1,p1,_⟩:=I.list h1;obtain⟨vs,r2,p2,_⟩:=I.list h2;obtain⟨u,hu,ru⟩:=r1.get (i:=k) (x:=xs[k]) (bb hlt);obtain⟨v,hv,rv⟩:=r2.get (i:=k) (x:=ys[k]'(hl ▸ hlt)) (bb (hl ▸ hlt));have sub:∀c∈[z,b,i,j],c∈[z,a,b,i,j]:=λc hc=>by
   simp only[bu,cf,or_false] at hc ⊢;rcases hc with h|h|h|h <;> simp[h]
  have old:∀c∈[z,a,b,i,j],c≠s.heap.objs.size:=λc hc=>by
   obtain⟨hz,ha,⟨u,v,hb⟩,⟨oi,hi,ci⟩,⟨oj,hj,cj⟩⟩:=st;simp only[bu,cf,or_false] at hc;rcases hc with rfl|rfl|rfl|rfl|rfl
   ·exact bR (bH hz)
   ·exact bR (bH ha)
   ·exact bR (bH hb)
   ·exact bR (bH hi)
   ·exact bR (bH hj)
  obtain⟨hz,ha,⟨u0,v0,hb⟩,hi,hj⟩:=st;refine wpAny_pyNext_zip_item Bp hz ha hb hi hj p1.isList p2.isList (x:=u) (y:=v) (by simpa using hu) (by simpa using hv) λh z8 b5 i5 j5 t5 sz k5=>?_;have I6:aO X aa σ (upd H s.heap.objs.size (.tup [xs[k],ys[k]'(hl ▸ hlt)])) { s with heap:=s.heap.push { cls:=.type "tuple",data:=.seq #[u,v] } } :=
   I.laid (a:=s.heap.objs.size) (o:=.tup [xs[k],ys[k]'(hl ▸ hlt)]) (t':=s.toks) (λb u e=>bc _ e) (bn _) ⟨by show 2<=Bb;decide,[u,v],.cons ru (.cons rv .nil),⟨_,bE _ Z,Z,_,Z⟩⟩
  have free:∀c∈[z,a,b,i,j],upd H s.heap.objs.size (HO.tup [xs[k],ys[k]'(hl ▸ hlt)]) c=ak:=λc hc=>by rw[zl (old c hc)];exact(hf c hc).1
  have fz:∀c∈[z,a,b,i,j],qB X aa (upd H s.heap.objs.size (HO.tup [xs[k],ys[k]'(hl ▸ hlt)])) c:=λc hc=>⟨free c hc,(hf c hc).2⟩;refine⟨.ref s.heap.objs.size,Z,lY z8 λh2 z9 sb2=>?_⟩;have up:∀c o,c≠z->h.get? c=U o->h2.get? c=U o:=λc o hc e=>by
   rw[show h2.get? c=h.get? c from sb2.2 c hc];exact e
  have I7:aO X aa σ (upd H s.heap.objs.size (.tup [xs[k],ys[k]'(hl ▸ hlt)])) { s with heap:=h2 }:=I6.turnedL (s:={ s with heap:=s.heap.push { cls:=.type "tuple",data:=.seq #[u,v] } }) (t':=s.toks) (ch:=[z,b,i,j]) (λc o hc e=>by
   simp only[bu,cf,or_false,not_or] at hc;refine up c o hc.1 ?_;rcases oF (show (s.heap.push { cls:=.type "tuple",data:=.seq #[u,v] }).get? c=U o from e) with ⟨rfl,rfl⟩|e
   ·exact t5
   ·exact k5 c o hc.1 hc.2.1 hc.2.2.1 hc.2.2.2 e) λc hc=>fz c (sub c hc)
  refine⟨.ref s.heap.objs.size,_,I7,Z,⟨_,_,_,Z,I.hok.fresh (bn _),Z,bb hlt,bb (hl ▸ hlt)⟩,?_,free⟩;have ka:h.get? a=_:=k5 a _ Bp.TIz Bp.TITO Bp.TIi1 Bp.TIi2 ha;obtain⟨oi,hi,ci⟩:=i5;obtain⟨oj,hj,cj⟩:=j5;exact⟨z9,up a _ Bp.TIz ka,⟨_,_,up b _ Bp.TOz b5⟩,⟨oi,up i _ Bp.i1z hi,ci⟩,⟨oj,up j _ Bp.i2z hj,cj⟩⟩
 done:=by
  intro X hP hw hK hc k aa s σ H E I hf st hg;subst hP hw hK;obtain⟨hlt,h1,h2⟩:=hg;obtain⟨us,r1,p1,_⟩:=I.list h1;obtain⟨vs,r2,p2,_⟩:=I.list h2;have hl1:=r1.length;obtain⟨hz,ha,⟨u0,v0,hb⟩,hi,hj⟩:=st;refine wpAny_pyNext_zip_end (I.ok.hd hc) Bp hz ha hb hi hj p1.isList p2.isList (.inl (by simp;lia)) λh hk=>⟨Z,I.turnedL (t':=s.toks) (ch:=[z,b,i,j]) (λc o hc e=>?_) λc hc=>hf c ?_⟩
  ·simp only[bu,cf,or_false,not_or] at hc;exact hk c o hc.1 hc.2.1 hc.2.2.1 hc.2.2.2 e
  ·simp only[bu,cf,or_false] at hc ⊢;rcases hc with h|h|h|h <;> simp[h]
 self:=λ_ _ _ _ _ st h=>iX st.1 h
section
variable {σ:St}{H:Hp}{nx:St->Hp->Prop}{Bn:V->St->Hp->(St->Hp->Prop)->Prop}
theorem zdw{K:bx}(xs ys:List V)(Pv:Nat->St->Hp->Prop)(h0:Pv 0 σ H)(hl:∀i σ H,Pv i σ H->aT K H p xs/\aT K H q ys)
  (hs:∀i u v T σ H,xs[i]?=U u->ys[i]?=U v->H T=ak->Pv i σ H->Bn (.ref T) σ (upd H T (.tup [u,v])) (Pv (i+1))) (hd:∀σ H,Pv xs.length σ H->nx σ H) :
  ∃W:Nat->Nat->St->Hp->Prop,(∃m,W 0 m σ H)/\∀i m σ H,W i m σ H->((zeI K p q xs ys).stop i H/\nx σ H)\/((zeI K p q xs ys).go i H/\∃N:St->Hp->Prop,(∀σ' H',N σ' H'->∃m',m'<m/\W (i+1) m' σ' H')/\∀x H',(zeI K p q xs ys).yld i H x H'->Bn x σ H' N):=by
 refine⟨λi m σ H=>m=xs.length-i/\i<=xs.length/\Pv i σ H,⟨xs.length,by simp,bS _,h0⟩,?_⟩;rintro i m σ H ⟨rfl,hi,L⟩;by_cases hlt:i<xs.length
 ·refine .inr ⟨⟨hlt,hl i σ H L⟩,Pv (i+1),λσ' H' p'=>⟨xs.length-(i+1),(),Z,hlt,p'⟩,?_⟩;rintro x H' ⟨T,u,v,rfl,hT,rfl,hu,hv⟩;exact hs i u v T σ H hu hv hT L
 ·obtain rfl:i=xs.length:=by lia
  exact .inl ⟨⟨bn _,hl _ σ H L⟩,hd σ H L⟩
end
theorem ZP:plainId "dict.update.loop"=af:=by lia
theorem Ke:entryFor table "dict.update.loop"=U Builtin.«dict.update.loop»:=entryFor_of_fast (by kernel_rfl)
section
variable {X:Cx}{A:ax}{R:aC->ah->Prop}
def PrAt(H:Hp)(v:V)(q:aP):Prop:=∃r p,v=.ref r/\H r=U (.tup [.ref p,.int q.2])/\H p=U (.tup [.str q.1.1,.int q.1.2])
theorem zdx{σ:St}{H:Hp}{s:ah}{d b:D}{aJ:List (List aV×V)}{k:List aV}{v:V}{u:ae}{E:ae->ah->Prop}{Q:Unit->ah->Prop}(hu:A.units+1<cLine)(I:aO X aa σ H s)(e:H d=U (.dT aJ))(eb:H b=U (.tup (k.map kV)))(l:aJ.length<Bb)(rv:aU v u)
  (h:∀h' tk,aO X aa σ (upd H d (.dT (yI aJ k v))) { s with heap:=h',toks:=tk }->cG d s.heap h'->Q PUnit.unit { s with heap:=h',toks:=tk }):Bf (Bg X.prog X.w) A.in1 (dictSet d (.ref b) u) Q E s:=by
 obtain⟨z,hd,xs,rel,dd⟩:=zab I.hok e;have hz:xs.length<=Bb:=by rw[<-bF rel];exact z
 have hl:(yI aJ k v).length<=Bb:=by have:=wa aJ k v;lia
 refine wpAny_dictSet_heap (hsz:=hz) (dN hu) (kG I.hok eb) dd λh' dd' hs=>h _ _ ?_ hs;obtain⟨q,es,ep,hq,h2,h3,h4,_,h5⟩:=dd';refine ZJ I (by rw[e];exact eJ) hs ⟨q,hq⟩ ⟨hl,hd,_,(rel.put k eb rv).keeps λc ys ec=>?_,q,es,ep,hq,h2,h3,h4,h5⟩;rw[zl (zJ ec e ())];exact ec
theorem zeJ{σ:St}{H:Hp}{d it l:D}{xs:List V}{aK:List aP}{res:ae}(hu:A.units+1<cLine)(hh:A.handled=ak)(hd:H d=ak)(hl:H l=U (.lst xs))(hr:Paired (PrAt H) xs aK)(h63:aK.length<=1000)(dit:it≠d)(lit:l≠it) :
  ∀(k i:Nat) (s:ah),aK.length-i=k->i<=aK.length->aO X aa σ (upd H d (.dT (sJ (aK.take i)))) s->s.heap.IsListIter it l i->(∀u,qB X aa (upd H d u) it) ->
  (∀s',aO X aa σ (upd H d (.dT (sJ aK))) s'->R (.ok (.ret res)) s') ->
  codeAny (Bg X.prog X.w) A (.builtin "dict.update.loop" ⟨[.ref d,.ref it,rawInt i,res],[]⟩) R s:=by
 have lx:xs.length=aK.length:=bF hr;have S:∀u:HO,aL H (upd H d u):=λu=>sQ (o:=u) d hd;intro k;induction k with
 |zero =>
  intro i s hk hi I st hf fin;have e:i=aK.length:=by lia
  subst e;refine eV Ke ?_;rw[dz ZP _];show Bf _ A.in1 (pyNext (.ref it) >>= _) _ _ s;obtain⟨its,rv,p,hz⟩:=I.list (aT.of (S _ _ _ hl));obtain⟨f0,f1,f2,f3,f4,f5⟩:=hf (.dT (sJ (aK.take aK.length)));have hl2:=rv.length;refine ba (nO hh st p.isList (by simp;lia) λh' eb=>?_);have I1:=I.turned (t':=s.toks) (λb o hb e=>eb b o hb e) f0 f1 f3 f4 f5;rw[cM] at I1;show Bf _ A.in1 (Builtin.Dict.addKeywords d [] >>= _) _ _ _;exact ba (bh (bh (fin _ I1)))
 |succ k ih =>
  intro i s hk hi I st hf fin;have hlt:i<aK.length:=by lia
  refine eV Ke ?_;rw[dz ZP _];show Bf _ A.in1 (pyNext (.ref it) >>= _) _ _ s;obtain⟨its,rv,p,hz⟩:=I.list (aT.of (S _ _ _ hl));obtain⟨f0,f1,f2,f3,f4,f5⟩:=hf (.dT (sJ (aK.take i)));have hx:xs[i]?=U xs[i]:=bb ();have hq:aK[i]?=U aK[i]:=bb hlt;obtain⟨r,pl,e1,t1,u1⟩:=yQ hr hx hq;obtain⟨u,hu',ru⟩:=rv.get hx;rw[e1] at ru;cases ru;refine ba (nD st p.isList (x:=.ref r) (by simpa using hu') λh' st' sb=>?_);have I1:=I.turned (t':=s.toks) (λb o hb e=>(sb.2 b hb).trans e) f0 f1 f3 f4 f5;obtain⟨tis,tv,⟨o,ho,hc,n,hdt⟩,_⟩:=I1.tuple (sN.of (S _ _ _ t1));cases tv with
  |cons r1 rr =>
   cases rr with
   |cons r2 rn =>
    cases rn;cases r1;obtain⟨tk,rfl⟩:=r2;refine ba (eA ?_);have T:({ s with heap:=h' }:ah).TypeIs (.ref r) "tuple":=⟨o,ho,hc⟩;refine ba (wpAny_tryCatch ?_);unfold Builtin.Dict.pairItems;refine ba (rB T ?_);rw[aq ()];refine ba ?_;unfold seqItems?;refine ba (oq ho ?_);rw[hdt];refine bh (bh ?_);show Bf _ _ (holding [.ref pl,.int aK[i].2 tk] (dictSet d (.ref pl) (.int aK[i].2 tk))) _ _ _;refine eA ?_;have tk2:sJ (aK.take (i+1))=yI (sJ (aK.take i)) (zy aK[i].1) (.int aK[i].2):=by rw[cq,hq,<-qP];rfl
    have l2:(sJ (aK.take i)).length<Bb:=by
     have h1:=wZ (aK.take i);have h2:=List.length_take_le' i aK;exact b6 (by lia:_<=1000) ()
    refine zdx (k:=zy aK[i].1) (v:=.int aK[i].2) hu I1 zi (S _ _ _ u1) l2 ⟨tk,Z⟩ λh2 tk3 I2 sb2=>?_;rw[WU,<-tk2] at I2;refine bh ⟨gC ZP _,ih (i+1) _ () hlt I2 (st'.at λo e=>(sb2.2 it dit).trans e) hf fin⟩
end
theorem K9:typeLookup (.type "list") "keys"=pure ak:=by rw[typeLookup_type,builtinLookup_eq_fast];kernel_rfl
section
variable {prog:au}{w:aw}{A:ax}{E:ae->ah->Prop}{s:ah}{a:D}{o:Obj}{xs:Array ae}{k:Nat}
theorem Vr{Q:Option ae->ah->Prop}(hx:s.heap.get? a=U o)(hc:o.cls=.type "list")(hdat:o.data=.seq xs k)(hd:o.dict=ak)(hA:A.handled=ak)
  (h:∀h' tk,(∀b ob,s.heap.get? b=U ob->h'.get? b=U ob)->Q ak { s with heap:=h',toks:=tk }):Bf (Bg prog w) A (getAttr? (.ref a) "keys") Q E s:=by
 obtain⟨c,dct,dat,sl⟩:=o;simp only at hc hdat hd;subst hc hdat hd;obtain⟨hp,g,d,tk,os⟩:=s;have hT:∀tk',(⟨hp,g,d,tk',os⟩:ah).TypeIs (.ref a) "list":=λ_=>⟨_,hx,Z⟩;have f1:=sub_AttributeError;have f3:=F.slot_list_getattribute.lookup;have f4:=F.slot_list_getattribute.bind (.ref a);have f5:=am_list_getattr_none;unfold getAttr? getAttrBy? getAttrBy
 repeat (any_goals (first|assumption|exact hT _|((with_reducible show Bf _ _ (call (Value.builtin "list.__getattribute__") _ _) _ _ _);refine iD F.slot_list_getattribute (hT _) am_entry_list_getattribute (F.args_list_getattribute_2 _ _) (meets_getattribute_miss_list a xs k sl "keys" _ K9 () ()) ⟨hx,hA,λh' tk' e hx'=>?_⟩)|wp_step))
 obtain⟨t',u',he⟩:=hx'.there;have kp:=hx'.keeps;show Bf _ _ (getattributeRaised _ _ _ _ _ _ _) _ _ _;unfold getattributeRaised
 repeat (any_goals (first|assumption|wp_step))
 all_goals exact h _ _ λb ob e=>kp b ob e
end
theorem hu3(r:sG k A):A.units+3<cLine:=by have:=zgc r;lia
abbrev zcG:RC:=λvs H Q=>∃(a:D) (xs:List V) (aK:List aP),vs=[.ref a]/\H a=U (.lst xs)/\Paired (PrAt H) xs aK/\aK.length<=1000/\∀p,H p=ak->Q (.ref p) (upd H p (.dT (sJ aK)))
section
variable {X:Cx}
theorem vt(hc:X.calm=af)(hu:X.A.units+3<cLine):qp X (.type "dict") zcG:=by
 intro aa s σ H vs us Q I r h;obtain⟨a,xs,aK,rfl,ha,hr,hl,q⟩:=h;obtain⟨u,rfl,ru⟩:=qH r;cases ru;have hh:X.A.handled=ak:=I.ok.hd hc;refine callType_codes (Q₁:=λobj s₁=>obj=.ref s.heap.objs.size/\s₁={ s with heap:=s.heap.push { cls:=.type "dict",data:=.dict #[] } }) F.kt_called_dict (F.kt_typeCall_dict_1 _) F.entry_dict_init (kt_code_dict_new _ ⟨rfl,rfl⟩) ?_;rintro obj s₁ ⟨rfl,rfl⟩;have T0:({ s with heap:=s.heap.push { cls:=.type "dict",data:=.dict #[] } }:ah).TypeIs (.ref s.heap.objs.size) "dict":=⟨_,bE _ rfl,rfl⟩;refine⟨T0,F.args_dict_init_2 _ _,?_⟩;unfold Builtin.«dict.__init__»;refine ba ?_;unfold Builtin.Dict.selfAndRest;refine ba (eZ T0 ?_);show Bf _ _ (pure (s.heap.objs.size,[bI a])) _ _ _;refine bh ?_;show Bf _ _ (m4 "dict.__init__" s.heap.objs.size (.ref a) [] .none) _ _ _;unfold m4;have hn:H s.heap.objs.size=ak:=I.hok.fresh (bn _);have S:∀u:HO,aL H (upd H s.heap.objs.size u):=λu=>sQ (o:=u) _ hn;have I1:aO X aa σ (upd H s.heap.objs.size (.dT [])) { s with heap:=s.heap.push { cls:=.type "dict",data:=.dict #[] } } :=
  I.laid (a:=s.heap.objs.size) (o:=.dT []) (t':=s.toks) (λb o z=>bc _ z) (bn _) (zad s.heap I.big)
 obtain⟨its,rv,pl,_⟩:=I1.list (aT.of (S _ _ _ ha));obtain⟨o,n,ho,oc,od,odat⟩:=id pl;have T1:({ s with heap:=s.heap.push { cls:=.type "dict",data:=.dict #[] } }:ah).TypeIs (.ref a) "list":=⟨o,ho,oc⟩;refine ba (rB T1 ?_);rw[aq ()];refine ba (Vr ho oc odat od (by exact hh) λh2 tk2 k2=>?_);rw[aq (show (ak:Option ae).isNone=af from rfl)];refine ba (lh ?_);have I2:aO X aa σ (upd H s.heap.objs.size (.dT [])) { s with heap:=h2,toks:=tk2 }:=I1.kept k2;obtain⟨its2,rv2,pl2,_⟩:=I2.list (aT.of (S _ _ _ ha));refine ba (wpAny_pyIter_list pl2.isList ?_);have I3:aO X aa σ (upd H s.heap.objs.size (.dT (sJ (aK.take 0)))) { s with heap:=h2.push { cls:=.type "list_iterator",data:=.fields #[.ref a,.int 0 0] },toks:=tk2 }:=I2.kept (t':=tk2) λb o e=>bc _ e;refine bh ⟨gC ZP _,?_⟩;have lt:s.heap.objs.size<h2.objs.size:=bH (k2 s.heap.objs.size _ (bE _ Z));have la:a<h2.objs.size:=by obtain⟨_,_,z,_⟩:=pl2;exact bH z
 refine zeJ (A:=X.A.in1) (H:=H) (d:=s.heap.objs.size) (it:=h2.objs.size) (l:=a) (xs:=xs) (aK:=aK) (res:=.none) ?_ hh hn ha hr hl (eX lt) (bR la) aK.length 0 _ () (bS _) I3 ⟨_,bE _ Z,Z,Z⟩ (λu=>?_) λs' I'=>⟨Z,.ref s.heap.objs.size,_,I',Z,q _ hn⟩
 ·have e:X.A.in1.units=X.A.units+1:=rfl;lia
 ·refine I2.fpOk (bn _) ?_;rw[zl (eX lt)];have:=I2.hok.fresh (bn h2.objs.size);rw[zl (eX lt)] at this;exact this
end
section
variable {X:Cx}{k:Nat}{f C:D}{fd:Bc}{ps:List Str}{sp:Sp}{m:Str}{pos sC:Pos}{e o:aA}{es:List aA}{ta:TE}{t:TA}
def zbT(C:D)(m:Str)(sp:Sp)(ta:TE)(t:TA)(EX:EXK):TE:=λσ H Q=>ta σ H λx H1=>∃a dx fs,x=.ref a/\H1 a=U (.ins C dx fs)/\fs.lookup m=ak /\
 t σ H1 λvs H2=>sp (x::(vs++[])) H2 Q λcls _ H3=>EX cls σ H3
theorem zaz{pl:Sem Bool}(he:PE X.nox o ta)(c:tD X.K C)(hm:KK X.K C m f)(F:mt X.prog X.w X.K X.mg X.base (tQ X.prog X.w) k f fd ps sp)(hr:sG k X.A)(hb:sI X.K fd ps [])(ha:PA X.nox (e::es) t)
  (hst:Be (e::es) X.env=(ao,eval e X.env)::Be es X.env:=by rfl) (hpl:(backTo pos (Be es X.env)).any (·.1)=ao:=by rfl)
  (ht:eval (.Call (.Attribute o m sC) (e::es) [] pos) X.env=(do
   let ov <-eval o X.env
   standAt sC.atName
   let (f,first) <-holding [ov] (getMethod ov m pl)
   callWith pos f first (backTo pos (Be (e::es) X.env)) (backToKw pos (keywordEach [] X.env))):=by rfl) :
  PEX X (.Call (.Attribute o m sC) (e::es) [] pos) (zbT C m sp ta t):=by
 intro aa s σ H Q EX I h;refine lz (pl:=pl) (dF (he aa s σ H _ (I.wish _) h) (?_) λ_ _ z=>c9 z) ht;rintro u s1 ⟨x,H1,I1',rx,a,dx,fs,ex,ea,l,q⟩;subst ex;obtain rfl:u=bI a:=rx;have I1:=I1'.unwish;refine kE I1 ea c hm l ?_;refine lR (first:=[.ref a]) (h₀:=X.base) I.ok.mod.kin hm.kp (dF (ha pos aa s1 σ H1 _ (I1.wish _) q) (λus s2 ⟨vs,H2,I2',r,q2⟩=>⟨I2'.kIn,?_⟩) λ_ _ z=>c9 z) hst hpl;have I2:=I2'.unwish;have r2:aR (V.ref a::(vs++[])) (bI a::(us++[])):=.cons Z (r.append .nil);have hl:((bI a::us)++[]).length=ps.length:=by
  have e:=r2.length;rw[F.len _ _ _ _ q2] at e;exact e.symm
 refine pQ (fZ (F.run X.A X.stack s2 H2 ⟨.ref a::us,[]⟩ ((.ref a::us)++[]) (.ref a::(vs++[])) _ _ hr I2.env0 (hb s2 (.ref a::us) I2.kIn hl) r2 q2) λr s' hq=>?_);cases r with
 |error ev =>
  obtain⟨e,cls,H',rfl,os,bare,un,hok,xf,hE⟩:=hq;exact⟨e,cls,σ,s2,H2,H',Z,I2,I2.call' (ch:=[]) os un hok bare (λb z=>nomatch z),xf,hE⟩
 |ok fl =>
  cases fl with
  |ret u=>exact I2.after hq
  |next=>exact c9 hq
  |brk=>exact c9 hq
  |cont=>exact c9 hq
end
def zeK(K:bx)(tb:EXK->TS)(C1:D)(th1:TS)(C2:D)(th2:TS):TS:=λBp σ H=>tb (λcls σ1 H1=>∃C,cls=.ref C /\
 ((iJ K (.ref C) (.ref C1)=U af/\th1 Bp σ1 H1)\/(iJ K (.ref C) (.ref C1)=U ao/\iJ K (.ref C) (.ref C2)=U af/\th2 Bp σ1 H1))) Bp σ H
section
variable {X:Cx}{st b₀ b₁:ay}{suite suite1:List ay}{tb:EXK->TS}{th1 th2:TS}{c1 c2:Str}{C1 C2:D}{np hpos np2 hpos2 pos:Pos}
theorem zeL(hst:X.stack=X.env::X.outer/\X.env.frame=U X.env.locals)(hex:X.ex=[])(hb:PSX X st tb)(hg1:Gl X c1)(hm1:X.mg c1=U (.ref C1))(hg2:Gl X c2)(hm2:X.mg c2=U (.ref C2))
  (hs1:∀e,PSs (X.sub e) (b₀::suite) th1) (hs2:∀e,PSs (X.sub e) (b₁::suite1) th2) (hdb1:(c1==("__debug__":Str))=ao:=by lia) (hdb2:(c2==("__debug__":Str))=ao:=by lia) :
  PS X (.Try [st] [.ExceptHandler (U (.Name c1 np)) ak (b₀::suite) hpos,.ExceptHandler (U (.Name c2 np2)) ak (b₁::suite1) hpos2] [] [] pos) (zeK X.K tb C1 th1 C2 th2):=by
 intro aa s σ H Bp I h;refine wpAny_Try_except (iT (dF (hb aa s σ H Bp _ I h) (λf s1 q=>?_) λev s1 q=>?_))
 ·cases f with
  |next=>exact eS (eS q)
  |ret v=>exact q
  |brk=>exact q
  |cont=>exact q
 obtain⟨e,cls,σ1,s0,H0,H1,rfl,I0,I1,xf,C,rfl,hth⟩:=q;obtain⟨oe,vs,a0,T,oT,ts,h1,h2,h3,h4,h5,h6,h7,h8,h9,h10,h11,h12⟩:=xf;have fr:s1.heap.FunFrames (gJ s1.heap (tq X.stack++[e,T])) (X.env::X.outer):=by
  have q:=iW (as:=tq X.stack++[e,T]) I1.stack λenv he a ha=>cp _ (fV.mpr ⟨env,he,ha⟩);rw[hst.1] at q ⊢;exact q
 have two:∀b∈[e,T],s0.heap.get? b=ak/\H1 b=ak:=λb z=>by
  have z':b=e\/b=T:=by simpa using z
  rcases z' with rfl|rfl
  ·exact⟨h9,h11⟩
  ·exact⟨h10,h12⟩
 have hcs:∀b∈[e,T],H1 b=ak/\X.s₀.heap.get? b=ak:=λb z=>⟨(two b z).2,j6 (I0.there0 hex) (two b z).1⟩;have hcp:∀b∈[e,T],∀p∈X.pn++aa,p.1≠b:=λb z p hp q=>by
  have:=(I0.pin p hp).1;rw[q,(two b z).1] at this;cases this
 refine wpAny_looks_onW (base:=gJ s1.heap (tq X.stack++[e,T])) (a0:=a0) (cls:=.ref C) (by rw[I1.ok.frames,hst.1]) hst.2
  ⟨λb o q=>lP _ q,fS _ (bJ _ (by simp)),fr,oe,vs,T,oT,ts,h1,h2,h3,h4,fS _ (bJ _ (by simp)),h5,h6,h7,h8⟩ λg4 held4 sm4=>?_
 refine wpAny_landsW held4 λg5 fly5 sm5=>?_;have hB:∀ {g:av},(gJ s1.heap (tq X.stack++[e,T])).StaysIn g->∀b o,s1.heap.get? b=U o->b ∉ tq X.stack->b ∉ [e,T]->g.get? b=U o :=
  λ{g} k b o q n1 n2=>k b o (i8 _ q λz=>(bw.mp z).elim n1 n2)
 have I5:aO X aa σ1 H1 { s1 with heap:=g5 }:=I1.land hex hcs hcp (hB fly5.1) (sm4.trans sm5);have K5:=I5.kIn;have ty5:si (Bg X.prog X.w) g5 (typeOf (.ref e)) (.ref C):=by
  obtain⟨o,p1,p2⟩:=fly5.there;exact p2 ▸ (pX p1).andThen .now
 have run:∀ {b₂:ay} {su:List ay} {th:TS} {hp:Pos} {R:aC->ah->Prop},(∀e,PSs (X.sub e) (b₂::su) th)->th Bp σ1 H1->(∀f s',SP X aa Bp f s'->R (.ok f) s') ->
   codeAny (Bg X.prog X.w) (X.A.mark (U (.ref e))) (.handlers (.ref e) [.ExceptHandler ak ak (b₂::su) hp] X.env) R { s1 with heap:=g5 }:=λ{b₂ su th hp R} hs hth hR=>by
  refine nI (lands_againW fly5 λg6 fly6 sm6=>?_);have I6:aO X aa σ1 H1 { s1 with heap:=g6 }:=I1.land hex hcs hcp (hB fly6.1) ((sm4.trans sm5).trans sm6);refine dF (hs e aa _ σ1 H1 Bp I6.toSub hth) (λf s9 q=>hR f s9 ?_) λ_ _ z=>c9 z;cases f with
  |next=>obtain⟨σ9,H9,J,z⟩:=q;exact⟨σ9,H9,aO.ofSub (J:=I) J,z⟩
  |brk=>obtain⟨σ9,H9,J,z⟩:=q;exact⟨σ9,H9,aO.ofSub (J:=I) J,z⟩
  |cont=>obtain⟨σ9,H9,J,z⟩:=q;exact⟨σ9,H9,aO.ofSub (J:=I) J,z⟩
  |ret u=>obtain⟨v,σ9,H9,J,r,z⟩:=q;exact⟨v,σ9,H9,aO.ofSub (J:=I) J,r,z⟩
 refine lI (iO ?_) (by intro q;cases q);refine wW (X:=X.sub e) (I5.toSub (e:=e)) hg1 hm1 ?_ hdb1;rcases hth with ⟨hx,ht⟩|⟨hx,hx2,ht⟩
 ·refine(W.exm_one K5 ty5 hx).here ?_;exact run hs1 ht λf s' q=>q
 ·refine(W.exm_one K5 ty5 hx).here ?_;show Bf _ _ (handleBy (.ref e) X.env _) _ _ _;refine lI (iO ?_) (by intro q;cases q);refine wW (X:=X.sub e) (I5.toSub (e:=e)) hg2 hm2 ?_ hdb2;refine(W.exm_one K5 ty5 hx2).here ?_;exact run hs2 ht λf s' q=>q
end
end L2
namespace L2
open PySem
def rk(aJ:List (aV×V))(ps:List V):Except Er Int:=match wM aJ ps [] with
 |.ok [i]=>.ok i
 |.ok _=>.error .stuck
 |.error e=>.error e
theorem Good.rk{r:Except Er Int}(h:Good aJ ps r):L2.rk aJ ps=r:=by
 unfold L2.rk;rw[h.1 []];cases r <;> rfl
theorem zeM(hs:xc aJ)(hv:kK v){st st':List Int}(h:∀x∈st,sP x=af)(e:wJ aJ st v=.ok st'):∀x∈st',sP x=af:=by
 unfold wJ at e;split at e
 ·split at e
  ·rename_i w b a r hr hj;unfold j7 at e;by_cases c1:Vl w/\b=0
   ·rw[aq c1] at e;cases e
   ·rw[am c1] at e;by_cases c2:sP (Vk w a b)=af
    ·rw[aq c2] at e;cases e;intro x hx;rcases bw.mp hx with hx|hx
     ·refine h x (rN.mp ?_);rw[hr];exact bq _ (bq _ (rN.mp hx))
     ·rw[bp.mp hx];exact c2
    ·rw[am c2] at e;cases e
  ·cases e
 ·cases e;intro x hx;rcases bw.mp hx with hx|hx
  ·exact h x hx
  ·rw[bp.mp hx];exact zan hs hv
theorem zcH{aJ:List (aV×V)}(hs:xc aJ):∀ {ps:List V} {st st':List Int},(∀v∈ps,kK v)->(∀x∈st,sP x=af)->wM aJ ps st=.ok st'->∀x∈st',sP x=af
 |[],st,st',_,h,e=>by cases e;exact h
 |v::r,st,st',hp,h,e=>by
  unfold wM at e;split at e
  ·rename_i st1 e1;exact zcH hs (λv hv=>hp v (bq _ hv)) (zeM hs (hp v br) h e1) e
  ·cases e
theorem zeN(hs:xc aJ)(hp:∀v∈ps,kK v){i:Int}(e:rk aJ ps=.ok i):sP i=af:=by
 unfold rk at e;split at e
 ·rename_i j hj;cases e;exact zcH hs hp (λ_ z=>absurd z cf) hj i br
 ·cases e
 ·cases e
def aZ(e:List V):Prop:=(∀aJ,∃r,Good aJ e r)/\(∀v∈e,kK v)/\e.length<=1000
theorem aZ.good(h:aZ e)(aJ:List (aV×V)):Good aJ e (rk aJ e):=by
 obtain⟨r,g⟩:=h.1 aJ;rw[g.rk];exact g
mutual
inductive Rw where
 |take (sh:Str) (e:List V) (sl:Str)
 |give (sh:Str) (e f:List V)
 |lt (sl:Str) (e:List V)
 |say (e:List V)
 |off (e:List V)
 |iff (e:List V) (a b:dl)
inductive dl where
 |nil
 |cons (r:Rw) (rs:dl)
end
set_option genSizeOf false in
set_option genInjectivity false in
structure Sta where
 sl:List (aV×V)
 wo:List aP
 sa:List Int
inductive Res where
 |go (s:Sta)
 |off
 |er (e:Er)
mutual
def goR:Rw->Sta->Res
 |.take sh e sl,s=>match rk s.sl e with
  |.ok n=>.go { s with sl:=yI s.sl (.inr sl) (.int ((zD s.wo (sh,n)).getD 0)) }
  |.error x=>.er x
 |.give sh e f,s=>match rk s.sl e with
  |.ok n=>(match rk s.sl f with
   |.ok w=>.go { s with wo:=s.wo++[((sh,n),w)] }
   |.error x=>.er x)
  |.error x=>.er x
 |.lt sl e,s=>match rk s.sl e with
  |.ok n=>.go { s with sl:=yI s.sl (.inr sl) (.int n) }
  |.error x=>.er x
 |.say e,s=>match rk s.sl e with
  |.ok n=>.go { s with sa:=s.sa++[n] }
  |.error x=>.er x
 |.off e,s=>match rk s.sl e with
  |.ok n=>if n=0 then .go s else .off
  |.error x=>.er x
 |.iff e a b,s=>match rk s.sl e with
  |.ok n=>if n=0 then zgk b s else zgk a s
  |.error x=>.er x
def zgk:dl->Sta->Res
 |.nil,s=>.go s
 |.cons r rs,s=>match goR r s with
  |.go s'=>zgk rs s'
  |x=>x
end
mutual
def hU(F:D->Prop)(H:Hp)(v:V):Rw->Prop
 |.take sh e sl=>∃r te,v=.ref r/\F r/\F te/\H r=U (.tup [.str "take",.str sh,.ref te,.str sl])/\H te=U (.tup e)
 |.give sh e f=>∃r te tf,v=.ref r/\F r/\F te/\F tf/\H r=U (.tup [.str "give",.str sh,.ref te,.ref tf])/\H te=U (.tup e)/\H tf=U (.tup f)
 |.lt sl e=>∃r te,v=.ref r/\F r/\F te/\H r=U (.tup [.str "let",.str sl,.ref te])/\H te=U (.tup e)
 |.say e=>∃r te,v=.ref r/\F r/\F te/\H r=U (.tup [.str "say",.ref te])/\H te=U (.tup e)
 |.off e=>∃r te,v=.ref r/\F r/\F te/\H r=U (.tup [.str "off",.ref te])/\H te=U (.tup e)
 |.iff e a b=>∃r te la lb xs ys,v=.ref r/\F r/\F te/\F la/\F lb/\H r=U (.tup [.str "if",.ref te,.ref la,.ref lb])/\H te=U (.tup e)/\H la=U (.lst xs)/\pv F H xs a/\H lb=U (.lst ys)/\pv F H ys b
def pv(F:D->Prop)(H:Hp)(vs:List V):dl->Prop
 |.nil=>vs=[]
 |.cons r rs=>∃v ws,vs=v::ws/\hU F H v r/\pv F H ws rs
end
mutual
theorem hU.to_{F G:D->Prop}{H H':Hp}(g:∀b o,F b->H b=U o->G b)(s:∀b o,F b->H b=U o->H' b=U o):∀ {v:V} (r:Rw),hU F H v r->hU G H' v r
 |v,.take sh e sl,h=>by
  unfold hU at h ⊢;obtain⟨r,te,e1,f1,f2,e2,e3⟩:=h;exact⟨r,te,e1,g _ _ f1 e2,g _ _ f2 e3,s _ _ f1 e2,s _ _ f2 e3⟩
 |v,.give sh e f,h=>by
  unfold hU at h ⊢;obtain⟨r,te,tf,e1,f1,f2,f3,e2,e3,e4⟩:=h;exact⟨r,te,tf,e1,g _ _ f1 e2,g _ _ f2 e3,g _ _ f3 e4,s _ _ f1 e2,s _ _ f2 e3,s _ _ f3 e4⟩
 |v,.lt sl e,h=>by
  unfold hU at h ⊢;obtain⟨r,te,e1,f1,f2,e2,e3⟩:=h;exact⟨r,te,e1,g _ _ f1 e2,g _ _ f2 e3,s _ _ f1 e2,s _ _ f2 e3⟩
 |v,.say e,h=>by
  unfold hU at h ⊢;obtain⟨r,te,e1,f1,f2,e2,e3⟩:=h;exact⟨r,te,e1,g _ _ f1 e2,g _ _ f2 e3,s _ _ f1 e2,s _ _ f2 e3⟩
 |v,.off e,h=>by
  unfold hU at h ⊢;obtain⟨r,te,e1,f1,f2,e2,e3⟩:=h;exact⟨r,te,e1,g _ _ f1 e2,g _ _ f2 e3,s _ _ f1 e2,s _ _ f2 e3⟩
 |v,.iff e a b,h=>by
  unfold hU at h ⊢;obtain⟨r,te,la,lb,xs,ys,e1,f1,f2,f3,f4,e2,e3,e4,e5,e6,e7⟩:=h;exact⟨r,te,la,lb,xs,ys,e1,g _ _ f1 e2,g _ _ f2 e3,g _ _ f3 e4,g _ _ f4 e6,s _ _ f1 e2,s _ _ f2 e3,s _ _ f3 e4,pv.to_ g s a e5,s _ _ f4 e6,pv.to_ g s b e7⟩
theorem pv.to_{F G:D->Prop}{H H':Hp}(g:∀b o,F b->H b=U o->G b)(s:∀b o,F b->H b=U o->H' b=U o):∀ {vs:List V} (r:dl),pv F H vs r->pv G H' vs r
 |vs,.nil,h=>by
  unfold pv at h ⊢;exact h
 |vs,.cons r rs,h=>by
  unfold pv at h ⊢;obtain⟨v,ws,e1,e2,e3⟩:=h;exact⟨v,ws,e1,hU.to_ g s r e2,pv.to_ g s rs e3⟩
end
theorem hU.to{F G:D->Prop}{H H':Hp}(r:Rw)(g:∀b o,F b->H b=U o->G b)(s:∀b o,F b->H b=U o->H' b=U o)(h:hU F H v r):hU G H' v r:=hU.to_ g s r h
theorem pv.to{F G:D->Prop}{H H':Hp}(r:dl)(g:∀b o,F b->H b=U o->G b)(s:∀b o,F b->H b=U o->H' b=U o)(h:pv F H vs r):pv G H' vs r:=pv.to_ g s r h
theorem hU.mono{F:D->Prop}{H H':Hp}(s:aL H H')(h:hU F H v r):hU F H' v r:=h.to r (λ_ _ f _=>f) (λb o _ e=>s b o e)
theorem pv.mono{F:D->Prop}{H H':Hp}(s:aL H H')(h:pv F H vs r):pv F H' vs r:=h.to r (λ_ _ f _=>f) (λb o _ e=>s b o e)
def RlAt(F:D->Prop)(H:Hp)(v:V)(r:dl):Prop:=∃a xs,v=.ref a/\F a/\H a=U (.lst xs)/\pv F H xs r
theorem RlAt.to{F G:D->Prop}{H H':Hp}(g:∀b o,F b->H b=U o->G b)(s:∀b o,F b->H b=U o->H' b=U o)(h:RlAt F H v r):RlAt G H' v r:=by
 obtain⟨a,xs,e,f,e1,e2⟩:=h;exact⟨a,xs,e,g _ _ f e1,s _ _ f e1,pv.to r g s e2⟩
abbrev Jg:D->Prop:=λ_=>True
theorem RlAt.any{F:D->Prop}{H:Hp}(h:RlAt F H v r):RlAt Jg H v r:=h.to (λ_ _ _ _=>trivial) λb o _ e=>e
mutual
def qQ:Rw->Prop
 |.take _ e _=>aZ e
 |.give _ e f=>aZ e/\aZ f
 |.lt _ e=>aZ e
 |.say e=>aZ e
 |.off e=>aZ e
 |.iff e a b=>aZ e/\Z3 a/\Z3 b
def Z3:dl->Prop
 |.nil=>True
 |.cons r rs=>qQ r/\Z3 rs
end
mutual
def Rw.deep:Rw->Nat
 |.iff _ a b=>max a.deep b.deep+1
 |_=>0
def dl.deep:dl->Nat
 |.nil=>0
 |.cons r rs=>max r.deep rs.deep
end
mutual
def Rw.cnt:Rw->Nat
 |.iff _ a b=>max a.cnt b.cnt+1
 |_=>1
def dl.cnt:dl->Nat
 |.nil=>0
 |.cons r rs=>r.cnt+rs.cnt
end
abbrev ItA(h:av)(it d:D)(i n ep:Nat)(o0:ae)(f:Bool)(ok ov:ae):Prop :=
 h.get? it=U { cls:=.type "dict_itemiterator",dict:=ak,data:=.fields #[o0,.bool f,.ref d,.int i 0,.int n 0,.int ep 0,ok,ov],slots:=#[] }
section
variable {P:au}{w:aw}{A:ax}{E:ae->ah->Prop}{s:ah}
theorem zeO{Q:ae->ah->Prop}(hv:s.heap.IsItemsView v d)(hm:sZ s.heap d es ep)
  (q:Q (.ref s.heap.objs.size) { s with heap:=s.heap.push { cls:=.type "dict_itemiterator",data:=.fields #[.none,.bool ao,.ref d,.int 0 0,.int es.size 0,.int ep 0,.none,.none] } }):Bf (Bg P w) A (pyIter (.ref v)) Q E s:=by
 obtain⟨ov,hov,hcv,hdv⟩:=id hv;obtain⟨o,ho,hc,hdat⟩:=id hm;refine wpAny_pyIter_slot hv.typeIs nJ (c8 nJ hv.typeIs F.entry_dict_items_iter ?_ (F.args_dict_items_iter_1 _));unfold Builtin.«dict_items.__iter__»;refine ba (bh ?_);refine ba ?_;unfold Builtin.Dict_items.dictOf;refine ba (dD hov hdv (x:=.ref d) Z (bh ?_));refine ba ?_;unfold Builtin.Dict_items.newIterator;refine ba (dI ho hdat ?_);refine ba (gp ho hdat ?_);have own:dL "dict_itemiterator"=af:=by lia
 simp only[own,if_true];refine cQ (bh ⟨_,Z,"dict_itemiterator",_,⟨_,bE _ Z,Z⟩,F.slot_dict_itemiterator_next.lookup,?_⟩) (by simp only[sizeOk,gR,bL,bD,bW,nR,bN];lia);simpa[rawInt,gR] using q
theorem zeP{Q:Option ae->ah->Prop}(hit:ItA s.heap it d i es.size ep o0 f ok ov)(hm:sZ s.heap d es ep)(hx:es[i]?=U e)
  (ho0:(o0=.none/\f=ao)\/∃(a:D) (oa:Obj),o0=rawInt (a:Nat)/\s.heap.get? a=U oa/\a≠it)
  (q:∀h' o1 f1 k1 v1,ItA h' it d (i+1) es.size ep o1 f1 k1 v1->((o1=.none/\f1=ao)\/∃(a:D) (oa:Obj),o1=rawInt (a:Nat)/\h'.get? a=U oa/\a≠it)->h'.get? s.heap.objs.size=U { cls:=.type "tuple",data:=.seq #[e.key,e.val] }->h'.objs.size=s.heap.objs.size+1 ->
   (∀b o,b≠it->s.heap.get? b=U o->h'.get? b=U o)->(∀a:D,o1=rawInt (a:Nat)->a=s.heap.objs.size\/o0=rawInt (a:Nat))->Q (U (.ref s.heap.objs.size)) { s with heap:=h' }):Bf (Bg P w) A (pyNext (.ref it)) Q E s:=by
 obtain⟨hp,g,dr,tk,os⟩:=s;obtain⟨od,hod,hcd,hdd⟩:=id hm;have T:sw ⟨hp,g,dr,tk,os⟩ (.ref it) "dict_itemiterator":=⟨_,hit,Z⟩;unfold pyNext;refine ba (ie (dv (name:=bg "__next__") T eM (c8 eM T iP ?_ (iF _))));refine ba (bh ?_);refine ba ?_;refine ba ?_
 first|(refine ba (eG T (bh ?_)))|(refine ba (fc T (bh ?_)))
 refine ba (l8 hit Z ?_);have own:dL "dict_itemiterator"=af:=by lia
 simp only[own,if_true];show Bf _ _ (if (bI d==cF)=af then _ else _) _ _ _;rw[am (show ¬ ((bI d==cF)=af) from bK)];refine ba (bh ?_);refine ba (dI hod hdd ?_);rw[am (by simp)];refine ba (bh ?_);refine ba (gp hod hdd ?_);rw[am (by simp)];refine bh ?_;simp only[show ¬ ((i:Int)<0) from by lia,if_false,dZ,hx];refine ba ?_
 first|(refine ba (eG T (bh ?_)))|(refine ba (fc T (bh ?_)))
 refine ba (iy T ?_);show Bf _ _ (setField (.ref it) 3 (rawInt ((i:Int)+1)) >>= _) _ _ ⟨hp,g,dr,tk,os⟩;refine ba (cS hit (by simp) λh₁ e1 s1=>?_);replace s1:cG it hp h₁:=s1;replace e1:ItA h₁ it d (i+1) es.size ep o0 f ok ov:=by
  have z:((i+1:Nat):Int)=(i:Int)+1:=by lia
  unfold ItA;rw[z];simpa[rawInt] using e1
 have T1:sw ⟨h₁,g,dr,tk,os⟩ (.ref it) "dict_itemiterator":=⟨_,e1,Z⟩;refine ba (eA ?_);refine ba (iy T1 ?_);refine ba (iy T1 ?_);show Bf _ _ (ik (.ref it) 6 e.key e.val) _ _ ⟨h₁,g,dr,tk,os⟩;unfold ik;refine ba (oK ?_);have e2:ItA (h₁.push { cls:=.type "tuple",data:=.seq #[e.key,e.val] }) it d (i+1) es.size ep o0 f ok ov:=bc _ e1;generalize hg:h₁.push { cls:=.type "tuple",data:=.seq #[e.key,e.val] }=h₂ at e2;have z1:h₁.objs.size=hp.objs.size:=s1.1;have il:it<hp.objs.size:=bH hit;have t2:h₂.get? hp.objs.size=U { cls:=.type "tuple",data:=.seq #[e.key,e.val] }:=by rw[<-hg,<-z1];exact bE _ rfl
 have z2:h₂.objs.size=hp.objs.size+1:=by rw[<-hg,eP,z1]
 have k2:∀b o,b≠it->hp.get? b=U o->h₂.get? b=U o:=λb o hb z=>by rw[<-hg];exact bc _ (s1.extBut b o hb z)
 show Bf _ _ (gS (.ref it) >>= _) _ _ ⟨h₂,g,dr,tk,os⟩;rw[z1];clear hg e1 s1 T1 z1 h₁;refine ba ?_;unfold gS;rcases ho0 with ⟨rfl,rfl⟩|⟨a,oa,rfl,ha,hai⟩
 ·refine ba (dD e2 Z (x:=.none) Z (bh ?_));simp only[if_true];refine ba (dD e2 Z (x:=ok) Z ?_);refine ba (dD e2 Z (x:=ov) Z ?_);refine ba (cS e2 (by simp) λh₃ e3 s3=>?_);replace s3:cG it h₂ h₃:=s3;replace e3:ItA h₃ it d (i+1) es.size ep .none ao e.key ov:=e3;refine ba (cS e3 (by simp) λh₄ e4 s4=>?_);replace s4:cG it h₃ h₄:=s4;replace e4:ItA h₄ it d (i+1) es.size ep .none ao e.key e.val:=e4;refine ba (cS e4 (by simp) λh₅ e5 s5=>?_);replace s5:cG it h₄ h₅:=s5;replace e5:ItA h₅ it d (i+1) es.size ep (rawInt (hp.objs.size:Nat)) ao e.key e.val:=e5;refine ba (cS e5 (by simp) λh₆ e6 s6=>?_);replace s6:cG it h₅ h₆:=s6;replace e6:ItA h₆ it d (i+1) es.size ep (rawInt (hp.objs.size:Nat)) ao e.key e.val:=e6;have k6:∀b o,b≠it->h₂.get? b=U o->h₆.get? b=U o:=λb o hb z=>s6.extBut b o hb (s5.extBut b o hb (s4.extBut b o hb (s3.extBut b o hb z)));have t6:=k6 _ _ (eX il) t2;refine ba (mZ (bh (bh ⟨_,Z,bh (q h₆ _ _ _ _ e6 (.inr ⟨_,_,Z,t6,eX il⟩) t6 ?_ (λb o hb z=>k6 b o hb (k2 b o hb z)) λa z=>?_)⟩)))
  ·show h₆.objs.size=hp.objs.size+1;rw[s6.1,s5.1,s4.1,s3.1,z2]
  ·refine .inl ?_;have z':(fM (hp.objs.size:Nat) 0:ae)=fM (a:Nat) 0:=z;have z'':((hp.objs.size:Nat):Int)=((a:Nat):Int):=by injection z'
   exact(sy z'').symm
 ·refine ba (dD e2 Z (x:=rawInt (a:Nat)) Z ?_);show Bf _ _ (loadIfAlive (((a:Nat):Int).toNat) >>= _) _ _ _;rw[dZ];have a2:h₂.get? a=U oa:=k2 a oa hai ha;refine ba (W.kdx_alive a2 ?_);simp only[pK,cO,if_false];refine ba (dD e2 Z (x:=.bool f) Z ?_);cases f with
  |true =>
   rw[am (show ¬ ((iA af != iA af)=af) from bK)];refine bh ?_;simp only[cO,if_false];exact bh (bh ⟨_,Z,bh (q h₂ _ _ _ _ e2 (.inr ⟨_,_,Z,a2,hai⟩) t2 z2 k2 λa z=>.inr z)⟩)
  |false =>
   rw[aq (show (iA ao != iA af)=af from rfl)];refine ba (cS e2 (by simp) λh₃ e3 s3=>?_);replace s3:cG it h₂ h₃:=s3;replace e3:ItA h₃ it d (i+1) es.size ep (rawInt (a:Nat)) af ok ov:=e3;refine bh ?_;simp only[cO,if_false];exact bh (bh ⟨_,Z,bh (q h₃ _ _ _ _ e3 (.inr ⟨_,_,Z,s3.extBut _ _ hai a2,hai⟩) (s3.extBut _ _ (eX il) t2) (by show h₃.objs.size=_;rw[s3.1,z2]) (λb o hb z=>s3.extBut b o hb (k2 b o hb z)) λa z=>.inr z)⟩)
theorem zgl{Q:Option ae->ah->Prop}(hh:A.handled=ak)(hit:ItA s.heap it d i es.size ep o0 f ok ov)(hm:sZ s.heap d es ep)(hx:es.size<=i)
  (q:∀h',rZ it s.heap h'->Q ak { s with heap:=h' }):Bf (Bg P w) A (pyNext (.ref it)) Q E s:=by
 obtain⟨od,hod,hcd,hdd⟩:=id hm;have T:s.TypeIs (.ref it) "dict_itemiterator":=⟨_,hit,Z⟩;unfold pyNext;refine ba (ie (dv (name:=bg "__next__") T eM (c8 eM T iP ?_ (iF _))));refine ba (bh ?_);refine ba ?_;refine ba ?_
 first|(refine ba (eG T (bh ?_)))|(refine ba (fc T (bh ?_)))
 refine ba (l8 hit Z ?_);have own:dL "dict_itemiterator"=af:=by lia
 simp only[own,if_true];show Bf _ _ (if (bI d==cF)=af then _ else _) _ _ s;rw[am (show ¬ ((bI d==cF)=af) from bK)];refine ba (bh ?_);refine ba (dI hod hdd ?_);rw[am (by simp)];refine ba (bh ?_);refine ba (gp hod hdd ?_);rw[am (by simp)];refine bh ?_;simp only[show ¬ ((i:Int)<0) from by lia,if_false,dZ,iu hx];refine ba ?_
 first|(refine ba (eG T (bh ?_)))|(refine ba (fc T (bh ?_)))
 show Bf _ _ (setField (.ref it) 2 .none >>= _) _ _ s;refine ba (iI hit Z (by simp) ?_);show Bf _ _ (newExc (.type "StopIteration") [] >>= _) _ _ _;refine ba ?_;simp only[newExc,newTuple];refine ba (cQ ?_ (by size_fits));refine ba (m:=firstArgMember _ _) (wpAny_of_eq (a:=cF) (by first|rfl|(simp only[firstArgMember];rfl)) ?_);refine cQ ?_ (by size_fits);simp only[raiseNew];refine ba (pE ?_);rw[show A.in1.handled=ak from hh];refine ba (bh (wpAny_throw ?_));refine ba (nA (T:="StopIteration") (b:=af) ⟨_,bE _ Z,Z⟩ oM ?_);exact bh (q _ (((cV ..).extBut.push _).push _))
end
end L2
namespace L2
open PySem PySem.Spec PyProof.Rows
def Vs(r d:D):HO:=.ext λh=>h.IsItemsView r d
def zbU(td:TE):TE:=λσ H Q=>td σ H λx H1=>∃d aJ,x=.ref d/\H1 d=U (.dT aJ)/\∀r,H1 r=ak->Q (.ref r) (upd H1 r (Vs r d))
section
variable {X:Cx}{o:aA}{sC sK:Pos}{td:TE}
theorem zaA(ho:PE X o td)(hbase:attributeBase o "items" X.env (eval o X.env)=eval o X.env:=by rfl)(hline:(sC.endLine==sK.line)=af:=by rfl):PE X (.Call (.Attribute o "items" sC) [] [] sK) (zbU td):=by
 intro aa s σ H Q I h;refine mT hbase hline (hZ (ho aa s σ H _ I h) ?_);rintro v s1 ⟨x,H1,I1,r1,d,aJ,ex,hd,q1⟩;subst ex;obtain rfl:v=bI d:=r1;obtain⟨t1,t2,t3⟩:=XI I1 (.inr ⟨aJ,.inl hd⟩);refine⟨"dict","dict.items",dO,m5,PySem.F.type_dict_items,t1,t2,df Z (oQ ?_)⟩;refine c8 m5 t1 PySem.F.entry_dict_items ?_ (PySem.F.args_dict_items_1 _);unfold Builtin.«dict.items»;refine ba ?_;unfold Builtin.Dict.noArgs;refine ba (eZ t1 ?_);show Bf _ _ (pure d) _ _ s1;refine bh ?_;show Bf _ _ (gj d >>= _) _ _ s1;unfold gj;rw[am (by rw[t3];exact bK)];refine ba (bh ?_);refine ba (cQ (bh ⟨_,Z,?_⟩));have hn:H1 s1.heap.objs.size=ak:=I1.hok.fresh (bn _);have at0:(s1.heap.push { cls:=.type "dict_items",data:=.fields #[.ref d] }).get? s1.heap.objs.size=U { cls:=.type "dict_items",data:=.fields #[.ref d] }:=bE _ rfl;refine⟨.ref s1.heap.objs.size,_,I1.laid (a:=s1.heap.objs.size) (o:=Vs s1.heap.objs.size d) (t':=s1.toks) (λb u e=>bc _ e) (bn _) ?_,Z,q1 _ hn⟩;exact⟨⟨_,at0,Z,Z⟩,⟨_,at0⟩,λh1 h2 ⟨o,e1,e2⟩ k=>⟨o,k o e1,e2⟩⟩
end
def Y6(H:Hp)(v:V)(kv:List aV×V):Prop:=∃r p,v=.ref r/\H r=U (.tup [.ref p,kv.2])/\H p=U (.tup (kv.1.map kV))
theorem zaB{H H':Hp}(s:∀b ys,H b=U (.tup ys)->H' b=U (.tup ys)):∀ {vs:List V} {aJ:List (List aV×V)},Paired (Y6 H) vs aJ->Paired (Y6 H') vs aJ
 |_,_,.nil=>.nil
 |_,_,.cons ⟨r,p,e,h1,h2⟩ t=>.cons ⟨r,p,e,s _ _ h1,s _ _ h2⟩ (zaB s t)
theorem zaC{H:Hp}{v:V}{q:List aV×V}:∀ {ys:List V} {aJ:List (List aV×V)},Paired (Y6 H) ys aJ->Y6 H v q->Paired (Y6 H) (ys++[v]) (aJ++[q])
 |_,_,.nil,h=>.cons h .nil
 |_,_,.cons a r,h=>.cons a (zaC r h)
section
variable {X:Cx}{A:ax}{R:aC->ah->Prop}
theorem zeQ{σ:St}{H:Hp}{S it d:D}{aJ:List (List aV×V)}{es:Array DictEntry}{ep:Nat}{res:ae}(hh:A.handled=ak)(hS:H S=ak)(hd:H d=U (.dT aJ))(Sit:S≠it)(dit:d≠it)(hz:aJ.length<=1000)
  (hes:es.size=aJ.length) (hen:∀(i:Nat) (e:DictEntry) (kv:List aV×V),es[i]?=U e->aJ[i]?=U kv->∃p,e.key=.ref p/\H p=U (.tup (kv.1.map kV))/\aU kv.2 e.val) (fin:∀s' H' ys,aO X aa σ H' s'->aL H H'->H' S=U (.lst ys)->Paired (Y6 H') ys aJ->R (.ok (.ret res)) s') :
  ∀(k i:Nat) (s:ah) (Hi:Hp) (ys:List V) (o0 ok ov:ae) (f:Bool),aJ.length-i=k->i<=aJ.length->aO X aa σ Hi s->aL H Hi->Hi S=U (.lst ys)->Paired (Y6 Hi) ys (aJ.take i)->sZ s.heap d es ep->ItA s.heap it d i es.size ep o0 f ok ov ->
  ((o0=.none/\f=ao)\/∃(a:D) (oa:Obj),o0=rawInt (a:Nat)/\s.heap.get? a=U oa/\a≠it/\a≠S)->qB X aa Hi it ->
  codeAny (Bg X.prog X.w) A (.builtin "list.extend.loop" ⟨[.ref S,.ref it,res],[]⟩) R s:=by
 intro k;induction k with
 |zero =>
  intro i s Hi ys o0 ok ov f hk hi I sm hy pr rd hit ho0 hf;have e:i=aJ.length:=by lia
  subst e;refine eV l9 ?_;rw[dz eB _];show Bf _ A.in1 (pyNext (.ref it) >>= _) _ _ s;obtain⟨f0,f1,f2,f3,f4,f5⟩:=hf;refine ba (zgl (A:=A.in1) hh hit rd () λh' eb=>?_);have I1:=I.turned (t':=s.toks) (λb o hb e=>eb b o hb e) f0 f1 f3 f4 f5;rw[cM] at pr;exact bh (fin _ Hi ys I1 sm hy pr)
 |succ k ih =>
  intro i s Hi ys o0 ok ov f hk hi I sm hy pr rd hit ho0 hf;have hlt:i<aJ.length:=by lia
  have hx:es[i]?=U es[i]:=cA ();have hkv:aJ[i]?=U aJ[i]:=bb hlt;obtain⟨p,ek,hp,rv⟩:=hen i _ _ hx hkv;refine eV l9 ?_;rw[dz eB _];show Bf _ A.in1 (pyNext (.ref it) >>= _) _ _ s;obtain⟨f0,f1,f2,f3,f4,f5⟩:=id hf;have ho0':(o0=.none/\f=ao)\/∃(a:D) (oa:Obj),o0=rawInt (a:Nat)/\s.heap.get? a=U oa/\a≠it:=by
   rcases ho0 with z|⟨a,oa,z1,z2,z3,_⟩
   ·exact .inl z
   ·exact .inr ⟨a,oa,z1,z2,z3⟩
  refine ba (zeP (A:=A.in1) hit rd hx ho0' λh' o1 f1' k1 v1 hit' ho1 ht hz' kp own=>?_);have Sl:S<s.heap.objs.size:=by
   obtain⟨_,_,_,_,e⟩:=(show aW X.prog X.w Hi s.heap S (.lst ys) from I.hok S _ hy);exact bH e
  have tn:s.heap.objs.size≠it:=eX (bH hit);have hTn:Hi s.heap.objs.size=ak:=I.hok.fresh (bn _);have STn:S≠s.heap.objs.size:=bR Sl;generalize hT:s.heap.objs.size=T at *
  have I6:aO X aa σ (upd Hi T (.tup [.ref p,aJ[i].2])) { s with heap:=s.heap.push { cls:=.type "tuple",data:=.seq #[es[i].key,es[i].val] } } :=
   I.laid (a:=T) (o:=.tup [.ref p,aJ[i].2]) (t':=s.toks) (λb u e=>bc _ e) (by rw[hT];exact bn _) ⟨by show 2<=Bb;decide,[es[i].key,es[i].val],.cons (by rw[ek];exact rfl) (.cons rv .nil),⟨_,by rw[<-hT];exact bE _ Z,Z,_,Z⟩⟩
  have S6:aL Hi (upd Hi T (.tup [.ref p,aJ[i].2])):=sQ T hTn;have I7:aO X aa σ (upd Hi T (.tup [.ref p,aJ[i].2])) { s with heap:=h' }:=I6.turned (s:={ s with heap:=s.heap.push { cls:=.type "tuple",data:=.seq #[es[i].key,es[i].val] } }) (t':=s.toks) (λb o hb e=>by
   rcases oF (show (s.heap.push { cls:=.type "tuple",data:=.seq #[es[i].key,es[i].val] }).get? b=U o from e) with ⟨rfl,rfl⟩|e
   ·rw[hT];exact ht
   ·exact kp b o hb e) (by rw[zl (eW tn)];exact f0) f1 f3 f4 f5
  have hy7:(upd Hi T (.tup [.ref p,aJ[i].2])) S=U (.lst ys):=S6 _ _ hy;obtain⟨z,its,n,r,hl,e⟩:=I7.lstM hy7;have yl:ys.length=i:=by
   have:=bF pr;rw[cC] at this;lia
  show Bf _ A.in1 (updateSeq S (·.push (bI T)) >>= _) _ _ _;have e':h'.get? S=U { cls:=.type "list",data:=.seq its.toArray n }:=e;refine ba (lJ (s:={ s with heap:=h' }) e' rfl ?_ (by rw[bL,<-r.length,yl];exact bO (by lia:i<=1000) ()) (by rw[Array.size_push,bL,<-r.length,yl];exact bO (by lia:i+1<=1001) ()));have I8:=I7.lset (f:=λxs=>xs.push (bI T)) (t':=s.toks) (its':=its++[bI T]) hy7 e' (by simp) (r.append (.cons (show aU (.ref T) (.ref T) from rfl) .nil)) (by rw[bD,yl];exact bO (by show i+1<=1001;lia) ());have up:∀b o,b≠S->h'.get? b=U o->(h'.update S (dG (·.push (bI T)))).get? b=U o:=λb o hb z=>(dX _ _ (eW hb)).trans z;have dS:d≠S:=zC hd hS;have tS:∀b zs,Hi b=U (.tup zs)->(upd (upd Hi T (.tup [.ref p,aJ[i].2])) S (.lst (ys++[.ref T]))) b=U (.tup zs):=λb zs z=>by
   rw[zl (zJ z hy (by intro z;cases z))];exact S6 _ _ z
  have ri:∀ {a b:Nat},(rawInt (a:Int):ae)=rawInt (b:Int)->a=b:=λ{a b} z=>by
   have z':(fM (a:Int) 0:ae)=fM (b:Int) 0:=z;have z'':(a:Int)=(b:Int):=by injection z'
   exact sy z''
  refine bh ⟨gC eB _,ih (i+1) _ _ (ys++[.ref T]) o1 k1 v1 f1' (by rw[Nat.sub_add_eq,hk];rfl) hlt I8 (λb o z=>?_) zi ?_ (rd.at λo z=>up d o dS (kp d o dit z)) (up it _ (eW Sit) hit') ?_ ⟨?_,f1,f2,f3,f4,f5⟩⟩
  ·rw[zl (zC z hS)];exact S6 _ _ (sm _ _ z)
  ·rw[cq,hkv];exact zaC (zaB tS pr) ⟨T,p,Z,by rw[zl (eW STn),zi],tS _ _ (sm _ _ hp)⟩
  ·rcases ho1 with z|⟨a,oa,z1,z2,z3⟩
   ·exact .inl z
   ·have aS:a≠S:=by
     rcases own a z1 with z|z
     ·rw[z];exact eW STn
     ·rcases ho0 with ⟨y1,_⟩|⟨a',oa',y1,_,_,y4⟩
      ·rw[y1] at z;cases z
      ·rw[y1] at z;rw[<-ri z];exact y4
    exact .inr ⟨a,oa,z1,up a _ aS z2,z3,aS⟩
  ·rw[zl (eW Sit),zl (eW tn)];exact f0
end
abbrev zg9:RC:=λvs H Q=>∃r d aJ,vs=[.ref r]/\H r=U (Vs r d)/\H d=U (.dT aJ)/\aJ.length<=1000/\∀l ys H',aL H H'->H l=ak->H' l=U (.lst ys)->Paired (Y6 H') ys aJ->Q (.ref l) H'
theorem zgm{H:Hp}(k:tJ P w H h)(e:H r=U (Vs r d)):h.IsItemsView r d:=(k r _ e).1
theorem zgn{H:Hp}:∀ {aJ:List (List aV×V)} {xs:List (List aV×D×ae)},Paired (λ(p:List aV×V) (q:List aV×D×ae)=>p.1=q.1/\H q.2.1=U (.tup (p.1.map kV))/\aU p.2 q.2.2) aJ xs->∀ {i:Nat} {kv:List aV×V} {x:List aV×D×ae},aJ[i]?=U kv->xs[i]?=U x->H x.2.1=U (.tup (kv.1.map kV))/\aU kv.2 x.2.2 :=
 λ{_ _} h {_ _ _} e1 e2=>(yQ h e1 e2).2
section
variable {X:Cx}
theorem zeR{σ:St}{H:Hp}{s:ah}{d:D}{aJ:List (List aV×V)}(I:aO X aa σ H s)(e:H d=U (.dT aJ)):∃es ep,sZ s.heap d es ep/\es.size=aJ.length /\
  ∀(i:Nat) (en:DictEntry) (kv:List aV×V),es[i]?=U en->aJ[i]?=U kv->∃p,en.key=.ref p/\H p=U (.tup (kv.1.map kV))/\aU kv.2 en.val:=by
 obtain⟨z,hd,xs,rel,o,es,ep,h1,h2,h3,h4,_⟩:=(show aW X.prog X.w H s.heap d (.dT aJ) from I.hok d _ e);have l1:es.size=xs.length:=by rw[<-ck,h4,bf]
 refine⟨es,ep,⟨o,h1,h2,h3⟩,by rw[l1,<-bF rel],λi en kv e1 e2=>?_⟩;have e3:es.toList[i]?=U en:=by rw[dn];exact e1
 rw[h4,bB] at e3;obtain⟨x,hx,rfl⟩:=b9.mp e3;obtain⟨g1,g2⟩:=zgn rel e2 hx;exact⟨x.2.1,Z,g1,g2⟩
theorem Kf{A:ax}{R:aC->ah->Prop}{aa:List (D×Obj)}{σ:St}{H:Hp}{s:ah}{S r d:D}{aJ:List (List aV×V)}{res:ae}{c:Nat}(hh:A.handled=ak)(hS:H S=ak)(hr:H r=U (Vs r d))(hd:H d=U (.dT aJ))(hl:aJ.length<=1000)
  (I2:aO X aa σ (upd H S (.lst [])) s) (T2:s.heap.get? S=U { cls:=.type "list",data:=.seq #[] c }) (hR:∀s' H' ys,aO X aa σ H' s'->aL H H'->H' S=U (.lst ys)->Paired (Y6 H') ys aJ->R (.ok (.ret res)) s') :
  Bf (Bg X.prog X.w) A.in1 (dt (.ref S) (.ref r) res) (λfin s'=>match fin with|.done f=>R (.ok f) s'|.again c'=>c'.quiet=af/\codeAny (Bg X.prog X.w) A c' R s') (λe s'=>R (.error e) s') s:=by
 have Sr:r≠S:=zC hr hS;have Sd:d≠S:=zC hd hS;have SS:aL H (upd H S (.lst [])):=sQ S hS;obtain⟨es,ep,rd,hes,hen0⟩:=zeR I2 (SS _ _ hd);have hen:∀(i:Nat) (en:DictEntry) (kv:List aV×V),es[i]?=U en->aJ[i]?=U kv->∃p,en.key=.ref p/\H p=U (.tup (kv.1.map kV))/\aU kv.2 en.val:=λi en kv e1 e2=>by
  obtain⟨p,g1,g2,g3⟩:=hen0 i en kv e1 e2;refine⟨p,g1,?_,g3⟩;by_cases hp:p=S
  ·rw[hp,zi] at g2;cases g2
  ·rwa [zl hp] at g2
 have vw:=zgm I2.hok (SS _ _ hr);unfold dt;refine ba (rB (T:="dict_items") vw.typeIs ?_);have c1:mH (.ref S) (.ref r)=ao:=by simp[mH,eW Sr]
 have c2:(mh "dict_items" == mh "list")=ao:=by lia
 have c3:(mh "dict_items" == mh "tuple")=ao:=by lia
 simp only[c1,c2,c3,Bool.or_false,cO,if_false];refine ba (zeO vw rd ?_);have ni:(upd H S (.lst [])) s.heap.objs.size=ak:=I2.hok.fresh (bn _);have fp:qB X aa (upd H S (.lst [])) s.heap.objs.size:=I2.fpOk (bn _) ni;have Si:S≠s.heap.objs.size:=bR (bH T2);have di:d≠s.heap.objs.size:=bR rd.lt;have I3:aO X aa σ (upd H S (.lst [])) { s with heap:=s.heap.push { cls:=.type "dict_itemiterator",data:=.fields #[.none,.bool ao,.ref d,.int 0 0,.int es.size 0,.int ep 0,.none,.none] } }:=I2.kept (t':=s.toks) λb o e=>bc _ e;have T3:=bc { cls:=.type "dict_itemiterator",data:=.fields #[.none,.bool ao,.ref d,.int 0 0,.int es.size 0,.int ep 0,.none,.none] } T2;have it3:ItA (s.heap.push { cls:=.type "dict_itemiterator",data:=.fields #[.none,.bool ao,.ref d,.int 0 0,.int es.size 0,.int ep 0,.none,.none] }) s.heap.objs.size d 0 es.size ep .none ao .none .none:=bE _ rfl;have rd3:sZ (s.heap.push { cls:=.type "dict_itemiterator",data:=.fields #[.none,.bool ao,.ref d,.int 0 0,.int es.size 0,.int ep 0,.none,.none] }) d es ep:=rd.at λo e=>bc _ e;have vw3:(s.heap.push { cls:=.type "dict_itemiterator",data:=.fields #[.none,.bool ao,.ref d,.int 0 0,.int es.size 0,.int ep 0,.none,.none] }).IsItemsView r d:=let ⟨o,ho,x⟩:=vw;⟨o,bc _ ho,x⟩
 generalize hh3:s.heap.push { cls:=.type "dict_itemiterator",data:=.fields #[.none,.bool ao,.ref d,.int 0 0,.int es.size 0,.int ep 0,.none,.none] }=h3 at *
 generalize s.heap.objs.size=it at *
 refine ba (eA (W.kdx_hint vw3.typeIs ?_));have fin:∀(h4:av) (tk:Nat) (R:aC->ah->Prop),(∀s' H' ys,aO X aa σ H' s'->aL H H'->H' S=U (.lst ys)->Paired (Y6 H') ys aJ->R (.ok (.ret res)) s')->aO X aa σ (upd H S (.lst [])) { s with heap:=h4,toks:=tk }->sZ h4 d es ep->ItA h4 it d 0 es.size ep .none ao .none .none ->
   codeAny (Bg X.prog X.w) A (.builtin "list.extend.loop" ⟨[.ref S,.ref it,res],[]⟩) R { s with heap:=h4,toks:=tk }:=λh4 tk R hR I4 rd4 it4 =>
  zeQ (A:=A) (H:=H) (es:=es) (ep:=ep) hh hS hd Si di hl hes hen hR aJ.length 0 _ (upd H S (.lst [])) [] .none .none .none ao (rj _) (bS _) I4 SS zi .nil rd4 it4 (.inl ⟨Z,Z⟩) fp
 refine wpAny_ite_split (λ_=>?_) (λ_=>bh ⟨gC eB _,fin h3 s.toks _ hR I3 rd3 it3⟩);refine ba (lh ?_);refine ba ?_;show Bf _ _ (updateSeq S (·.push .none) >>= λ_=>updateSeq S (·.pop)) _ _ _;refine ba (lJ T3 Z ?_);have T4:=eE (dG (·.push cF)) T3 rfl;refine lJ (hz:=by seq_fits) T4 Z ?_;have I4:=I3.lset (f:=λxs=>xs.push cF) (its:=[]) (its':=[cF]) (ys:=[V.non]) (t':=s.toks) zi T3 Z (.cons Z .nil) (by show 1<=Bb;decide);have I5:=I4.lset (f:=λxs=>xs.pop) (its:=[cF]) (its':=[]) (ys:=[]) (t':=s.toks) zi T4 Z .nil (bS _);rw[WU,WU] at I5;have oth:∀b o,b≠S->h3.get? b=U o->((h3.update S (dG (·.push cF))).update S (dG (·.pop))).get? b=U o:=λb o hb e=>(dX _ _ (eW hb)).trans ((dX _ _ (eW hb)).trans e);exact bh ⟨gC eB _,fin _ s.toks _ hR I5 (rd3.at λo e=>oth d o Sd e) (oth it _ (eW Si) it3)⟩
theorem WB(hc:X.calm=af):qp X (.type "list") zg9:=by
 intro aa s σ H vs us Q I r0 h;obtain⟨r,d,aJ,rfl,hr,hd,hl,q⟩:=h;obtain⟨u,rfl,ru⟩:=qH r0;cases ru;have hh:X.A.handled=ak:=I.ok.hd hc;refine callType_codes (Q₁:=λobj s₁=>obj=.ref s.heap.objs.size/\s₁={ s with heap:=s.heap.push { cls:=.type "list",data:=.seq #[] } }) PySem.F.called_list (PySem.F.typeCall_list_1 _) PySem.F.entry_list_init (code_list_new _ ⟨rfl,rfl⟩) ?_;rintro obj s₁ ⟨rfl,rfl⟩;have hS:H s.heap.objs.size=ak:=I.hok.fresh (bn _);have I1:aO X aa σ (upd H s.heap.objs.size (.lst [])) { s with heap:=s.heap.push { cls:=.type "list",data:=.seq #[] } }:=I.lnew (its:=[]) (t':=s.toks) .nil (bS _);have T0:(s.heap.push { cls:=.type "list",data:=.seq #[] }).get? s.heap.objs.size=U { cls:=.type "list",data:=.seq #[] }:=bE _ rfl;generalize hT:s.heap.objs.size=S at *
 refine⟨⟨_,T0,Z⟩,PySem.F.args_list_init_2 _ _,?_⟩;show Bf _ _ (do let old <-nK (.ref S);Builtin.List.listUpdate (.ref S) (λ_=>#[]);letGo old.toList.reverse;dt (.ref S) (.ref r) .none) _ _ _;refine ba ?_;unfold nK;refine ba (fU T0 Z (bh ?_));show Bf _ _ (updateSeq S (λ_=>#[]) >>= λ_=>letGo (#[]:Array ae).toList.reverse >>= λ_=>dt (.ref S) (.ref r) .none) _ _ _;refine ba (lJ T0 Z ?_);have I2:=I1.lset (f:=λ_=>(#[]:Array ae)) (its:=[]) (its':=[]) (ys:=[]) (t':=s.toks) zi T0 Z .nil (bS _);rw[WU] at I2;have T2:=eE (dG (λ_=>(#[]:Array ae))) T0 rfl;refine ba (mZ ?_);generalize hh2:(s.heap.push { cls:=.type "list",data:=.seq #[] }).update S (dG (λ_=>(#[]:Array ae)))=h2 at *
 exact Kf (A:=X.A.in1) (H:=H) hh hS hr hd hl I2 T2 λs' H' ys I' sm hy pr=>⟨Z,.ref S,H',I',Z,q S ys H' sm hS hy pr⟩
end
end L2
namespace L2
open PySem PySem.Spec PyProof.Rows PySem.W
section
variable {X:Cx}
theorem zbV{E:ae->ah->Prop}{R:List ae->ah->Prop}{aa:List (D×Obj)}{σ:St}{H:Hp}{s:ah}{r d:D}{aJ:List (List aV×V)}(hh:A.handled=ak)(hr:H r=U (Vs r d))(hd:H d=U (.dT aJ))(hl:aJ.length<=1000)(I:aO X aa σ H s)
  (h:∀s1 H' ys us,aO X aa σ H' s1->aL H H'->Paired (Y6 H') ys aJ->aR ys us->R us s1):Bf (Bg X.prog X.w) A (collect (.ref r)) R E s:=by
 have hS:H s.heap.objs.size=ak:=I.hok.fresh (bn _);have I1:aO X aa σ (upd H s.heap.objs.size (.lst [])) { s with heap:=s.heap.push { cls:=.type "list",data:=.seq ([]:List ae).toArray } }:=I.lnew (its:=[]) (t':=s.toks) .nil (bS _);have T1:(s.heap.push { cls:=.type "list",data:=.seq ([]:List ae).toArray }).get? s.heap.objs.size=U { cls:=.type "list",data:=.seq #[] }:=bE _ rfl;unfold collect;refine ba (wpAny_runValue (eV oC ?_));rw[dz lH _];show Bf _ A.in1 (newList [] >>= λl=>again (.builtin "list.__iadd__" ⟨[l,.ref r],[]⟩)) _ _ s;refine ba (cQ ?_);refine bh ⟨gC fH _,eV entry_list_iadd' ?_⟩;rw[dz fH _];generalize s.heap.objs.size=S at *
 show Bf _ A.in1 (dt (.ref S) (.ref r) (.ref S)) _ _ _;have key:=Kf (A:=A) (R:=λ(q:aC) (s':ah)=>∃H' ys,q=.ok (.ret (.ref S))/\aO X aa σ H' s'/\aL H H'/\H' S=U (.lst ys)/\Paired (Y6 H') ys aJ) (res:=.ref S) hh hS hr hd hl I1 T1 λs' H' ys I' sm hy pr=>⟨H',ys,Z,I',sm,hy,pr⟩;have fin:∀s':ah,(∃H' ys,aO X aa σ H' s'/\aL H H'/\H' S=U (.lst ys)/\Paired (Y6 H') ys aJ)->Bf (Bg X.prog X.w) A (load S >>= λo=>match o.data with|.seq xs _=>pure xs.toList|_=>unsupported "internal:collect") R E s':=λs' ⟨H',ys,I',sm,hy,pr⟩=>by
  obtain⟨z,its,n,rv,hl',e⟩:=I'.lstM hy;refine ba (oq e ?_);refine bh ?_;exact h s' H' ys its I' sm pr rv
 refine dF key (λf s' x=>?_) λe s' x=>?_
 ·cases f with
  |done f =>
   obtain⟨H',ys,e,x⟩:=x;cases e;exact fin s' ⟨H',ys,x⟩
  |again c₁ =>
   refine⟨x.1,fZ x.2 λq s₂ y=>?_⟩;obtain⟨H',ys,rfl,y⟩:=y;exact fin s₂ ⟨H',ys,y⟩
 ·obtain⟨_,_,e',_⟩:=x;cases e'
end
section
variable {P:au}{w:aw}{A:ax}{E:ae->ah->Prop}{s:ah}
theorem zeS{a b:Str×Int}{Q:Bool->ah->Prop}(hu:A.units<cLine)(hx:tV s.heap (.ref x) a)(hy:tV s.heap (.ref y) b)(h:Q (yo a b) s):Bf (Bg P w) A (oneLt' ao (.ref x) (.ref y)) Q E s:=by
 obtain⟨p,o,t,u,n,e1,ho,hc,hd⟩:=hx;obtain⟨p2,o2,t2,u2,n2,e2,ho2,hc2,hd2⟩:=hy;cases e1;cases e2;obtain⟨c,dd,dat,sl⟩:=o;obtain⟨c2,dd2,dat2,sl2⟩:=o2;simp only at hc hd hc2 hd2;subst hc hd hc2 hd2;have T1:s.TypeIs (.ref x) "tuple":=⟨_,ho,Z⟩;have T2:s.TypeIs (.ref y) "tuple":=⟨_,ho2,Z⟩;refine kat_one _ _ ?_;show Bf _ _ (richCompare .Lt (.ref x) (.ref y)) _ _ _;refine wpAny_richCompare_same_room T1 T2 og ?_ hu;exact iD og T1 PySem.F.entry_tuple_lt (PySem.F.args_tuple_lt_2 _ _) (Vp x y a.1 b.1 a.2 b.2 t u t2 u2 n n2 dd dd2 sl sl2) ⟨ho,ho2,by simp,h⟩
theorem zeT{a:Str×Int}(hx:tV h (.ref x) a):IsTupleKey (yz P w) h (zy a) x:=by
 obtain⟨p,o,t,u,n,e1,ho,hc,hd⟩:=hx;cases e1;exact⟨o,_,n,ho,hc,hd,XE (ks:=zy a) (.cons ⟨t,Z⟩ (.cons ⟨u,Z⟩ .nil))⟩
def RvAt(h:av)(v:ae)(q:aP):Prop:=∃a o p t n,v=.ref a/\h.get? a=U o/\o.cls=.type "tuple"/\o.data=.seq #[.ref p,.int q.2 t] n/\tV h (.ref p) q.1
theorem RvAt.keep(x:RvAt h v q)(k:∀b o,h.get? b=U o->h'.get? b=U o):RvAt h' v q:=by
 obtain⟨a,o,p,t,n,e,ho,hc,hd,hp⟩:=x;exact⟨a,o,p,t,n,e,k _ _ ho,hc,hd,hp.keep k⟩
theorem zgo{Q:Bool->ah->Prop}(hu:A.units<cLine)(hx:RvAt s.heap x a)(hy:RvAt s.heap y b)(h:Q (yo a.1 b.1) s)(hn:a.1≠b.1):Bf (Bg P w) A (keyLt' (tuples' ao) x y) Q E s:=by
 obtain⟨p,o,pp,t,n,rfl,ho,hc,hd,hp⟩:=hx;obtain⟨p2,o2,pp2,t2,n2,rfl,ho2,hc2,hd2,hp2⟩:=hy;refine kat_lt ho hd ho2 hd2 (kat_cons (wpAny_eqBool_tuple (knd:=yz P w) hu (zeT hp) (zeT hp2) (kat_go (λe=>?_) λe=>kat_no ?_)))
 ·exact absurd (yL (of_decide_eq_true e)) hn
 ·exact zeS hu hp hp2 h
theorem zeU{vs:List ae}{qs:List aP}{Q:SortKind->ah->Prop}(hl:vs.length=qs.length)(hv:∀(i:Nat) (v:ae) (q:aP),vs[i]?=U v->qs[i]?=U q->RvAt s.heap v q)(h2:0<vs.length)(h:Q (tuples' ao) s) :
  Bf (Bg P w) A (keyKind' vs.toArray) Q E s:=by
 have T:∀(vs:List ae) (qs:List aP),vs.length=qs.length->(∀(i:Nat) (v:ae) (q:aP),vs[i]?=U v->qs[i]?=U q->RvAt s.heap v q)->∃fs,KatTups s.heap vs fs/\fs.length=vs.length/\∀v∈fs,∃p o,v=bI p/\s.heap.get? p=U o/\o.cls=.type "tuple":=by
  intro vs;induction vs with
  |nil=>exact λqs _ _=>⟨[],trivial,Z,λ_ z=>nomatch z⟩
  |cons v r ih =>
   intro qs hl hv
   match qs,hl with
   |q::qr,hl =>
    obtain⟨fs,k,kl,kf⟩:=ih qr (by simpa using hl) λi v' q' e1 e2=>hv (i+1) v' q' (by simpa using e1) (by simpa using e2);obtain⟨a,o,p,t,n,rfl,ho,hc,hd,hp⟩:=hv 0 v q Z rfl;refine⟨.ref p::fs,sB ho hc hd Z k,by simp[kl],λz hz=>?_⟩;rcases bu.mp hz with rfl|hz
    ·obtain⟨p',o',_,_,_,e,g1,g2,_⟩:=hp;cases e;exact⟨_,o',Z,g1,g2⟩
    ·exact kf z hz
 obtain⟨fs,k,kl,kf⟩:=T vs qs hl hv;refine kat_kind (T:=.type "tuple") k () (λv hv=>?_) () h;obtain⟨p,o,rfl,g1,g2⟩:=kf v hv;exact g2 ▸ (pX g1).andThen .now
theorem Qa{l:D}{κ:SortKind}{Q:ae->ah->Prop}(G:List ae->(Nat->Nat->Bool)->ah->Prop)
  (coll:∀R:List ae->ah->Prop,(∀vs lt s1,G vs lt s1->R vs s1)->Bf (Bg P w) A.in1 (collect (.ref l)) R E s)
  (h64:∀vs lt s1,G vs lt s1->vs.length<64/\SO lt vs.length)
  (hk:∀vs lt s1,G vs lt s1->2<=vs.length->∀(h:av) (Q:SortKind->ah->Prop),(∀b o,s1.heap.get? b=U o->h.get? b=U o)->Q κ { s1 with heap:=h }->Bf (Bg P w) A.in1.in1 (keyKind' vs.toArray) Q (λ_ _=>False) { s1 with heap:=h })
  (hc:∀vs lt s1,G vs lt s1->∀(h:av) i j C,(∀b o,s1.heap.get? b=U o->h.get? b=U o)->i<vs.length->j<vs.length->i≠j->C (lt i j) { s1 with heap:=h }->kas_ask P w A.in1.in1 κ vs i j C { s1 with heap:=h })
  (fin:∀vs lt s1,G vs lt s1->∀(h':av) (p:Array Nat) (c:Nat),(∀b o,s1.heap.get? b=U o->h'.get? b=U o)->h'.get? s1.heap.objs.size=U (seqObj "list" (vV vs p).toArray c)->PP vs.length p->ZU lt p vs.length->Q (.ref s1.heap.objs.size) { s1 with heap:=h' }) :
  Bf (Bg P w) A (call (.builtin "sorted") [.ref l]) Q E s:=by
 refine lZ kind_sorted ro rq (rA _) ?_;unfold Builtin.«sorted»;refine ba (m:=checkCount "sorted" 1 1 _) (bh ?_);refine ba (coll _ λvs lt s1 g=>?_);obtain⟨l64,S⟩:=h64 vs lt s1 g;refine ba (m3 ?_ (by rw[bN];lia));have hoL:(s1.heap.push (seqObj "list" vs.toArray 0)).get? s1.heap.objs.size=U (seqObj "list" vs.toArray 0):=bE _ rfl;have kept:∀h',Kp s1.heap.objs.size (s1.heap.push (seqObj "list" vs.toArray 0)) h'->∀b o,s1.heap.get? b=U o->h'.get? b=U o:=λh' k b o e=>k b o (bR (bH e)) (bc _ e);refine ba (eA (c8 oN ⟨_,hoL,Z⟩ nZ (Vn (s:={ s1 with heap:=s1.heap.push (seqObj "list" vs.toArray 0) }) hoL l64 (κ:=κ) (lt:=lt) (λh2 h' Q' k q=>?_) (λh' i j C k hi hj hij q=>?_) S λh' p c k ho hp hr=>?_) (oO _)))
 ·exact hk vs lt s1 g h2 h' Q' (kept h' k) q
 ·exact hc vs lt s1 g h' i j C (kept h' k) hi hj hij q
 ·exact⟨_,Z,bh ⟨_,Z,fin vs lt s1 g h' p c (kept h' k) ho hp hr⟩⟩
end
def d0:aP:=(("",0),0)
theorem zhN(aK:List aP):∃its:List aP,sJ aK=its.map (λq=>(zy q.1,V.int q.2))/\(its.map (·.1)).Nodup/\∀p w,(p,w)∈its↔zD aK p=U w:=by
 have h:=kg aK;have:∀(aJ:List (List aV×V)),(∀kv∈aJ,∃(p:Pl) (w:Int),kv=(zy p,.int w))->∃its:List aP,aJ=its.map (λq=>(zy q.1,V.int q.2)):=λaJ=>by
  induction aJ with
  |nil=>exact λ_=>⟨[],Z⟩
  |cons kv r ih =>
   intro hk;obtain⟨qs,e⟩:=ih λz hz=>hk z (bq _ hz);obtain⟨p,w,e2⟩:=hk kv br;exact⟨(p,w)::qs,by rw[bt,<-e,e2]⟩
 obtain⟨its,e⟩:=this _ h.2;refine⟨its,e,?_,λp w=>?_⟩
 ·have:=h.1;rw[e,dJ] at this;refine xp (f:=zy) ?_;rw[dJ];exact this
 ·have m:=tR (aK:=aK) (kv:=(zy p,V.int w));constructor
  ·intro hm;obtain⟨p',w',e1,e2⟩:=m.mp (by rw[e];exact bG.mpr ⟨_,hm,Z⟩);have e3:=yL (oW e1).1;have e4:=V.int.inj (oW e1).2;rw[e3,e4];exact e2
  ·intro hw;have hm:=m.mpr ⟨p,w,Z,hw⟩;rw[e] at hm;obtain⟨q,hq,e1⟩:=bG.mp hm;have e3:=yL (oW e1).1;have e4:=V.int.inj (oW e1).2;rw[<-e3,<-e4];exact hq
theorem zbW{α:Type}(l:List α)(d:α):(eI l.length).map (λi=>l.getD i d)=l:=by
 apply fq;intro i;rw[bB];by_cases hi:i<l.length
 ·rw[lG hi,bb hi];simp[bM,bb hi]
 ·rw[cz (by simpa using hi),cz ()];rfl
theorem PP.list(h:PP n p):p.toList.Perm (eI n):=by
 have:=gF.mp h;simpa using this
theorem PP.lt(h:PP n p):∀i∈p.toList,i<n:=λi hi=>by
 have:=h.list.mem_iff.mp hi;simpa using this
theorem zbX{α:Type}{F:α->α->Bool}{l:List α}{d:α}{n:Nat}(hp:PP n p)(hr:ZU (λi j=>F (l.getD i d) (l.getD j d)) p n):(p.toList.map λi=>l.getD i d).Pairwise λa b=>F a b=af:=by
 rw[gD,e9];intro i j hi hj hij;rw[ck] at hi hj;have g1:=j9 hi;have g2:=j9 hj;have sz:=hp.size;have r:=hr i j hij ();have x1:p.toList[i]=gt p i:=by
  rw[cA hi] at g1;simpa using g1
 have x2:p.toList[j]=gt p j:=by
  rw[cA hj] at g2;simpa using g2
 rw[x1,x2];exact r
theorem qR{α β:Type}{F:α->β->Prop}{l₁:List α}{l₂:List β}(h:Paired F l₁ l₂)(a:α)(b:β):∀ {is:List Nat},(∀i∈is,i<l₁.length)->Paired F (is.map λi=>l₁.getD i a) (is.map λi=>l₂.getD i b)
 |[],_=>.nil
 |i::r,hi=>by
  have l:=bF h;have h1:=hi i br;refine .cons ?_ (qR h a b λj hj=>hi j (bq _ hj));show F (l₁.getD i a) (l₂.getD i b);have e1:=bb h1;have e2:l₂[i]?=U l₂[i]:=bb ();rw[bM,bM,e1,e2];exact yQ h e1 e2
abbrev zha:RC:=λvs H Q=>∃r d aK,vs=[.ref r]/\H r=U (Vs r d)/\H d=U (.dT (sJ aK))/\(sJ aK).length<64 /\
 ∀l ys srt H',aL H H'->H l=ak->H' l=U (.lst ys)->Paired (PrAt H') ys srt->sV srt->(∀p w,(p,w)∈srt↔zD aK p=U w)->Q (.ref l) H'
theorem zeV{H:Hp}:∀ {ys:List V} {its:List aP},Paired (Y6 H) ys (its.map λq=>(zy q.1,V.int q.2))->Paired (PrAt H) ys its
 |_,[],h=>by cases h;exact .nil
 |_,q::r,h=>by
  rw[bt] at h;cases h with
  |cons a t=>exact .cons a (zeV t)
section
variable {X:Cx}
theorem ziI{σ:St}{H:Hp}{s:ah}{v:V}{u:ae}{q:aP}(I:aO X aa σ H s)(h:PrAt H v q)(r:aU v u):RvAt s.heap u q:=by
 obtain⟨a,p,rfl,h1,h2⟩:=h;cases r;obtain⟨_,its,rv,o,o1,o2,n,o3⟩:=(show aW X.prog X.w H s.heap a (.tup [.ref p,.int q.2]) from I.hok a _ h1);cases rv with
 |cons r1 rr =>
  cases rr with
  |cons r2 rn =>
   cases rn;cases r1;obtain⟨t,rfl⟩:=r2;exact⟨a,o,p,t,n,Z,o1,o2,o3,zau I h2⟩
theorem Y7(hc:X.calm=af)(hu:X.A.units+3<cLine):qp X (.builtin "sorted") zha:=by
 intro aa s σ H vs us Q I r0 h;obtain⟨r,d,aK,rfl,hr,hd,h64,q⟩:=h;obtain⟨u,rfl,ru⟩:=qH r0;cases ru;have hh:X.A.handled=ak:=I.ok.hd hc;obtain⟨its,ei,nd,mi⟩:=zhN aK;have li:(sJ aK).length=its.length:=by rw[ei,bf]
 have so:=Vo nd;have vat:∀ {s1:ah} {H':Hp} {ys:List V} {vs:List ae},aO X aa σ H' s1->Paired (PrAt H') ys its->aR ys vs->∀(i:Nat) (q:aP),its[i]?=U q->∃v,vs[i]?=U v/\RvAt s1.heap v q:=λ{s1 H' ys vs} I' pr rv i q hq=>by
  have hi:=(bo.mp hq).1;have l1:=bF pr;obtain⟨y,hy⟩:∃y,ys[i]?=U y:=⟨_,bb ()⟩;obtain⟨u,hu',ru⟩:=rv.get hy;exact⟨u,hu',ziI I' (yQ pr hy hq) ru⟩
 refine Qa (κ:=tuples' ao) (λvs lt s1=>∃H' ys,aO X aa σ H' s1/\aL H H'/\Paired (PrAt H') ys its/\aR ys vs/\lt=λi j=>yo ((its.map (·.1)).getD i (("",0):Pl)) ((its.map (·.1)).getD j (("",0):Pl)))
  (λR hR=>zbV (A:=X.A.in1) hh hr hd () I λs1 H' ys us I' sm pr rv=>hR us _ s1 ⟨H',ys,I',sm,zeV (by rw[<-ei];exact pr),rv,Z⟩) ?_ ?_ ?_ ?_
 ·rintro vs lt s1 ⟨H',ys,I',sm,pr,rv,rfl⟩;have l1:=bF pr;have l2:=rv.length;refine⟨(),?_⟩;rw[show vs.length=(its.map (·.1)).length by rw[bf];lia];exact so
 ·rintro vs lt s1 ⟨H',ys,I',sm,pr,rv,rfl⟩ h2 h Q' k q';have l1:=bF pr;have l2:=rv.length;refine zeU (s:={ s1 with heap:=h }) (qs:=its) () (λi v q hv hq=>?_) () q';obtain⟨v',hv',rr⟩:=vat I' pr rv i q hq;rw[hv] at hv';cases hv';exact rr.keep k
 ·rintro vs lt s1 ⟨H',ys,I',sm,pr,rv,rfl⟩ h i j C k hi hj hij q';have l1:=bF pr;have l2:=rv.length;have e1:its[i]?=U its[i]:=bb ();have e2:its[j]?=U its[j]:=bb ();obtain⟨v1,g1,r1⟩:=vat I' pr rv i _ e1;obtain⟨v2,g2,r2⟩:=vat I' pr rv j _ e2;have n1:(its.map (·.1)).getD i (("",0):Pl)=its[i].1:=by rw[bM,bB,e1];rfl
  have n2:(its.map (·.1)).getD j (("",0):Pl)=its[j].1:=by rw[bM,bB,e2];rfl
  have m1:vs.getD i cF=v1:=by rw[bM,g1];rfl
  have m2:vs.getD j cF=v2:=by rw[bM,g2];rfl
  simp only[n1,n2] at q';have key:=zgo (P:=X.prog) (w:=X.w) (A:=X.A.in1.in1) (E:=λ_ _=>False) (s:={ s1 with heap:=h }) (Q:=C) (by have e:X.A.in1.in1.units=X.A.units+2:=rfl;lia) (r1.keep k) (r2.keep k) q' λz=>hij (by
   have e3:(its.map (·.1))[i]?=U its[i].1:=by rw[bB,e1];rfl
   have e4:(its.map (·.1))[j]?=U its[j].1:=by rw[bB,e2];rfl
   rw[z] at e3;exact(gE (by rw[bf];lia) nd).mp (e3.trans e4.symm))
  rw[<-m1,<-m2] at key;exact key
 ·rintro vs lt s1 ⟨H',ys,I',sm,pr,rv,rfl⟩ h' p c k hD hp hr;have l1:=bF pr;have l2:=rv.length;have hp':PP its.length p:=by rw[show its.length=vs.length by lia];exact hp
  have fr:H' s1.heap.objs.size=ak:=I'.hok.fresh (bn _);have sz:=hp'.size;have pk:=qR pr V.non d0 (is:=p.toList) λi hi=>by have:=hp'.lt i hi;lia
  have vk:aR (p.toList.map λi=>ys.getD i V.non) (vV vs p):=qR rv V.non cF (is:=p.toList) λi hi=>by have:=hp'.lt i hi;lia
  have I2:aO X aa σ (upd H' s1.heap.objs.size (.lst (p.toList.map λi=>ys.getD i V.non))) { s1 with heap:=h' }:=I'.laid (a:=s1.heap.objs.size) (o:=.lst (p.toList.map λi=>ys.getD i V.non)) (t':=s1.toks) k (bn _)
   ⟨by rw[bf,ck];exact bO (by lia:_<=64) (),vV vs p,c,vk,hD⟩
  have S2:aL H' (upd H' s1.heap.objs.size (.lst (p.toList.map λi=>ys.getD i V.non))):=sQ _ fr;have hn:H s1.heap.objs.size=ak:=by
   cases e:H s1.heap.objs.size with
   |none=>rfl
   |some o=>rw[sm _ _ e] at fr;cases fr
  have mono:∀ {us:List V} {ws:List aP},Paired (PrAt H') us ws->Paired (PrAt (upd H' s1.heap.objs.size (.lst (p.toList.map λi=>ys.getD i V.non)))) us ws:=λ{us ws} h=>by
   induction h with
   |nil=>exact .nil
   |cons a _ ih =>
    obtain⟨r,p,e,h1,h2⟩:=a;exact .cons ⟨r,p,e,S2 _ _ h1,S2 _ _ h2⟩ ih
  refine⟨.ref s1.heap.objs.size,_,I2,Z,q _ _ (p.toList.map λi=>its.getD i d0) _ (sm.trans S2) hn zi (mono pk) ?_ λpl wv=>?_⟩
  ·have hr':ZU (λi j=>yo ((its.map (·.1)).getD i (("",0):Pl)) ((its.map (·.1)).getD j (("",0):Pl))) p its.length:=by rw[show its.length=vs.length by lia];exact hr
   have pw:=zbX (F:=yo) hp' hr';have eq:(p.toList.map λi=>its.getD i d0).map (·.1)=p.toList.map λi=>(its.map (·.1)).getD i (("",0):Pl):=by
    rw[dJ];refine dC λi hi=>?_;have hi:=hp'.lt i hi;simp[bM,bB,bb hi]
   rw[<-eq,gD] at pw;exact pw
  ·have pm:(p.toList.map λi=>its.getD i d0).Perm its:=by
    refine(hp'.list.map _).trans ?_;rw[zbW]
   rw[pm.mem_iff];exact mi pl wv
end
end L2
namespace L2
open PySem PySem.Spec PyProof.Rows
end L2
namespace L2
open PySem
structure StOk(n:Nat)(s:Sta):Prop where
 so:xc s.sl
 wo:∀r∈s.wo,sP r.2=af
 l1:s.sl.length<=n
 l2:s.wo.length<=n
 l3:s.sa.length<=n
theorem StOk.mono(h:StOk n s)(l:n<=m):StOk m s:=⟨h.so,h.wo,bO h.l1 l,bO h.l2 l,bO h.l3 l⟩
theorem Kg(h:xc aJ)(k:aV){i:Int}(hi:sP i=af):xc (yI aJ k (.int i)):=λk' v e=>by
 rw[Va] at e;by_cases c:k'=k
 ·rw[aq c] at e;exact⟨i,(bP e).symm,hi⟩
 ·rw[am c] at e;exact h k' v e
theorem xz{P:aP->Prop}{p:Pl}{w:Int}:∀ {l:List aP},(∀r∈l,P r)->zD l p=U w->P (p,w)
 |[],_,h=>by cases h
 |r::t,hp,h=>by
  rw[zD] at h;cases e:zD t p with
  |some w' =>
   rw[e] at h;have:w'=w:=by simpa using h
   subst this;exact xz (λr hr=>hp r (bq _ hr)) e
  |none =>
   rw[e] at h;by_cases c:r.1=p
   ·rw[aq c] at h;have:r.2=w:=by simpa using h
    rw[<-c,<-this];exact hp r br
   ·rw[am c] at h;cases h
theorem zeW(h:∀r∈l,sP r.2=af)(p:Pl):sP ((zD l p).getD 0)=af:=by
 cases e:zD l p with
 |none=>rfl
 |some w=>exact xz (P:=λr=>sP r.2=af) h e
mutual
def zi2(P:Pl->Prop):Rw->Prop
 |.give sh e _=>∀aJ n,rk aJ e=.ok n->P (sh,n)
 |.iff _ a b=>zeX P a/\zeX P b
 |_=>True
def zeX(P:Pl->Prop):dl->Prop
 |.nil=>True
 |.cons r rs=>zi2 P r/\zeX P rs
end
inductive Oc where
 |done (sa:List Int)
 |off (why:Str)
def zaD:Er->Str
 |.great=>"great"
 |_=>"nought"
def zhO(rws:dl)(tab:List aP)(oc:Oc)(out:List aP):Prop:=match zgk rws ⟨[],tab,[]⟩ with
 |.go s=>oc=.done s.sa/\zay s.wo out
 |.off=>oc=.off "told"/\out=tab
 |.er e=>oc=.off (zaD e)/\out=tab
inductive zhP:List dl->List aP->List Oc->List aP->Prop
 |nil {tab:List aP}:zhP [] tab [] tab
 |cons {d:dl} {ds:List dl} {tab mid out:List aP} {oc:Oc} {ocs:List Oc}:zhO d tab oc mid->zhP ds mid ocs out->zhP (d::ds) tab (oc::ocs) out
def Wi:V->PyData
 |.int i=>.int i
 |.str x=>.str x
 |_=>.none
def plV(v:V):Prop:=(∃i,v=.int i)\/∃x,v=.str x/\cN x=af
def Vt(e:List V):PyData:=.tuple (e.map Wi)
mutual
def rwD:Rw->PyData
 |.take sh e sl=>.tuple [.str "take",.str sh,Vt e,.str sl]
 |.give sh e f=>.tuple [.str "give",.str sh,Vt e,Vt f]
 |.lt sl e=>.tuple [.str "let",.str sl,Vt e]
 |.say e=>.tuple [.str "say",Vt e]
 |.off e=>.tuple [.str "off",Vt e]
 |.iff e a b=>.tuple [.str "if",Vt e,.list (zhQ a),.list (zhQ b)]
def zhQ:dl->List PyData
 |.nil=>[]
 |.cons r rs=>rwD r::zhQ rs
end
def tmP(e:List V):Prop:=∀v∈e,plV v
mutual
def Vu:Rw->Prop
 |.take sh e sl=>cN sh=af/\tmP e/\cN sl=af
 |.give sh e f=>cN sh=af/\tmP e/\tmP f
 |.lt sl e=>cN sl=af/\tmP e
 |.say e=>tmP e
 |.off e=>tmP e
 |.iff e a b=>tmP e/\qS a/\qS b
def qS:dl->Prop
 |.nil=>True
 |.cons r rs=>Vu r/\qS rs
end
section
variable {K:bx}{H:Hp}{F:D->Prop}
theorem zeY(h:plV v):Dat K H v (Wi v):=by
 rcases h with ⟨i,rfl⟩|⟨x,rfl,_⟩
 ·exact .int i
 ·exact .str x
theorem zdy:∀ {e:List V},tmP e->XQ K H e (e.map Wi)
 |[],_=>.nil
 |v::r,h=>.cons (zeY (h v br)) (zdy λu hu=>h u (bq _ hu))
end
theorem zaE:∀ {e:List V},tmP e->ZO (e.map Wi)=af
 |[],_=>by simp[ZO]
 |v::r,h=>by
  rw[bt,ZO,zaE λu hu=>h u (bq _ hu),Bool.and_true];rcases h v br with ⟨i,rfl⟩|⟨x,rfl,hx⟩
  ·rw[Wi,zbS]
  ·rw[Wi,zbS];exact hx
theorem zbY:∀(e:List V),ib (e.map Wi)=0
 |[]=>by simp[ib]
 |v::r=>by
  rw[bt,ib,zbY r];cases v <;> simp[Wi,nW]
def dl.snoc:dl->Rw->dl
 |.nil,x=>.cons x .nil
 |.cons r rs,x=>.cons r (rs.snoc x)
def dl.app:dl->dl->dl
 |.nil,x=>x
 |.cons r rs,x=>.cons r (rs.app x)
theorem pv.get{F:D->Prop}{H:Hp}:∀ {r:dl} {vs:List V} {i:Nat} {v:V},pv F H (vs.drop i) r->vs[i]?=U v->∃x rs,r=.cons x rs/\hU F H v x/\pv F H (vs.drop (i+1)) rs
 |.nil,vs,i,v,h,e=>by
  unfold pv at h;have:=(bo.mp e).1;have:=congrArg fG h;rw[cL] at this;simp at this;lia
 |.cons x rs,vs,i,v,h,e=>by
  unfold pv at h;obtain⟨u,ws,e1,e2,e3⟩:=h;have hi:=(bo.mp e).1;have d:=gP hi;rw[e1] at d;have e4:vs[i]=v:=(bo.mp e).2;rw[e4] at d;injection d with d1 d2;subst d1 d2;exact⟨x,rs,Z,e2,e3⟩
theorem pv.none{F:D->Prop}{H:Hp}{vs:List V}(h:pv F H (vs.drop vs.length) r):r=.nil:=by
 rw[rO] at h;cases r with
 |nil=>rfl
 |cons x rs =>
  unfold pv at h;obtain⟨_,_,e,_⟩:=h;cases e
theorem zeZ(h:kK v)(j:isJ v=ao):aZ [v]:=
 ⟨λaJ=>⟨_,zdo j⟩,λu hu=>by rw[bp.mp hu];exact h,by simp⟩
theorem Paired.snocP{α β:Type}{F:α->β->Prop}{x:α}{y:β}:∀ {a:List α} {b:List β},Paired F a b->F x y->Paired F (a++[x]) (b++[y])
 |_,_,.nil,h=>.cons h .nil
 |_,_,.cons a r,h=>.cons a (Paired.snocP r h)
theorem Paired.getP{α β:Type}{F:α->β->Prop}{a:List α}{b:List β}{i:Nat}{x:α}(h:Paired F a b)(e:a[i]?=U x):∃y,b[i]?=U y/\F x y:=by
 have hi:=(bo.mp e).1;have l:=bF h;exact⟨b[i],bb (),yQ h e (bb ())⟩
end L2
namespace L2
open PySem PySem.Spec PyProof.Rows
theorem zhR{c:Nat}:∀ {a b r s:List Nat},c ∉ a->c ∉ b->a++c::r=b++c::s->a=b/\r=s
 |[],[],r,s,_,_,h=>by simpa using h
 |[],y::b,r,s,_,hb,h=>by
  simp only[gh,dU,gy] at h;exact absurd h.1 (λz=>hb (by rw[z];exact br))
 |x::a,[],r,s,ha,_,h=>by
  simp only[gh,dU,gy] at h;exact absurd h.1.symm (λz=>ha (by rw[z];exact br))
 |x::a,y::b,r,s,ha,hb,h=>by
  simp only[dU,gy] at h;obtain⟨e1,e2⟩:=zhR (λz=>ha (bq _ z)) (λz=>hb (bq _ z)) h.2;exact⟨by rw[h.1,e1],e2⟩
def zhb(K:bx)(ta:TA):TI:=λσ H R=>ta σ H λvs H1=>∃p q xs ys,vs=[.ref p,.ref q]/\xs.length=ys.length/\((aT K H1 p xs/\aT K H1 q ys/\R (zeI K p q xs ys) H1)\/(sN K H1 p xs/\sN K H1 q ys/\R (Itz K p q xs ys) H1))
section
variable {X:Cx}
theorem zgp{elts:List aA}{x1}{tp:Pos}{e1 e2:aA}{ta:TA}{p pos:Pos}(hg:Gl X "zip")(hm:X.mg "zip"=ak)(ha:PA X [e1,e2] ta)(he:Be [e1,e2] X.env=(ao,eval e1 X.env)::Be [e2] X.env:=by rfl)(hpl:(backTo pos (Be [e2] X.env)).any (·.1)=ao:=by rfl) :
  PI X (.Tuple elts x1 tp) (.Call (.Name "zip" p) [e1,e2] [] pos) (zhb X.K ta):=by
 intro aa s σ H R I h;refine Call_ (W5 I hg hm zhG (fW (hZ (ha pos aa s σ H _ I h) ?_) he hpl));rintro us s1 ⟨vs,H1,I1,r1,q1⟩;obtain⟨a,b,xs,ys,e,hl,q0⟩:=q1;subst e;obtain⟨u1,u2,rfl,ra,rb⟩:=zg1 r1;cases ra;cases rb;have ne:∀ {x y:Nat},x≠y->(show D from x)≠(show D from y):=λh=>h;rcases q0 with ⟨h1,h2,q⟩|⟨h1,h2,q⟩
 ·obtain⟨us1,r1,p1,_⟩:=I1.list h1;obtain⟨us2,r2,p2,_⟩:=I1.list h2;have l1:a<s1.heap.objs.size:=by obtain⟨_,_,e,_⟩:=p1;exact bH e
  have l2:b<s1.heap.objs.size:=by obtain⟨_,_,e,_⟩:=p2;exact bH e
  refine call_zip_2 p1.isList p2.isList λh' z0 a0 b0 i0 j0 _ k=>?_;refine iX (s:={ s1 with heap:=h' }) z0 ?_;generalize hn:s1.heap.objs.size=n at *
  have la:∀k:Nat,(show Nat from a)≠n+k:=λk=>bR (bX l1 (eK _ _));have lb:∀k:Nat,(show Nat from b)≠n+k:=λk=>bR (bX l2 (eK _ _));have Bp:ZipApart (n+4) (n+2) (n+3) n (n+1) a b:=⟨ne (),ne (),ne (),ne (),ne (),ne (),ne (),ne (),ne (),ne (),la 4,la 3,la 0,la 1,lb 4,lb 3,lb 0,lb 1⟩;refine⟨_,_,_,_,H1,Z,I1.kept (t':=s1.toks) k,zdv Bp hl,⟨z0,a0,⟨_,_,b0⟩,i0,j0⟩,λc hc=>?_,q⟩;simp only[bu,cf,or_false] at hc;have hc:n<=c:=by rcases hc with rfl|rfl|rfl|rfl|rfl <;> first|exact eK _ _|exact bn _
  exact I1.fpOk (by rw[hn];exact hc) (I1.hok.fresh (by rw[hn];exact hc))
 ·obtain⟨us1,r1,p1,_⟩:=I1.tuple h1;obtain⟨us2,r2,p2,_⟩:=I1.tuple h2;have l1:a<s1.heap.objs.size:=by obtain⟨_,e,_⟩:=p1;exact bH e
  have l2:b<s1.heap.objs.size:=by obtain⟨_,e,_⟩:=p2;exact bH e
  refine zds (show s1.heap.IsTuple a us1.toArray from p1) (show s1.heap.IsTuple b us2.toArray from p2) λh' st k=>?_;refine iX (s:={ s1 with heap:=h' }) st.1 ?_;generalize hn:s1.heap.objs.size=n at *
  have la:∀k:Nat,(show Nat from a)≠n+k:=λk=>bR (bX l1 (eK _ _));have lb:∀k:Nat,(show Nat from b)≠n+k:=λk=>bR (bX l2 (eK _ _));have Bp:XO (n+4) (n+2) (n+3) n (n+1) a b:=⟨ne (),ne (),ne (),ne (),ne (),ne (),ne (),ne (),ne (),ne (),la 4,la 3,la 0,la 1,lb 4,lb 3,lb 0,lb 1⟩;refine⟨_,_,_,_,H1,Z,I1.kept (t':=s1.toks) k,zey Bp hl,st,λc hc=>?_,q⟩;simp only[bu,cf,or_false] at hc;have hc:n<=c:=by rcases hc with rfl|rfl|rfl|rfl|rfl <;> first|exact eK _ _|exact bn _
  exact I1.fpOk (by rw[hn];exact hc) (I1.hok.fresh (by rw[hn];exact hc))
abbrev ze0(K:bx):R2:=λx y H Q=>∃a b xs,x=.ref a/\y=.ref b/\aT K H a xs/\aT K H b []/\Q (.bl (!decide (xs=[]))) H
theorem ze1(hu:X.A.units+64<cLine):tN X (Bi .NotEq) (ze0 X.K):=by
 intro aa s σ H x y v u Q I rx ry h;obtain⟨a,b,xs,rfl,rfl,ha,hb,q⟩:=h;by_cases e:xs=[]
 ·subst e;exact zhK hu aa s σ H _ _ v u Q I rx ry ⟨a,b,[],[],Z,Z,ha,hb,⟨Z,Z,Z⟩,q⟩
 ·cases rx;cases ry;obtain⟨us,r1,p1,_⟩:=I.list ha;obtain⟨ws,r2,p2,_⟩:=I.list hb;cases r2;have e1:=r1.length;have e2:xs.length≠0:=λz=>e (fQ z);rw[Bk e] at q;exact PySem.SeqAt.RcNeAt.lists_lengths p1.isList p2.isList (by simp;intro z;rw[z] at e1;exact e2 e1) () X.prog X.w X.xe _ ⟨.bl af,H,I,Z,q⟩
end
mutual
inductive ze2 (H:Hp):V->PyData->Prop
 |int (i:Int):ze2 H (.int i) (.int i)
 |str (x:Str):ze2 H (.str x) (.str x)
 |lst {a:D} {xs:List V} {ds:List PyData}:H a=U (.lst xs)->zaF H xs ds->ze2 H (.ref a) (.list ds)
 |tup {a:D} {xs:List V} {ds:List PyData}:H a=U (.tup xs)->zaF H xs ds->ze2 H (.ref a) (.tuple ds)
inductive zaF (H:Hp):List V->List PyData->Prop
 |nil:zaF H [] []
 |cons {x:V} {d:PyData} {xs:List V} {ds:List PyData}:ze2 H x d->zaF H xs ds->zaF H (x::xs) (d::ds)
end
end L2
namespace L2
open PySem
abbrev zaG:RM:=zcr
end L2
namespace L2
open PySem PySem.Spec PyProof.Rows
section
variable {X:Cx}
open Classical in
noncomputable def zi5(K:PySem.W.Frag)(H:Hp)(d:PyData)(u:ae):Bool:=decide (∃x,aU x u/\Dat K H x d)
open Classical in
end
def Cb(i:Int):Prop:=lB i<=1048576
theorem Cb.of{i:Int}(h:i.natAbs<2^64):Cb i:=bO (intBits_le_iff.mpr h) ()
open Att PySem.W PySem.Calls in
theorem ze3{l:pD}{n k:Nat}{q:au}{loose:List Str}{XP:(Str->Option ae)->av->Prop}{YP:aw->av->Prop}{d:DefRec}{K:Params->bx}{CX:aw->CXT}{sp:aw->Sp}{x:Str}
  (hn:l.most=U n) (hn2:n<=Bb) (hdf:d.params.defaults=[]) (hr:sG k callerA) (hY:∀(w:aw) (h:av),YP w h->(K w.params).In h)
  (F:∀(w:aw) (mg:Str->Option ae) (fa:D) (h:av),(K w.params).In h->h.Ns Bd mg->mg d.name=U (.ref fa) ->
   ∃fd:Bc,(∀(s:ah) (u:ae),BindsTo s fd ⟨[u],[]⟩ [(x,u)]) /\
    ∀base:av,(K w.params).In base->base.Ns Bd mg->mt l.prog w (K w.params) mg base (CX w) k fa fd [x] (sp w))
  (hsp:∀(w:aw) (H:Hp) (a:D) (ns:List Int),ns.length<=n->(∀i∈ns,Cb i)->zbE H->aT (K w.params) H a (ns.map V.int)->sp w [.ref a] H (λv _=>v=.bl af) λ_ _ _=>False)
  (hCX:∀(w:aw) (H:Hp) (s:ah) (e:ae) (s':ah),CX w [] H s (λ_ _ _=>False) e s'->False) :
  sq q loose XP YP l.row.toRowW d [] (λf vs=>mq f vs):=by
 intro w s₀ s₁ mg mb G Y fa o pm cd doc dV kV ho hd hcd hD hmg hg args vals as hpre hlay hrd hwl hlo;obtain rfl:dV=.none:=Dflts.none hD hdf;obtain rfl:kV=.none:=Dflts.noKw hD;obtain⟨a,vs,ns,rfl,rfl,hobj,hints,hlen⟩:=J1 hn hpre hwl;have hb:∀i∈ns,Cb i:=λi hi=>intBits_le_of_layable (layable_of_mem (lay0_int (layableW_item (layableW_arg hlay _ br) _ (bG.mpr ⟨i,hi,Z⟩))) br);have KX:=hY w _ Y;obtain⟨fd,hbd,hF⟩:=F w mg fa _ KX G.T.g hmg;refine enter_call (fZ (zaf KX G.T.g G.T.b G.T.builtins G.T.nolimit hg hobj hints (bO hlen hn2) hr hF hbd (λH hO hS=>hsp w H a ns hlen hb hO hS) λH e s'=>hCX w H s₁ e s') λr s' hq=>?_);obtain⟨rfl,h2,h3,h4⟩:=hq;exact⟨.inl ⟨.bool af,.bool af,[],Z,λ_=>rfl,.bool af,J2 l _,λ_=>⟨fo,λ_ hm=>(nomatch hm)⟩⟩,h2,h3,h4⟩
theorem walk_ofXB{l:pD}{n k:Nat}{q:au}{loose:List Str}{XP:(Str->Option ae)->av->Prop}{YP:aw->av->Prop}{d:DefRec}{K:Params->bx}{sp:bx->Sp}{x:Str}
  (hn:l.most=U n) (hn2:n<=Bb) (hdf:d.params.defaults=[]) (hr:sG k callerA) (hY:∀(w:aw) (h:av),YP w h->(K w.params).In h)
  (F:∀(w:aw) (mg:Str->Option ae) (fa:D) (h:av),(K w.params).In h->h.Ns Bd mg->mg d.name=U (.ref fa) ->
   ∃fd:Bc,(∀(s:ah) (u:ae),BindsTo s fd ⟨[u],[]⟩ [(x,u)]) /\
    ∀base:av,(K w.params).In base->base.Ns Bd mg->mt l.prog w (K w.params) mg base (tQ l.prog w) k fa fd [x] (sp (K w.params)))
  (hsp:∀(K:bx) (H:Hp) (a:D) (ns:List Int),ns.length<=n->(∀i∈ns,Cb i)->zbE H->aT K H a (ns.map V.int)->sp K [.ref a] H (λv _=>v=.bl af) λ_ _ _=>False) :
  sq q loose XP YP l.row.toRowW d [] (λf vs=>mq f vs) :=
 ze3 (K:=K) (CX:=λw=>tQ l.prog w) (sp:=λw=>sp (K w.params)) hn hn2 hdf hr hY F (λw H a ns h1 hb h2 h3=>hsp (K w.params) H a ns h1 hb h2 h3) λ_ _ _ _ _ z=>by
  obtain⟨_,_,_,_,_,_,_,_,_,y⟩:=z;exact y
section
variable {K:Type} [DecidableEq K]
def yg(xs:List (K×D×ae))(k:K):List (K×D×ae):=xs.filter λx=>decide (x.1≠k)
theorem zbZ:∀ {xs:List (K×D×ae)} {k:K},k ∉ xs.map (·.1)->yg xs k=xs:=λ{xs k} h=>oX.mpr λx hx=>Bj λe=>h (bG.mpr ⟨x,hx,e⟩)
theorem ze4:∀ {xs:List (K×D×ae)} {j:Nat} {k:K} {p:D×ae},(xs.map (·.1)).Nodup->xs[j]?=U (k,p)->xs.eraseIdx j=yg xs k
 |[],j,k,p,_,h=>by simp at h
 |x::r,0,k,p,n,h=>by
  rw[bt,bY] at n;simp only[eO,fA] at h;subst h;show r=List.filter _ ((k,p)::r);rw[fI (by simp)];exact(zbZ n.1).symm
 |x::r,j+1,k,p,n,h=>by
  rw[bt,bY] at n;simp only[ig] at h;have m:k∈r.map (·.1):=bG.mpr ⟨(k,p),bT h,Z⟩;have ne:x.1≠k:=λe=>n.1 (e ▸ m);show x::r.eraseIdx j=List.filter _ (x::r);rw[fJ (by simp[ne]),ze4 n.2 h];rfl
end
theorem XR{α β:Type}(f:α->β):∀(l:List α) (j:Nat),(l.map f).eraseIdx j=(l.eraseIdx j).map f
 |[],_=>rfl
 |_::_,0=>rfl
 |a::l,j+1=>by rw[bt,gY,gY,bt,XR f l j]
theorem KT.dropT{H:Hp}(r:KT H aJ xs)(k:List aV):KT H (yp aJ k) (yg xs k):=by
 induction r with
 |nil=>exact .nil
 |@cons p q ps qs h t ih =>
  unfold yp yg;by_cases e:p.1=k
  ·rw[fI (by simp[e]),fI (by simp[<-h.1,e])];exact ih
  ·rw[fJ (by simp[e]),fJ (by simp[<-h.1,e])];exact .cons h ih
section
variable {prog:au}{w:aw}{K:Type} [DecidableEq K]{knd:HeapKind prog w K}{A:ax}{E:ae->ah->Prop}{s:ah}{d a:D}{xs:List (K×D×ae)}{k:K}
theorem Qb{Q:Option DictEntry->ah->Prop}(hu:knd.room A)(hkey:knd.is s.heap k a)(hm:s.heap.DictOfH knd d xs)(hp:atKey xs k=U p)
  (hsome:∀e:DictEntry,e.val=p.2->∀h',h'.DictOfH knd d (yg xs k)->cG d s.heap h'->Q (U e) { s with heap:=h',toks:=s.toks+knd.draws k }) (hsz:xs.length<=Bb) :
  Bf (Bg prog w) A (oG d (.ref a)) Q E s:=by
 obtain⟨o,es,ep,ho,hc,hd,he,his,hn⟩:=hm;have hes:es.size=xs.length:=oh he;unfold oG
 try with_reducible refine eA ?_
 refine ba (knd.pyHash hu hkey ?_);refine ba (wpAny_dictFind_heap (s:={ s with toks:=s.toks+knd.draws k }) hu hkey ho hd he his hn ?_ ?_)
 ·intro hno;rw[atKey_none_of_get hno] at hp;cases hp
 ·intro j q hj;have e1:=atKey_of_get hn hj;rw[hp] at e1;cases e1;refine ba (dI (s:={ s with toks:=s.toks+knd.draws k }) ho hd ?_);rw[entry_at he j,hj];refine ba (oH (hz:=by lia) (s:={ s with toks:=s.toks+knd.draws k }) ho hd (bh (hsome (entryOfKey knd (k,p)) rfl _ ⟨_,_,ep+1,eE _ ho (oY (gH hd _)),hc.mapDictKeys _,gH hd _,?_,?_,?_⟩ (cV ..))))
  ·rw[<-ze4 hn hj,<-XR,<-he];obtain⟨l⟩:=es;simp
  ·intro x hx;exact knd.keeps (his x (b7.mp hx).1) ho hd (cV ..)
  ·exact ii (fR _ cW) hn
theorem zb0 :MeetsIn prog w (Builtin.«dict.pop» ⟨[.ref d,.ref a],[]⟩) (λA R s=>knd.room A.in1/\∃k xs p,knd.is s.heap k a/\s.heap.DictOfH knd d xs/\xs.length<=Bb/\atKey xs k=U p /\
   ∀h',h'.DictOfH knd d (yg xs k)->cG d s.heap h'->R (.ok (.ret p.2)) { s with heap:=h',toks:=s.toks+knd.draws k }):=
 .of_wp λA R s ⟨hu,k,xs,p,hkey,hm,hz,hp,h⟩=>by
  unfold Builtin.«dict.pop»;refine ba ?_;unfold lO;refine ba (eZ hm.typeIs ?_);show Bf _ _ (pure (d,bI a,ak)) _ _ s;refine bh ?_;have kp:(keyPart (bI a)).isSome=ao:=rfl;simp only[kp,cO,if_false];obtain⟨o,es,ep,ho,hc,hd,he,his,hn⟩:=id hm;refine ba (dI ho hd ?_);refine ba (bh ?_);have ne:es.isEmpty=ao:=by
   have l1:=oh he;cases xs with
   |nil=>simp[atKey] at hp
   |cons x r =>
    rw[Array.isEmpty_eq_false_iff];intro z;rw[z] at l1;simp at l1
  simp only[ne,cO,if_false];refine ba (Qb hu hkey hm hp (λe ev h' hm' hs'=>?_) hz);simp only[pK,cO,if_false];exact ba (mZ (bh ⟨e.val,Z,by rw[ev];exact h h' hm' hs'⟩))
theorem WC{dflt:ae}{Q:ae->ah->Prop}(hu:knd.room A)(hkey:knd.is s.heap k a)(hm:s.heap.DictOfH knd d xs)
  (h1:∀p,atKey xs k=U p->Q p.2 { s with toks:=s.toks+knd.draws k })
  (h2:atKey xs k=ak->∀h',h'.DictOfH knd d (storedH xs k a dflt)->cG d s.heap h'->Q dflt { s with heap:=h',toks:=s.toks+knd.draws k }) (hsz:xs.length<=Bb) :
  Bf (Bg prog w) A (dictSetDefault d (.ref a) dflt) Q E s:=by
 obtain⟨o,es,ep,ho,hc,hd,he,his,hn⟩:=hm;have hes:es.size=xs.length:=oh he;unfold dictSetDefault
 try with_reducible refine eA ?_
 refine ba (knd.pyHash hu hkey ?_);refine ba (wpAny_dictFind_heap (s:={ s with toks:=s.toks+knd.draws k }) hu hkey ho hd he his hn ?_ ?_)
 ·intro hno;have hnot:k ∉ xs.map (·.1):=not_mem_keys_of_get hno;have e0:=atKey_none_of_get hno;refine ba (lh (ba (oH (hz:=by lia) (s:={ s with toks:=s.toks+knd.draws k }) ho hd (bh (h2 e0 _ ⟨_,_,ep+1,eE _ ho (oY (gH hd _)),
   hc.mapDictKeys _,gH hd _,?_,?_,?_⟩ (cV ..))))))
  ·rw[storedH_new e0];simp[he,entryOfKey]
  ·rw[storedH_new e0];intro x hx;rcases bw.mp hx with hx|hx
   ·exact knd.keeps (his x hx) ho hd (cV ..)
   ·simp only[bp] at hx;subst hx;exact knd.keeps hkey ho hd (cV ..)
  ·rw[storedH_new e0];rw[bQ,da];refine⟨hn,by simp,?_⟩;intro x hx y hy;simp only[bt,nT,bp] at hy;subst hy;exact λe=>hnot (e ▸ hx)
 ·intro j p hj;refine ba (dI (s:={ s with toks:=s.toks+knd.draws k }) ho hd ?_);rw[entry_at he j,hj];exact ba (lh (bh (h1 p (atKey_of_get hn hj))))
theorem Jh(hd:(d==sysModules)=ao)(dflt:ae):MeetsIn prog w (Builtin.«dict.setdefault» ⟨[.ref d,.ref a,dflt],[]⟩) (λA R s=>knd.room A.in1/\∃k xs,knd.is s.heap k a/\s.heap.DictOfH knd d xs/\xs.length<=Bb /\
   (∀p,atKey xs k=U p->R (.ok (.ret p.2)) { s with toks:=s.toks+knd.draws k }) /\
   (atKey xs k=ak->∀h',h'.DictOfH knd d (storedH xs k a dflt)->cG d s.heap h'->R (.ok (.ret dflt)) { s with heap:=h',toks:=s.toks+knd.draws k })):=
 .of_wp λA R s ⟨hu,k,xs,hkey,hm,hz,h1,h2⟩=>by
  unfold Builtin.«dict.setdefault»;refine ba ?_;unfold lO;refine ba (eZ hm.typeIs ?_);show Bf _ _ (pure (d,bI a,U dflt)) _ _ s;refine bh ?_;show Bf _ _ (if (d==sysModules)=af then _ else (dictSetDefault d (.ref a) dflt >>= _)) _ _ s;rw[am (by rw[hd];exact bK)];exact ba (WC hu hkey hm (λp hp=>bh ⟨_,Z,h1 p hp⟩) (λhn h' hm' hs'=>bh ⟨dflt,Z,h2 hn h' hm' hs'⟩) hz)
end
section
variable {X:Cx}{aa:List (D×Obj)}{σ:St}{H:Hp}{s:ah}{a b:D}{aJ:List (List aV×V)}{k:List aV}{A:ax}{E:ae->ah->Prop}
theorem zhS{Q:ae->ah->Prop}(hu:A.units+1<cLine)(I:aO X aa σ H s)(e:H a=U (.dT aJ))(eb:H b=U (.tup (k.map kV)))(l:yf aJ k=U v)
  (h:∀w' s',aO X aa σ (upd H a (.dT (yp aJ k))) s'->aU v w'->Q w' s'):Bf (Bg X.prog X.w) A (call (.builtin "dict.pop") [.ref a,.ref b]) Q E s:=by
 obtain⟨z,hd,xs,rel,dd⟩:=zab I.hok e;have hz:xs.length<=Bb:=by rw[<-bF rel];exact z
 have rv:=rel.val k;rw[l] at rv;obtain⟨w',hw,rw'⟩:=sY.some_of rv;obtain⟨p,hp,rfl⟩:=b9.mp hw;refine iK eD dd.typeIs ir (mU _ _) (zb0 (knd:=tupleKind (yz X.prog X.w))) ⟨dN hu,k,xs,p,kG I.hok eb,dd,hz,hp,λh' dd' hs=>h _ _ ?_ rw'⟩;obtain⟨q,es,ep,hq,h2,h3,h4,_,h5⟩:=dd';refine ZJ I (by rw[e];exact eJ) hs ⟨q,hq⟩ ⟨bO (zaa aJ k) z,hd,_,(rel.dropT k).keeps λc ys ec=>?_,q,es,ep,hq,h2,h3,h4,h5⟩;rw[zl (zJ ec e ())];exact ec
theorem zdz{Q:ae->ah->Prop}(hu:A.units+1<cLine)(I:aO X aa σ H s)(e:H a=U (.dT aJ))(eb:H b=U (.tup (k.map kV)))(rd:aU d r)(hl:aJ.length<Bb)
  (h1:∀v w' s',yf aJ k=U v->aO X aa σ H s'->aU v w'->Q w' s') (h2:∀s',yf aJ k=ak->aO X aa σ (upd H a (.dT (yI aJ k d))) s'->Q r s'):Bf (Bg X.prog X.w) A (call (.builtin "dict.setdefault") [.ref a,.ref b,r]) Q E s:=by
 obtain⟨z,hd,xs,rel,dd⟩:=zab I.hok e;have hz:xs.length<=Bb:=by rw[<-bF rel];exact z
 have rv:=rel.val k;refine iK lf dd.typeIs PySem.F.entry_dict_setdefault (PySem.F.args_dict_setdefault_3 _ _ _) (Jh (knd:=tupleKind (yz X.prog X.w)) hd r) ⟨dN hu,k,xs,kG I.hok eb,dd,hz,λp hp=>?_,λhn h' dd' hs=>?_⟩
 ·rw[hp] at rv;cases hv:yf aJ k with
  |none=>rw[hv] at rv;exact rv.elim
  |some v=>rw[hv] at rv;exact h1 v _ _ hv (I.tok _) rv
 ·rw[hn] at rv;have hv:yf aJ k=ak:=by
   cases hv:yf aJ k with
   |none=>rfl
   |some v=>rw[hv] at rv;exact rv.elim
  refine h2 _ hv ?_;obtain⟨q,es,ep,hq,g2,g3,g4,_,g5⟩:=dd';have hl2:(yI aJ k d).length<=Bb:=by have:=wa aJ k d;lia
  refine ZJ I (by rw[e];exact eJ) hs ⟨q,hq⟩ ⟨hl2,hd,_,(rel.put k eb rd).keeps λc ys ec=>?_,q,es,ep,hq,g2,g3,g4,g5⟩;rw[zl (zJ ec e ())];exact ec
end
def ze5(td ty:TE):TE:=λσ H Q=>td σ H λx H1=>∃a,x=.ref a/\IsD H1 a/\ty σ H1 λy H2=>∃aJ k b v,H2 a=U (.dT aJ)/\y=.ref b/\H2 b=U (.tup (k.map kV))/\yf aJ k=U v/\Q v (upd H2 a (.dT (yp aJ k)))
def ze6(td ty tx:TE):TE:=λσ H Q=>td σ H λx H1=>∃a,x=.ref a/\IsD H1 a/\ty σ H1 λy H2=>tx σ H2 λz H3=>∃aJ k b,H3 a=U (.dT aJ)/\y=.ref b/\H3 b=U (.tup (k.map kV))/\aJ.length<Bb /\
 (∀v,yf aJ k=U v->Q v H3)/\(yf aJ k=ak->Q z (upd H3 a (.dT (yI aJ k z))))
section
variable {X:Cx}{o e f:aA}{sC sK:Pos}{td ty tx:TE}
theorem ze7(hu:X.A.units+1<cLine)(ho:PE X o td)(he:PE X e ty)(m:M1 X o "pop" sC e sK):PE X (.Call (.Attribute o "pop" sC) [e] [] sK) (ze5 td ty):=by
 intro aa s σ H Q I h;refine gB m.base m.few m.line dO eD iM (hZ (ho aa s σ H _ I h) ?_);rintro u s1 ⟨x,H1,I1,rx,a,ex,d,q1⟩;subst ex;obtain rfl:u=bI a:=rx;obtain⟨t1,t2,_⟩:=XI I1 d;refine⟨t1,t2,?_⟩;rw[m.trees];refine df Z (dR (cR (hZ (he aa s1 σ H1 _ I1 q1) λiv s2 ⟨y,H2,I2,ry,aJ,k,b,v,ea,ey,eb,l,q2⟩=>eR ?_)));subst ey;cases (show iv=bI b from ry);exact zhS hu I2 ea eb l λw' s3 I3 rw'=>⟨v,_,I3,rw',q2⟩
theorem ze8(hu:X.A.units+1<cLine)(ho:PE X o td)(he:PE X e ty)(hf:PE X f tx)(m:M2 X o "setdefault" sC e f sK):PE X (.Call (.Attribute o "setdefault" sC) [e,f] [] sK) (ze6 td ty tx):=by
 intro aa s σ H Q I h;refine gB m.base m.few m.line dO lf PySem.F.type_dict_setdefault (hZ (ho aa s σ H _ I h) ?_);rintro u s1 ⟨x,H1,I1,rx,a,ex,d,q1⟩;subst ex;obtain rfl:u=bI a:=rx;obtain⟨t1,t2,_⟩:=XI I1 d;refine⟨t1,t2,?_⟩;rw[m.trees];refine df Z (dR (cR (hZ (he aa s1 σ H1 _ I1 q1) λiv s2 ⟨y,H2,I2,ry,q2⟩ =>
  cR (hZ (hf aa s2 σ H2 _ I2 q2) λfv s3 ⟨z,H3,I3,rz,aJ,k,b,ea,ey,eb,hl,q3,q4⟩=>eR ?_))))
 subst ey;cases (show iv=bI b from ry);exact zdz hu I3 ea eb rz hl (λv w' s4 hv I4 rw'=>⟨v,_,I4,rw',q3 v hv⟩) λs4 hn I4=>⟨z,_,I4,rz,q4 hn⟩
end
abbrev qT:RM:=λx vs H Q=>∃(l:D) (xs:List V) (k:Nat) (y:V),x=.ref l/\vs=[.int k,y]/\H l=U (.lst xs)/\k<=xs.length/\xs.length<1000000/\Q .non (upd H l (.lst (xs.take k++y::xs.drop k)))
abbrev qU:RM:=λx vs H Q=>∃(l:D) (ns:List Int) (i:Int),x=.ref l/\vs=[.int i]/\H l=U (.lst (ns.map V.int))/\i∈ns/\Q .non (upd H l (.lst ((ns.erase i).map V.int)))
theorem aR.takeV:∀(k:Nat) {xs:List V} {us:List ae},aR xs us->aR (xs.take k) (us.take k)
 |0,_,_,_=>by rw[List.take_zero,List.take_zero];exact .nil
 |_+1,_,_,.nil=>.nil
 |k+1,_,_,.cons h r=>.cons h (aR.takeV k r)
theorem aR.dropV:∀(k:Nat) {xs:List V} {us:List ae},aR xs us->aR (xs.drop k) (us.drop k)
 |0,_,_,h=>h
 |_+1,_,_,.nil=>.nil
 |k+1,_,_,.cons _ r=>aR.dropV k r
section
variable {X:Cx}
theorem Kh:MtM X "list.insert" qT:=by
 intro aa s σ H x vs v us Q I rx rv h;obtain⟨l,xs,k,y,rfl,rfl,hH,hk,hz,q⟩:=h;cases rx;cases rv with
 |cons r1 rr =>
  obtain⟨u,rfl,ru⟩:=(show aR [y] _ from rr).one;obtain⟨t,rfl⟩:=r1;obtain⟨z,its,n,r,hl,e⟩:=I.lstM hH;have h1:(1000000:Nat)<Bb:=by rw[bN];decide
  obtain⟨i,hi⟩:∃i:Int,i=k:=⟨_,Z⟩;rw[<-hi];have hc:¬ (!Builtin.List.listFitsIndex i)=af:=by rw[fitsIndex_both () ()];exact bK
  have hs:its.toArray.size<=Bb:=by rw[bL];lia
  have M:=AutoSeq1.list_insert_list_int_val_1 l its.toArray n i t u hc hs;refine iD F.slot_list_insert ⟨_,e,Z⟩ F.entry_list_insert (F.args_list_insert_3 _ _ _) M ⟨e,?_⟩;refine⟨.non,_,I.lset (its':=its.take k++u::its.drop k) hH e ?_ ((r.takeV k).append (.cons ru (r.dropV k))) ?_,Z,q⟩
  ·have hk2:k<=its.length:=by lia
   subst hi;have hn:¬ ((k:Int)<0):=by lia
   simp[cw hk2,hn];rw[bU (by rw[cL];lia)]
  ·rw[bD,bW,cC,cL];lia
theorem zcI:∀ {ns:List Int} {its:List ae},aR (ns.map V.int) its->∀(m:Nat) (v:ae),its[m]?=U v->∃i t,ns[m]?=U i/\v=.int i t
 |[],_,.nil,m,v,h=>by simp at h
 |i::ns,_,.cons h r,0,v,e=>by
  simp only[eO,fA] at e;subst e;obtain⟨t,rfl⟩:=h;exact⟨i,t,Z,Z⟩
 |i::ns,_,.cons h r,m+1,v,e=>by simpa using zcI r m v (by simpa using e)
def isI(k:Int):ae->Bool
 |.int a _=>a==k
 |_=>ao
theorem Ki:MtM X "list.remove" qU:=by
 intro aa s σ H x vs v us Q I rx rv h;obtain⟨l,ns,i,rfl,rfl,hH,hi,q⟩:=h;cases rx;obtain⟨u,rfl,ru⟩:=rv.one;obtain⟨t,rfl⟩:=ru;obtain⟨z,its,n,r,hl,e⟩:=I.lstM hH;rw[bf] at hl z;have hj:ns.idxOf i<ns.length:=List.idxOf_lt_length_iff.mpr hi;have gt:∀m (hm:m<its.toArray.size),∃(h2:m<ns.length) (t':Tok),its.toArray[m]=.int ns[m] t':=λm hm=>by
  rw[bL] at hm;obtain⟨i',t',h1,h2⟩:=zcI r m its[m] (bb hm);have h3:m<ns.length:=by lia
  rw[bb h3] at h1;refine⟨h3,t',?_⟩;rw[bP h1,<-h2];simp
 refine iD F.slot_list_remove ⟨_,e,Z⟩ F.entry_list_remove (F.args_list_remove_2 _ _)
  (MeetsSeq.list_remove l its.toArray n (.int i t) (isI i) (λy hy=>?_) (ns.idxOf i) (by rw[bL];lia) ?_ (λm hm hlt=>?_) (by rw[bL];lia)) ⟨e,?_⟩
 ·obtain⟨m,hm,rfl⟩:=Array.mem_iff_getElem.mp hy;obtain⟨h2,t',e2⟩:=gt m hm;rw[e2];exact MeetsSeq.EqGives.int _ _ _ _
 ·obtain⟨h2,t',e2⟩:=gt (ns.idxOf i) (by rw[bL];lia);rw[e2];show (ns[ns.idxOf i]==i)=af;rw[List.getElem_idxOf hj];exact beq_self_eq_true i
 ·obtain⟨h2,t',e2⟩:=gt m hm;rw[e2];show (ns[m]==i)=ao;exact List.not_of_lt_findIdx (p:=λy=>y==i) (xs:=ns) (i:=m) hlt
 ·have ee:ns.erase i=ns.eraseIdx (ns.idxOf i):=List.erase_eq_eraseIdx_of_idxOf rfl;rw[ee] at q;refine⟨.non,_,I.lset (its':=its.eraseIdx (ns.idxOf i)) hH e ?_ (by rw[<-XR];exact r.eraseIdx _) ?_,Z,q⟩
  ·show its.toArray.eraseIdxIfInBounds _=_;rw[iE]
  ·rw[bf];have:=JY ns (ns.idxOf i);lia
end
def zaH(H:Hp)(y:V)(kv:List aV×V):Prop:=∃p,y=.ref p/\H p=U (.tup (kv.1.map kV))
abbrev zcJ:RC:=λvs H Q=>∃a aJ,vs=[.ref a]/\H a=U (.dT aJ)/\∀l ys,H l=ak->Paired (zaH H) ys aJ->Q (.ref l) (upd H l (.lst ys))
section
variable {X:Cx}
theorem Wj{H:Hp}{es:Array DictEntry}:∀(aJ:List (List aV×V)) (vs:List ae) (j:Nat),vs.length=aJ.length->(∀i v,vs[i]?=U v->∃e,es[j+i]?=U e/\v=e.key) ->
  (∀(i:Nat) (en:DictEntry) (kv:List aV×V),es[j+i]?=U en->aJ[i]?=U kv->∃p,en.key=.ref p/\H p=U (.tup (kv.1.map kV)))->∃ys,aR ys vs/\Paired (zaH H) ys aJ
 |[],[],_,_,_,_=>⟨[],.nil,.nil⟩
 |[],v::vs,_,hl,_,_=>by simp at hl
 |kv::aJ,[],_,hl,_,_=>by simp at hl
 |kv::aJ,v::vs,j,hl,h1,h2=>by
  obtain⟨e,he,rfl⟩:=h1 0 v rfl;obtain⟨p,hp,hH⟩:=h2 0 e kv he rfl;obtain⟨ys,r1,r2⟩:=Wj (es:=es) aJ vs (j+1) (by simpa using hl) (λi u hu=>by rw[pL,Nat.add_comm 1 i];exact h1 (i+1) u (by simpa using hu)) (λi en kv' he' hk=>h2 (i+1) en kv' (by rw[<-pL,pM];exact he') (by simpa using hk));exact⟨.ref p::ys,.cons hp r1,.cons ⟨p,Z,hH⟩ r2⟩
theorem vW(hc:X.calm=af):qp X (.type "list") zcJ:=by
 intro aa s σ H vs us Q I r0 h;obtain⟨a,aJ,rfl,ha,q⟩:=h;obtain⟨u,rfl,ru⟩:=qH r0;cases ru;have hh:X.A.handled=ak:=I.ok.hd hc;obtain⟨z,lo,_⟩:=zab I.hok ha;obtain⟨es,ep,rd,hes,hen⟩:=zeR I ha;refine W.kdl_call (K4 (ep:=ep) (es:=es) lo) hh rd (by rw[hes];exact z) λh' tk acc c hk hD hi=>?_;obtain⟨ys,r1,r2⟩:=Wj (H:=H) (es:=es) aJ acc.toList 0 (by rw[ck,hi.1,hes]) (λi v hv=>by
   rw[om];obtain⟨e,h1,h2⟩:=hi.2 i v (by rw[<-dn];exact hv);exact⟨e,h1,h2⟩) (λi en kv he hk=>by
   rw[om] at he;obtain⟨p,g1,g2,_⟩:=hen i en kv he hk;exact⟨p,g1,g2⟩)
 have I2:aO X aa σ (upd H s.heap.objs.size (.lst ys)) { s with heap:=h',toks:=tk }:=I.laid (a:=s.heap.objs.size) (o:=.lst ys) (t':=tk) hk (bn _)
  ⟨by have:=bF r2;lia,acc.toList,c,r1,by rw[Array.toArray_toList];exact hD⟩
 exact⟨.ref s.heap.objs.size,_,I2,Z,q _ ys (I.hok.fresh (bn _)) r2⟩
end
structure FunD(K:bx)(x qual:Str)(st:ay)(f:D)(fd:Bc):Prop where
 ex:∃(oc:ae) (od:Option D) (dV kV doc pm:ae) (an:Option D) (cdv ct:ae) (osl:Array (Option ae)),fd=iq x qual (yX st) (yt st) (zj st) dV kV doc pm an cdv ct/\K.lookup f=U ⟨oc,od,.func fd,osl⟩/\gQ K cdv qual=af
 kp:dM K (.ref f)=af
section
variable {P:au}{w:aw}{K:bx}{mg:Str->Option ae}{base:av}{x qual:Str}{st:ay}{f:D}{fd:Bc}{N ps:List Str}{k:Nat}{sp:Sp}
theorem FunD.ok1(F:FunD K x qual st f fd)(S:aM N ps (zj st))(len:∀vs H Q E,sp vs H Q E->vs.length=ps.length)
  (hbody:∀(cdv:ae) (A:ax) (outer:List Env) (s:ah) (H:Hp) (vs:List V) (Q:VK) (E:XK),sG k (A.deeper (envOfC qual (zj st) s.heap.objs.size f cdv))->sp vs H Q E->∃t,PSs (qD (tQ P w) P w K mg base N qual (zj st) f cdv A outer s H E) (yt st) t/\t { nx:=λ_ H'=>Q .non H',rt:=Q } (start N vs) H):mt P w K mg base (tQ P w) (k+1) f fd ps sp:=by
 obtain⟨oc,od,dV,kV,doc,pm,an,cdv,ct,osl,rfl,lk,hcd⟩:=F.ex;exact zg2 lk hcd S len λA outer s H vs Q E hr hsp=>hbody cdv A outer s H vs Q E hr hsp
theorem FunD.ok0(F:FunD K x qual st f fd)(S:aM N ps (zj st))(len:∀vs H Q E,sp vs H Q E->vs.length=ps.length)
  (hbody:∀(cdv:ae) (A:ax) (outer:List Env) (s:ah) (H:Hp) (vs:List V) (Q:VK) (E:XK),sG k (A.deeper (envOfC qual (zj st) s.heap.objs.size f cdv))->sp vs H Q E->∃t,PSs (qD (tQ P w) P w K mg base N qual (zj st) f cdv A outer s H E).nox (yt st) t/\t { nx:=λ_ H'=>Q .non H',rt:=Q } (start N vs) H):mt P w K mg base (tQ P w) (k+1) f fd ps sp :=
 F.ok1 S len λcdv A outer s H vs Q E hr h=>let ⟨t,a,b⟩:=hbody cdv A outer s H vs Q E hr h;⟨t,a.nox,b⟩
theorem zcK{od an:Option D}{osl:Array (Option ae)}{dV kV doc pm cdv ct:ae}(l:K.lookup f=U ⟨oc,od,.func (iq x qual (yX st) (yt st) (zj st) dV kV doc pm an cdv ct),osl⟩)
  (c:gQ K cdv qual=af) (k:dM K (.ref f)=af):FunD K x qual st f (iq x qual (yX st) (yt st) (zj st) dV kV doc pm an cdv ct):=⟨⟨oc,od,dV,kV,doc,pm,an,cdv,ct,osl,Z,l,c⟩,k⟩
end
section
variable {X:Cx}{o value:aA}{f:Str}{pos pos':Pos}{ta:TE}{tx:EXK->TE}
def zhc(K:bx)(ta:TE)(tx:EXK->TE)(f:Str)(EX:EXK):TS:=xT K ta (tx EX) f
theorem zgq(ha:PE X.nox o ta)(hv:PEX X value tx)(hs:swapsWith value (U (.Attribute o f pos')) pos.line X.env=pure ao):PSX X (.Assign [.Attribute o f pos'] value pos) (zhc X.K ta tx f):=by
 intro aa s σ H Bp EX I h;refine iB (hZ (hv aa s σ H _ EX I h) λu s1 ⟨y,H1,I1,ry,q⟩=>dF (ha aa s1 σ H1 _ (I1.wish _) q) (?_) λ_ _ z=>c9 z) hs;rintro ov s2 ⟨x,H2,I2',rx,a,C,dx,fs,ex,ea,c,n,l,q2⟩;subst ex;obtain rfl:ov=bI a:=rx;exact Yi I2'.unwish ea c n l ry λs3 I3=>⟨σ,_,I3,q2⟩
end
def zhd(K:bx)(tb:EXK->TS)(C1 C2:D)(th:TS):TS:=λBp σ H=>tb (λcls σ1 H1=>∃C,cls=.ref C/\rS K (.ref C) [.ref C1,.ref C2]=U af/\th Bp σ1 H1) Bp σ H
theorem ze9(x:Heap.FlyingW base l e cls a0 h)(o:Obj):Heap.FlyingW base l e cls a0 (h.push o):=by
 obtain⟨f1,f2,f3,oe,vs,T,oT,ts,a1,a2,a3,a4,a5,a6,a7,a8,a9⟩:=x;exact⟨λb u q=>bc _ (f1 b u q),f2,f3.of_keeps (λb u q _=>⟨u,bc _ q,Z⟩),oe,vs,T,oT,ts,bc _ a1,a2,a3,a4,a5,a6,bc _ a7,a8,a9⟩
section
variable {X:Cx}{st b₀:ay}{suite:List ay}{tb:EXK->TS}{th:TS}{c1 c2:Str}{C1 C2:D}{np np2 hpos tpos pos:Pos}{x1:Nat}
theorem zgr(hst:X.stack=X.env::X.outer/\X.env.frame=U X.env.locals)(hex:X.ex=[])(hb:PSX X st tb)(hg1:Gl X c1)(hm1:X.mg c1=U (.ref C1))(hg2:Gl X c2)(hm2:X.mg c2=U (.ref C2))
  (hs:∀e,PSs (X.sub e) (b₀::suite) th) (hdb1:(c1==("__debug__":Str))=ao:=by lia) (hdb2:(c2==("__debug__":Str))=ao:=by lia) :
  PS X (.Try [st] [.ExceptHandler (U (.Tuple [.Name c1 np,.Name c2 np2] x1 tpos)) ak (b₀::suite) hpos] [] [] pos) (zhd X.K tb C1 C2 th):=by
 intro aa s σ H Bp I h;refine wpAny_Try_except (iT (dF (hb aa s σ H Bp _ I h) (λf s1 q=>?_) λev s1 q=>?_))
 ·cases f with
  |next=>exact eS (eS q)
  |ret v=>exact q
  |brk=>exact q
  |cont=>exact q
 obtain⟨e,cls,σ1,s0,H0,H1,rfl,I0,I1,xf,C,rfl,hx,hth⟩:=q;obtain⟨oe,vs,a0,T,oT,ts,h1,h2,h3,h4,h5,h6,h7,h8,h9,h10,h11,h12⟩:=xf;have fr:s1.heap.FunFrames (gJ s1.heap (tq X.stack++[e,T])) (X.env::X.outer):=by
  have q:=iW (as:=tq X.stack++[e,T]) I1.stack λenv he a ha=>cp _ (fV.mpr ⟨env,he,ha⟩);rw[hst.1] at q ⊢;exact q
 have two:∀b∈[e,T],s0.heap.get? b=ak/\H1 b=ak:=λb z=>by
  have z':b=e\/b=T:=by simpa using z
  rcases z' with rfl|rfl
  ·exact⟨h9,h11⟩
  ·exact⟨h10,h12⟩
 have hcs:∀b∈[e,T],H1 b=ak/\X.s₀.heap.get? b=ak:=λb z=>⟨(two b z).2,j6 (I0.there0 hex) (two b z).1⟩;have hcp:∀b∈[e,T],∀p∈X.pn++aa,p.1≠b:=λb z p hp q=>by
  have:=(I0.pin p hp).1;rw[q,(two b z).1] at this;cases this
 refine wpAny_looks_onW (base:=gJ s1.heap (tq X.stack++[e,T])) (a0:=a0) (cls:=.ref C) (by rw[I1.ok.frames,hst.1]) hst.2
  ⟨λb o q=>lP _ q,fS _ (bJ _ (by simp)),fr,oe,vs,T,oT,ts,h1,h2,h3,h4,fS _ (bJ _ (by simp)),h5,h6,h7,h8⟩ λg4 held4 sm4=>?_
 refine wpAny_landsW held4 λg5 fly5 sm5=>?_;have hB:∀ {g:av},(gJ s1.heap (tq X.stack++[e,T])).StaysIn g->∀b o,s1.heap.get? b=U o->b ∉ tq X.stack->b ∉ [e,T]->g.get? b=U o :=
  λ{g} k b o q n1 n2=>k b o (i8 _ q λz=>(bw.mp z).elim n1 n2)
 have I5:aO X aa σ1 H1 { s1 with heap:=g5 }:=I1.land hex hcs hcp (hB fly5.1) (sm4.trans sm5);refine lI (iO ?_) (by intro q;cases q);refine wpAny_Tuple_spliced (cR (wW (X:=X.sub e) (I5.toSub (e:=e)) hg1 hm1 (cR (wW (X:=X.sub e) (I5.toSub (e:=e)) hg2 hm2 (eR ⟨(by show 2<=Bb;decide),?_⟩) hdb2)) hdb1));have fly6:=ze9 fly5 { cls:=.type "tuple",data:=.seq [bI C1,bI C2].toArray };have kp:∀b o,g5.get? b=U o->(g5.push { cls:=.type "tuple",data:=.seq [bI C1,bI C2].toArray }).get? b=U o:=λb o q=>bc _ q;have hp:(g5.push { cls:=.type "tuple",data:=.seq [bI C1,bI C2].toArray }).get? g5.objs.size=U { cls:=.type "tuple",data:=.seq [bI C1,bI C2].toArray }:=bE _ rfl;have K6:X.K.In (g5.push { cls:=.type "tuple",data:=.seq [bI C1,bI C2].toArray }):=(I5.kept (t':=s1.toks) kp).kIn;have ty6:si (Bg X.prog X.w) (g5.push { cls:=.type "tuple",data:=.seq [bI C1,bI C2].toArray }) (typeOf (.ref e)) (.ref C):=by
  obtain⟨o,p1,p2⟩:=fly6.there;exact p2 ▸ (pX p1).andThen .now
 refine(W.exm_tup2 K6 ty6 hp hx).here ?_;refine nI (lands_againW fly6 λg7 fly7 sm7=>?_);have I7:aO X aa σ1 H1 { s1 with heap:=g7 }:=I1.land hex hcs hcp (hB fly7.1) (((sm4.trans sm5).trans (Heap.UpToSlots.of_keeps kp)).trans sm7);refine dF (hs e aa _ σ1 H1 Bp I7.toSub hth) (λf s9 q=>?_) λ_ _ z=>c9 z;cases f with
 |next=>obtain⟨σ9,H9,J,z⟩:=q;exact⟨σ9,H9,aO.ofSub (J:=I) J,z⟩
 |brk=>obtain⟨σ9,H9,J,z⟩:=q;exact⟨σ9,H9,aO.ofSub (J:=I) J,z⟩
 |cont=>obtain⟨σ9,H9,J,z⟩:=q;exact⟨σ9,H9,aO.ofSub (J:=I) J,z⟩
 |ret u=>obtain⟨v,σ9,H9,J,r,z⟩:=q;exact⟨v,σ9,H9,aO.ofSub (J:=I) J,r,z⟩
end
section
variable {X:Cx}{CX:CXT}{k:Nat}{f C:D}{fd:Bc}{ps:List Str}{sp:Sp}{dvs:List V}{E:XK}{m:Str}{pos sC:Pos}{o:aA}{ta:TE}
theorem zdA{pl:Sem Bool}(he:PE X o ta)(c:tD X.K C)(hm:KK X.K C m f)(F:mt X.prog X.w X.K X.mg X.base CX k f fd ps sp)(hr:sG k X.A)(hb:∃ds,aR dvs ds/\sI X.K fd ps ds)(hx:xU CX X E)
  (ht:eval (.Call (.Attribute o m sC) [] [] pos) X.env=(do
   let ov <-eval o X.env
   standAt sC.atName
   let (f,first) <-holding [ov] (getMethod ov m pl)
   callWith pos f first (backTo pos (Be [] X.env)) (backToKw pos (keywordEach [] X.env))):=by rfl) :
  PE X (.Call (.Attribute o m sC) [] [] pos) (zN C m sp dvs E ta zk):=by
 obtain⟨ds,hd,hb⟩:=hb;exact QZ he c hm F hr hb hd hx ht
end
structure MkO(K:bx)(C:D):Prop where
 makes:gK K C=af
 init:bZ K (.ref C) "__init__"=U (U (.builtin "object.__init__"))
 kp:dM K (.ref C)=af
def zb1(C:D):TE:=λ_ H Q=>∀x dx,H x=ak->H dx=ak->dx≠x->Q (.ref x) (upd (upd H dx (.own x)) x (.ins C dx []))
section
variable {X:Cx}{C:D}{x:Str}{p pos:Pos}
theorem zdB{σ:St}{H:Hp}{s:ah}{Q:VK}(M:MkO X.K C)(I:aO X aa σ H s)(h:∀x dx,H x=ak->H dx=ak->dx≠x->Q (.ref x) (upd (upd H dx (.own x)) x (.ins C dx []))) :
  Bf (Bg X.prog X.w) X.A (call (.ref C) []) (EP X aa σ Q) X.xe s:=by
 have hq:=h (s.heap.objs.size+1) s.heap.objs.size (I.hok.fresh (rX _)) (I.hok.fresh (bn _)) (bR (nh _));have I2:=aO.made (C:=C) I;refine pQ (zdc I.kIn M.makes M.init (λself=>W.Looks.of_pure (W.oi_bind self)) ?_);have Y:=W.makes_of (M:=Bg X.prog X.w) I.kIn M.makes;have g1:si (Bg X.prog X.w) ((s.heap.push dY).push (fN C s.heap.objs.size)) (typeOf (.ref (s.heap.objs.size+1))) (.ref C):=by
  have:=bE (s.heap.push dY) (o:=fN C s.heap.objs.size) rfl;rw[eP] at this;exact(pX this).andThen .now
 have g2:si (Bg X.prog X.w) ((s.heap.push dY).push (fN C s.heap.objs.size)) (isInstance (.ref (s.heap.objs.size+1)) (.type "object")) af:=g1.andThen (Y.top.keeps λb o e=>bc (fN C s.heap.objs.size) (bc dY e));refine codeAny_call_builtin W.oi_plain W.entry_oi (W.check_slot (rest:=[]) (kw:=[]) W.oi_kind W.oi_split g2 (W.oi_args _) ?_);rw[W.oi_run];exact bh ⟨Z,V.ref (s.heap.objs.size+1),_,I2,Z,hq⟩
theorem zaI(M:MkO X.K C)(hg:Gl X x)(hm:X.mg x=U (.ref C))(hdb:(x==("__debug__":Str))=ao:=by lia):PE X (.Call (.Name x p) [] [] pos) (zb1 C):=by
 intro aa s σ H Q I h;refine eY (wW I hg hm ?_ hdb);exact pC I.kIn M.kp (zdB M I h)
end
def zfa(Bo:List (D×Sp))(m:Str)(E:XK)(ta:TE)(t:TA):TE:=λσ H Q=>ta σ H λx H1=>∃a dx fs C sp,x=.ref a/\H1 a=U (.ins C dx fs)/\fs.lookup m=ak/\(C,sp)∈Bo/\t σ H1 λvs H2=>sp (x::vs) H2 Q E
structure MOk(X:Cx)(CX:CXT)(m:Str)(C:D)(sp:Sp):Prop where
 cl:tD X.K C
 fn:∃k f fd ps,KK X.K C m f/\mt X.prog X.w X.K X.mg X.base CX k f fd ps sp/\sG k X.A/\sI X.K fd ps []
section
variable {X:Cx}{CX:CXT}{E:XK}{m:Str}{pos sC:Pos}{e o:aA}{es:List aA}{ta:TE}{t:TA}{Bo:List (D×Sp)}{C:D}{sp:Sp}
theorem zfb(c:tD X.K C)(hm:KK X.K C m f)(F:mt X.prog X.w X.K X.mg X.base CX k f fd ps sp)(hr:sG k X.A)(hb:sI X.K fd ps []):MOk X CX m C sp:=⟨c,k,f,fd,ps,hm,F,hr,hb⟩
theorem zhT:∀z∈([]:List (D×Sp)),MOk X CX m z.1 z.2:=λz h=>nomatch h
theorem Qc(h:MOk X CX m C sp)(r:∀z∈Bo,MOk X CX m z.1 z.2):∀z∈(C,sp)::Bo,MOk X CX m z.1 z.2:=λz hz=>by
 rcases bu.mp hz with rfl|hz
 ·exact h
 ·exact r z hz
theorem zfc{pl:Sem Bool}(he:PE X o ta)(hL:∀z∈Bo,MOk X CX m z.1 z.2)(hx:xU CX X E)(ha:PA X (e::es) t)
  (hst:Be (e::es) X.env=(ao,eval e X.env)::Be es X.env:=by rfl) (hpl:(backTo pos (Be es X.env)).any (·.1)=ao:=by rfl)
  (ht:eval (.Call (.Attribute o m sC) (e::es) [] pos) X.env=(do
   let ov <-eval o X.env
   standAt sC.atName
   let (f,first) <-holding [ov] (getMethod ov m pl)
   callWith pos f first (backTo pos (Be (e::es) X.env)) (backToKw pos (keywordEach [] X.env))):=by rfl) :
  PE X (.Call (.Attribute o m sC) (e::es) [] pos) (zfa Bo m E ta t):=by
 intro aa s σ H Q I h;refine lz (pl:=pl) (hZ (he aa s σ H _ I h) ?_) ht;rintro u s1 ⟨x,H1,I1,rx,a,dx,fs,C,sp,ex,ea,l,hz,q⟩;subst ex;obtain rfl:u=bI a:=rx;obtain⟨c,k,f,fd,ps,hm,F,hr,hb⟩:=hL _ hz;refine kE I1 ea c hm l ?_;refine lR (first:=[.ref a]) (h₀:=X.base) I.ok.mod.kin hm.kp (hZ (ha pos aa s1 σ H1 _ I1 q) λus s2 ⟨vs,H2,I2,r,q2⟩=>⟨I2.kIn,?_⟩) hst hpl;exact KL (us:=.ref a::us) (vs:=.ref a::vs) (dvs:=[]) F hr hb .nil hx I2 (.cons Z r) (by rw[fj];exact q2)
end
section
variable {X:Cx}{CX:CXT}{k:Nat}{f C:D}{fd:Bc}{ps:List Str}{sp:Sp}{dvs:List V}{E:XK}{x:Str}{p pos:Pos}{e:aA}{es:List aA}{t:TA}
theorem Vv(M:Mk X.K C f)(F:mt X.prog X.w X.K X.mg X.base CX k f fd ps sp)(hr:sG (k+1) X.A)(hg:Gl X x)(hm:X.mg x=U (.ref C))(hb:∃ds,aR dvs ds/\sI X.K fd ps ds)(hx:xU CX X E)
  (ha:PA X (e::es) t) (hdb:(x==("__debug__":Str))=ao:=by lia) (he:Be (e::es) X.env=(ao,eval e X.env)::Be es X.env:=by rfl) (hpl:(backTo pos (Be es X.env)).any (·.1)=ao:=by rfl) :
  PE X (.Call (.Name x p) (e::es) [] pos) (Z1 C sp dvs E t):=by
 obtain⟨ds,hd,hb⟩:=hb;exact WY M F hr hg hm hb hd hx ha hdb he hpl
end
end L2
namespace HT
open PySem PySem.Spec PyProof.Rows
end HT
namespace L2
open PySem PySem.Spec PyProof.Rows
end L2
namespace L2
open PySem
end L2
namespace L2
open PySem PySem.Spec PyProof.Rows
end L2
namespace L2
open PySem PySem.Spec PySem.W PyProof.Rows
end L2
namespace L2
open PySem PySem.Spec PySem.W PyProof.Rows PySem.Calls
end L2
namespace L2
open PySem PySem.Spec PyProof.Rows
structure FG(K:bx)(mg:Str->Option ae)(x:Str)(st:ay)(ps:List Str)(a:D)(d:Bc):Prop where
 f:Fun K x x st a d
 b:sI K d ps []
 m:mg x=U (.ref a)
structure FM(K:bx)(C:D)(x qual:Str)(st:ay)(ps:List Str)(a:D)(d:Bc):Prop where
 f:Fun K x qual st a d
 b:sI K d ps []
 me:KK K C x a
abbrev QF(K:bx)(x qual:Str)(st:ay)(a:D):Prop:=∃oc od sl kV dc pm an cd ct,K.lookup a=U ⟨oc,od,.func (iq x qual (yX st) (yt st) (zj st) .none kV dc pm an cd ct),sl⟩/\gQ K cd qual=af/\dM K (.ref a)=af
abbrev QG(K:bx)(x:Str)(st:ay):Prop:=∃a,gG K Bd x=U (U (.ref a))/\QF K x x st a
abbrev QM(K:bx)(C:D)(x qual:Str)(st:ay):Prop:=∃a,bZ K (.ref C) x=U (U (.ref a))/\pB K (.ref a)=af/\QF K x qual st a
section
variable {K:bx}{h:av}{mg:Str->Option ae}{x qual:Str}{st:ay}{a C:D}{ps:List Str}
theorem QF.to(q:QF K x qual st a)(hb:∀(kV doc pm:ae) (an:Option D) (cdv ct:ae) (us:List ae),us.length=ps.length->bindArgs (iq x qual (yX st) (yt st) (zj st) .none kV doc pm an cdv ct) ⟨us,[]⟩=pure (ps.zip us)):∃d,Fun K x qual st a d/\sI K d ps []/\dM K (.ref a)=af:=by
 obtain⟨oc,od,sl,kV,dc,pm,an,cd,ct,h1,h2,h3⟩:=q;have F:=XJ (st:=st) h1 h2 h3;exact⟨_,F,F.binds hb,h3⟩
abbrev bA(x qual:Str)(st:ay)(us:List ae)(bs:List (Str×ae)):Prop:=∀(kV doc pm:ae) (an:Option D) (cdv ct:ae),bindArgs (iq x qual (yX st) (yt st) (zj st) .none kV doc pm an cdv ct) ⟨us,[]⟩=pure bs
theorem QG.to(X:K.In h)(G:h.Ns Bd mg)(q:QG K x st)(hb:∀us:List ae,us.length=ps.length->bA x x st us (ps.zip us)):∃a d,FG K mg x st ps a d:=by
 obtain⟨a,n,q⟩:=q;obtain⟨d,F,Bn,_⟩:=QF.to q λ_ _ _ _ _ _ us hl=>hb us hl _ _ _ _ _ _;exact⟨a,d,F,Bn,lK X G n⟩
theorem QM.to(q:QM K C x qual st)(hb:∀us:List ae,us.length=ps.length->bA x qual st us (ps.zip us)):∃a d,FM K C x qual st ps a d:=by
 obtain⟨a,n,i,q⟩:=q;obtain⟨d,F,Bn,k⟩:=QF.to q λ_ _ _ _ _ _ us hl=>hb us hl _ _ _ _ _ _;exact⟨a,d,F,Bn,n,i,k⟩
theorem arS{P:List ae->Prop}(h:∀a us,us.length=n->P (a::us)):∀us,us.length=n+1->P us:=λus e=>by
 cases us with
 |nil=>cases e
 |cons a us=>exact h a us (Nat.succ.inj e)
theorem ar0{P:List ae->Prop}(h:P []):∀us,us.length=0->P us:=λus e=>by
 cases us with
 |nil=>exact h
 |cons=>cases e
theorem ar1{P:List ae->Prop}(h:∀a,P [a]):∀us,us.length=1->P us:=arS λa=>ar0 (P:=λus=>P (a::us)) (h a)
theorem ar2{P:List ae->Prop}(h:∀a b,P [a,b]):∀us,us.length=2->P us:=arS λa=>ar1 (P:=λus=>P (a::us)) (h a)
theorem ar3{P:List ae->Prop}(h:∀a b c,P [a,b,c]):∀us,us.length=3->P us:=arS λa=>ar2 (P:=λus=>P (a::us)) (h a)
theorem ar4{P:List ae->Prop}(h:∀a b c d,P [a,b,c,d]):∀us,us.length=4->P us:=arS λa=>ar3 (P:=λus=>P (a::us)) (h a)
theorem ar5{P:List ae->Prop}(h:∀a b c d e,P [a,b,c,d,e]):∀us,us.length=5->P us:=arS λa=>ar4 (P:=λus=>P (a::us)) (h a)
variable (X:K.In h)(G:h.Ns Bd mg)(u v w y z:Str)
include X G in
theorem QG.a1(q:QG K x st)(hb:∀a,bA x x st [a] [(u,a)]:=by exact λ_ _ _ _ _ _ _=>rfl):∃a d,FG K mg x st [u] a d:=QG.to X G q (ar1 hb)
include X G in
theorem QG.a2(q:QG K x st)(hb:∀a b,bA x x st [a,b] [(u,a),(v,b)]:=by exact λ_ _ _ _ _ _ _ _=>rfl):∃a d,FG K mg x st [u,v] a d:=QG.to X G q (ar2 hb)
include X G in
theorem QG.a3(q:QG K x st)(hb:∀a b c,bA x x st [a,b,c] [(u,a),(v,b),(w,c)]:=by exact λ_ _ _ _ _ _ _ _ _=>rfl):∃a d,FG K mg x st [u,v,w] a d:=QG.to X G q (ar3 hb)
theorem QM.a1(q:QM K C x qual st)(hb:∀a,bA x qual st [a] [(u,a)]:=by exact λ_ _ _ _ _ _ _=>rfl):∃a d,FM K C x qual st [u] a d:=QM.to q (ar1 hb)
theorem QM.a2(q:QM K C x qual st)(hb:∀a b,bA x qual st [a,b] [(u,a),(v,b)]:=by exact λ_ _ _ _ _ _ _ _=>rfl):∃a d,FM K C x qual st [u,v] a d:=QM.to q (ar2 hb)
theorem QM.a3(q:QM K C x qual st)(hb:∀a b c,bA x qual st [a,b,c] [(u,a),(v,b),(w,c)]:=by exact λ_ _ _ _ _ _ _ _ _=>rfl):∃a d,FM K C x qual st [u,v,w] a d:=QM.to q (ar3 hb)
end
abbrev QX(K:bx)(a:D):Prop:=∃cl,bZ K (.ref a) "__getattribute__"=U (U (.builtin "BaseException.__getattribute__"))/\bZ K (.ref a) "__getattr__"=U ak/\bZ K (.ref a) "__class__"=U (U (.builtin "object.__class__"))/\sk K a (.type "object")=U af/\sk K a (.type "BaseException")=U af/\rW K (.builtin "object.__class__") "__get__"=U (U (.builtin "getset_descriptor.__get__"))/\W.takesIn K (.builtin "object.__class__")=U af/\W.clsIn K a=U cl
theorem QX.to{K:bx}(q:QX K a):ExK K a:=by
 obtain⟨cl,h1,h2,h3,h4,h5,h6,h7,h8⟩:=q;exact⟨⟨h1,h2,h3,h4,h5,h6,h7⟩,by rw[h8];rfl⟩
section
variable {X:Cx}{CX:CXT}{j k:Nat}{a C:D}{d:Bc}{ps:List Str}{sp:Sp}{x m qual:Str}{st:ay}{p pos sC:Pos}{o e:aA}{es:List aA}{ta:TE}{t:TA}{E:XK}
theorem sU(F:mt X.prog X.w X.K X.mg X.base CX j a d ps sp)(G:FG X.K X.mg x st ps a d)(hr:sG k X.A)(hx:xU CX X E)(ha:PA X (e::es) t)(hj:j<=k:=by lia)(hg:Gl X x:=by exact rfl)(hdb:(x==("__debug__":Str))=ao:=by lia)(he:Be (e::es) X.env=(ao,eval e X.env)::Be es X.env:=by rfl)(hpl:(backTo pos (Be es X.env)).any (·.1)=ao:=by rfl) :
  PE X (.Call (.Name x p) (e::es) [] pos) (zV sp [] E t):=YT (F.mono hj) hr hg G.m G.f.kp G.b .nil hx ha hdb he hpl
end
theorem aM.m{N P:List Str}{sc:aB}(h1:sc.kind=.function:=by rfl)(h2:sc.isCoroutine=ao:=by rfl)(h3:sc.isGenerator=ao:=by rfl)(h4:N.Nodup:=by lia)(h5:N.take P.length=P:=by rfl)(h6:∀x∈P,sc.names.lookup x=U .local\/sc.names.lookup x=U .cell:=by lia)(h7:∀y∈sc.names,y.2≠.free:=by lia):aM N P sc:=⟨h1,h2,h3,h4,h5,h6,h7⟩
section
variable {P:au}{w:aw}{K:bx}{mg:Str->Option ae}{base:av}{x qual:Str}{st:ay}{f:D}{fd:Bc}{N ps:List Str}{k:Nat}{sp:Sp}
theorem Fun.okA(F:Fun K x qual st f fd)(S:aM N ps (zj st))(h:∀vs H Q E,sp vs H Q E->vs.length=ps.length/\∀(cdv:ae) (A:ax) (outer:List Env) (s:ah),sG k (A.deeper (envOfC qual (zj st) s.heap.objs.size f cdv)) ->
   ∃t,PSs (qD (tQ P w) P w K mg base N qual (zj st) f cdv A outer s H E).nox (yt st) t/\t { nx:=λ_ H'=>Q .non H',rt:=Q } (start N vs) H):mt P w K mg base (tQ P w) (k+1) f fd ps sp:=F.ok0 S (λvs H Q E z=>(h vs H Q E z).1) λcdv A outer s H vs Q E hr z=>(h vs H Q E z).2 cdv A outer s hr
theorem Fun.okB(F:Fun K x qual st f fd)(S:aM N ps (zj st))(h:∀vs H Q E,sp vs H Q E->vs.length=ps.length/\∀(cdv:ae) (A:ax) (outer:List Env) (s:ah),sG k (A.deeper (envOfC qual (zj st) s.heap.objs.size f cdv)) ->
   ∃t,PSs (qD (tQ P w) P w K mg base N qual (zj st) f cdv A outer s H E) (yt st) t/\t { nx:=λ_ H'=>Q .non H',rt:=Q } (start N vs) H):mt P w K mg base (tQ P w) (k+1) f fd ps sp:=F.ok1 S (λvs H Q E z=>(h vs H Q E z).1) λcdv A outer s H vs Q E hr z=>(h vs H Q E z).2 cdv A outer s hr
end
section
variable {K:bx}{σ:St}{H:Hp}{Q:VK}{i:Nat}{k:Int}{p a C dx:D}{xs:List V}{u v:V}{x w f:Str}{fs:List (Str×V)}{te:TE}{A Bn:TS}{Bp:Ja}
theorem XS(h0:σ[i]?=U (U (.ref p)))(h1:H p=U (.tup xs))(h2:tL xs k=U u)(q:Q u H):aN (y9 K) (B i) (tC (.int k)) σ H Q:=⟨_,h0,p,xs,k,u,Z,Z,sN.of h1,h2,q⟩
theorem qV(h0:σ[i]?=U (U (.ref a)))(h1:H a=U (.ins C dx fs))(c:tD K C)(n:aQ K C f)(l:fs.lookup f=U v)(q:Q v H):zR K (B i) f σ H Q:=⟨_,h0,a,C,dx,fs,v,Z,h1,c,n,l,q⟩
theorem ziJ(h:∀Q:VK,Q (.str x) H->te σ H Q)(a:x=w->A Bp σ H)(b:x≠w->Bn Bp σ H):yc (zG (aN tj te (tC (.str w)))) A Bn Bp σ H:=by
 refine h _ ⟨Z,_,Z,?_⟩;by_cases c:x=w
 ·show if _ then _ else _
  rw[aq (by rw[c];exact Bj Z)];exact a c
 ·show if _ then _ else _
  rw[am (by rw[decide_eq_true_eq];exact λz=>c (V.str.inj z))];exact b c
theorem kM(h0:σ[i]?=U (U (.ref p)))(h1:H p=U (.tup xs))(h2:tL xs k=U (.str x))(a:x=w->A Bp σ H)(b:x≠w->Bn Bp σ H):yc (zG (aN tj (aN (y9 K) (B i) (tC (.int k))) (tC (.str w)))) A Bn Bp σ H:=ziJ (λQ q=>XS h0 h1 h2 q) a b
theorem zfd(h0:σ[i]?=U (U (.ref l)))(h1:H l=U (.lst xs))(q:Q (.int xs.length) H):sO (wI K) (zd (B i) zk) σ H Q:=by
 refine⟨_,h0,.ref l,xs.length,Z,?_,q⟩;simp only[zhz];exact .inl ⟨_,aT.of h1,Z⟩
theorem ziK{n:Int}{P R:Prop}(a:n≠0->P)(b:n=0->R):if (!decide (V.int n=V.int 0))=af then P else R:=by
 by_cases c:n=0
 ·rw[am (by rw[c];decide)];exact b c
 ·rw[aq (by rw[Bk (λz=>c (V.int.inj z))];rfl)];exact a c
theorem ziL{n:Int}{P R:Prop}(a:n=0->P)(b:n≠0->R):if decide (V.int n=V.int 0)=af then P else R:=by
 by_cases c:n=0
 ·rw[aq (by rw[c];decide)];exact a c
 ·rw[am (by rw[Bk (λz=>c (V.int.inj z))];decide)];exact b c
end
end L2
namespace L2
open PySem PySem.Spec PySem.W PyProof.Rows
abbrev zhe:RC:=λxs H Q=>∃(a:D) (aJ:List (aV×V)) (rs:List Int),xs=[.ref a]/\H a=U (.dK aJ)/\aJ.map (·.1)=rs.map gW/\aJ.length<64 /\
 ∀(l:D) (srt:List Int),H l=ak->srt.Perm rs->srt.Pairwise (· < ·)->Q (.ref l) (upd H l (.lst (srt.map V.int)))
theorem Kj:∀ {vs:List ae} {ns:List Int},IntsAre vs ns->aR (ns.map V.int) vs
 |_,_,.nil=>.nil
 |_,_,.cons _ t h=>.cons ⟨t,Z⟩ (Kj h)
theorem zdC{P:au}{w:aw}{aJ:List (aV×V)}{vs:List (aV×ae)}(a:KV aJ vs):∀ {es:List DictEntry} {rs:List Int},Pairs (yz P w) es vs->aJ.map (·.1)=rs.map gW->IntsAre (es.map (·.key)) rs/\vs.map (·.1)=rs.map gW:=by
 induction a with
 |nil =>
  intro es rs b hr;cases b;cases rs with
  |nil=>exact⟨.nil,Z⟩
  |cons=>cases hr
 |cons h kv ih =>
  intro es rs b hr;cases rs with
  |nil=>cases hr
  |cons r rs =>
   cases b with
   |cons hk _ pr =>
    obtain⟨e1,e2⟩:=sA hr;obtain⟨i1,i2⟩:=ih pr e2;have e3:=h.1.symm.trans e1;rcases yJ hk with ⟨j,t,ej,et⟩|⟨x,t,ej,et⟩
    ·rw[e3] at ej;cases ej;refine⟨?_,by rw[bt,bt,i2,e3]⟩;rw[bt,et];exact .cons _ t i1
    ·rw[e3] at ej;cases ej
section
variable {X:Cx}{p pos kp:Pos}{e:aA}{ta:TE}
theorem zgs{aa:List (D×Obj)}{σ:St}{H:Hp}{s:ah}{a:D}{aJ:List (aV×V)}{rs:List Int}{Q:VK}{kw:List (Str×ae)}{O:List Int->Prop}(hc:X.calm=af)(I:aO X aa σ H s)(ha:H a=U (.dK aJ))(hk:aJ.map (·.1)=rs.map gW)(h64:aJ.length<64)
  (hs:∀(R:PySem.Fin->ah->Prop) (s:ah) (b:D) (vs:List ae),s.heap.get? b=U (seqObj "list" vs.toArray 0)->IntsAre vs rs->vs.length<64->(∀(out:Array ae) (ns:List Int),IntsAre out.toList ns->ns.Perm rs->(rs.Nodup->O ns)->R (.done (.ret .none)) { s with heap:=sortedHeap s.heap b vs out })->Bf (Bg X.prog X.w) X.A.in1.in1 (Builtin.«list.sort» ⟨[.ref b],kw⟩) R X.xe s)
  (hw:argsOk "sorted" ⟨[.ref a],kw⟩) (hw2:∀b:D,argsOk "list.sort" ⟨[.ref b],kw⟩)
  (q:∀(l:D) (srt:List Int),H l=ak->srt.Perm rs->O srt->Q (.ref l) (upd H l (.lst (srt.map V.int)))) :
  Bf (Bg X.prog X.w) X.A (call (.builtin "sorted") [.ref a] kw) (EP X aa σ Q) X.xe s:=by
 obtain⟨hz,lo,vs,kv,o,es,ep,ho,hx,hd,hk',pr,hn⟩:=(show aW X.prog X.w H s.heap a (.dK aJ) from I.hok a _ ha);obtain⟨ia,ev⟩:=zdC kv pr hk;have nr:rs.Nodup:=xp (f:=(gW:Int->aV)) (by rw[<-ev];exact hn);have il:es.size<64:=by have:=kv.length;have:=pr.length;rw[ck] at this;lia
 have cl:=bO (show es.size<=1000 by lia) (show 1000<=Bb by lia);refine call_function_entry_kw kind_sorted ro rq hw ?_;unfold Builtin.«sorted»;refine ba (m:=checkCount "sorted" 1 1 _) (bh ?_);refine ba (Wh (K4 (ep:=ep) (es:=es) lo) (I.ok.hd hc) ⟨o,ho,hx,hd⟩ cl λh tk ws k1 hl hG=>?_);have ew:ws=es.toList.map (·.key):=by
  apply fq;intro i;by_cases hi:i<ws.length
  ·obtain⟨e,hes,ek⟩:=hG i ws[i] (bb hi);rw[bb hi,ek,bB,dn,hes];rfl
  ·rw[cz (),cz (by rw[bf,ck];lia)]
 rw[<-ew] at ia;have hoL:(h.push (seqObj "list" ws.toArray 0)).get? h.objs.size=U (seqObj "list" ws.toArray 0):=bE _ rfl;refine ba (m3 ?_ (by rw[bN];lia));refine ba (eA (wpAny_call_entry_kw oN ⟨_,hoL,Z⟩ nZ (hs _ { s with heap:=h.push (seqObj "list" ws.toArray 0),toks:=tk } _ ws hoL ia () λout ns a1 a2 a3=>⟨_,rfl,bh ⟨_,rfl,?_⟩⟩) (hw2 _)));obtain⟨c,hD⟩:=sortedHeap_at (out:=out) hoL;have I1:aO X aa σ H { s with heap:=h,toks:=tk }:=I.kept k1;have nl:=a2.length_eq;have rl:=IntsAre.length ia;refine⟨.ref h.objs.size,_,I1.laid (s:={ s with heap:=h,toks:=tk }) (a:=h.objs.size) (o:=.lst (ns.map V.int)) (t':=tk) (λb o e=>?_) (bn _) ⟨by rw[bf];exact bO (show ns.length<=1000 by have:=congrArg fG hk;rw[bf,bf] at this;lia) (),_,c,Kj a1,hD⟩,Z,q _ _ (I1.hok.fresh (bn _)) a2 (a3 nr)⟩;have lt:=bH e;exact(sortedHeap_old (bR lt) (by rw[size_push'];exact pS lt)).trans (bc _ e)
theorem Qd(hc:X.calm=af):qp X (.builtin "sorted") zhe:=by
 intro aa s σ H xs us Q I r h;obtain⟨a,aJ,rs,rfl,ha,hk,h64,q⟩:=h;obtain⟨u,rfl,ru⟩:=qH r;cases ru;exact zgs hc I ha hk h64 (O:=λn=>n.Pairwise (· < ·)) (λR s b vs h1 h2 h3 h=>list_sort_tree h1 h2 h3 λout ns a1 a2 a3=>h out ns a1 a2 λnd=>(a3.and (a2.nodup_iff.mpr nd)).imp λz=>by lia) (rA _) (λ_=>oO _) q
end
section
variable {X:Cx}{CX:CXT}{i j k:Nat}{f C:D}{fd:Bc}{ps:List Str}{sp:Sp}{x m qual:Str}{st:ay}{pos pos' sC:Pos}{o a b e:aA}{es:List aA}{te ta tb:TE}{t:TA}{E:XK}
theorem zu(hN:X.N.Nodup)(he:PE X e te)(hi:X.N[i]?=U x:=by rfl)(hx:Loc X.env.scope x:=by exact .inl Z)(hs:swapsWith e (U (.Name x pos')) pos.line X.env=pure ao:=by rfl)(hf:X.fn x=af\/X.env.scope.names.lookup x=U .local:=by first|exact .inl rfl|exact .inr rfl|assumption) :
  PS X (.Assign [.Name x pos'] e pos) (zT te (zw i)):=Yh hN hi hx he hs hf
theorem yn(hN:X.N.Nodup)(hi:X.N[i]?=U x:=by rfl)(hx:Loc X.env.scope x:=by exact .inl Z)(hf:X.fn x=af\/X.env.scope.names.lookup x=U .local:=by first|exact .inl rfl|exact .inr rfl|assumption):PG X (.Name x pos) (zw i):=jk hN hi hx hf
theorem zA{r:R2}(hr:IxR X r)(ha:PE X a ta)(hb:PE X b tb)(hs:zcp b:=by exact λ_ _=>rfl):PE X (.Subscript a b pos) (aN r ta tb):=ziy hr ha hb hs
theorem tF{pl:Sem Bool}(he:PE X o ta)(c:tD X.K C)(F:mt X.prog X.w X.K X.mg X.base CX j f fd ps sp)(G:FM X.K C m qual st ps f fd)(hr:sG k X.A)(hx:xU CX X E)(ha:PA X (e::es) t)(hj:j<=k:=by lia)
  (hst:Be (e::es) X.env=(ao,eval e X.env)::Be es X.env:=by rfl) (hpl:(backTo pos (Be es X.env)).any (·.1)=ao:=by rfl)
  (ht:eval (.Call (.Attribute o m sC) (e::es) [] pos) X.env=(do
   let ov <-eval o X.env
   standAt sC.atName
   let (f,first) <-holding [ov] (getMethod ov m pl)
   callWith pos f first (backTo pos (Be (e::es) X.env)) (backToKw pos (keywordEach [] X.env))):=by rfl) :
  PE X (.Call (.Attribute o m sC) (e::es) [] pos) (zN C m sp [] E ta t):=zcn he c G.me (F.mono hj) hr G.b .nil hx ha hst hpl ht
theorem jJ{pl:Sem Bool}(he:PE X o ta)(c:tD X.K C)(F:mt X.prog X.w X.K X.mg X.base CX j f fd ps sp)(G:FM X.K C m qual st ps f fd)(hr:sG k X.A)(hx:xU CX X E)(hj:j<=k:=by lia)
  (ht:eval (.Call (.Attribute o m sC) [] [] pos) X.env=(do
   let ov <-eval o X.env
   standAt sC.atName
   let (f,first) <-holding [ov] (getMethod ov m pl)
   callWith pos f first (backTo pos (Be [] X.env)) (backToKw pos (keywordEach [] X.env))):=by rfl) :
  PE X (.Call (.Attribute o m sC) [] [] pos) (zN C m sp [] E ta zk):=QZ he c G.me (F.mono hj) hr G.b .nil hx ht
end
end L2
namespace K47
open PySem L2
abbrev aD:=rI (λ_ j=>0<j) λi j=>.int (i%j)
abbrev aE:=rI0 λi j=>.int (i+j)
abbrev aF:=rI yD λi j=>.int (i/j)
abbrev aG:=rI0 λi j=>.bl (decide (i<j))
abbrev aH:=rI CMulB λi j=>.int (i*j)
abbrev aI:=rI0 λi j=>.int (i-j)
abbrev sH(Q:VK):Ja:={nx:=λ_ H'=>Q .non H',rt:=Q}
def top(i:Nat):ay:=PySem.Challenge.pw_forerun_k47_whole_two_weavings.main.body.getD i (.Pass ⟨0,0,0,0⟩)
abbrev wN:ay:=top 39
abbrev kN:ay:=top 38
abbrev jp:ay:=top 40
abbrev jK:ay:=top 41
abbrev vJ:ay:=top 46
abbrev xL:ay:=zP (top 13) 0
abbrev wb:ay:=zP (top 15) 0
abbrev wc:ay:=zP (top 27) 0
abbrev xh:ay:=zP (top 35) 0
abbrev qW:ay:=top 48
abbrev w6:ay:=zP (top 27) 5
abbrev vX:ay:=zP (top 27) 4
abbrev wO:ay:=zP (top 27) 9
abbrev Yn:ay:=zP (top 25) 1
abbrev XT:ay:=top 20
abbrev XU:ay:=top 21
abbrev Yo:ay:=top 17
abbrev Vw:ay:=top 22
abbrev Yp:ay:=top 23
abbrev vY:ay:=zP (top 25) 5
abbrev vZ:ay:=zP (top 25) 6
abbrev Yq:ay:=zP (top 25) 2
abbrev wt:ay:=zP (top 13) 8
abbrev kO:ay:=top 10
abbrev kP:ay:=zP (top 13) 1
abbrev qX:ay:=zP (top 25) 9
abbrev Yr:ay:=zP (top 25) 8
abbrev kQ:ay:=zP (top 25) 7
abbrev wP:ay:=zP (top 25) 3
abbrev xP:ay:=zP (top 15) 4
abbrev xw:ay:=zP (top 15) 5
abbrev qY:ay:=top 12
abbrev vx:ay:=zP (top 15) 2
abbrev wQ:ay:=zP (top 34) 0
abbrev wR:ay:=zP (top 35) 1
abbrev kR:ay:=zP (top 33) 0
abbrev wS:ay:=zP (top 25) 0
abbrev vy:ay:=zP (top 27) 11
abbrev wu:ay:=zP (top 27) 10
abbrev ww:ay:=zP (top 13) 6
abbrev wx:ay:=zP (top 13) 9
abbrev Ys:ay:=top 11
abbrev qZ:ay:=zP (top 13) 2
abbrev xV:ay:=zP (top 13) 7
abbrev kS:ay:=zP (top 15) 3
abbrev vz:ay:=zP (top 15) 1
abbrev q8:ay:=zP (top 25) 4
abbrev q9:ay:=zP (top 27) 2
abbrev jL:ay:=zP (top 27) 3
abbrev kT:ay:=top 8
abbrev xA:ay:=zP (top 13) 3
abbrev kU:ay:=zP (top 27) 6
abbrev v3:ay:=top 37
abbrev jM:ay:=top 30
abbrev Yt:ay:=top 29
abbrev XV:ay:=top 31
abbrev Yu:ay:=zP (top 27) 1
abbrev Za:ay:=top 42
abbrev Zb:ay:=top 43
abbrev Yv:ay:=top 44
abbrev jq:ay:=top 45
abbrev kW:ay:=top 47
abbrev Vx:ay:=top 49
theorem Y8:aM ["word"] ["word"] (zj wN):=.m
theorem q0g:aM ["cell","many","found","one","two","k"] ["cell","many"] (zj kN):=.m
theorem q0j:aM ["cell","letters","word","one","at","letter"] ["cell"] (zj jp):=.m
theorem Vy:aM ["number"] ["number"] (zj jK):=.m
theorem q0m:aM ["cell","shelves","xs","found","k","worth"] ["cell","shelves"] (zj vJ):=.m
theorem Ji:aM ["self","table"] ["self","table"] (zj xL):=.m
theorem Qe:aM ["self","makes"] ["self","makes"] (zj wb):=.m
theorem Qf:aM ["self","table","hands","way","first"] ["self","table","hands","way","first"] (zj wc):=.m
theorem WD:aM ["self"] ["self"] (zj xh):=.m
theorem Qg:aM ["table","hands","kind"] ["table","hands","kind"] (zj qW):=.m
theorem Vz:aM ["self"] ["self"] (zj w6):=.m
theorem WE:aM ["self"] ["self"] (zj vX):=.m
theorem Y9:aM ["self"] ["self"] (zj wO):=.m
theorem zaJ:aM ["self"] ["self"] (zj Yn):=.m
theorem zb2:aM ["word","first","second"] ["word","first","second"] (zj XT):=.m
theorem zb3:aM ["word","first","second"] ["word","first","second"] (zj XU):=.m
theorem zaK:aM ["thing"] ["thing"] (zj Yo):=.m
theorem q18:aM ["word","first","second","worth"] ["word","first","second"] (zj Vw):=.m
theorem q0n:aM ["term","slots","worths","part","second","first"] ["term","slots"] (zj Yp):=.m
theorem WF:aM ["self","term"] ["self","term"] (zj vY):=.m
theorem WG:aM ["self","due"] ["self","due"] (zj vZ):=.m
theorem q19:aM ["self","place"] ["self"] (zj Yq):=.m
theorem Yw:aM ["self","rank"] ["self","rank"] (zj wt):=.m
theorem q0k:aM ["ranks","rank","low","high","amid"] ["ranks","rank"] (zj kO):=.m
theorem q0y:aM ["self","place","rank","ranks","below"] ["self","place","rank"] (zj kP):=.m
theorem Qh:aM ["self","place","worth"] ["self","place","worth"] (zj qX):=.m
theorem q1a:aM ["self","due","worth","place"] ["self","due","worth"] (zj Yr):=.m
theorem Jj:aM ["self","due","worth"] ["self","due","worth"] (zj kQ):=.m
theorem zaL:aM ["self","worth"] ["self","worth"] (zj wP):=.m
theorem q0s:aM ["self","rank","place","worth","now"] ["self","rank"] (zj xP):=.m
theorem q0t:aM ["self","ranks","rank","note"] ["self"] (zj xw):=.m
theorem q1b:aM ["ranks_at","place","rank","ranks"] ["ranks_at","place","rank"] (zj qY):=.m
theorem q0u:aM ["self","rank","paper","place","worth"] ["self","rank"] (zj vx):=.m
theorem Xa:aM ["self","ranks"] ["self","ranks"] (zj wQ):=.m
theorem q1c:aM ["self","ranks","at"] ["self","ranks"] (zj wR):=.m
theorem Jk:aM ["self","ranks"] ["self","ranks"] (zj kR):=.m
theorem zaM:aM ["self","code"] ["self","code"] (zj wS):=.m
theorem q1d:aM ["self","hand","rank"] ["self","hand"] (zj vy):=.m
theorem q0z:aM ["self","hand","lowest","changed"] ["self","hand"] (zj wu):=.m
theorem Yx:aM ["self","rank"] ["self","rank"] (zj ww):=.m
theorem q10:aM ["self","rank","places","place"] ["self","rank"] (zj wx):=.m
theorem q1e:aM ["ranks_at","place","rank","ranks"] ["ranks_at","place","rank"] (zj Ys):=.m
theorem q11:aM ["self","rank","gifts","worths","place"] ["self","rank","gifts"] (zj qZ):=.m
theorem q12:aM ["self","place","rank","ranks","above"] ["self","place","rank"] (zj xV):=.m
theorem q0o:aM ["self","place","rank","readers","above","behind","reader"] ["self","place","rank"] (zj kS):=.m
theorem q0p:aM ["self","rank","paper","before","place","worth"] ["self","rank","paper"] (zj vz):=.m
theorem q1f:aM ["self","notes"] ["self"] (zj q8):=.m
theorem q0q:aM ["self","hand","rank","run","place","worth"] ["self","hand"] (zj q9):=.m
theorem q1g:aM ["self","told"] ["self"] (zj jL):=.m
theorem q1h:aM ["rows","worths"] ["rows"] (zj kT):=.m
theorem q1i:aM ["self","rank","places"] ["self","rank"] (zj xA):=.m
theorem Jl:aM ["self"] ["self"] (zj kU):=.m
theorem WH:aM ["script","k"] ["script","k"] (zj v3):=.m
theorem q0v:aM ["row","at","steps","to","others"] ["row","at"] (zj jM):=.m
theorem q13:aM ["rows","first","steps","row"] ["rows","first"] (zj Yt):=.m
theorem zb4:aM ["rows"] ["rows"] (zj XV):=.m
theorem q1j:aM ["self","code","rank"] ["self","code"] (zj Yu):=.m
theorem q1k:aM ["number","slots","kind"] ["number","slots"] (zj Za):=.m
theorem q14:aM ["number","slots","words","kind"] ["number","slots"] (zj Zb):=.m
theorem q0l:aM ["xs","shelves","slots","kind","shelf","slot","spot","term"] ["xs","shelves","slots"] (zj Yv):=.m
theorem q0h:aM ["cell","shelves","slots","xs","rows","at","to","row"] ["cell","shelves","slots"] (zj jq):=.m
theorem q15:aM ["found","due","one","other"] ["found","due"] (zj kW):=.m
theorem q09:aM ["script","shelves","slots","table","codes","hands","others","one","other","code","added","k","back","early","papers"] ["script"] (zj Vx):=.m
set_option genSizeOf false in
set_option genInjectivity false in
set_option genInjectivity false in
structure bv where
 a0:D
 d0:Bc
 a1:D
 d1:Bc
 a2:D
 d2:Bc
 a3:D
 d3:Bc
 a4:D
 d4:Bc
 a5:D
 d5:Bc
 a6:D
 d6:Bc
 a7:D
 d7:Bc
 a8:D
 d8:Bc
 a9:D
 d9:Bc
 a10:D
 d10:Bc
 a11:D
 d11:Bc
 a12:D
 d12:Bc
 a13:D
 d13:Bc
 a14:D
 d14:Bc
 a15:D
 d15:Bc
 a16:D
 d16:Bc
 a17:D
 d17:Bc
 a18:D
 d18:Bc
 a19:D
 d19:Bc
 a20:D
 d20:Bc
 a21:D
 d21:Bc
 a22:D
 d22:Bc
 a23:D
 d23:Bc
 a24:D
 d24:Bc
 a25:D
 d25:Bc
 a26:D
 d26:Bc
 a27:D
 d27:Bc
 a28:D
 d28:Bc
 a29:D
 d29:Bc
 a30:D
 d30:Bc
 a31:D
 d31:Bc
 a32:D
 d32:Bc
 a33:D
 d33:Bc
 a34:D
 d34:Bc
 a35:D
 d35:Bc
 a36:D
 d36:Bc
 a37:D
 d37:Bc
 a38:D
 d38:Bc
 a39:D
 d39:Bc
 a40:D
 d40:Bc
 a41:D
 d41:Bc
 a42:D
 d42:Bc
 a43:D
 d43:Bc
 a44:D
 d44:Bc
 a45:D
 d45:Bc
 a46:D
 d46:Bc
 a47:D
 d47:Bc
 a48:D
 d48:Bc
 a49:D
 d49:Bc
 a50:D
 d50:Bc
 a51:D
 d51:Bc
 a52:D
 d52:Bc
 a53:D
 d53:Bc
 a54:D
 d54:Bc
 a55:D
 d55:Bc
 a56:D
 d56:Bc
 a57:D
 d57:Bc
 a58:D
 d58:Bc
 a59:D
 d59:Bc
 a60:D
 d60:Bc
 a61:D
 d61:Bc
 a62:D
 d62:Bc
 q0r:D
 q00:D
 q0a:D
 q0e:D
 q03:D
 q02:D
 q08:D
 q01:D
 q06:D
 q0f:D
structure Txt(K:bx)(mg:Str->Option ae)(t:bv):Prop where
 g0:FG K mg "_law_free_name" wN ["word"] t.a0 t.d0
 g1:FG K mg "_law_draws" kN ["cell","many"] t.a1 t.d1
 g2:FG K mg "_law_pair" jp ["cell"] t.a2 t.d2
 g3:FG K mg "_law_number" jK ["number"] t.a3 t.d3
 g4:FG K mg "_law_table" vJ ["cell","shelves"] t.a4 t.d4
 q1n:Fun K "__init__" "Makes.__init__" xL t.a5 t.d5
 q1o:sI K t.d5 ["self","table"] []
 q1p:Fun K "__init__" "Jobs.__init__" wb t.a6 t.d6
 q1q:sI K t.d6 ["self","makes"] []
 q1r:FunD K "__init__" "Desk.__init__" wc t.a7 t.d7
 q2w:sI K t.d7 ["self","table","hands","way","first"] []
 bd_Desk_init:∃ds,aR [.int 0] ds/\sI K t.d7 ["self","table","hands","way","first"] ds
 q1s:Fun K "__init__" "Turning.__init__" xh t.a8 t.d8
 q1t:sI K t.d8 ["self"] []
 g9:FG K mg "_law_desk" qW ["table","hands","kind"] t.a9 t.d9
 g10:FM K t.q00 "papers" "Desk.papers" w6 ["self"] t.a10 t.d10
 g11:FM K t.q00 "settled" "Desk.settled" vX ["self"] t.a11 t.d11
 g12:FM K t.q00 "next_rank" "Desk.next_rank" wO ["self"] t.a12 t.d12
 g13:FM K t.q01 "over" "Run.over" Yn ["self"] t.a13 t.d13
 g14:FG K mg "divided" XT ["word","first","second"] t.a14 t.d14
 g15:FG K mg "come_to" XU ["word","first","second"] t.a15 t.d15
 g16:FG K mg "is_worth" Yo ["thing"] t.a16 t.d16
 g17:FG K mg "joined" Vw ["word","first","second"] t.a17 t.d17
 g18:FG K mg "reckoned" Yp ["term","slots"] t.a18 t.d18
 g19:FM K t.q01 "worth_of" "Run.worth_of" vY ["self","term"] t.a19 t.d19
 g20:FM K t.q01 "place_in" "Run.place_in" vZ ["self","due"] t.a20 t.d20
 g21:FM K t.q01 "asks" "Run.asks" Yq ["self"] t.a21 t.d21
 g22:FM K t.q02 "heed_fold" "Makes.heed_fold" wt ["self","rank"] t.a22 t.d22
 g23:FG K mg "many_below" kO ["ranks","rank"] t.a23 t.d23
 g24:FM K t.q02 "seen" "Makes.seen" kP ["self","place","rank"] t.a24 t.d24
 g25:FM K t.q01 "taken" "Run.taken" qX ["self","place","worth"] t.a25 t.d25
 g26:FM K t.q01 "does" "Run.does" Yr ["self","due","worth"] t.a26 t.d26
 g27:FM K t.q01 "led_by" "Run.led_by" kQ ["self","due","worth"] t.a27 t.d27
 q1u:FunD K "step" "Run.step" wP t.a28 t.d28
 q1v:sI K t.d28 ["self","worth"] []
 bd_Run_step:∃ds,aR [.int 0] ds/\sI K t.d28 ["self","worth"] ds
 me_Run_step:KK K t.q01 "step" t.a28
 g29:FM K t.q03 "changed_note" "Jobs.changed_note" xP ["self","rank"] t.a29 t.d29
 g30:FM K t.q03 "lowest_changed" "Jobs.lowest_changed" xw ["self"] t.a30 t.d30
 g31:FG K mg "drop_rank" qY ["ranks_at","place","rank"] t.a31 t.d31
 g32:FM K t.q03 "take_off" "Jobs.take_off" vx ["self","rank"] t.a32 t.d32
 g33:FM K t.q0e "chosen" "Highest.chosen" wQ ["self","ranks"] t.a33 t.d33
 g34:FM K t.q06 "chosen" "Turning.chosen" wR ["self","ranks"] t.a34 t.d34
 g35:FM K t.q0f "chosen" "Way.chosen" kR ["self","ranks"] t.a35 t.d35
 q1w:Fun K "__init__" "Run.__init__" wS t.a36 t.d36
 q1x:sI K t.d36 ["self","code"] []
 g37:FM K t.q00 "taken_up" "Desk.taken_up" vy ["self","hand"] t.a37 t.d37
 g38:FM K t.q00 "moved_free" "Desk.moved_free" wu ["self","hand"] t.a38 t.d38
 g39:FM K t.q02 "places_of" "Makes.places_of" ww ["self","rank"] t.a39 t.d39
 g40:FM K t.q02 "take_away" "Makes.take_away" wx ["self","rank"] t.a40 t.d40
 g41:FG K mg "put_rank" Ys ["ranks_at","place","rank"] t.a41 t.d41
 g42:FM K t.q02 "lay" "Makes.lay" qZ ["self","rank","gifts"] t.a42 t.d42
 g43:FM K t.q02 "next_above" "Makes.next_above" xV ["self","place","rank"] t.a43 t.d43
 g44:FM K t.q03 "doubt" "Jobs.doubt" kS ["self","place","rank"] t.a44 t.d44
 g45:FM K t.q03 "lay_down" "Jobs.lay_down" vz ["self","rank","paper"] t.a45 t.d45
 g46:FM K t.q01 "paper" "Run.paper" q8 ["self"] t.a46 t.d46
 g47:FM K t.q00 "move" "Desk.move" q9 ["self","hand"] t.a47 t.d47
 g48:FM K t.q00 "finish" "Desk.finish" jL ["self"] t.a48 t.d48
 g49:FG K mg "table_of" kT ["rows"] t.a49 t.d49
 g50:FM K t.q02 "table_for" "Makes.table_for" xA ["self","rank"] t.a50 t.d50
 g51:FM K t.q00 "table" "Desk.table" kU ["self"] t.a51 t.d51
 g52:FG K mg "_law_cell_at" v3 ["script","k"] t.a52 t.d52
 g53:FG K mg "block_steps" jM ["row","at"] t.a53 t.d53
 g54:FG K mg "steps_of" Yt ["rows","first"] t.a54 t.d54
 g55:FG K mg "code_of" XV ["rows"] t.a55 t.d55
 g56:FM K t.q00 "add" "Desk.add" Yu ["self","code"] t.a56 t.d56
 g57:FG K mg "_law_spot" Za ["number","slots"] t.a57 t.d57
 g58:FG K mg "_law_term" Zb ["number","slots"] t.a58 t.d58
 g59:FG K mg "_law_row" Yv ["xs","shelves","slots"] t.a59 t.d59
 g60:FG K mg "_law_rows" jq ["cell","shelves","slots"] t.a60 t.d60
 g61:FG K mg "_law_alike" kW ["found","due"] t.a61 t.d61
 q1y:Fun K "law" "law" Vx t.a62 t.d62
 q2x:sI K t.d62 ["script"] []
 m_law:mg "law"=U (.ref t.a62)
 w_law:∀(s:ah) (v:ae),BindsTo s t.d62 ⟨[v],[]⟩ [("script",v)]
 q1l:mg "bool"=ak
 q16:mg "dict"=ak
 b_int:mg "int"=ak
 q0d:mg "isinstance"=ak
 q04:mg "len"=ak
 q0b:mg "list"=ak
 q0w:mg "range"=ak
 q0x:mg "sorted"=ak
 q17:mg "str"=ak
 b_tuple:mg "tuple"=ak
 b_zip:mg "zip"=ak
 g_JOINING:mg "JOINING"=U (.ref t.q0r)
 q1z:∀H:Hp,sN K H t.q0r [.str "plus",.str "minus",.str "times",.str "over",.str "rest",.str "under",.str "same"]
 g_Desk:mg "Desk"=U (.ref t.q00)
 g_Great:mg "Great"=U (.ref t.q0a)
 g_Highest:mg "Highest"=U (.ref t.q0e)
 g_Jobs:mg "Jobs"=U (.ref t.q03)
 g_Makes:mg "Makes"=U (.ref t.q02)
 g_Nought:mg "Nought"=U (.ref t.q08)
 g_Run:mg "Run"=U (.ref t.q01)
 g_Turning:mg "Turning"=U (.ref t.q06)
 g_Way:mg "Way"=U (.ref t.q0f)
 q05:tD K t.q00
 mk_Desk:Mk K t.q00 t.a7
 q20:aQ K t.q00 "codes"
 q21:aQ K t.q00 "ended"
 q22:aQ K t.q00 "first"
 q23:aQ K t.q00 "hands"
 q24:aQ K t.q00 "held"
 q25:aQ K t.q00 "jobs"
 q26:aQ K t.q00 "makes"
 q27:aQ K t.q00 "waiting"
 q28:aQ K t.q00 "way"
 q29:tD K t.q0e
 mo_Highest:MkO K t.q0e
 q0i:tD K t.q03
 mk_Jobs:Mk K t.q03 t.a6
 q2a:aQ K t.q03 "doubted"
 q2b:aQ K t.q03 "laid"
 q2c:aQ K t.q03 "makes"
 q2d:aQ K t.q03 "readers"
 q0c:tD K t.q02
 mk_Makes:Mk K t.q02 t.a5
 q2e:aQ K t.q02 "folded"
 q2f:aQ K t.q02 "ground"
 q2g:aQ K t.q02 "ranks"
 q2h:aQ K t.q02 "worths"
 q07:tD K t.q01
 mk_Run:Mk K t.q01 t.a36
 q2i:aQ K t.q01 "at"
 q2j:aQ K t.q01 "code"
 q2k:aQ K t.q01 "gifts"
 q2l:aQ K t.q01 "notes"
 q2m:aQ K t.q01 "sayings"
 q2n:aQ K t.q01 "slots"
 q2o:aQ K t.q01 "why"
 q1m:tD K t.q06
 mk_Turning:Mk K t.q06 t.a8
 q2p:aQ K t.q06 "times"
 q2q:tD K t.q0f
 mo_Way:MkO K t.q0f
 q2r:pT K t.q08 zaj XM=af
 y_Nought:ExK K t.q08
 q2s:iJ K (.ref t.q08) (.ref t.q0a)=U ao
 q2t:iJ K (.ref t.q08) (.ref t.q08)=U af
 m_Nought_Great_Nought:rS K (.ref t.q08) [.ref t.q0a,.ref t.q08]=U af
 q2u:pT K t.q0a zaj XM=af
 y_Great:ExK K t.q0a
 q2v:iJ K (.ref t.q0a) (.ref t.q0a)=U af
 q2y:iJ K (.ref t.q0a) (.ref t.q08)=U ao
 m_Great_Great_Nought:rS K (.ref t.q0a) [.ref t.q0a,.ref t.q08]=U af
theorem txt_mk{mg:Str->Option ae}(X:K.In h)(G:h.Ns Bd mg)
  
  
  
  
  
  
  
  
  
  
  
  
  
  
  
  
  
  (h0:QG K "_law_free_name" wN)
  (h1:QG K "_law_draws" kN)
  (h2:QG K "_law_pair" jp)
  (h3:QG K "_law_number" jK)
  (h4:QG K "_law_table" vJ)
  (qa5:bZ K (.ref ca4) "__init__"=U (U (.ref f5))) (qi5:pB K (.ref f5)=af) (ql5:K.lookup f5=U ⟨oc5,od5,.func (iq "__init__" "Makes.__init__" (yX xL) (yt xL) (zj xL) .none kV5 dc5 pm5 an5 cd5 ct5),sl5⟩) (qc5:gQ K cd5 "Makes.__init__"=af) (qk5:dM K (.ref f5)=af)
  (qa6:bZ K (.ref ca3) "__init__"=U (U (.ref f6))) (qi6:pB K (.ref f6)=af) (ql6:K.lookup f6=U ⟨oc6,od6,.func (iq "__init__" "Jobs.__init__" (yX wb) (yt wb) (zj wb) .none kV6 dc6 pm6 an6 cd6 ct6),sl6⟩) (qc6:gQ K cd6 "Jobs.__init__"=af) (qk6:dM K (.ref f6)=af)
  (qa7:bZ K (.ref ca0) "__init__"=U (U (.ref f7))) (qi7:pB K (.ref f7)=af) (ql7:K.lookup f7=U ⟨oc7,od7,.func (iq "__init__" "Desk.__init__" (yX wc) (yt wc) (zj wc) (.ref dA7) kV7 dc7 pm7 an7 cd7 ct7),sl7⟩) (qc7:gQ K cd7 "Desk.__init__"=af) (qk7:dM K (.ref f7)=af) (qd7:K.lookup dA7=U ⟨.type "tuple",ak,.seq #[.int 0 dt7_0] dn7,#[]⟩)
  (qa8:bZ K (.ref ca7) "__init__"=U (U (.ref f8))) (qi8:pB K (.ref f8)=af) (ql8:K.lookup f8=U ⟨oc8,od8,.func (iq "__init__" "Turning.__init__" (yX xh) (yt xh) (zj xh) .none kV8 dc8 pm8 an8 cd8 ct8),sl8⟩) (qc8:gQ K cd8 "Turning.__init__"=af) (qk8:dM K (.ref f8)=af)
  (h9:QG K "_law_desk" qW)
  (h10:QM K ca0 "papers" "Desk.papers" w6)
  (h11:QM K ca0 "settled" "Desk.settled" vX)
  (h12:QM K ca0 "next_rank" "Desk.next_rank" wO)
  (h13:QM K ca6 "over" "Run.over" Yn)
  (h14:QG K "divided" XT)
  (h15:QG K "come_to" XU)
  (h16:QG K "is_worth" Yo)
  (h17:QG K "joined" Vw)
  (h18:QG K "reckoned" Yp)
  (h19:QM K ca6 "worth_of" "Run.worth_of" vY)
  (h20:QM K ca6 "place_in" "Run.place_in" vZ)
  (h21:QM K ca6 "asks" "Run.asks" Yq)
  (h22:QM K ca4 "heed_fold" "Makes.heed_fold" wt)
  (h23:QG K "many_below" kO)
  (h24:QM K ca4 "seen" "Makes.seen" kP)
  (h25:QM K ca6 "taken" "Run.taken" qX)
  (h26:QM K ca6 "does" "Run.does" Yr)
  (h27:QM K ca6 "led_by" "Run.led_by" kQ)
  (qa28:bZ K (.ref ca6) "step"=U (U (.ref f28))) (qi28:pB K (.ref f28)=af) (ql28:K.lookup f28=U ⟨oc28,od28,.func (iq "step" "Run.step" (yX wP) (yt wP) (zj wP) (.ref dA28) kV28 dc28 pm28 an28 cd28 ct28),sl28⟩) (qc28:gQ K cd28 "Run.step"=af) (qk28:dM K (.ref f28)=af) (qd28:K.lookup dA28=U ⟨.type "tuple",ak,.seq #[.int 0 dt28_0] dn28,#[]⟩)
  (h29:QM K ca3 "changed_note" "Jobs.changed_note" xP)
  (h30:QM K ca3 "lowest_changed" "Jobs.lowest_changed" xw)
  (h31:QG K "drop_rank" qY)
  (h32:QM K ca3 "take_off" "Jobs.take_off" vx)
  (h33:QM K ca2 "chosen" "Highest.chosen" wQ)
  (h34:QM K ca7 "chosen" "Turning.chosen" wR)
  (h35:QM K ca8 "chosen" "Way.chosen" kR)
  (qa36:bZ K (.ref ca6) "__init__"=U (U (.ref f36))) (qi36:pB K (.ref f36)=af) (ql36:K.lookup f36=U ⟨oc36,od36,.func (iq "__init__" "Run.__init__" (yX wS) (yt wS) (zj wS) .none kV36 dc36 pm36 an36 cd36 ct36),sl36⟩) (qc36:gQ K cd36 "Run.__init__"=af) (qk36:dM K (.ref f36)=af)
  (h37:QM K ca0 "taken_up" "Desk.taken_up" vy)
  (h38:QM K ca0 "moved_free" "Desk.moved_free" wu)
  (h39:QM K ca4 "places_of" "Makes.places_of" ww)
  (h40:QM K ca4 "take_away" "Makes.take_away" wx)
  (h41:QG K "put_rank" Ys)
  (h42:QM K ca4 "lay" "Makes.lay" qZ)
  (h43:QM K ca4 "next_above" "Makes.next_above" xV)
  (h44:QM K ca3 "doubt" "Jobs.doubt" kS)
  (h45:QM K ca3 "lay_down" "Jobs.lay_down" vz)
  (h46:QM K ca6 "paper" "Run.paper" q8)
  (h47:QM K ca0 "move" "Desk.move" q9)
  (h48:QM K ca0 "finish" "Desk.finish" jL)
  (h49:QG K "table_of" kT)
  (h50:QM K ca4 "table_for" "Makes.table_for" xA)
  (h51:QM K ca0 "table" "Desk.table" kU)
  (h52:QG K "_law_cell_at" v3)
  (h53:QG K "block_steps" jM)
  (h54:QG K "steps_of" Yt)
  (h55:QG K "code_of" XV)
  (h56:QM K ca0 "add" "Desk.add" Yu)
  (h57:QG K "_law_spot" Za)
  (h58:QG K "_law_term" Zb)
  (h59:QG K "_law_row" Yv)
  (h60:QG K "_law_rows" jq)
  (h61:QG K "_law_alike" kW)
  (qa62:gG K Bd "law"=U (U (.ref f62))) (ql62:K.lookup f62=U ⟨oc62,od62,.func (iq "law" "law" (yX Vx) (yt Vx) (zj Vx) .none kV62 dc62 pm62 an62 cd62 ct62),sl62⟩) (qc62:gQ K cd62 "law"=af) (qk62:dM K (.ref f62)=af)
  (qz0:gG K Bd "bool"=U ak)
  (qz1:gG K Bd "dict"=U ak)
  (qz2:gG K Bd "int"=U ak)
  (qz3:gG K Bd "isinstance"=U ak)
  (qz4:gG K Bd "len"=U ak)
  (qz5:gG K Bd "list"=U ak)
  (qz6:gG K Bd "range"=U ak)
  (qz7:gG K Bd "sorted"=U ak)
  (qz8:gG K Bd "str"=U ak)
  (qz9:gG K Bd "tuple"=U ak)
  (qz10:gG K Bd "zip"=U ak)
  (qg0:gG K Bd "JOINING"=U (U (.ref ga0))) (qh0:K.lookup ga0=U ⟨.type "tuple",ak,.seq #[.str "plus" gt0_0,.str "minus" gt0_1,.str "times" gt0_2,.str "over" gt0_3,.str "rest" gt0_4,.str "under" gt0_5,.str "same" gt0_6] gn0,#[]⟩)
  (qv0:gG K Bd "Desk"=U (U (.ref ca0)))
  (qv1:gG K Bd "Great"=U (U (.ref ca1)))
  (qv2:gG K Bd "Highest"=U (U (.ref ca2)))
  (qv3:gG K Bd "Jobs"=U (U (.ref ca3)))
  (qv4:gG K Bd "Makes"=U (U (.ref ca4)))
  (qv5:gG K Bd "Nought"=U (U (.ref ca5)))
  (qv6:gG K Bd "Run"=U (U (.ref ca6)))
  (qv7:gG K Bd "Turning"=U (U (.ref ca7)))
  (qv8:gG K Bd "Way"=U (U (.ref ca8)))
  (pg0:fT K ca0 fO=af) (pd0:fC K ca0=af) (po0:fY K ca0=af) (pe0:bZ K (.ref ca0) "__setattr__"=U (U (.builtin "object.__setattr__"))) (pm0_:gK K ca0=af) (pk0:dM K (.ref ca0)=af)
  (pn0_0:bZ K (.ref ca0) "codes"=U ak)
  (pn0_1:bZ K (.ref ca0) "ended"=U ak)
  (pn0_2:bZ K (.ref ca0) "first"=U ak)
  (pn0_3:bZ K (.ref ca0) "hands"=U ak)
  (pn0_4:bZ K (.ref ca0) "held"=U ak)
  (pn0_5:bZ K (.ref ca0) "jobs"=U ak)
  (pn0_6:bZ K (.ref ca0) "makes"=U ak)
  (pn0_7:bZ K (.ref ca0) "waiting"=U ak)
  (pn0_8:bZ K (.ref ca0) "way"=U ak)
  (pi2:bZ K (.ref ca2) "__init__"=U (U (.builtin "object.__init__")))
  (pg2:fT K ca2 fO=af) (pd2:fC K ca2=af) (po2:fY K ca2=af) (pe2:bZ K (.ref ca2) "__setattr__"=U (U (.builtin "object.__setattr__"))) (pm2_:gK K ca2=af) (pk2:dM K (.ref ca2)=af)
  (pg3:fT K ca3 fO=af) (pd3:fC K ca3=af) (po3:fY K ca3=af) (pe3:bZ K (.ref ca3) "__setattr__"=U (U (.builtin "object.__setattr__"))) (pm3_:gK K ca3=af) (pk3:dM K (.ref ca3)=af)
  (pn3_0:bZ K (.ref ca3) "doubted"=U ak)
  (pn3_1:bZ K (.ref ca3) "laid"=U ak)
  (pn3_2:bZ K (.ref ca3) "makes"=U ak)
  (pn3_3:bZ K (.ref ca3) "readers"=U ak)
  (pg4:fT K ca4 fO=af) (pd4:fC K ca4=af) (po4:fY K ca4=af) (pe4:bZ K (.ref ca4) "__setattr__"=U (U (.builtin "object.__setattr__"))) (pm4_:gK K ca4=af) (pk4:dM K (.ref ca4)=af)
  (pn4_0:bZ K (.ref ca4) "folded"=U ak)
  (pn4_1:bZ K (.ref ca4) "ground"=U ak)
  (pn4_2:bZ K (.ref ca4) "ranks"=U ak)
  (pn4_3:bZ K (.ref ca4) "worths"=U ak)
  (pg6:fT K ca6 fO=af) (pd6:fC K ca6=af) (po6:fY K ca6=af) (pe6:bZ K (.ref ca6) "__setattr__"=U (U (.builtin "object.__setattr__"))) (pm6_:gK K ca6=af) (pk6:dM K (.ref ca6)=af)
  (pn6_0:bZ K (.ref ca6) "at"=U ak)
  (pn6_1:bZ K (.ref ca6) "code"=U ak)
  (pn6_2:bZ K (.ref ca6) "gifts"=U ak)
  (pn6_3:bZ K (.ref ca6) "notes"=U ak)
  (pn6_4:bZ K (.ref ca6) "sayings"=U ak)
  (pn6_5:bZ K (.ref ca6) "slots"=U ak)
  (pn6_6:bZ K (.ref ca6) "why"=U ak)
  (pg7:fT K ca7 fO=af) (pd7:fC K ca7=af) (po7:fY K ca7=af) (pe7:bZ K (.ref ca7) "__setattr__"=U (U (.builtin "object.__setattr__"))) (pm7_:gK K ca7=af) (pk7:dM K (.ref ca7)=af)
  (pn7_0:bZ K (.ref ca7) "times"=U ak)
  (pi8:bZ K (.ref ca8) "__init__"=U (U (.builtin "object.__init__")))
  (pg8:fT K ca8 fO=af) (pd8:fC K ca8=af) (po8:fY K ca8=af) (pe8:bZ K (.ref ca8) "__setattr__"=U (U (.builtin "object.__setattr__"))) (pm8_:gK K ca8=af) (pk8:dM K (.ref ca8)=af)
  (rx0:pT K ca5 zaj XM=af)
  (ry0:QX K ca5)
  (re0_0:iJ K (.ref ca5) (.ref ca1)=U ao)
  (re0_1:iJ K (.ref ca5) (.ref ca5)=U af)
  (rm0_0:rS K (.ref ca5) [(.ref ca1),(.ref ca5)]=U af)
  (rx1:pT K ca1 zaj XM=af)
  (ry1:QX K ca1)
  (re1_0:iJ K (.ref ca1) (.ref ca1)=U af)
  (re1_1:iJ K (.ref ca1) (.ref ca5)=U ao)
  (rm1_0:rS K (.ref ca1) [(.ref ca1),(.ref ca5)]=U af):∃t,Txt K mg t:=by
 obtain⟨f0,d0,F0⟩:=QG.a1 X G "word" h0;obtain⟨f1,d1,F1⟩:=QG.a2 X G "cell" "many" h1;obtain⟨f2,d2,F2⟩:=QG.a1 X G "cell" h2;obtain⟨f3,d3,F3⟩:=QG.a1 X G "number" h3;obtain⟨f4,d4,F4⟩:=QG.a2 X G "cell" "shelves" h4;have F5:=XJ (st:=xL) ql5 qc5 qk5;have F6:=XJ (st:=wb) ql6 qc6 qk6;have F7:=zcK (st:=wc) ql7 qc7 qk7;have F8:=XJ (st:=xh) ql8 qc8 qk8;obtain⟨f9,d9,F9⟩:=QG.a3 X G "table" "hands" "kind" h9;obtain⟨f10,d10,F10⟩:=QM.a1 "self" h10;obtain⟨f11,d11,F11⟩:=QM.a1 "self" h11;obtain⟨f12,d12,F12⟩:=QM.a1 "self" h12;obtain⟨f13,d13,F13⟩:=QM.a1 "self" h13;obtain⟨f14,d14,F14⟩:=QG.a3 X G "word" "first" "second" h14;obtain⟨f15,d15,F15⟩:=QG.a3 X G "word" "first" "second" h15;obtain⟨f16,d16,F16⟩:=QG.a1 X G "thing" h16;obtain⟨f17,d17,F17⟩:=QG.a3 X G "word" "first" "second" h17;obtain⟨f18,d18,F18⟩:=QG.a2 X G "term" "slots" h18;obtain⟨f19,d19,F19⟩:=QM.a2 "self" "term" h19;obtain⟨f20,d20,F20⟩:=QM.a2 "self" "due" h20;obtain⟨f21,d21,F21⟩:=QM.a1 "self" h21;obtain⟨f22,d22,F22⟩:=QM.a2 "self" "rank" h22;obtain⟨f23,d23,F23⟩:=QG.a2 X G "ranks" "rank" h23;obtain⟨f24,d24,F24⟩:=QM.a3 "self" "place" "rank" h24;obtain⟨f25,d25,F25⟩:=QM.a3 "self" "place" "worth" h25;obtain⟨f26,d26,F26⟩:=QM.a3 "self" "due" "worth" h26;obtain⟨f27,d27,F27⟩:=QM.a3 "self" "due" "worth" h27;have F28:=zcK (st:=wP) ql28 qc28 qk28;obtain⟨f29,d29,F29⟩:=QM.a2 "self" "rank" h29;obtain⟨f30,d30,F30⟩:=QM.a1 "self" h30;obtain⟨f31,d31,F31⟩:=QG.a3 X G "ranks_at" "place" "rank" h31;obtain⟨f32,d32,F32⟩:=QM.a2 "self" "rank" h32;obtain⟨f33,d33,F33⟩:=QM.a2 "self" "ranks" h33;obtain⟨f34,d34,F34⟩:=QM.a2 "self" "ranks" h34;obtain⟨f35,d35,F35⟩:=QM.a2 "self" "ranks" h35;have F36:=XJ (st:=wS) ql36 qc36 qk36;obtain⟨f37,d37,F37⟩:=QM.a2 "self" "hand" h37;obtain⟨f38,d38,F38⟩:=QM.a2 "self" "hand" h38;obtain⟨f39,d39,F39⟩:=QM.a2 "self" "rank" h39;obtain⟨f40,d40,F40⟩:=QM.a2 "self" "rank" h40;obtain⟨f41,d41,F41⟩:=QG.a3 X G "ranks_at" "place" "rank" h41;obtain⟨f42,d42,F42⟩:=QM.a3 "self" "rank" "gifts" h42;obtain⟨f43,d43,F43⟩:=QM.a3 "self" "place" "rank" h43;obtain⟨f44,d44,F44⟩:=QM.a3 "self" "place" "rank" h44;obtain⟨f45,d45,F45⟩:=QM.a3 "self" "rank" "paper" h45;obtain⟨f46,d46,F46⟩:=QM.a1 "self" h46;obtain⟨f47,d47,F47⟩:=QM.a2 "self" "hand" h47;obtain⟨f48,d48,F48⟩:=QM.a1 "self" h48;obtain⟨f49,d49,F49⟩:=QG.a1 X G "rows" h49;obtain⟨f50,d50,F50⟩:=QM.a2 "self" "rank" h50;obtain⟨f51,d51,F51⟩:=QM.a1 "self" h51;obtain⟨f52,d52,F52⟩:=QG.a2 X G "script" "k" h52;obtain⟨f53,d53,F53⟩:=QG.a2 X G "row" "at" h53;obtain⟨f54,d54,F54⟩:=QG.a2 X G "rows" "first" h54;obtain⟨f55,d55,F55⟩:=QG.a1 X G "rows" h55;obtain⟨f56,d56,F56⟩:=QM.a2 "self" "code" h56;obtain⟨f57,d57,F57⟩:=QG.a2 X G "number" "slots" h57;obtain⟨f58,d58,F58⟩:=QG.a2 X G "number" "slots" h58;obtain⟨f59,d59,F59⟩:=QG.a3 X G "xs" "shelves" "slots" h59;obtain⟨f60,d60,F60⟩:=QG.a3 X G "cell" "shelves" "slots" h60;obtain⟨f61,d61,F61⟩:=QG.a2 X G "found" "due" h61;have F62:=XJ (st:=Vx) ql62 qc62 qk62;exact⟨⟨f0,d0,f1,d1,f2,d2,f3,d3,f4,d4,f5,_,f6,_,f7,_,f8,_,f9,d9,f10,d10,f11,d11,f12,d12,f13,d13,f14,d14,f15,d15,f16,d16,f17,d17,f18,d18,f19,d19,f20,d20,f21,d21,f22,d22,f23,d23,f24,d24,f25,d25,f26,d26,f27,d27,f28,_,f29,d29,f30,d30,f31,d31,f32,d32,f33,d33,f34,d34,f35,d35,f36,_,f37,d37,f38,d38,f39,d39,f40,d40,f41,d41,f42,d42,f43,d43,f44,d44,f45,d45,f46,d46,f47,d47,f48,d48,f49,d49,f50,d50,f51,d51,f52,d52,f53,d53,f54,d54,f55,d55,f56,d56,f57,d57,f58,d58,f59,d59,f60,d60,f61,d61,f62,_,ga0,ca0,ca1,ca2,ca3,ca4,ca5,ca6,ca7,ca8⟩,⟨F0,
  F1,
  F2,
  F3,
  F4,
  F5,F5.binds (ps:=["self","table"]) (λ_ _ _ _ _ _=>ar2 λ_ _=>rfl),
  F6,F6.binds (ps:=["self","makes"]) (λ_ _ _ _ _ _=>ar2 λ_ _=>rfl),
  F7,(λs us hK hl=>by have e:us.length=5:=(by simpa using hl);clear hl;revert us;exact ar5 λ_ _ _ _ _=>.of_defaults (T:=dA7) Z (hK _ _ qd7) Z Z Z),⟨[.int 0 dt7_0],(.cons ⟨_,Z⟩ .nil),(λs us hK hl=>by have e:us.length=4:=(by simpa using hl);clear hl;revert us;exact ar4 λ_ _ _ _=>.of_defaults (T:=dA7) Z (hK _ _ qd7) Z Z Z)⟩,
  F8,F8.binds (ps:=["self"]) (λ_ _ _ _ _ _=>ar1 λ_=>rfl),
  F9,
  F10,
  F11,
  F12,
  F13,
  F14,
  F15,
  F16,
  F17,
  F18,
  F19,
  F20,
  F21,
  F22,
  F23,
  F24,
  F25,
  F26,
  F27,
  F28,(λs us hK hl=>by have e:us.length=2:=(by simpa using hl);clear hl;revert us;exact ar2 λ_ _=>.of_defaults (T:=dA28) Z (hK _ _ qd28) Z Z Z),⟨[.int 0 dt28_0],(.cons ⟨_,Z⟩ .nil),(λs us hK hl=>by have e:us.length=1:=(by simpa using hl);clear hl;revert us;exact ar1 λ_=>.of_defaults (T:=dA28) Z (hK _ _ qd28) Z Z Z)⟩,⟨qa28,qi28,qk28⟩,
  F29,
  F30,
  F31,
  F32,
  F33,
  F34,
  F35,
  F36,F36.binds (ps:=["self","code"]) (λ_ _ _ _ _ _=>ar2 λ_ _=>rfl),
  F37,
  F38,
  F39,
  F40,
  F41,
  F42,
  F43,
  F44,
  F45,
  F46,
  F47,
  F48,
  F49,
  F50,
  F51,
  F52,
  F53,
  F54,
  F55,
  F56,
  F57,
  F58,
  F59,
  F60,
  F61,
  F62,F62.binds (ps:=["script"]) (λ_ _ _ _ _ _=>ar1 λ_=>rfl),lK X G qa62,
  λs v=>.of_eq Z,
  eQ X G qz0,
  eQ X G qz1,
  eQ X G qz2,
  eQ X G qz3,
  eQ X G qz4,
  eQ X G qz5,
  eQ X G qz6,
  eQ X G qz7,
  eQ X G qz8,
  eQ X G qz9,
  eQ X G qz10,
  lK X G qg0,λ_=>.inr ⟨_,_,_,qh0,Z,Z,(by show 7<=Bb;decide),(.cons ⟨_,Z⟩ (.cons ⟨_,Z⟩ (.cons ⟨_,Z⟩ (.cons ⟨_,Z⟩ (.cons ⟨_,Z⟩ (.cons ⟨_,Z⟩ (.cons ⟨_,Z⟩ .nil)))))))⟩,
  lK X G qv0,
  lK X G qv1,
  lK X G qv2,
  lK X G qv3,
  lK X G qv4,
  lK X G qv5,
  lK X G qv6,
  lK X G qv7,
  lK X G qv8,
  ⟨pg0,pd0,po0,pe0⟩,
  ⟨pm0_,qa7,qi7,pk0⟩,
  pn0_0,
  pn0_1,
  pn0_2,
  pn0_3,
  pn0_4,
  pn0_5,
  pn0_6,
  pn0_7,
  pn0_8,
  ⟨pg2,pd2,po2,pe2⟩,
  ⟨pm2_,pi2,pk2⟩,
  ⟨pg3,pd3,po3,pe3⟩,
  ⟨pm3_,qa6,qi6,pk3⟩,
  pn3_0,
  pn3_1,
  pn3_2,
  pn3_3,
  ⟨pg4,pd4,po4,pe4⟩,
  ⟨pm4_,qa5,qi5,pk4⟩,
  pn4_0,
  pn4_1,
  pn4_2,
  pn4_3,
  ⟨pg6,pd6,po6,pe6⟩,
  ⟨pm6_,qa36,qi36,pk6⟩,
  pn6_0,
  pn6_1,
  pn6_2,
  pn6_3,
  pn6_4,
  pn6_5,
  pn6_6,
  ⟨pg7,pd7,po7,pe7⟩,
  ⟨pm7_,qa8,qi8,pk7⟩,
  pn7_0,
  ⟨pg8,pd8,po8,pe8⟩,
  ⟨pm8_,pi8,pk8⟩,
  rx0,
  ry0.to,
  re0_0,
  re0_1,
  rm0_0,
  rx1,
  ry1.to,
  re1_0,
  re1_1,
  rm1_0⟩⟩
structure KF(K:bx):Prop where
 i_b:fE K (.type "int") (.type "bool")=U ao
 i_s:fE K (.type "int") (.type "str")=U ao
 s_i:fE K (.type "str") (.type "int")=U ao
 i_l:fE K (.type "int") (.type "list")=U ao
 i_t:fE K (.type "int") (.type "tuple")=U ao
 s_l:fE K (.type "str") (.type "list")=U ao
 s_t:fE K (.type "str") (.type "tuple")=U ao
 t_l:fE K (.type "tuple") (.type "list")=U ao
def fin(t:bv)(r:Except Er Int)(Q:VK)(E:XK)(H:Hp):Prop:=match r with
 |.ok i=>Q (.int i) H
 |.error .nought=>E (.ref t.q08) ak H
 |.error .great=>E (.ref t.q0a) ak H
 |.error .stuck=>True
def zfe(t:bv)(e:Er)(E:XK)(H:Hp):Prop:=match e with
 |.nought=>E (.ref t.q08) ak H
 |.great=>E (.ref t.q0a) ak H
 |.stuck=>True
def zgt(K:bx):Prop:=fE K (.type "int") (.type "bool")=U ao
def sE(H:Hp)(nm:D)(ws:List Str):Prop:=H nm=U (.lst (ws.map V.str))/\∀w∈ws,yP w=af
def Yy:Rw->Prop
 |.off _=>False
 |.iff _ _ _=>False
 |_=>True
def Wk:Sp:=λvs H Q _=>∃i,vs=[.int i]/\∀H',aL H H'->Q (.bl (sP i)) H'
def Yz(t:bv):Sp:=λvs H Q E=>∃w a b,vs=[.str w,.int a,.int b]/\w.length<=1000/\sP a=af/\sP b=af/\∀H',aL H H'->if b=0 then E (.ref t.q08) ak H' else Q (.int (if w="over" then a.fdiv b else a.fmod b)) H'
def YA(t:bv):Sp:=λvs H Q E=>∃w a b,vs=[.str w,.int a,.int b]/\w.length<=1000/\sP a=af/\sP b=af/\∀H',aL H H'->if Vl w/\b=0 then E (.ref t.q08) ak H' else Q (.int (Vk w a b)) H'
def XW(t:bv):Sp:=λvs H Q E=>∃w a b,vs=[.str w,.int a,.int b]/\w.length<=1000/\sP a=af/\sP b=af/\∀H',aL H H'->fin t (j7 w a b) Q E H'
def Wl(t:bv):Sp:=λvs H Q E=>∃aJ tm sl ps r,vs=[.ref tm,.ref sl]/\H tm=U (.tup ps)/\H sl=U (.dK aJ)/\Good aJ ps r/\(∀v∈ps,kK v)/\ps.length<=1000/\xc aJ/\∀H',aL H H'->fin t r Q E H'
inductive Cs where
 |row (r:Rw)
 |skip (e:List V) (to:Nat)
 |go (en:Nat)
def dl.isNil:dl->Bool
 |.nil=>af
 |.cons _ _=>ao
def blk(e:List V)(k:Nat)(A:List Cs)(nl:Bool)(Bn:List Cs):List Cs :=
 if nl=af then .skip e (k+1+A.length)::A else .skip e (k+2+A.length)::(A++(.go (k+2+A.length+Bn.length)::Bn))
mutual
def xB:Rw->Nat->List Cs
 |.iff e a b,k=>blk e k (zY a (k+1)) (dl.isNil b) (zY b (k+2+(zY a (k+1)).length))
 |r,_=>[.row r]
def zY:dl->Nat->List Cs
 |.nil,_=>[]
 |.cons r rs,k=>xB r k++zY rs (k+(xB r k).length)
end
def VA:Rw->Prop
 |.iff _ _ _=>False
 |_=>True
def sT(H:Hp)(v:V):Cs->Prop
 |.row r=>hU Jg H v r/\VA r
 |.skip e to=>∃p te,v=.ref p/\H p=U (.tup [.str "skip",.ref te,.int (to:Nat)])/\H te=U (.tup e)
 |.go en=>∃p,v=.ref p/\H p=U (.tup [.str "go",.int (en:Nat)])
structure WI(n:Nat)(r:dl):Prop where
 dp:r.deep<n
 ct:r.cnt<=500
 pl:qS r
def Zc(n:Nat):Sp:=λvs H Q _=>∃v e a b,∃k:Nat,vs=[v,.int k]/\hU Jg H v (.iff e a b)/\WI n a/\WI n b/\k+(xB (.iff e a b) k).length<=500/\∀l xs H',aL H H'->H' l=U (.lst xs)->Paired (sT H') xs (xB (.iff e a b) k)->Q (.ref l) H'
def wd(n:Nat):Sp:=λvs H Q _=>∃v r,∃k:Nat,vs=[v,.int k]/\RlAt Jg H v r/\WI n r/\k+(zY r k).length<=500/\∀l xs H',aL H H'->H l=ak->H' l=U (.lst xs)->Paired (sT H') xs (zY r k)->Q (.ref l) H'
def VB:Sp:=λvs H Q _=>∃v r,vs=[v]/\RlAt Jg H v r/\WI 6 r/\(zY r 0).length<=500/\∀l xs H',aL H H'->H l=ak->H' l=U (.lst xs)->Paired (sT H') xs (zY r 0)->Q (.ref l) H'
structure aX where
 n:Nat
 why:Option Str
 sl:List (aV×V)
 gi:List aP
 no:List aP
 sa:List Int
structure RAd where
 dx:D
 co:D
 sl:D
 gi:D
 no:D
 sa:D
def zi3:Option Str->V
 |none=>.non
 |some w=>.str w
def zhU(a:RAd)(s:aX):List (Str×V):=[(bg "code",.ref a.co),(bg "at",.int s.n),(bg "why",zi3 s.why),(bg "slots",.ref a.sl),(bg "gifts",.ref a.gi),(bg "notes",.ref a.no),(bg "sayings",.ref a.sa)]
structure hV(t:bv)(H:Hp)(x:D)(a:RAd)(C:List Cs)(s:aX):Prop where
 ix:H x=U (.ins t.q01 a.dx (zhU a s))
 hc:∃xs,H a.co=U (.lst xs)/\Paired (sT H) xs C
 hs:H a.sl=U (.dK s.sl)
 hg:H a.gi=U (.dT (sJ s.gi))
 hn:H a.no=U (.dT (sJ s.no))
 ha:H a.sa=U (.lst (s.sa.map V.int))
 ng:a.gi≠a.no
 nc:a.co≠a.sa
def Ow(x:D)(a:RAd)(b:D):Prop:=b=x\/b=a.sl\/b=a.gi\/b=a.no\/b=a.sa
def OwA(x:D)(a:RAd)(b:D):Prop:=Ow x a b\/b=a.co
def Kp(x:D)(a:RAd)(H H':Hp):Prop:=∀b o,¬ Ow x a b->H b=U o->H' b=U o
def Kk(x:D)(H H':Hp):Prop:=∀b o,b≠x->H b=U o->H' b=U o
structure RnOk(m:Nat)(s:aX):Prop where
 so:xc s.sl
 gw:∀r∈s.gi,sP r.2=af
 nw:∀r∈s.no,sP r.2=af
 l1:s.sl.length<=m
 l2:s.gi.length<=m
 l3:s.no.length<=m
 l4:s.sa.length<=m
 nd:(s.no.map (·.1)).Nodup
def Qi:Cs->Prop
 |.row r=>qQ r
 |.skip e _=>aZ e
 |.go _=>True
def yq(C:List Cs)(s:aX):Bool:=s.why.isSome || decide (C.length<=s.n)
def kh(p:Pl)(w:Int)(s:aX):aX:=if (zD s.gi p).isSome=af\/(zD s.no p).isSome=af then s else { s with no:=s.no++[(p,w)] }
def VC(p:Pl)(w:Int)(s:aX):Int:=(zD s.gi p).getD ((zD s.no p).getD w)
def tu:Rw->Int->aX->Except Er aX
 |.take sh e x,w,s=>match rk s.sl e with
  |.error er=>.error er
  |.ok n=>.ok { kh (sh,n) w s with sl:=yI s.sl (.inr x) (.int (VC (sh,n) w s)) }
 |.give sh e f,_,s=>match rk s.sl e with
  |.error er=>.error er
  |.ok n=>match rk s.sl f with
   |.error er=>.error er
   |.ok i=>.ok { s with gi:=s.gi++[((sh,n),i)] }
 |.lt x e,_,s=>match rk s.sl e with
  |.error er=>.error er
  |.ok i=>.ok { s with sl:=yI s.sl (.inr x) (.int i) }
 |.say e,_,s=>match rk s.sl e with
  |.error er=>.error er
  |.ok i=>.ok { s with sa:=s.sa++[i] }
 |_,_,s=>.ok s
def vK:Cs->Int->aX->Except Er (Nat×aX)
 |.go k,_,s=>.ok (k,s)
 |.skip e to,_,s=>match rk s.sl e with
  |.error er=>.error er
  |.ok i=>.ok (if i=0 then to else s.n+1,s)
 |.row (.off e),_,s=>match rk s.sl e with
  |.error er=>.error er
  |.ok i=>.ok (s.n+1,if i=0 then s else { s with why:=U (bg "told") })
 |.row r,w,s=>match tu r w s with
  |.error er=>.error er
  |.ok s'=>.ok (s.n+1,s')
def xl(c:Cs)(w:Int)(s:aX):aX:=match vK c w s with
 |.ok (k,s')=>{ s' with n:=k }
 |.error er=>{ s with why:=U (zaD er) }
def yS(C:List Cs)(w:Int)(s:aX):aX:=if yq C s=af then s else match C[s.n]? with
 |none=>s
 |some c=>xl c w s
def ki(c:Cs)(s:aX):Option Pl:=match c with
 |.row (.take sh e _)=>match rk s.sl e with
  |.error _=>ak
  |.ok n=>if (zD s.gi (sh,n)).isSome=af\/(zD s.no (sh,n)).isSome=af then ak else U (sh,n)
 |_=>ak
def jr(C:List Cs)(s:aX):Option Pl:=if yq C s=af then ak else (C[s.n]?).bind λc=>ki c s
abbrev zaN(H:Hp)(v:V)(q:aP):Prop:=PrAt H v q
abbrev YB(H:Hp)(vs:List V)(aK:List aP):Prop:=Paired (PrAt H) vs aK
def sL(H:Hp)(a:D)(aK:List aP):Prop:=∃xs,H a=U (.lst xs)/\Paired (PrAt H) xs aK
def Jm(H:Hp)(v:V):Oc->Prop
 |.done sa=>∃o y,v=.ref o/\H o=U (.tup [.str "done",.ref y])/\H y=U (.tup (sa.map V.int))
 |.off w=>∃o,v=.ref o/\H o=U (.tup [.str "off",.str w])
def zdD(s:aX):Oc:=match s.why with
 |some w=>.off w
 |none=>.done s.sa
def Zd(s:aX)(out:List aP):Prop:=match s.why with
 |some _=>out=[]
 |none=>sV out/\∀p w,(p,w)∈out↔zD s.gi p=U w
structure RnF(K:bx)(t:bv):Prop where
 cl:tD K t.q01
 n1:aQ K t.q01 "code"
 n2:aQ K t.q01 "at"
 n3:aQ K t.q01 "why"
 n4:aQ K t.q01 "slots"
 n5:aQ K t.q01 "gifts"
 n6:aQ K t.q01 "notes"
 n7:aQ K t.q01 "sayings"
def st0:aX:=⟨0,ak,[],[],[],[]⟩
def Wm(t:bv):Sp:=λvs H Q _=>∃x l dx xs,∃C:List Cs,vs=[.ref x,.ref l]/\H x=U (.ins t.q01 dx [])/\H l=U (.lst xs)/\Paired (sT H) xs C/\∀H' a,Kk x H H'->hV t H' x a C st0->(∀b,OwA x a b->b=x\/H b=ak)->Q .non H'
def we(t:bv):Sp:=λvs H Q _=>∃x,∃a:RAd,∃C:List Cs,∃s:aX,vs=[.ref x]/\hV t H x a C s/\∀H',aL H H'->Q (.bl (yq C s)) H'
def yw(t:bv):Sp:=λvs H Q E=>∃x tm e,∃a:RAd,∃C:List Cs,∃s:aX,vs=[.ref x,.ref tm]/\hV t H x a C s/\xc s.sl/\H tm=U (.tup e)/\aZ e/\∀H',aL H H'->fin t (rk s.sl e) Q E H'
def yT(t:bv):Sp:=λvs H Q E=>∃x p xs sh te e,∃a:RAd,∃C:List Cs,∃s:aX,vs=[.ref x,.ref p]/\hV t H x a C s/\xc s.sl/\H p=U (.tup xs)/\tL xs 1=U (.str sh)/\tL xs 2=U (.ref te)/\H te=U (.tup e)/\aZ e /\
 (∀i q H',rk s.sl e=.ok i->aL H H'->H' q=U (.tup [.str sh,.int i])->Q (.ref q) H')/\∀er H',rk s.sl e=.error er->aL H H'->zfe t er E H'
def kX(t:bv):Sp:=λvs H Q _=>∃x q,∃p:Pl,∃w,∃a:RAd,∃C:List Cs,∃s:aX,vs=[.ref x,.ref q,.int w]/\hV t H x a C s/\H q=U (.tup [.str p.1,.int p.2])/\s.no.length<=900/\∀H',Kp x a H H'->hV t H' x a C (kh p w s)->Q (.int (VC p w s)) H'
def Ze(t:bv):Sp:=λvs H Q E=>∃x v r w,∃m:Nat,∃a:RAd,∃C:List Cs,∃s:aX,vs=[.ref x,v,.int w]/\hV t H x a C s/\hU Jg H v r/\Yy r/\qQ r/\RnOk m s/\m<=900 /\
 (∀H' s',tu r w s=.ok s'->Kp x a H H'->hV t H' x a C s'->Q .non H')/\∀H' er,tu r w s=.error er->aL H H'->zfe t er E H'
def jN(t:bv):Sp:=λvs H Q E=>∃x v c w,∃m:Nat,∃a:RAd,∃C:List Cs,∃s:aX,vs=[.ref x,v,.int w]/\hV t H x a C s/\sT H v c/\Qi c/\RnOk m s/\m<=900 /\
 (∀H' s' k,vK c w s=.ok (k,s')->Kp x a H H'->hV t H' x a C s'->Q (.int (k:Nat)) H')/\∀H' er,vK c w s=.error er->aL H H'->zfe t er E H'
def jt(t:bv):Sp:=λvs H Q _=>∃x w,∃m:Nat,∃a:RAd,∃C:List Cs,∃s:aX,vs=[.ref x,.int w]/\hV t H x a C s/\(∀c∈C,Qi c)/\RnOk m s/\m<=900/\∀H',Kp x a H H'->hV t H' x a C (yS C w s)->Q .non H'
def Zf(t:bv):Sp:=λvs H Q _=>∃x,∃a:RAd,∃C:List Cs,∃s:aX,vs=[.ref x]/\hV t H x a C s/\(∀c∈C,Qi c)/\xc s.sl/\(∀H',jr C s=ak->aL H H'->Q .non H')/\∀p q H',jr C s=U p->aL H H'->H' q=U (.tup [.str p.1,.int p.2])->Q (.ref q) H'
def kY(t:bv):Sp:=λvs H Q _=>∃x,∃a:RAd,∃C:List Cs,∃s:aX,vs=[.ref x]/\hV t H x a C s/\s.no.length<=900/\(s.no.map (·.1)).Nodup/\s.gi.length<=63/\(∀H',yq C s=ao->aL H H'->Q .non H') /\
 ∀r o nl gl out H',yq C s=af->aL H H'->H nl=ak->H gl=ak->nl≠gl->H' r=U (.tup [o,.ref nl,.ref gl])->Jm H' o (zdD s)->sL H' nl s.no->sL H' gl out->Zd s out->Q (.ref r) H'
def wdJ(w:Str):Prop:=isJ (.str w)=af/\w.length<=1000/\cN w=af
def lfV(v:V):Prop:=(∃i,v=.int i/\sP i=af)\/∃x,v=.str x/\yP x=af
def okD(d:Int):Prop:=0<=d/\d<1000000000000
def yk(K:bx):Sp:=λvs H Q _=>∃a,∃ns:List Int,∃k:Nat,vs=[.ref a,.int k]/\aT K H a (ns.map V.int)/\ns.length<=63/\(∀i∈ns,Cb i)/\∀c H',aL H H'->Cb c->Q (.int c) H'
def xq:Sp:=λvs H Q _=>∃c,∃m:Nat,vs=[.int c,.int m]/\m<=22/\∀(l:D) (ds:List Int) (H':Hp),aL H H'->H l=ak->H' l=U (.lst (ds.map V.int))->ds.length=m->(∀d∈ds,okD d)->Q (.ref l) H'
def Xb(P:Nat->Bool)(x:Str):Prop:=x.cps.toList.all P=af
def smW(w:Str):Prop:=1<=w.length/\w.length<=6/\Xb inL w
def yu:Sp:=λvs H Q _=>∃w,vs=[.str w]/\smW w/\∀x H',yP x=af->aL H H'->Q (.str x) H'
def vL:Sp:=λvs H Q _=>∃c,vs=[.int c]/\∀nm ws H',aL H H'->H nm=ak->sE H' nm ws->ws.length=2->Q (.ref nm) H'
def xi:Sp:=λvs H Q _=>∃n,vs=[.int n]/\0<=n/\n<1000000000000/\∀w H',sP w=af->aL H H'->Q (.int w) H'
def kZ:Sp:=λvs H Q _=>∃n a ws,vs=[.int n,.ref a]/\okD n/\sE H a ws/\ws.length=2/\∀p e H',aL H H'->H p=ak->H' p=U (.tup e)->aZ e->tmP e->Q (.ref p) H'
def vM:Sp:=λvs H Q _=>∃n a ws,vs=[.int n,.ref a]/\okD n/\sE H a ws/\ws.length=2/\∀p e H',aL H H'->H p=ak->H' p=U (.tup e)->aZ e->tmP e->Q (.ref p) H'
def jO:Sp:=λvs H Q _=>∃c a ws,vs=[.int c,.ref a]/\sE H a ws/\ws.length=2/\∀l tab H',aL H H'->H l=ak->sL H' l tab->sV tab->(∀r∈tab,cN r.1.1=af/\sP r.2=af/\r.2≠0)->tab.length<=5->Q (.ref l) H'
mutual
def szR:Rw->Nat
 |.iff _ a b=>Zg a+Zg b+2
 |_=>1
def Zg:dl->Nat
 |.nil=>0
 |.cons r rs=>szR r+Zg rs
end
def zgu:Cs->Prop
 |.row r=>Vu r
 |_=>True
structure Qj(C:List Cs):Prop where
 ok:∀c∈C,Qi c
 pl:∀c∈C,zgu c
 fw:∀(i to:Nat) (e:List V),C[i]?=U (Cs.skip e to)->i<to
 fg:∀(i to:Nat),C[i]?=U (Cs.go to)->i<to
 le:C.length<=40
structure RnI(C:List Cs)(m:Nat)(s:aX):Prop where
 ok:RnOk m s
 ng:∀r∈s.gi,cN r.1.1=af
 nn:∀r∈s.no,cN r.1.1=af
 at_:s.why=ak->m<=s.n
 wy:∀w,s.why=U w->cN w=af
def Zh:Sp:=λvs H Q _=>∃a aK,vs=[.ref a]/\sL H a aK/\(sJ aK).length<=63/\aK.length<=1000/\∀l out H',aL H H'->H l=ak->sL H' l out->zay aK out->Q (.ref l) H'
def zhV(C:List Cs)(tb:Pl->Int)(s:aX):Int:=match jr C s with
 |none=>0
 |some p=>tb p
def Qk(C:List Cs)(tb:Pl->Int)(s:aX):aX:=yS C (zhV C tb s) s
def Ql(C:List Cs)(tb:Pl->Int):Nat->aX->aX
 |0,s=>s
 |k+1,s=>Ql C tb k (Qk C tb s)
noncomputable def giS(s:aX):List aP:=@Classical.epsilon (List aP) ⟨[]⟩ (Zd s)
inductive sX (H:Hp):Nat->V->V->Prop
 |int {n:Nat} (i:Int):sX H (n+1) (.int i) (.int i)
 |str {n:Nat} (x:Str):sX H (n+1) (.str x) (.str x)
 |lst {n:Nat} {a b:D} {xs ys:List V}:H a=U (.lst xs)->H b=U (.lst ys)->xs.length=ys.length->(∀(i:Nat) (x y:V),xs[i]?=U x->ys[i]?=U y->sX H n x y)->sX H (n+1) (.ref a) (.ref b)
 |tup {n:Nat} {a b:D} {xs ys:List V}:H a=U (.tup xs)->H b=U (.tup ys)->xs.length=ys.length->(∀(i:Nat) (x y:V),xs[i]?=U x->ys[i]?=U y->sX H n x y)->sX H (n+1) (.ref a) (.ref b)
def xt(n:Nat):Sp:=λvs H Q _=>∃v u,vs=[v,u]/\sX H n v u/\∀H',aL H H'->Q (.bl af) H'
structure rwW(r:Rw):Prop where
 nf:VA r
 pl:Vu r
 ok:qQ r
def Zi:Sp:=λvs H Q _=>∃p a b,∃ds:List Int,∃us ws:List Str,vs=[.ref p,.ref a,.ref b]/\H p=U (.lst (ds.map V.int))/\ds.length=3/\(∀d∈ds,okD d)/\sE H a us/\us.length=2/\sE H b ws/\ws.length=2/\∀v r H',aL H H'->hU (λb=>H b=ak) H' v r->rwW r->Q v H'
def dl.of:List Rw->dl
 |[]=>.nil
 |r::rs=>.cons r (dl.of rs)
structure zgv(rs:List Rw):Prop where
 dp:(dl.of rs).deep<=1
 pl:qS (dl.of rs)
 ok:Z3 (dl.of rs)
 sz:(rs.map λr=>match r with|.iff _ a b=>a.cnt+b.cnt+3|_=>1).sum<=11
def k7:Sp:=λvs H Q _=>∃c a b,∃us ws:List Str,vs=[.int c,.ref a,.ref b]/\sE H a us/\us.length=2/\sE H b ws/\ws.length=2/\∀l rs H',aL H H'->RlAt (λb=>H b=ak) H' (.ref l) (dl.of rs)->zgv rs->Q (.ref l) H'
def VD(p:Pl)(made:Int):List aP->Int×Int->Int×Int
 |[],s=>s
 |r::rs,s=>VD p made rs (if r.1=p then (made,r.2) else s)
def wK(p:Pl)(ac:Int):List (Int×List aP)->Int×Int->Int×Int
 |[],s=>s
 |l::ls,s=>wK p ac ls (if s.1<l.1/\l.1<ac then VD p l.1 l.2 s else s)
def ya(aK:List aP)(lays:List (Int×List aP))(p:Pl)(ac:Int):Int:=(wK p ac lays (-1,(zD aK p).getD 0)).2
structure WJ(gs:List aP):Prop where
 nd:(gs.map (·.1)).Nodup
 le:gs.length<=63
def v5(lays:List (Int×List aP))(p:Pl)(r:Int):Prop:=∃gs,(r,gs)∈lays/\p∈gs.map (·.1)
structure sF(H:Hp)(rk:D)(F:D->Prop)(P:Pl->Int->Prop)(aJ:List (List aV×V)):Prop where
 at_:H rk=U (.dT aJ)
 nk:(aJ.map (·.1)).Nodup
 nv:(aJ.map (·.2)).Nodup
 ls:∀kv∈aJ,∃(p:Pl) (a:D) (rs:List Int),kv=(zy p,.ref a)/\F a/\H a=U (.lst (rs.map V.int))/\rs.Pairwise (· < ·)/\rs≠[]/\∀r,r∈rs↔P p r
 al:∀p r,P p r->zy p∈aJ.map (·.1)
def zaO(H:Hp)(rk:D)(F:D->Prop)(kv:aV×V)(y:Int×List aP):Prop:=kv.1=.inl y.1/\∃d,kv.2=.ref d/\F d/\d≠rk/\H d=U (.dT (sJ y.2))
def YC(gr:D)(low:Int)(wo rk:D):List (Str×V):=[(bg "ground",.ref gr),(bg "folded",.int low),(bg "worths",.ref wo),(bg "ranks",.ref rk)]
structure MrIn(t:bv)(H:Hp)(m:D)(F:D->Prop)(g:List aP)(l:List (Int×List aP))(low:Int)(dx gr wo rk:D)(wk:List (aV×V))(kk:List (List aV×V)):Prop where
 im:H m=U (.ins t.q02 dx (YC gr low wo rk))
 fg:F gr
 fw:F wo
 fk:F rk
 nr:gr≠rk
 hg:H gr=U (.dT (sJ g))
 hw:H wo=U (.dK wk)
 wp:Paired (zaO H rk F) wk l
 rr:sF H rk F (v5 l) kk
theorem sF.keep{H H':Hp}{rk:D}{F F':D->Prop}{P:Pl->Int->Prop}(h:sF H rk F P aJ)(fk:F rk)(k:∀b o,F b->H b=U o->H' b=U o)(ff:∀b,F b->F' b):sF H' rk F' P aJ:=
 ⟨k _ _ fk h.at_,h.nk,h.nv,λkv hk=>let ⟨p,a,rs,e,fa,ha,z⟩:=h.ls kv hk;⟨p,a,rs,e,ff a fa,k _ _ fa ha,z⟩,h.al⟩
theorem MrIn.keep{H H':Hp}{m:D}{F:D->Prop}{g:List aP}{l:List (Int×List aP)}{low:Int}{dx gr wo rk:D}{wk:List (aV×V)}{kk:List (List aV×V)}(h:MrIn t H m F g l low dx gr wo rk wk kk)(me:F m)(k:∀b o,F b->H b=U o->H' b=U o):MrIn t H' m F g l low dx gr wo rk wk kk:=
 ⟨k _ _ me h.im,h.fg,h.fw,h.fk,h.nr,k _ _ h.fg h.hg,k _ _ h.fw h.hw,Paired.mapP h.wp λ_ _ ⟨e,d,e2,fd,nd,hd⟩=>⟨e,d,e2,fd,nd,k _ _ fd hd⟩,h.rr.keep h.fk k λ_ z=>z⟩
structure sW(t:bv)(H:Hp)(m:D)(F:D->Prop)(g:List aP)(l:List (Int×List aP))(low:Int):Prop where
 own:∀b,F b->∃o,H b=U o
 me:F m
 nd:(l.map (·.1)).Nodup
 ok:∀y∈l,0<=y.1/\WJ y.2
 ex:∃dx gr wo rk wk kk,MrIn t H m F g l low dx gr wo rk wk kk
theorem v6{gr wo rk:D}{low:Int}(h:f≠bg "ground"/\f≠bg "folded"/\f≠bg "worths"/\f≠bg "ranks"):cU f (YC gr low wo rk)=ak:=by
 obtain⟨h1,h2,h3,h4⟩:=h;simp only[YC,ca,beq_eq_false_iff_ne.mpr h1,beq_eq_false_iff_ne.mpr h2,beq_eq_false_iff_ne.mpr h3,beq_eq_false_iff_ne.mpr h4,List.lookup_nil]
theorem sW.ins{H:Hp}{F:D->Prop}{l:List (Int×List aP)}{low:Int}(h:sW t H m F g l low):∃dx fs,H m=U (.ins t.q02 dx fs)/\cU (bg "lay") fs=ak/\cU (bg "seen") fs=ak/\cU (bg "kept") fs=ak/\cU (bg "fold") fs=ak/\cU (bg "table_for") fs=ak:=by
 obtain⟨dx,gr,wo,rk,wk,kk,z⟩:=h.ex;exact⟨dx,_,z.im,v6 (),v6 (),v6 (),v6 (),v6 ()⟩
theorem sW.keep{H H':Hp}{F:D->Prop}{l:List (Int×List aP)}{low:Int}(h:sW t H m F g l low)(k:∀b o,F b->H b=U o->H' b=U o):sW t H' m F g l low:=
 ⟨λb hb=>let ⟨o,e⟩:=h.own b hb;⟨o,k b o hb e⟩,h.me,h.nd,h.ok,let ⟨dx,gr,wo,rk,wk,kk,z⟩:=h.ex;⟨dx,gr,wo,rk,wk,kk,z.keep h.me k⟩⟩
def sS(t:bv)(H:Hp)(m:D)(F:D->Prop)(g:List aP)(l:List (Int×List aP)):Prop:=sW t H m F g l 0
theorem sS.own{H:Hp}{F:D->Prop}{l:List (Int×List aP)}(h:sS t H m F g l):∀b,F b->∃o,H b=U o:=sW.own h
theorem sS.me{H:Hp}{F:D->Prop}{l:List (Int×List aP)}(h:sS t H m F g l):F m:=sW.me h
theorem sS.ins{H:Hp}{F:D->Prop}{l:List (Int×List aP)}(h:sS t H m F g l):∃dx fs,H m=U (.ins t.q02 dx fs)/\cU (bg "lay") fs=ak/\cU (bg "seen") fs=ak/\cU (bg "kept") fs=ak:=let ⟨dx,fs,a,b,c,d,_⟩:=sW.ins h;⟨dx,fs,a,b,c,d⟩
theorem sS.keep{H H':Hp}{F:D->Prop}{l:List (Int×List aP)}(h:sS t H m F g l)(k:∀b o,F b->H b=U o->H' b=U o)(ts:∀b zs,H b=U (.tup zs)->H' b=U (.tup zs)):sS t H' m F g l:=sW.keep h k
theorem sS.same{H H':Hp}{F:D->Prop}{l:List (Int×List aP)}(h:sS t H m F g l)(s:aL H H'):sS t H' m F g l:=h.keep (λb o _ e=>s b o e) λb zs e=>s b _ e
def xx(lays:List (Int×List aP))(ac:Int)(gs:List aP):List (Int×List aP):=(lays.filter λy=>decide (y.1≠ac))++[(ac,gs)]
def yK:Sp:=λvs H Q _=>∃a,∃rs:List Int,∃ac,vs=[.ref a,.int ac]/\H a=U (.lst (rs.map V.int))/\rs.Pairwise (· < ·)/\∀(k:Nat) H',aL H H'->k<=rs.length->(∀r∈rs.take k,r<ac)->(∀r∈rs.drop k,ac<=r)->Q (.int k) H'
def xk(t:bv):Sp:=λvs H Q _=>∃m dx,∃fs:List (Str×V),∃low ac,vs=[.ref m,.int ac]/\H m=U (.ins t.q02 dx fs)/\fs.lookup (bg "folded")=U (.int low)/\low<=ac/\∀H',aL H H'->Q .non H'
def Jn(lays:List (Int×List aP))(ac:Int):List (Int×List aP):=lays.filter λy=>decide (y.1≠ac)
def gV(G:D->Prop)(rk:D)(H H':Hp):Prop:=∀b o,H b=U o->b≠rk->((∀xs,o≠.lst xs)\/¬ G b)->H' b=U o
def Dm(H H':Hp):Prop:=∀b o,H b=U o->∃o',H' b=U o'/\∀zs,o'=.tup zs->o=.tup zs
def ju:Sp:=λvs H Q _=>∃rk pl ac,∃G:D->Prop,∃P:Pl->Int->Prop,∃kk:List (List aV×V),∃q0:Pl,vs=[.ref rk,.ref pl,.int ac]/\sF H rk G P kk/\G rk/\(∀b,H b=ak->G b)/\H pl=U (.tup ((zy q0).map kV))/\¬ P q0 ac/\kk.length<=18900/\(∀rs:List Int,rs.Pairwise (· < ·)->(∀r∈rs,P q0 r)->rs.length<=300)/\∀H' kk',gV G rk H H'->Dm H H'->sF H' rk G (λp r=>P p r\/(r=ac/\p=q0)) kk'->Q .non H'
def wz:Sp:=λvs H Q _=>∃rk pl ac,∃G:D->Prop,∃P:Pl->Int->Prop,∃kk,∃q0:Pl,vs=[.ref rk,.ref pl,.int ac]/\sF H rk G P kk/\G rk/\H pl=U (.tup ((zy q0).map kV))/\P q0 ac/\∀H' kk',gV G rk H H'->Dm H H'->sF H' rk G (λp r=>P p r/\¬ (r=ac/\p=q0)) kk'->Q .non H'
def yR(t:bv):Sp:=λvs H Q _=>∃m ac F g lays low,vs=[.ref m,.int ac]/\sW t H m F g lays low/\∀l ys gs H',aL H H'->H l=ak->H' l=U (.lst ys)->Paired (zaH H') ys (sJ gs)->((ac,gs)∈lays\/(ac ∉ lays.map (·.1)/\gs=[]))->Q (.ref l) H'
def xW(t:bv):Sp:=λvs H Q _=>∃m ac F g lays low,vs=[.ref m,.int ac]/\sW t H m F g lays low/\∀H' F',(∀b o,¬ F b->H b=U o->H' b=U o)->(∀b zs,H b=U (.tup zs)->H' b=U (.tup zs))->sW t H' m F' g (Jn lays ac) low->(∀b,F' b->F b\/H b=ak)->(∀b,F b->F' b)->Q .non H'
def jP(t:bv):Sp:=λvs H Q _=>∃x h dx aK,vs=[.ref x,.ref h]/\H x=U (.ins t.q02 dx [])/\sL H h aK/\aK.length<=63/\∀H' F,Kk x H H'->sS t H' x F aK []->(∀b,F b->b=x\/H b=ak)->Q .non H'
def Xc(t:bv):Sp:=λvs H Q _=>∃m ac gv F g lays gs,vs=[.ref m,.int ac,.ref gv]/\sS t H m F g lays/\0<=ac/\sL H gv gs/\¬ F gv/\WJ gs/\lays.length<=200/\∀H' F',(∀b o,¬ F b->H b=U o->H' b=U o)->(∀b zs,H b=U (.tup zs)->H' b=U (.tup zs))->sS t H' m F' g (xx lays ac gs)->(∀b,F' b->F b\/H b=ak)->(∀b,F b->F' b)->Q .non H'
def va(t:bv):Sp:=λvs H Q _=>∃m p ac F g lays q,vs=[.ref m,.ref p,.int ac]/\sS t H m F g lays/\0<=ac/\H p=U (.tup [.str q.1,.int q.2])/\∀H',aL H H'->Q (.int (ya g lays q ac)) H'
inductive Ev where
 |rest
 |step (r:Int)
 |read (r:Int) (p:Pl) (w:Int)
 |take (r:Int)
 |lay (r:Int)
 |settle (r:Int)
 |again (r:Int) (p:Pl) (o n:Int)
abbrev He:=Int×Ev
def evW:Ev->Str
 |.rest=>"rest"
 |.step _=>"step"
 |.read ..=>"read"
 |.take _=>"take"
 |.lay _=>"lay"
 |.settle _=>"settle"
 |.again ..=>"again"
def evX(q:D):Ev->List V
 |.rest=>[]
 |.step r=>[.int r]
 |.read r _ w=>[.int r,.ref q,.int w]
 |.take r=>[.int r]
 |.lay r=>[.int r]
 |.settle r=>[.int r]
 |.again r _ o n=>[.int r,.ref q,.int o,.int n]
def evP:Ev->Option Pl
 |.read _ p _=>U p
 |.again _ p _ _=>U p
 |_=>ak
def EvAt(H:Hp)(v:V)(x:He):Prop:=∃a q,v=.ref a/\H a=U (.tup (.str (evW x.2)::.int x.1::evX q x.2))/\∀p,evP x.2=U p->H q=U (.tup [.str p.1,.int p.2])
structure DS where
 ws:List Int
 hl:List (Int×Int×Nat×aX)
 ld:List (Int×aX×List aP)
 ls:List (Int×List aP)
 en:Nat
 es:List (aX×List aP)
def XX{β:Type}(l:List (Int×β))(h:Int)(b:β):List (Int×β):=l.map λe=>if e.1=h then (h,b) else e
def yg{β:Type}(l:List (Int×β))(h:Int):List (Int×β):=l.filter λe=>decide (e.1≠h)
def Agr(g:List aP)(ls:List (Int×List aP))(r:Int)(no:List aP):Prop:=∀y∈no,ya g ls y.1 r=y.2
inductive Mv (f:Int) (g:List aP) (CC:List (List Cs)) (S:DS) (h:Int):Ev->DS->Prop
 |step {r j s C}:(h,r,j,s)∈S.hl->CC[(r-f).toNat]?=U C->yq C s=ao->jr C s=ak->Mv f g CC S h (.step r) { S with hl:=XX S.hl h (r,j+1,yS C 0 s) }
 |read {r j s C p}:(h,r,j,s)∈S.hl->CC[(r-f).toNat]?=U C->yq C s=ao->jr C s=U p->Mv f g CC S h (.read r p (ya g S.ls p r)) { S with hl:=XX S.hl h (r,j+1,yS C (ya g S.ls p r) s) }
 |lay {r j s C gi}:(h,r,j,s)∈S.hl->CC[(r-f).toNat]?=U C->yq C s=af->Zd s gi->Mv f g CC S h (.lay r) { S with hl:=yg S.hl h,ls:=xx S.ls r gi,ld:=S.ld++[(r,s,gi)] }
 |settle {s gi}:(f+S.en,s,gi)∈S.ld->Agr g S.ls (f+S.en) s.no->h ∉ S.hl.map (·.1)->Mv f g CC S h (.settle (f+S.en)) { S with ld:=yg S.ld (f+S.en),en:=S.en+1,es:=S.es++[(s,gi)] }
 |again {r s gi p o ws'}:(r,s,gi)∈S.ld->(p,o)∈s.no->ya g S.ls p r≠o->ws'.Perm (r::S.ws)->ws'.Pairwise (· < ·)->h ∉ S.hl.map (·.1)->Mv f g CC S h (.again r p o (ya g S.ls p r)) { S with ld:=yg S.ld r,ws:=ws' }
 |take {r}:r∈S.ws->h ∉ S.hl.map (·.1)->Mv f g CC S h (.take r) { S with ws:=S.ws.erase r,hl:=S.hl++[(h,r,0,st0)] }
 |rest:S.ws=[]->f+(S.en:Int) ∉ S.ld.map (·.1)->h ∉ S.hl.map (·.1)->Mv f g CC S h .rest S
structure zb5(no gi:List aP):Prop where
 nd:(no.map (·.1)).Nodup
 ng:(gi.map (·.1)).Nodup
 ln:no.length<=40
 lg:gi.length<=40
def vN(f:Int)(k n:Nat):List Int:=(eI (n-k)).map λi:Nat=>f+(k:Int)+(i:Int)
structure zgw(CC:List (List Cs)):Prop where
 ok:∀C∈CC,Qj C/\C.length<=11
 le:CC.length<=5
structure sD(n f:Int)(g:List aP)(CC:List (List Cs))(S:DS):Prop where
 f0:0<=f
 cc:zgw CC
 el:S.en<=CC.length
 pm:(S.ws++(S.hl.map (·.2.1)++S.ld.map (·.1))).Perm (vN f S.en CC.length)
 so:S.ws.Pairwise (· < ·)
 hn:(S.hl.map (·.1)).Nodup
 hr:∀e∈S.hl,0<=e.1/\e.1<n
 rn:∀e∈S.hl,∃C,CC[(e.2.1-f).toNat]?=U C/\RnI C e.2.2.1 e.2.2.2/\e.2.2.1<=11
 nt:∀e∈S.ld,zb5 e.2.1.no e.2.2
 ly:∀y∈S.ls,f<=y.1/\y.1<f+CC.length
 gw:∀p,sP ((zD g p).getD 0)=af
 lw:∀y∈S.ls,∀w∈y.2,sP w.2=af
structure tO where
 dx:D
 wy:D
 dw:D
 cl:D
 wl:D
 hd:D
 mks:D
 jb:D
 dj:D
 en:D
 la:D
 re:D
 db:D
def YD(a:tO)(n f:Int):List (Str×V):=[(bg "hands",.int n),(bg "way",.ref a.wy),(bg "first",.int f),(bg "codes",.ref a.cl),(bg "waiting",.ref a.wl),(bg "held",.ref a.hd),(bg "makes",.ref a.mks),(bg "jobs",.ref a.jb),(bg "ended",.ref a.en)]
def Jo(m la re db:D):List (Str×V):=[(bg "makes",.ref m),(bg "laid",.ref la),(bg "readers",.ref re),(bg "doubted",.ref db)]
def dbL(db:List Int):List (aV×V):=db.map λr=>(.inl r,.bl af)
def tK(t:bv)(d:D)(a:tO)(n f:Int)(wo:HO)(cs:List V)(ws:List Int)(kv la:List (aV×V))(db:List Int)(en:List V):List (D×HO):=[(d,.ins t.q00 a.dx (YD a n f)),(a.wy,wo),(a.jb,.ins t.q03 a.dj (Jo a.mks a.la a.re a.db)),(a.cl,.lst cs),(a.wl,.lst (ws.map V.int)),(a.hd,.dK kv),(a.la,.dK la),(a.db,.dK (dbL db)),(a.en,.lst en)]
def tP(H:Hp)(v:V)(C:List Cs):Prop:=∃a ys,v=.ref a/\H a=U (.lst ys)/\Paired (sT H) ys C
structure sM(t:bv)(H:Hp)(lb:D->Nat)(Bo:List (D×HO))(m re:D)(g:List aP)(lays:List (Int×List aP))(P:Pl->Int->Prop)(cs:List V)(CC:List (List Cs)):Prop where
 ob:∀(i:Nat) b o,Bo[i]?=U (b,o)->H b=U o/\lb b=i+1
 ms:sS t H m (λb=>lb b=10) g lays
 rr:∃kk,sF H re (λb=>lb b=11) P kk
 rl:lb re=11
 cc:Paired (λv C=>tP H v C/\∀c,v=.ref c->lb c=13) cs CC
 ow:∀b,lb b≠0->∃o,H b=U o
structure Fr(M:Nat->Prop)(H H':Hp)(lb lb':D->Nat):Prop where
 ex:∀b o,H b=U o->lb' b=lb b
 kp:∀b o,M (lb b)->H b=U o->H' b=U o
 ts:∀b zs,H b=U (.tup zs)->H' b=U (.tup zs)
 al:∀b o,H b=U o->∃o',H' b=U o'
def M0(l:Nat):Prop:=l=0\/l=14
def M1(l:Nat):Prop:=l=0\/14<=l
def tG(H:Hp)(lb:D->Nat)(r:D)(s:aX)(gi:List aP):Prop:=∃o nl gl,H r=U (.tup [o,.ref nl,.ref gl])/\Jm H o (zdD s)/\sL H nl s.no/\sL H gl gi/\lb nl=14/\lb gl=14
def Pk{β:Type}(R:Int->V->β->Prop)(kv:List (aV×V))(l:List (Int×β)):Prop:=Paired (λx e=>x.1=.inl e.1/\R e.1 x.2 e.2) kv l
def HdAt(t:bv)(H:Hp)(lb:D->Nat)(f:Int)(CC:List (List Cs))(h:Int)(v:V)(e:Int×Nat×aX):Prop:=∃tp x ra C,v=.ref tp/\H tp=U (.tup [.int e.1,.ref x])/\CC[(e.1-f).toNat]?=U C/\hV t H x ra C e.2.2/\∀b,OwA x ra b->lb b=20+h.toNat
def YE(H:Hp)(lb:D->Nat)(_:Int)(v:V)(e:aX×List aP):Prop:=∃r,v=.ref r/\tG H lb r e.1 e.2
def tz(ld:List (Int×aX×List aP))(p:Pl)(i:Int):Prop:=∃e∈ld,e.1=i/\p∈e.2.1.no.map (·.1)
def zhW(t:bv)(a:tO)(wo:HO):Prop:=wo=.ins t.q0f a.dw []\/wo=.ins t.q0e a.dw []\/∃k:Nat,wo=.ins t.q06 a.dw [(bg "times",.int k)]
structure DbOk(ld:List (Int×aX×List aP))(db:List Int):Prop where
 nd:db.Nodup
 su:∀r∈db,r∈ld.map (·.1)
structure EnI(H:Hp)(lb:D->Nat)(en:List V)(k:Nat)(es:List (aX×List aP)):Prop where
 le:en.length=k
 ps:Paired (YE H lb 0) en es
structure DbA(g:List aP)(lays:List (Int×List aP))(ld:List (Int×aX×List aP))(db:List Int):Prop where
 wk:DbOk ld db
 ag:∀e∈ld,e.1 ∉ db->Agr g lays e.1 e.2.1.no
def tE(t:bv)(H:Hp)(d:D)(a:tO)(lb:D->Nat)(n f:Int)(g:List aP)(CC:List (List Cs))(S:DS):Prop:=∃wo cs kv la db en,sM t H lb (tK t d a n f wo cs S.ws kv la db en) a.mks a.re g S.ls (tz S.ld) cs CC/\Pk (HdAt t H lb f CC) kv S.hl/\Pk (YE H lb) la S.ld/\DbA g S.ls S.ld db/\EnI H lb en S.en S.es/\zhW t a wo
structure DkF(K:bx)(t:bv):Prop where
 cD:tD K t.q00
 cJ:tD K t.q03
 cT:tD K t.q06
 d1:aQ K t.q00 "hands"
 d2:aQ K t.q00 "way"
 d3:aQ K t.q00 "first"
 d4:aQ K t.q00 "codes"
 d5:aQ K t.q00 "waiting"
 d6:aQ K t.q00 "held"
 d7:aQ K t.q00 "makes"
 d8:aQ K t.q00 "jobs"
 d9:aQ K t.q00 "ended"
 j1:aQ K t.q03 "makes"
 j2:aQ K t.q03 "laid"
 j3:aQ K t.q03 "readers"
 j4:aQ K t.q03 "doubted"
 t1:aQ K t.q06 "times"
def NxA(lays:List (Int×List aP))(q:Pl)(ac:Int)(v:V):Prop:=(v=.non/\∀r,v5 lays q r->r<=ac)\/∃i,v=.int i/\v5 lays q i/\ac<i/\∀r,v5 lays q r->ac<r->i<=r
def xQ(t:bv):Sp:=λvs H Q _=>∃m p ac F g lays q,vs=[.ref m,.ref p,.int ac]/\sS t H m F g lays/\H p=U (.tup ((zy q).map kV))/\∀v H',aL H H'->NxA lays q ac v->Q v H'
def k8(t:bv):Sp:=λvs H Q _=>∃x m dx,vs=[.ref x,.ref m]/\H x=U (.ins t.q03 dx [])/\∀H' la re db,Kk x H H'->H' x=U (.ins t.q03 dx (Jo m la re db))->H' la=U (.dK [])->H' re=U (.dT [])->H' db=U (.dK [])->H la=ak->H re=ak->H db=ak->la≠db->Q .non H'
structure JD where
 d:D
 a:tO
 lb:D->Nat
 n:Int
 f:Int
 wo:HO
 cs:List V
 ws:List Int
 kv:List (aV×V)
 la:List (aV×V)
 db:List Int
 en:List V
 g:List aP
 lays:List (Int×List aP)
 ld:List (Int×aX×List aP)
 CC:List (List Cs)
def JD.O(J:JD)(t:bv)(H:Hp):Prop:=sM t H J.lb (tK t J.d J.a J.n J.f J.wo J.cs J.ws J.kv J.la J.db J.en) J.a.mks J.a.re J.g J.lays (tz J.ld) J.cs J.CC
def Z4(t:bv):Sp:=λvs H Q _=>∃J:JD,∃p ac,∃q:Pl,vs=[.ref J.a.jb,.ref p,.int ac]/\J.O t H/\DbOk J.ld J.db/\J.ld.length<=10/\H p=U (.tup ((zy q).map kV))/\∀H' db',Fr M1 H H' J.lb J.lb->JD.O { J with db:=db' } t H'->DbOk J.ld db'->(∀y∈J.db,y∈db')->(∀r,tz J.ld q r->ac<r->(∀i,v5 J.lays q i->ac<i->r<=i)->r∈db')->Q .non H'
def kj(t:bv):Sp:=λvs H Q _=>∃J:JD,∃r ac,∃s:aX,∃gi:List aP,vs=[.ref J.a.jb,.int ac,.ref r]/\J.O t H/\Pk (YE H J.lb) J.la J.ld/\DbA J.g J.lays J.ld J.db/\(∀e∈J.ld,zb5 e.2.1.no e.2.2)/\J.ld.length<=10/\ac ∉ J.ld.map (·.1)/\0<=ac/\J.lays.length<=10/\tG H J.lb r s gi/\zb5 s.no gi/\∀H' lb' la' db',Fr M1 H H' J.lb lb'->JD.O { J with lb:=lb',la:=la',db:=db',lays:=xx J.lays ac gi,ld:=J.ld++[(ac,s,gi)] } t H'->Pk (YE H' lb') la' (J.ld++[(ac,s,gi)])->DbA J.g (xx J.lays ac gi) (J.ld++[(ac,s,gi)]) db'->Q .non H'
def vh(t:bv):Sp:=λvs H Q _=>∃d:D,∃a:tO,∃lb:D->Nat,∃Bo la,∃g:List aP,∃lays:List (Int×List aP),∃P:Pl->Int->Prop,∃cs CC ac r,∃s:aX,∃gi:List aP,vs=[.ref a.jb,.int ac]/\sM t H lb Bo a.mks a.re g lays P cs CC/\Bo[2]?=U (a.jb,.ins t.q03 a.dj (Jo a.mks a.la a.re a.db))/\Bo[6]?=U (a.la,.dK la)/\yf la (.inl ac)=U (.ref r)/\0<=ac/\tG H lb r s gi/\(∀H',aL H H'->Agr g lays ac s.no->Q .non H')/\∀v H' q y,aL H H'->y∈s.no->ya g lays y.1 ac≠y.2->H' v=U (.tup [.ref q,.int y.2,.int (ya g lays y.1 ac)])->H' q=U (.tup [.str y.1.1,.int y.1.2])->Q (.ref v) H'
def wA(t:bv):Sp:=λvs H Q _=>∃J:JD,vs=[.ref J.a.jb]/\J.O t H/\Pk (YE H J.lb) J.la J.ld/\DbA J.g J.lays J.ld J.db/\J.ld.length<=10/\(J.ld.map (·.1)).Nodup/\(∀e∈J.ld,0<=e.1)/\(∀H',Fr M1 H H' J.lb J.lb->JD.O { J with db:=[] } t H'->DbA J.g J.lays J.ld []->Q .non H')/\∀v H' db' q r s gi y,Fr M1 H H' J.lb J.lb->JD.O { J with db:=db' } t H'->DbA J.g J.lays J.ld db'->(∀x∈db',r<=x)->(r,s,gi)∈J.ld->y∈s.no->ya J.g J.lays y.1 r≠y.2->H' v=U (.tup [.int r,.ref q,.int y.2,.int (ya J.g J.lays y.1 r)])->H' q=U (.tup [.str y.1.1,.int y.1.2])->Q (.ref v) H'
def wT(t:bv):Sp:=λvs H Q _=>∃(J:JD) (ac:Int) (s:aX) (gi:List aP),vs=[.ref J.a.jb,.int ac]/\J.O t H/\Pk (YE H J.lb) J.la J.ld/\DbA J.g J.lays J.ld J.db/\(J.ld.map (·.1)).Nodup/\(ac,s,gi)∈J.ld/\(s.no.map (·.1)).Nodup/\∀r H' lb' la' db',Fr M1 H H' J.lb lb'->JD.O { J with lb:=lb',la:=la',db:=db',ld:=yg J.ld ac } t H'->Pk (YE H' lb') la' (yg J.ld ac)->DbA J.g J.lays (yg J.ld ac) db'->tG H' lb' r s gi->Q (.ref r) H'
def qt(t:bv):Sp:=λvs H Q _=>∃x dx,vs=[.ref x]/\H x=U (.ins t.q06 dx [])/\Q .non (upd H x (.ins t.q06 dx [(bg "times",.int 0)]))
def xM(t:bv):Sp:=λvs H Q _=>∃x l w dx dw n f wo,∃g:List aP,vs=[.ref x,.ref l,.int n,.ref w,.int f]/\H x=U (.ins t.q00 dx [])/\sL H l g/\g.length<=63/\H w=U wo/\w≠x/\∀H' a lb,a.wy=w->a.dw=dw->(∀b o,b≠x->H b=U o->H' b=U o)->(∀b o,b≠x->b≠w->H b=U o->lb b=0)->sM t H' lb (tK t x a n f wo [] [] [] [] [] []) a.mks a.re g [] (tz []) [] []->Q .non H'
def yU(t:bv):Sp:=λvs H Q _=>∃d dx,∃a:tO,∃n f,∃en:List V,vs=[.ref d]/\H d=U (.ins t.q00 dx (YD a n f))/\H a.en=U (.lst en)/\Q (.int (f+en.length)) H
def wB(t:bv):Sp:=λvs H Q _=>∃d dx,∃a:tO,∃n f,∃cs:List V,vs=[.ref d]/\H d=U (.ins t.q00 dx (YD a n f))/\H a.cl=U (.lst cs)/\Q (.int (f+cs.length)) H
def zgx(f:Int)(n:Nat)(S:DS):DS:={ S with ws:=S.ws++[f+n] }
def wf(t:bv):Sp:=λvs H Q _=>∃d v,∃a:tO,∃lb:D->Nat,∃n f,∃g:List aP,∃CC:List (List Cs),∃C:List Cs,∃S:DS,vs=[.ref d,v]/\tP H v C/\tE t H d a lb n f g CC S/\CC.length<=10/\S.ws.length<=10/\∀H' lb',Fr M0 H H' lb lb'->tE t H' d a lb' n f g (CC++[C]) (zgx f CC.length S)->Q (.int (f+CC.length)) H'
def Z5(t:bv):Sp:=λvs H Q _=>∃x l,∃ws:List Int,vs=[.ref x,.ref l]/\H l=U (.lst (ws.map V.int))/\ws≠[]/\∀w∈ws,Q (.int w) H
def jv(t:bv):Sp:=λvs H Q _=>∃x l,∃ws:List Int,vs=[.ref x,.ref l]/\H l=U (.lst (ws.map V.int))/\ws≠[]/\∀w∈ws,Q (.int w) H
def jx(t:bv):Sp:=λvs H Q _=>∃x l dw,∃ws:List Int,∃k:Nat,vs=[.ref x,.ref l]/\H l=U (.lst (ws.map V.int))/\ws≠[]/\H x=U (.ins t.q06 dw [(bg "times",.int k)])/\∀w∈ws,Q (.int w) (upd H x (.ins t.q06 dw [(bg "times",.int (k+1:Nat))]))
def wU(t:bv):Sp:=λvs H Q _=>∃d,∃a:tO,∃lb:D->Nat,∃n f h,∃g:List aP,∃CC,∃S:DS,vs=[.ref d,.int h]/\tE t H d a lb n f g CC S/\sD n f g CC S/\h ∉ S.hl.map (·.1)/\S.ws≠[]/\∀v H' lb' r,Fr M0 H H' lb lb'->r∈S.ws->EvAt H' v (h,.take r)->tE t H' d a lb' n f g CC { S with ws:=S.ws.erase r,hl:=S.hl++[(h,r,0,st0)] }->Q v H'
def mvP(t:bv)(H:Hp)(d:D)(a:tO)(lb:D->Nat)(n f h:Int)(g:List aP)(CC:List (List Cs))(S:DS)(Q:VK):Prop:=∀v H' lb' e S',Fr M0 H H' lb lb'->EvAt H' v (h,e)->Mv f g CC S h e S'->tE t H' d a lb' n f g CC S'->Q v H'
def xX(t:bv):Sp:=λvs H Q _=>∃d,∃a:tO,∃lb:D->Nat,∃n f h,∃g:List aP,∃CC,∃S:DS,vs=[.ref d,.int h]/\tE t H d a lb n f g CC S/\sD n f g CC S/\h ∉ S.hl.map (·.1)/\mvP t H d a lb n f h g CC S Q
def xN(t:bv):Sp:=λvs H Q _=>∃d,∃a:tO,∃lb:D->Nat,∃n f h,∃g:List aP,∃CC,∃S:DS,vs=[.ref d,.int h]/\tE t H d a lb n f g CC S/\sD n f g CC S/\0<=h/\h<n/\mvP t H d a lb n f h g CC S Q
def xG(t:bv):Sp:=λvs H Q _=>∃(d:D) (a:tO) (lb:D->Nat) (n f:Int) (g:List aP) (CC:List (List Cs)) (S:DS) (J:List He->DS->Prop),vs=[.ref d]/\tE t H d a lb n f g CC S/\sD n f g CC S/\1<=n/\n<=8/\J [] S/\(∀es S h e S',J es S->sD n f g CC S->h=(es.length:Int)%n->Mv f g CC S h e S'->J (es++[(h,e)]) S')/\∀l xs es H' lb' S',Fr M0 H H' lb lb'->lb' l=0->H l=ak->H' l=U (.lst xs)->Paired (EvAt H') xs es->xs.length<=10000->J es S'->sD n f g CC S'->S'.en=CC.length->tE t H' d a lb' n f g CC S'->Q (.ref l) H'
def S0:DS:=⟨[],[],[],[],0,[]⟩
def zaP(f:Pl->Int)(aK:List aP):Prop:=sV aK/\∀p w,(p,w)∈aK↔f p=w/\w≠0
def zgy(g:List aP)(ls:List (Int×List aP)):Prop:=g.length+(ls.map λy=>y.2.length).sum<=63
def xY(t:bv):Sp:=λvs H Q _=>∃m ac,∃F:D->Prop,∃g:List aP,∃lays:List (Int×List aP),vs=[.ref m,.int ac]/\sS t H m F g lays/\0<=ac/\zgy g lays/\∀l aK H',aL H H'->H l=ak->sL H' l aK->zaP (λp=>ya g lays p ac) aK->Q (.ref l) H'
def PpC(H0 H:Hp)(v:V)(e:aX×List aP):Prop:=∃r o nl gl,v=.ref r/\H r=U (.tup [o,.ref nl,.ref gl])/\Jm H o (zdD e.1)/\sL H nl e.1.no/\sL H gl e.2/\H0 nl=ak/\H0 gl=ak
def xH(t:bv):Sp:=λvs H Q _=>∃d,∃a:tO,∃lb:D->Nat,∃n f,∃g:List aP,∃CC,∃S:DS,vs=[.ref d]/\tE t H d a lb n f g CC S/\S.en<=5/\∀l xs H',aL H H'->H l=ak->H' l=U (.lst xs)->Paired (PpC H H') xs S.es->Q (.ref l) H'
def vb(t:bv):Sp:=λvs H Q _=>∃d,∃a:tO,∃lb:D->Nat,∃n f,∃g:List aP,∃CC,∃S:DS,vs=[.ref d]/\tE t H d a lb n f g CC S/\0<=f/\zgy g S.ls/\∀l aK H',aL H H'->H l=ak->sL H' l aK->zaP (λp=>ya g S.ls p (f+S.en)) aK->Q (.ref l) H'
def vO(t:bv):Sp:=λvs H Q _=>∃tl n k,∃g:List aP,vs=[.ref tl,.int n,.int k]/\sL H tl g/\g.length<=5/\∀d a lb H',aL H H'->(∀b o,H b=U o->lb b=0)->tE t H' d a lb n 0 g [] S0->Q (.ref d) H'
def sp_law(K:bx):Sp:=λvs H Q _=>∃a,∃ns:List Int,vs=[.ref a]/\aT K H a (ns.map V.int)/\ns.length<=63/\(∀i∈ns,Cb i)/\∀H',Q (.bl af) H'
section
variable(K:bx)(t:bv)
def jA(K:bx)(t:bv):TS:=zo (yc (zG (aN (rIn K ao) (B 0) (yZ (zd (tC (.str "take")) (zd (tC (.str "give")) (zd (tC (.str "let")) (zd (tC (.str "say")) (zd (tC (.str "off")) (zd (tC (.str "if")) (zd (tC (.str "else")) (zd (tC (.str "end")) (zd (tC (.str "as")) zk))))))))))))
   (zL (aN J6 (B 0) (tC (.str "z"))))
   zS)
  (zo (yc (zG (aN (rIn K ao) (B 0) (yZ (zd (tC (.str "plus")) (zd (tC (.str "minus")) (zd (tC (.str "times")) (zd (tC (.str "over")) (zd (tC (.str "rest")) (zd (tC (.str "under")) (zd (tC (.str "same")) zk))))))))))
    (zL (aN J6 (B 0) (tC (.str "z"))))
    zS)
  (zL (B 0)))
def Z6(K:bx)(t:bv):TS:=zo (zT (vq zk) (zw 2))
  (zo (zT (aN aE (aN aD (B 0) (tC (.int 1000003))) (tC (.int 17))) (zw 3))
  (zo (zT (aN aE (aN aD (aN aF (B 0) (tC (.int 1000003))) (tC (.int 999983))) (tC (.int 29))) (zw 4))
  (zo (qC (QY (zd (B 1) zk)) (zw 5)
    (zo (zT (aN aD (aN aE (aN aE (aN aH (B 3) (B 3)) (aN aH (tC (.int 3)) (B 4))) (B 5)) (tC (.int 1000003))) (zw 3))
  (zo (zT (aN aD (aN aE (aN aE (aN aH (B 4) (B 3)) (aN aH (tC (.int 7)) (B 3))) (tC (.int 11))) (tC (.int 999983))) (zw 4))
  (yh (tBM K "list" yY (B 2) (zd (aN aE (aN aH (B 3) (tC (.int 999983))) (B 4)) zk))))))
  (zL (B 2)))))
def v7(K:bx)(t:bv):TS:=zo (yc (Jb (zG (aN tj (aN aD (aN aF (B 0) (tC (.int 900))) (tC (.int 3))) (tC (.int 0)))) (zG (aN aG (sO (wI K) (zd (B 3) zk)) (tC (.int 6)))))
   (zL (vq (zd (B 3) (zd (zV yu [] E0 (zd (aN J6 (B 3) (B 5)) zk)) zk))))
   zS)
  (zo (yc (Jb (zG (aN tj (aN aD (aN aF (B 0) (tC (.int 900))) (tC (.int 3))) (tC (.int 1)))) (zG (aN aG (sO (wI K) (zd (B 3) zk)) (tC (.int 6)))))
    (zL (vq (zd (zV yu [] E0 (zd (aN J6 (B 5) (B 3)) zk)) (zd (B 3) zk))))
    zS)
  (zL (vq (zd (B 3) (zd (zV yu [] E0 (zd (aN J6 (aN J6 (tSl zhH (B 3) jn (vB (B 4))) (B 5)) (tSl zhH (B 3) (vB (aN aE (B 4) (tC (.int 1)))) jn)) zk)) zk)))))
def Zj:TS:=zo (zT (aN aD (aN aF (B 0) (tC (.int 6))) (sO (wI K) (zd (B 3) zk))) (zw 4))
  (zo (zT (aN zd6 (B 1) (aN aD (aN aE (aN aE (tBM K "str" J8 (B 1) (zd (aN zd6 (B 3) (B 4)) zk)) (tC (.int 1))) (aN aD (aN aF (B 0) (tC (.int 36))) (tC (.int 25)))) (tC (.int 26)))) (zw 5))
  (v7 K t))
def Zk:TS:=zo (zT (zV yu [] E0 (zd (B 2) zk)) (zw 3))
  (Zj K t)
def k9:TS:=zo (zT (tC (.str "abcdefghijklmnopqrstuvwxyz")) (zw 1))
  (zo (zT (tBM K "str" (XN K) (tC (.str "")) (zd (qq (x9 K (zV xq [] E0 (zd (B 0) (zd (aN aE (tC (.int 1)) (aN aD (B 0) (tC (.int 6)))) zk)))) (zw 0) zai (aN zd6 (B 1) (aN aD (B 0) (tC (.int 26)))) 1 [1]) zk)) (zw 2))
  (Zk K t))
def Zl(K:bx)(t:bv):TS:=zo (yc (zG (aN tj (aN aD (B 0) (tC (.int 4))) (tC (.int 0))))
   (zL (aN aI (aN aD (aN aH (B 0) (aN (rI zbv λi j=>.int (i^j.toNat)) (tC (.int 1000000007)) (tC (.int 3)))) (aN aE (aN aH (tC (.int 2)) (aN (rI zbv λi j=>.int (i^j.toNat)) (tC (.int 10)) (tC (.int 30)))) (tC (.int 1)))) (aN (rI zbv λi j=>.int (i^j.toNat)) (tC (.int 10)) (tC (.int 30)))))
   zS)
  (zL (aN aI (aN aD (aN aF (B 0) (tC (.int 4))) (tC (.int 6))) (tC (.int 2))))
def Z7(K:bx)(t:bv):TS:=zo (zT (zV xq [] E0 (zd (B 0) (zd (tC (.int 10)) zk))) (zw 2))
  (zo (zT Yk (zw 3))
  (zo (qC (QY (zd (aN aD (B 0) (tC (.int 6))) zk)) (zw 4)
    (zo (zT (zV xi [] E0 (zd (aN (y8 K) (B 2) (aN aE (B 4) (tC (.int 5)))) zk)) (zw 5))
  (yc (zG (aN rNe (B 5) (tC (.int 0))))
    (qJ (B 3) (yZ (zd (aN (y8 K) (B 1) (aN aD (aN (y8 K) (B 2) (B 4)) (tC (.int 2)))) (zd (aN aD (aN aF (aN (y8 K) (B 2) (B 4)) (tC (.int 2))) (tC (.int 3))) zk))) (B 5))
    zS)))
  (zL (qq (x9 K (sO zcF (zd (B 3) zk))) (zw 0) zai (yZ (zd (B 0) (zd (jW (B 1) (B 0)) zk))) 1 [3]))))
def jQ(K:bx)(t:bv):TS:=zo (xT K (B 0) (sO zcG (zd (B 1) zk)) "ground")
  (zo (xT K (B 0) (tC (.int 0)) "folded")
  (zo (xT K (B 0) XH "worths")
  (xT K (B 0) Yk "ranks")))
def qc(K:bx)(t:bv):TS:=zo (xT K (B 0) (B 1) "makes")
  (zo (xT K (B 0) XH "laid")
  (zo (xT K (B 0) Yk "readers")
  (xT K (B 0) XH "doubted")))
def qd:TS:=zo (xT K (B 0) (B 2) "hands")
  (zo (xT K (B 0) (B 3) "way")
  (zo (xT K (B 0) (B 4) "first")
  (zo (xT K (B 0) (vq zk) "codes")
  (zo (xT K (B 0) (vq zk) "waiting")
  (zo (xT K (B 0) XH "held")
  (zo (xT K (B 0) (Z1 t.q02 (jP t) [] E0 (zd (B 1) zk)) "makes")
  (zo (xT K (B 0) (Z1 t.q03 (k8 t) [] E0 (zd (zR K (B 0) "makes") zk)) "jobs")
  (xT K (B 0) (vq zk) "ended"))))))))
def qu(K:bx)(t:bv):TS:=xT K (B 0) (tC (.int 0)) "times"
def Xd:TS:=zo (yc (zG (aN tj (B 2) (tC (.int 1))))
   (zL (Z1 t.q00 (xM t) [.int 0] E0 (zd (sO (zao K) (zd (B 0) zk)) (zd (B 1) (zd (zb1 t.q0e) zk)))))
   zS)
  (zo (yc (zG (aN tj (B 2) (tC (.int 2))))
    (zL (Z1 t.q00 (xM t) [.int 0] E0 (zd (sO (zao K) (zd (B 0) zk)) (zd (B 1) (zd (Z1 t.q06 (qt t) [] E0 zk) zk)))))
    zS)
  (zL (Z1 t.q00 (xM t) [.int 0] E0 (zd (sO (zao K) (zd (B 0) zk)) (zd (B 1) (zd (zb1 t.q0f) zk))))))
def Zm(K:bx)(t:bv):TS:=zL (qq (x9 K (zR K (B 0) "ended")) (zw 0) zai (yZ (zd (aN (y9 K) (B 0) (tC (.int 0))) (zd (sO (zao K) (zd (aN (y9 K) (B 0) (tC (.int 1))) zk)) (zd (sO (zao K) (zd (aN (y9 K) (B 0) (tC (.int 2))) zk)) zk)))) 1 [])
def qv(K:bx)(t:bv):TS:=zL (aN aE (zR K (B 0) "first") (sO (wI K) (zd (zR K (B 0) "ended") zk)))
def jB(K:bx)(t:bv):TS:=zL (aN aE (zR K (B 0) "first") (sO (wI K) (zd (zR K (B 0) "codes") zk)))
def Wn(K:bx)(t:bv):TS:=zL (zio (aN zcw (zR K (B 0) "why") (tC .non)) (aN (rI0 λi j=>.bl (decide (j<=i))) (zR K (B 0) "at") (sO (wI K) (zd (zR K (B 0) "code") zk))))
def VE(K:bx)(t:bv)(E:XK):TS:=zo (yc (zG (aN tj (B 2) (tC (.int 0))))
   (zbH t.q08 (zd (zeh (B 0)) zk) E)
   zS)
  (zL (tIf (zG (aN tj (B 0) (tC (.str "over")))) (aN (rI zg7 λi j=>.int (i.fdiv j)) (B 1) (B 2)) (aN (rI (λ_ j=>j≠0) λi j=>.int (i.fmod j)) (B 1) (B 2))))
def VF(K:bx)(t:bv)(E:XK):TS:=zo (yc (zG (aN tj (B 0) (tC (.str "plus"))))
   (zL (aN aE (B 1) (B 2)))
   zS)
  (zo (yc (zG (aN tj (B 0) (tC (.str "minus"))))
    (zL (aN aI (B 1) (B 2)))
    zS)
  (zo (yc (zG (aN tj (B 0) (tC (.str "times"))))
    (zL (aN aH (B 1) (B 2)))
    zS)
  (zo (yc (zG (aN tj (B 0) (tC (.str "under"))))
    (zL (tIf (zG (aN aG (B 1) (B 2))) (tC (.int 1)) (tC (.int 0))))
    zS)
  (zo (yc (zG (aN tj (B 0) (tC (.str "same"))))
    (zL (tIf (zG (aN tj (B 1) (B 2))) (tC (.int 1)) (tC (.int 0))))
    zS)
  (zL (zV (Yz t) [] E (zd (B 0) (zd (B 1) (zd (B 2) zk)))))))))
def Zn(K:bx)(t:bv):TS:=zo (yc (tOr (Wz (tB (sO (ZS K) (zd (B 0) (zd (tC (.ty "int")) zk))))) (tB (sO (ZS K) (zd (B 0) (zd (tC (.ty "bool")) zk)))))
   (zL (tC (.bl ao)))
   zS)
  (zL (zd0 (rI0 λi j=>.bl (decide (i<=j))) (rI0 λi j=>.bl (decide (i<=j))) (tUn (rU λi=>.int (-i)) (aN (rI zbv λi j=>.int (i^j.toNat)) (tC (.int 10)) (tC (.int 30)))) (B 0) (aN (rI zbv λi j=>.int (i^j.toNat)) (tC (.int 10)) (tC (.int 30)))))
def Kl(K:bx)(t:bv)(E:XK):TS:=zo (zT (zV (YA t) [] E (zd (B 0) (zd (B 1) (zd (B 2) zk)))) (zw 3))
  (zo (yc (Wz (tB (zV Wk [] E (zd (B 3) zk))))
    (zbH t.q0a (zd (zeh (B 0)) zk) E)
    zS)
  (zL (B 3)))
def Jp(E:XK):TS:=zo (zT (zf0 K "list" Vj (B 2)) (zw 4))
  (zo (zT (zf0 K "list" Vj (B 2)) (zw 5))
  (yh (tBM K "list" yY (B 2) (zd (zV (XW t) [] E (zd (B 3) (zd (B 5) (zd (B 4) zk)))) zk))))
def Jq(K:bx)(t:bv)(E:XK):TS:=yh (tBM K "list" yY (B 2) (zd (tIf (tB (sO (ZS K) (zd (B 3) (zd (tC (.ty "str")) zk)))) (qL (B 1) (B 3) (tC (.int 0))) (B 3)) zk))
def Jr(E:XK):TS:=yc (zG (aN (rIn K ao) (B 3) (tC (.ref t.q0r))))
   (Jp K t E)
   (Jq K t E)
def Wo(E:XK):TS:=zo (zT (vq zk) (zw 2))
  (zo (qC (zis K (B 0)) (zw 3)
    (Jr K t E))
  (zL (zf0 K "list" Vj (B 2))))
def qw(E:XK):TS:=zL (zV (Wl t) [] E (zd (B 1) (zd (zR K (B 0) "slots") zk)))
def qx(E:XK):TS:=zL (yZ (zd (aN (y9 K) (B 1) (tC (.int 1))) (zd (zN t.q01 "worth_of" (yw t) [] E (B 0) (zd (aN (y9 K) (B 1) (tC (.int 2))) zk)) zk)))
def Js(K:bx)(t:bv):TS:=zo (yc (tOr (zG (aN (zav ao) (B 1) (zR K (B 0) "gifts"))) (zG (aN (zav ao) (B 1) (zR K (B 0) "notes"))))
   (zL (tC .non))
   zS)
  (zL (B 1))
def Jt:TS:=zo (zhd K (zg5 (zbT t.q01 "place_in" (yT t) (B 0) (zd (aN (y8 K) (zR K (B 0) "code") (zR K (B 0) "at")) zk)) 1) t.q0a t.q08 (zL (tC .non)))
  (Js K t)
def Wp:TS:=zo (yc (tOr (tB (zN t.q01 "over" (we t) [] E0 (B 0) zk)) (zG (aN rNe (aN (y9 K) (aN (y8 K) (zR K (B 0) "code") (zR K (B 0) "at")) (tC (.int 0))) (tC (.str "take")))))
   (zL (tC .non))
   zS)
  (Jt K t)
def v9(K:bx)(t:bv):TS:=yc (zG (aN aG (B 1) (zR K (B 0) "folded")))
   zbq
   zS
def Z8(K:bx)(t:bv):TS:=zo (zT (tC (.int 0)) (zw 2))
  (zo (zT (sO (wI K) (zd (B 0) zk)) (zw 3))
  (zo (zbr (zG (aN aG (B 2) (B 3))) (zo (zT (aN aF (aN aE (B 2) (B 3)) (tC (.int 2))) (zw 4))
  (yc (zG (aN aG (aN (y8 K) (B 0) (B 4)) (B 1)))
    (zT (aN aE (B 4) (tC (.int 1))) (zw 2))
    (zT (B 4) (zw 3)))))
  (zL (B 2))))
def jR:TS:=zo (yh (zN t.q02 "heed_fold" (xk t) [] E0 (B 0) (zd (B 2) zk)))
  (zo (zT (qL (zR K (B 0) "ranks") (B 1) (vq zk)) (zw 3))
  (zo (zT (zV yK [] E0 (zd (B 3) (zd (B 2) zk))) (zw 4))
  (zo (yc (zG (aN tj (B 4) (tC (.int 0))))
    (zL (qL (zR K (B 0) "ground") (B 1) (tC (.int 0))))
    zS)
  (zL (jW (jW (zR K (B 0) "worths") (aN (y8 K) (B 3) (aN aI (B 4) (tC (.int 1))))) (B 1))))))
def Xe(K:bx)(t:bv):TS:=zo (yc (zG (aN (zav ao) (B 1) (zR K (B 0) "gifts")))
   (zL (jW (zR K (B 0) "gifts") (B 1)))
   zS)
  (zo (yc (zG (aN (zav af) (B 1) (zR K (B 0) "notes")))
    (qJ (zR K (B 0) "notes") (B 1) (B 2))
    zS)
  (zL (jW (zR K (B 0) "notes") (B 1))))
def Ju(E:XK):TS:=qJ (zR K (B 0) "slots") (aN (y9 K) (B 1) (tC (.int 1))) (zN t.q01 "worth_of" (yw t) [] E (B 0) (zd (aN (y9 K) (B 1) (tC (.int 2))) zk))
def Z9(E:XK):TS:=yh (tBM K "list" yY (zR K (B 0) "sayings") (zd (zN t.q01 "worth_of" (yw t) [] E (B 0) (zd (aN (y9 K) (B 1) (tC (.int 1))) zk)) zk))
def Jv(E:XK):TS:=zo (zT (zN t.q01 "place_in" (yT t) [] E (B 0) (zd (B 1) zk)) (zw 3))
  (qJ (zR K (B 0) "gifts") (B 3) (zN t.q01 "worth_of" (yw t) [] E (B 0) (zd (aN (y9 K) (B 1) (tC (.int 3))) zk)))
def Jw(E:XK):TS:=qJ (zR K (B 0) "slots") (aN (y9 K) (B 1) (tC (.int 3))) (zN t.q01 "taken" (kX t) [] E (B 0) (zd (zN t.q01 "place_in" (yT t) [] E (B 0) (zd (B 1) zk)) (zd (B 2) zk)))
def Wq(E:XK):TS:=yc (zG (aN tj (aN (y9 K) (B 1) (tC (.int 0))) (tC (.str "take"))))
   (Jw K t E)
   (yc (zG (aN tj (aN (y9 K) (B 1) (tC (.int 0))) (tC (.str "give"))))
   (Jv K t E)
   (yc (zG (aN tj (aN (y9 K) (B 1) (tC (.int 0))) (tC (.str "let"))))
   (Ju K t E)
   (Z9 K t E)))
def WK(E:XK):TS:=yc (zG (aN rNe (zN t.q01 "worth_of" (yw t) [] E (B 0) (zd (aN (y9 K) (B 1) (tC (.int 1))) zk)) (tC (.int 0))))
   (xT K (B 0) (tC (.str "told")) "why")
   zS
def WL(K:bx)(t:bv)(E:XK):TS:=yh (zN t.q01 "does" (Ze t) [] E (B 0) (zd (B 1) (zd (B 2) zk)))
def WM(E:XK):TS:=zL (tIf (zG (aN tj (zN t.q01 "worth_of" (yw t) [] E (B 0) (zd (aN (y9 K) (B 1) (tC (.int 1))) zk)) (tC (.int 0)))) (aN (y9 K) (B 1) (tC (.int 2))) (aN aE (zR K (B 0) "at") (tC (.int 1))))
def WN(E:XK):TS:=zo (yc (zG (aN tj (aN (y9 K) (B 1) (tC (.int 0))) (tC (.str "off"))))
   (WK K t E)
   (WL K t E))
  (zL (aN aE (zR K (B 0) "at") (tC (.int 1))))
def WO(E:XK):TS:=zo (yc (zG (aN tj (aN (y9 K) (B 1) (tC (.int 0))) (tC (.str "skip"))))
   (WM K t E)
   zS)
  (WN K t E)
def Ya(E:XK):TS:=zo (yc (zG (aN tj (aN (y9 K) (B 1) (tC (.int 0))) (tC (.str "go"))))
   (zL (aN (y9 K) (B 1) (tC (.int 1))))
   zS)
  (WO K t E)
def Wr:TS:=zo (yc (tB (zN t.q01 "over" (we t) [] E0 (B 0) zk))
   zgX
   zS)
  (zeK K (zhc K (B 0) (zbT t.q01 "led_by" (jN t) (B 0) (zd (aN (y8 K) (zR K (B 0) "code") (zR K (B 0) "at")) (zd (B 1) zk))) "at") t.q0a (xT K (B 0) (tC (.str "great")) "why") t.q08 (xT K (B 0) (tC (.str "nought")) "why"))
def vi:TS:=zo (qC (x9 K (aN (y9 K) (jW (zR K (B 0) "laid") (B 1)) (tC (.int 1)))) (zc8 K 2 (qG (zw 2) (qG (zw 3) zc7)))
   (zo (zT (zN t.q02 "seen" (va t) [] E0 (zR K (B 0) "makes") (zd (B 2) (zd (B 1) zk))) (zw 4))
  (yc (zG (aN rNe (B 4) (B 3)))
    (zL (yZ (zd (B 2) (zd (B 3) (zd (B 4) zk)))))
    zS)))
  (zL (tC .non))
def wC:TS:=zo (zT (sO zhe (zd (zR K (B 0) "doubted") zk)) (zw 1))
  (zo (qC (x9 K (B 1)) (zw 2)
    (zo (zT (zN t.q03 "changed_note" (vh t) [] E0 (B 0) (zd (B 2) zk)) (zw 3))
  (zo (yc (zG (aN zcw (B 3) (tC .non)))
    (zL (aN (zd5 K) (yZ (zd (B 2) zk)) (B 3)))
    zS)
  (yh (KQ (zR K (B 0) "doubted") (B 2))))))
  (zL (tC .non)))
def Xf(K:bx)(t:bv):TS:=zo (zT (jW (B 0) (B 1)) (zw 3))
  (zo (yh (tBM K "list" qU (B 3) (zd (B 2) zk)))
  (yc (zG (aN (zbI K) (B 3) (vq zk)))
    (yh (ze5 (B 0) (B 1)))
    zS))
def ko(K:bx)(t:bv):TS:=zo (zT (KQ (zR K (B 0) "laid") (B 1)) (zw 2))
  (zo (yh (zbD (zR K (B 0) "doubted") (B 1) (tC .non)))
  (zo (qC (x9 K (aN (y9 K) (B 2) (tC (.int 1)))) (zc8 K 2 (qG (zw 3) (qG (zw 4) zc7)))
    (yh (zV wz [] E0 (zd (zR K (B 0) "readers") (zd (B 3) (zd (B 1) zk))))))
  (zL (B 2))))
def jC(K:bx)(t:bv):TS:=zL (aN (y8 K) (B 1) (tUn (rU λi=>.int (-i)) (tC (.int 1))))
def jD(K:bx)(t:bv):TS:=zo (zT (aN aD (zR K (B 0) "times") (sO (wI K) (zd (B 1) zk))) (zw 2))
  (zo (zcm K (B 0) (tC (.int 1)) ziw "times")
  (zL (aN (y8 K) (B 1) (B 2))))
def Yb(K:bx)(t:bv):TS:=zL (aN (y8 K) (B 1) (tC (.int 0)))
def Zo(K:bx)(t:bv):TS:=zo (xT K (B 0) (sO (zao K) (zd (B 1) zk)) "code")
  (zo (xT K (B 0) (tC (.int 0)) "at")
  (zo (xT K (B 0) (tC .non) "why")
  (zo (xT K (B 0) XH "slots")
  (zo (xT K (B 0) Yk "gifts")
  (zo (xT K (B 0) Yk "notes")
  (xT K (B 0) (vq zk) "sayings"))))))
def ja:TS:=zo (yh (tBM K "list" qU (zR K (B 0) "waiting") (zd (B 2) zk)))
  (zo (qJ (zR K (B 0) "held") (B 1) (yZ (zd (B 2) (zd (Z1 t.q01 (Wm t) [] E0 (zd (aN (y8 K) (zR K (B 0) "codes") (aN aI (B 2) (zR K (B 0) "first"))) zk)) zk))))
  (zL (yZ (zd (tC (.str "take")) (zd (B 1) (zd (B 2) zk))))))
def kq:TS:=zo (zT (zfa [(t.q0e,(jv t)),(t.q06,(jx t)),(t.q0f,(Z5 t))] "chosen" E0 (zR K (B 0) "way") (zd (sO (zao K) (zd (zR K (B 0) "waiting") zk)) zk)) (zw 2))
  (ja K t)
def vj:TS:=zo (yh (zN t.q03 "take_off" (wT t) [] E0 (zR K (B 0) "jobs") (zd (aN (y9 K) (B 3) (tC (.int 0))) zk)))
  (zo (yh (tBM K "list" qT (zR K (B 0) "waiting") (zd (zV yK [] E0 (zd (zR K (B 0) "waiting") (zd (aN (y9 K) (B 3) (tC (.int 0))) zk))) (zd (aN (y9 K) (B 3) (tC (.int 0))) zk))))
  (zL (aN (zd5 K) (yZ (zd (tC (.str "again")) (zd (B 1) zk))) (B 3))))
def vm:TS:=zo (yh (tBM K "list" yY (zR K (B 0) "ended") (zd (zN t.q03 "take_off" (wT t) [] E0 (zR K (B 0) "jobs") (zd (B 2) zk)) zk)))
  (zL (yZ (zd (tC (.str "settle")) (zd (B 1) (zd (B 2) zk)))))
def vn:TS:=zo (yc (zG (aN (ze0 K) (zR K (B 0) "waiting") (vq zk)))
   (zL (zN t.q00 "taken_up" (wU t) [] E0 (B 0) (zd (B 1) zk)))
   zS)
  (zL (yZ (zd (tC (.str "rest")) (zd (B 1) zk))))
def Zp:TS:=zo (yc (zG (aN zcw (B 3) (tC .non)))
   (vj K t)
   zS)
  (vn K t)
def jd:TS:=zo (zT (zN t.q00 "settled" (yU t) [] E0 (B 0) zk) (zw 2))
  (zo (zT (zN t.q03 "lowest_changed" (wA t) [] E0 (zR K (B 0) "jobs") zk) (zw 3))
  (zo (yc (Jb (zG (aN (zav ao) (B 2) (zR K (zR K (B 0) "jobs") "laid"))) (tOr (zG (aN zhF (B 3) (tC .non))) (zG (aN rNe (aN (y9 K) (B 3) (tC (.int 0))) (B 2)))))
    (vm K t)
    zS)
  (Zp K t)))
def je(K:bx)(t:bv):TS:=zL (sO zcJ (zd (qL (zR K (B 0) "worths") (B 1) Yk) zk))
def vo(K:bx)(t:bv):TS:=qC (x9 K (B 2)) (zw 3)
   (yh (zV wz [] E0 (zd (zR K (B 0) "ranks") (zd (B 3) (zd (B 1) zk)))))
def jf:TS:=zo (zT (zN t.q02 "places_of" (yR t) [] E0 (B 0) (zd (B 1) zk)) (zw 2))
  (zo (yh (zbD (zR K (B 0) "worths") (B 1) (tC .non)))
  (vo K t))
def Ws(K:bx)(t:bv):TS:=zo (zT (ze6 (B 0) (B 1) (vq zk)) (zw 3))
  (yh (tBM K "list" qT (B 3) (zd (zV yK [] E0 (zd (B 3) (zd (B 2) zk))) (zd (B 2) zk))))
def Zq(K:bx)(t:bv):TS:=qJ (zR K (B 0) "worths") (B 1) (B 3)
def Zr:TS:=zo (ziH (qC (iDT (B 3)) (zw 4)
   (yh (zV ju [] E0 (zd (zR K (B 0) "ranks") (zd (B 4) (zd (B 1) zk)))))))
  (Zq K t)
def qe:TS:=zo (yh (zN t.q02 "heed_fold" (xk t) [] E0 (B 0) (zd (B 1) zk)))
  (zo (yh (zN t.q02 "take_away" (xW t) [] E0 (B 0) (zd (B 1) zk)))
  (zo (zT (sO zcG (zd (B 2) zk)) (zw 3))
  (Zr K t)))
def vD(K:bx)(t:bv):TS:=zo (zT (qL (zR K (B 0) "ranks") (B 1) (vq zk)) (zw 3))
  (zo (zT (zV yK [] E0 (zd (B 3) (zd (aN aE (B 2) (tC (.int 1))) zk))) (zw 4))
  (zL (tIf (zG (aN tj (B 4) (sO (wI K) (zd (B 3) zk)))) (tC .non) (aN (y8 K) (B 3) (B 4)))))
def qy(K:bx)(t:bv):TS:=qC (x9 K (tSl (Jd K) (B 3) (vB (zV yK [] E0 (zd (B 3) (zd (aN aE (B 2) (tC (.int 1))) zk)))) (vB (B 5)))) (zw 6)
   (qJ (zR K (B 0) "doubted") (B 6) (tC (.bl af)))
def Yc:TS:=zo (zT (qL (zR K (B 0) "readers") (B 1) (vq zk)) (zw 3))
  (zo (zT (zN t.q02 "next_above" (xQ t) [] E0 (zR K (B 0) "makes") (zd (B 1) (zd (B 2) zk))) (zw 4))
  (zo (zT (tIf (zG (aN zhF (B 4) (tC .non))) (sO (wI K) (zd (B 3) zk)) (zV yK [] E0 (zd (B 3) (zd (aN aE (B 4) (tC (.int 1))) zk)))) (zw 5))
  (qy K t)))
def kr:TS:=zo (zT (zN t.q02 "places_of" (yR t) [] E0 (zR K (B 0) "makes") (zd (B 1) zk)) (zw 3))
  (zo (yh (zN t.q02 "lay" (Xc t) [] E0 (zR K (B 0) "makes") (zd (B 1) (zd (aN (y9 K) (B 2) (tC (.int 2))) zk))))
  (zo (qC (x9 K (aN KP (B 3) (zN t.q02 "places_of" (yR t) [] E0 (zR K (B 0) "makes") (zd (B 1) zk)))) (zw 4)
    (yh (zN t.q03 "doubt" (Z4 t) [] E0 (B 0) (zd (B 4) (zd (B 1) zk)))))
  (zo (qJ (zR K (B 0) "laid") (B 1) (B 2))
  (zo (qJ (zR K (B 0) "doubted") (B 1) (tC (.bl af)))
  (qC (x9 K (aN (y9 K) (B 2) (tC (.int 1)))) (zc8 K 2 (qG (zw 4) (qG (zw 5) zc7)))
   (yh (zV ju [] E0 (zd (zR K (B 0) "readers") (zd (B 4) (zd (B 1) zk))))))))))
def VG(K:bx)(t:bv):TS:=zo (yc (zG (aN zcw (zR K (B 0) "why") (tC .non)))
   (zL (yZ (zd (yZ (zd (tC (.str "off")) (zd (zR K (B 0) "why") zk))) (zd (B 1) (zd (vq zk) zk)))))
   zS)
  (zL (yZ (zd (yZ (zd (tC (.str "done")) (zd (sO (zi1 K) (zd (zR K (B 0) "sayings") zk)) zk))) (zd (B 1) (zd (sO zha (zd (zbU (zR K (B 0) "gifts")) zk)) zk)))))
def VH:TS:=zo (zT (sO zg9 (zd (zbU (zR K (B 0) "notes")) zk)) (zw 1))
  (VG K t)
def Xg:TS:=zo (yc (Wz (tB (zN t.q01 "over" (we t) [] E0 (B 0) zk)))
   (zL (tC .non))
   zS)
  (VH K t)
def Zs:TS:=zo (yh (KQ (zR K (B 0) "held") (B 1)))
  (zo (yh (zN t.q03 "lay_down" (kj t) [] E0 (zR K (B 0) "jobs") (zd (B 2) (zd (zN t.q01 "paper" (kY t) [] E0 (B 3) zk) zk))))
  (zL (yZ (zd (tC (.str "lay")) (zd (B 1) (zd (B 2) zk))))))
def Zt:TS:=zo (zT (zN t.q01 "asks" (Zf t) [] E0 (B 3) zk) (zw 4))
  (zo (yc (zG (aN zhF (B 4) (tC .non)))
    (zo (yh (zN t.q01 "step" (jt t) [.int 0] E0 (B 3) zk))
  (zL (yZ (zd (tC (.str "step")) (zd (B 1) (zd (B 2) zk))))))
   zS)
  (zo (zT (zN t.q02 "seen" (va t) [] E0 (zR K (B 0) "makes") (zd (B 4) (zd (B 2) zk))) (zw 5))
  (zo (yh (zN t.q01 "step" (jt t) [] E0 (B 3) (zd (B 5) zk)))
  (zL (yZ (zd (tC (.str "read")) (zd (B 1) (zd (B 2) (zd (B 4) (zd (B 5) zk))))))))))
def VI:TS:=zo (zT (aN (y9 K) (jW (zR K (B 0) "held") (B 1)) (tC (.int 0))) (zw 2))
  (zo (zT (aN (y9 K) (jW (zR K (B 0) "held") (B 1)) (tC (.int 1))) (zw 3))
  (zo (yc (tB (zN t.q01 "over" (we t) [] E0 (B 3) zk))
    (Zs K t)
    zS)
  (Zt K t)))
def Xh:TS:=zo (yc (tOr (zG (aN aG (B 1) (tC (.int 0)))) (zG (aN (rI0 λi j=>.bl (decide (j<=i))) (B 1) (zR K (B 0) "hands"))))
   zbq
   zS)
  (zo (yc (zG (aN (zav af) (B 1) (zR K (B 0) "held")))
    (zL (zN t.q00 "moved_free" (xX t) [] E0 (B 0) (zd (B 1) zk)))
    zS)
  (VI K t))
def Zu:TS:=zo (zT (vq zk) (zw 1))
  (zo (zbr (zG (aN aG (zN t.q00 "settled" (yU t) [] E0 (B 0) zk) (zN t.q00 "next_rank" (wB t) [] E0 (B 0) zk))) (yh (tBM K "list" yY (B 1) (zd (zN t.q00 "move" (xN t) [] E0 (B 0) (zd (aN aD (sO (wI K) (zd (B 1) zk)) (zR K (B 0) "hands")) zk)) zk))))
  (zL (B 1)))
def Wt(K:bx)(t:bv):TS:=zo (zT (sO zcG (zd (B 0) zk)) (zw 1))
  (zL (qq (x9 K (sO zcF (zd (B 1) zk))) (zw 0) (zG (aN rNe (jW (B 1) (B 0)) (tC (.int 0)))) (yZ (zd (B 0) (zd (jW (B 1) (B 0)) zk))) 1 [1]))
def vp:TS:=zL (zV Zh [] E0 (zd (qq (x9 K (B 2)) (zw 0) zai (yZ (zd (B 0) (zd (zN t.q02 "seen" (va t) [] E0 (B 1) (zd (B 0) (zd (B 2) zk))) zk))) 1 [0,1]) zk))
def jg:TS:=zo (yh (zN t.q02 "heed_fold" (xk t) [] E0 (B 0) (zd (B 1) zk)))
  (zo (zT (aN KP (sO zcJ (zd (zR K (B 0) "ground") zk)) (sO zcJ (zd (zR K (B 0) "ranks") zk))) (zw 2))
  (vp K t))
def Yd:TS:=zL (zN t.q02 "table_for" (xY t) [] E0 (zR K (B 0) "makes") (zd (zN t.q00 "settled" (yU t) [] E0 (B 0) zk) zk))
def qA(K:bx)(t:bv):TS:=zo (yc (zG (aN aG (B 1) (sO (wI K) (zd (B 0) zk))))
   (zL (aN (y8 K) (B 0) (B 1)))
   zS)
  (zL (tC (.int 0)))
def XY(K:bx)(t:bv)(n:Nat):TS:=zL (aN KP (vq (zd (yZ (zd (tC (.str "skip")) (zd (aN (y9 K) (B 0) (tC (.int 1))) (zd (B 3) zk)))) zk)) (B 2))
def XZ(K:bx)(t:bv)(n:Nat):TS:=zo (zT (zV (wd  n) [] E0 (zd (aN (y9 K) (B 0) (tC (.int 3))) (zd (aN aE (B 3) (tC (.int 1))) zk))) (zw 4))
  (zL (aN KP (aN KP (aN KP (vq (zd (yZ (zd (tC (.str "skip")) (zd (aN (y9 K) (B 0) (tC (.int 1))) (zd (aN aE (B 3) (tC (.int 1))) zk)))) zk)) (B 2)) (vq (zd (yZ (zd (tC (.str "go")) (zd (aN aE (aN aE (B 3) (tC (.int 1))) (sO (wI K) (zd (B 4) zk))) zk))) zk))) (B 4)))
def ku(n:Nat):TS:=zo (yc (zG (aN (zbI K) (aN (y9 K) (B 0) (tC (.int 3))) (vq zk)))
   (XY K t n)
   zS)
  (XZ K t n)
def Zv(n:Nat):TS:=zo (zT (zV (wd  n) [] E0 (zd (aN (y9 K) (B 0) (tC (.int 2))) (zd (aN aE (B 1) (tC (.int 1))) zk))) (zw 2))
  (zo (zT (aN aE (aN aE (B 1) (tC (.int 1))) (sO (wI K) (zd (B 2) zk))) (zw 3))
  (ku K t n))
def Wu(K:bx)(t:bv)(n:Nat):TS:=zo (zT (vq zk) (zw 2))
  (zo (qC (x9 K (B 0)) (zw 3)
    (yc (zG (aN tj (aN (y9 K) (B 3) (tC (.int 0))) (tC (.str "if"))))
    (yh (tBM K "list" zaG (B 2) (zd (zV (Zc  n) [] E0 (zd (B 3) (zd (aN aE (B 1) (sO (wI K) (zd (B 2) zk))) zk))) zk)))
    (yh (tBM K "list" yY (B 2) (zd (B 3) zk)))))
  (zL (B 2)))
def VJ(K:bx)(t:bv):TS:=zL (zV (wd  6) [] E0 (zd (B 0) (zd (tC (.int 0)) zk)))
def Wv:TS:=zo (zT (zN t.q00 "next_rank" (wB t) [] E0 (B 0) zk) (zw 2))
  (zo (yh (tBM K "list" yY (zR K (B 0) "codes") (zd (sO (zao K) (zd (B 1) zk)) zk)))
  (zo (yh (tBM K "list" yY (zR K (B 0) "waiting") (zd (B 2) zk)))
  (zL (B 2))))
def qf(K:bx)(t:bv):TS:=zo (zT (aN aD (B 0) (tC (.int 5))) (zw 2))
  (zo (yc (zG (aN aG (B 2) (tC (.int 2))))
    (zL (yZ (zd (aN aD (aN aF (B 0) (tC (.int 5))) (tC (.int 3))) zk)))
    zS)
  (zo (yc (zG (aN tj (B 2) (tC (.int 2))))
    (zL (yZ (zd (aN (y8 K) (B 1) (aN aD (aN aF (B 0) (tC (.int 5))) (tC (.int 2)))) zk)))
    zS)
  (zo (yc (Jb (zG (aN tj (B 2) (tC (.int 3)))) (zG (aN tj (aN aD (aN aF (B 0) (tC (.int 10))) (tC (.int 3))) (tC (.int 0)))))
    (zL (yZ (zd (tC (.int 7)) (zd (aN (y8 K) (B 1) (aN aD (aN aF (B 0) (tC (.int 30))) (tC (.int 2)))) (zd (tC (.str "over")) zk)))))
    zS)
  (zo (yc (zG (aN tj (B 2) (tC (.int 3))))
    (zL (yZ (zd (aN (y8 K) (B 1) (aN aD (aN aF (B 0) (tC (.int 5))) (tC (.int 2)))) (zd (tC (.int 3)) (zd (tC (.str "rest")) zk)))))
    zS)
  (zL (yZ (zd (zV xi [] E0 (zd (aN aF (B 0) (tC (.int 5))) zk)) zk)))))))
def qg(K:bx)(t:bv):TS:=zo (zT (vq (zd (tC (.str "plus")) (zd (tC (.str "minus")) (zd (tC (.str "times")) (zd (tC (.str "over")) (zd (tC (.str "rest")) (zd (tC (.str "under")) (zd (tC (.str "same")) zk)))))))) (zw 2))
  (zo (zT (aN aD (B 0) (tC (.int 9))) (zw 3))
  (zo (yc (zG (aN tj (B 3) (tC (.int 0))))
    (zL (yZ (zd (zV xi [] E0 (zd (aN aF (B 0) (tC (.int 9))) zk)) zk)))
    zS)
  (zo (yc (zG (aN tj (B 3) (tC (.int 1))))
    (zL (yZ (zd (aN (y8 K) (B 1) (aN aD (aN aF (B 0) (tC (.int 9))) (tC (.int 2)))) zk)))
    zS)
  (zo (yc (zG (aN tj (aN aD (aN aF (B 0) (tC (.int 9))) (tC (.int 2))) (tC (.int 0))))
    (zL (yZ (zd (aN (y8 K) (B 1) (aN aD (aN aF (B 0) (tC (.int 18))) (tC (.int 2)))) (zd (zV xi [] E0 (zd (aN aF (B 0) (tC (.int 36))) zk)) (zd (aN (y8 K) (B 2) (aN aI (B 3) (tC (.int 2)))) zk)))))
    zS)
  (zL (yZ (zd (aN (y8 K) (B 1) (aN aD (aN aF (B 0) (tC (.int 18))) (tC (.int 2)))) (zd (aN (y8 K) (B 1) (aN aD (aN aF (B 0) (tC (.int 36))) (tC (.int 2)))) (zd (aN (y8 K) (B 2) (aN aI (B 3) (tC (.int 2)))) zk)))))))))
def Ye(K:bx)(t:bv):TS:=zo (yc (zG (aN aG (B 3) (tC (.int 4))))
   (zL (yZ (zd (tC (.str "take")) (zd (B 4) (zd (B 6) (zd (B 5) zk))))))
   zS)
  (zo (yc (zG (aN aG (B 3) (tC (.int 7))))
    (zL (yZ (zd (tC (.str "give")) (zd (B 4) (zd (B 6) (zd (B 7) zk))))))
    zS)
  (zo (yc (zG (aN tj (B 3) (tC (.int 7))))
    (zL (yZ (zd (tC (.str "let")) (zd (B 5) (zd (B 7) zk)))))
    zS)
  (zo (yc (zG (aN tj (B 3) (tC (.int 8))))
    (zL (yZ (zd (tC (.str "say")) (zd (B 7) zk))))
    zS)
  (zL (yZ (zd (tC (.str "off")) (zd (yZ (zd (B 5) (zd (aN aE (aN aD (aN (y8 K) (B 0) (tC (.int 1))) (tC (.int 3))) (tC (.int 1))) (zd (tC (.str "same")) zk)))) zk)))))))
def Zw:TS:=zo (zT (aN aD (aN (y8 K) (B 0) (tC (.int 0))) (tC (.int 10))) (zw 3))
  (zo (zT (aN (y8 K) (B 1) (aN aD (aN aF (aN (y8 K) (B 0) (tC (.int 0))) (tC (.int 10))) (tC (.int 2)))) (zw 4))
  (zo (zT (aN (y8 K) (B 2) (aN aD (aN aF (aN (y8 K) (B 0) (tC (.int 0))) (tC (.int 20))) (tC (.int 2)))) (zw 5))
  (zo (zT (zV kZ [] E0 (zd (aN (y8 K) (B 0) (tC (.int 1))) (zd (B 2) zk))) (zw 6))
  (zo (zT (zV vM [] E0 (zd (aN (y8 K) (B 0) (tC (.int 2))) (zd (B 2) zk))) (zw 7))
  (Ye K t)))))
def jh(K:bx)(t:bv):TS:=zo (yc (zG (aN tj (aN aD (aN aF (B 0) (tC (.int 7))) (tC (.int 3))) (tC (.int 0))))
   (zo (zT (aN aD (aN (y8 K) (B 3) (tC (.int 18))) (aN aE (sO (wI K) (zd (B 4) zk)) (tC (.int 1)))) (zw 5))
  (zo (zT (aN aE (B 5) (aN aD (aN (y8 K) (B 3) (tC (.int 21))) (aN aI (aN aE (sO (wI K) (zd (B 4) zk)) (tC (.int 1))) (B 5)))) (zw 6))
  (zo (zT (yZ (zd (tC (.str "if")) (zd (zV vM [] E0 (zd (aN (y8 K) (B 3) (tC (.int 19))) (zd (B 2) zk))) (zd (tSl (Jd K) (B 4) (vB (B 5)) (vB (B 6))) (zd (tSl (Jd K) (B 4) jn (vB (aN aD (aN (y8 K) (B 3) (tC (.int 20))) (tC (.int 3))))) zk))))) (zw 7))
  (zT (aN KP (aN KP (tSl (Jd K) (B 4) jn (vB (B 5))) (vq (zd (B 7) zk))) (tSl (Jd K) (B 4) (vB (B 6)) jn)) (zw 4)))))
   zS)
  (zL (B 4))
def Xi:TS:=zo (zT (zV xq [] E0 (zd (B 0) (zd (tC (.int 22)) zk))) (zw 3))
  (zo (zT (qq (QY (zd (aN aD (B 0) (tC (.int 7))) zk)) (zw 0) zai (zV Zi [] E0 (zd (tSl (Jd K) (B 1) (vB (aN aH (tC (.int 3)) (B 0))) (vB (aN aE (aN aH (tC (.int 3)) (B 0)) (tC (.int 3))))) (zd (B 2) (zd (B 3) zk)))) 1 [3,1,2]) (zw 4))
  (jh K t))
def jS(K:bx)(t:bv)(n:Nat):TS:=zo (yc (tOr (tB (sO (ZS K) (zd (B 1) (zd (tC (.ty "list")) zk)))) (tB (sO (ZS K) (zd (B 1) (zd (tC (.ty "tuple")) zk)))))
   (zo (yc (Jb (Wz (tB (sO (ZS K) (zd (B 0) (zd (tC (.ty "list")) zk))))) (Wz (tB (sO (ZS K) (zd (B 0) (zd (tC (.ty "tuple")) zk))))))
   (zL (tC (.bl ao)))
   zS)
  (zo (yc (tOr (zG (aN rNe (sO (ZS K) (zd (B 0) (zd (tC (.ty "list")) zk))) (sO (ZS K) (zd (B 1) (zd (tC (.ty "list")) zk))))) (zG (aN rNe (sO (wI K) (zd (B 0) zk)) (sO (wI K) (zd (B 1) zk)))))
    (zL (tC (.bl ao)))
    zS)
  (zo (qC (zhb K (zd (B 0) (zd (B 1) zk))) (zc8 K 2 (qG (zw 2) (qG (zw 3) zc7)))
    (yc (Wz (tB (zV (xt  n) [] E0 (zd (B 2) (zd (B 3) zk)))))
    (zL (tC (.bl ao)))
    zS))
  (zL (tC (.bl af))))))
   zS)
  (zo (yc (tB (sO (ZS K) (zd (B 1) (zd (tC (.ty "str")) zk))))
    (zL (QU (sO (ZS K) (zd (B 0) (zd (tC (.ty "str")) zk))) (aN tj (B 0) (B 1))))
    zS)
  (zL (QU (sO (ZS K) (zd (B 0) (zd (tC (.ty "int")) zk))) (QU (zgW (sO (ZS K) (zd (B 0) (zd (tC (.ty "bool")) zk)))) (aN tj (B 0) (B 1))))))
def zaQ(K:bx)(t:bv):TS:=yh (zN t.q00 "move" (xN t) [] E0 (B 8) (zd (aN aD (aN aF (B 12) (tC (.int 7))) (B 6)) zk))
def zff:TS:=zo (yh (zN t.q00 "move" (xN t) [] E0 (B 7) (zd (aN aD (aN aF (aN (y8 K) (B 0) (B 11)) (tC (.int 7))) (B 5)) zk)))
  (zo (zT (aN (y8 K) (B 0) (aN aI (aN aI (sO (wI K) (zd (B 0) zk)) (tC (.int 1))) (B 11))) (zw 12))
  (zo (yc (Jb (zG (aN aG (aN aD (B 12) (tC (.int 7))) (tC (.int 2)))) (zG (aN aG (B 10) (sO (wI K) (zd (B 4) zk)))))
    (zo (yh (zN t.q00 "add" (wf t) [] E0 (B 8) (zd (aN (y8 K) (B 4) (B 10)) zk)))
  (zir 10 (tC (.int 1)) (ipI λi j=>i+j)))
   zS)
  (zaQ K t)))
def Km:TS:=zL (QU (aN tj (zN t.q00 "settled" (yU t) [] E0 (B 7) zk) (sO (wI K) (zd (B 4) zk))) (aN tj (zN t.q00 "settled" (yU t) [] E0 (B 8) zk) (sO (wI K) (zd (B 4) zk))))
def Kn:TS:=zo (yc (tOr (Wz (tB (zV (xt  6) [] E0 (zd (B 13) (zd (tSl (Jd K) (B 14) jn (vB (sO (wI K) (zd (B 13) zk)))) zk))))) (Wz (tB (zV (xt  6) [] E0 (zd (zN t.q00 "table" (vb t) [] E0 (B 7) zk) (zd (B 3) zk))))))
   (zL (tC (.bl ao)))
   zS)
  (Km K t)
def Ko:TS:=zo (yc (tOr (zG (aN rNe (sO (wI K) (zd (B 14) zk)) (sO (wI K) (zd (B 4) zk)))) (Wz (tB (zV (xt  6) [] E0 (zd (zN t.q00 "papers" (xH t) [] E0 (B 7) zk) (zd (B 14) zk))))))
   (zL (tC (.bl ao)))
   zS)
  (Kn K t)
def Kq:TS:=zo (yh (zN t.q00 "finish" (xG t) [] E0 (B 7) zk))
  (Ko K t)
def Kr:TS:=zo (zT (zN t.q00 "papers" (xH t) [] E0 (B 8) zk) (zw 14))
  (zo (zT (zN t.q00 "table" (vb t) [] E0 (B 8) zk) (zw 3))
  (Kq K t))
def Ks:TS:=zo (yh (zN t.q00 "finish" (xG t) [] E0 (B 8) zk))
  (Kr K t)
def Kt:TS:=zo (qC (x9 K (tSl (Jd K) (B 4) (vB (B 10)) jn)) (zw 9)
   (yh (zN t.q00 "add" (wf t) [] E0 (B 8) (zd (B 9) zk))))
  (Ks K t)
def Ku:TS:=zo (zT (zN t.q00 "papers" (xH t) [] E0 (B 7) zk) (zw 13))
  (Kt K t)
def Kv:TS:=zo (qC (QY (zd (sO (wI K) (zd (B 0) zk)) zk)) (zw 11)
   (zff K t))
  (Ku K t)
def zaR:TS:=zo (qC (x9 K (B 4)) (zw 9)
   (yh (zN t.q00 "add" (wf t) [] E0 (B 7) (zd (B 9) zk))))
  (zo (zT (tC (.int 0)) (zw 10))
  (Kv K t))
def zaS:TS:=zo (zT (zV (vO t) [] E0 (zd (B 3) (zd (B 5) (zd (aN aD (aN aF (zV (yk K) [] E0 (zd (B 0) (zd (tC (.int 0)) zk))) (tC (.int 64))) (tC (.int 3))) zk)))) (zw 7))
  (zo (zT (zV (vO t) [] E0 (zd (B 3) (zd (B 6) (zd (aN aD (aN aF (zV (yk K) [] E0 (zd (B 0) (zd (tC (.int 0)) zk))) (tC (.int 192))) (tC (.int 3))) zk)))) (zw 8))
  (zaR K t))
def zaT:TS:=zo (zT (aN aE (tC (.int 1)) (aN aD (zV (yk K) [] E0 (zd (B 0) (zd (tC (.int 0)) zk))) (tC (.int 8)))) (zw 5))
  (zo (zT (aN aE (tC (.int 1)) (aN aD (aN aF (zV (yk K) [] E0 (zd (B 0) (zd (tC (.int 0)) zk))) (tC (.int 8))) (tC (.int 8)))) (zw 6))
  (zaS K t))
def zaU:TS:=zo (zT (qq (x9 K (tSl (Jd K) (B 0) (vB (tC (.int 3))) (vB (tC (.int 8))))) (zw 0) zai (zV VB [] E0 (zd (zV k7 [] E0 (zd (B 0) (zd (B 1) (zd (B 2) zk)))) zk)) 1 [1,2]) (zw 4))
  (zaT K t)
def zfg:TS:=zo (zT (zV vL [] E0 (zd (zV (yk K) [] E0 (zd (B 0) (zd (tC (.int 1)) zk))) zk)) (zw 1))
  (zo (zT (zV vL [] E0 (zd (zV (yk K) [] E0 (zd (B 0) (zd (tC (.int 2)) zk))) zk)) (zw 2))
  (zo (zT (zV jO [] E0 (zd (aN aF (zV (yk K) [] E0 (zd (B 0) (zd (tC (.int 1)) zk))) (tC (.int 7))) (zd (B 1) zk))) (zw 3))
  (zaU K t)))
end
section
variable {K:bx}{t:bv}{H:Hp}{Q:VK}
theorem zfh{j:Int}(h0:0<=j)(h1:j<=100):zbv 10 j:=⟨h0,(),()⟩
theorem y7(h:n<=100000):n<=Bb:=bO h ()
theorem xI(T:String):fE K (.type T) (.type T)=U af:=by
 unfold fE;rw[aq (by simp)]
theorem kf(K:bx):KF K:=⟨by with_unfolding_all rfl,by with_unfolding_all rfl,by with_unfolding_all rfl,by with_unfolding_all rfl,by with_unfolding_all rfl,by with_unfolding_all rfl,by with_unfolding_all rfl,by with_unfolding_all rfl⟩
theorem dB{i j:Int}(h0:0<j:=by lia)(h1:j<10000000000000000000000000000000000000000000000:=by lia):yD i j:=by
 have hb:(10000000000000000000000000000000000000000000000:Int)<big:=by lia
 exact⟨h0,()⟩
theorem zaV{α:Type}{xs:List α}{i:Int}(h0:0<=i)(h1:i<xs.length):∃x,tL xs i=U x/\x∈xs:=by
 obtain⟨n,rfl⟩:∃n:Nat,i=(n:Int):=⟨i.toNat,()⟩;have hn:n<xs.length:=by lia
 refine⟨xs[n],?_,dW hn⟩;unfold tL ixN;rw[aq h0,aq h1];simp[hn]
theorem zhX{α:Type}{xs:List α}(e:Int)(n:Nat)(hl:xs.length=n)(hn:0<(n:Int)):∃x,tL xs (e%n)=U x/\x∈xs :=
 zaV (cP _ ()) (by rw[hl];exact cg _ hn)
theorem zaW{xs:List V} :(xs++[y])[(xs++[y]).length-1]?=U y:=by simp
theorem X0{xs:List V} :(xs++[y]).dropLast=xs:=by simp
theorem wD{H H':Hp}(s:aL H H')(hw:H w=ak):aL H (upd H' w o):=λb u e=>by rw[zl (zC e hw)];exact s b u e
theorem zhY(st:List Int):(∃l a b,st=l++[a,b])\/∀aJ v,isJ v=af->wJ aJ st v=.error .stuck:=by
 cases h:st.reverse with
 |nil =>
  refine .inr λaJ v hv=>?_;unfold wJ;rw[hv,aq Z,h];split <;> rename_i e1 e2 <;> first|rfl|cases e2
 |cons b r =>
  cases r with
  |nil =>
   refine .inr λaJ v hv=>?_;unfold wJ;rw[hv,aq Z,h];split <;> rename_i e1 e2 <;> first|rfl|cases e2
  |cons a r =>
   refine .inl ⟨r.reverse,a,b,?_⟩;have:=congrArg List.reverse h;rw[List.reverse_reverse] at this;rw[this];simp
theorem zfi{aJ:List (aV×V)}{l:List Int}{a b:Int}{w:Str}(hw:isJ (.str w)=af):wJ aJ (l++[a,b]) (.str w)=match j7 w a b with|.ok c=>.ok (l++[c])|.error e=>.error e:=by
 unfold wJ;rw[hw,aq rfl];simp only[oV,pV,rJ,gh,dU];cases j7 w a b with
 |error e=>rfl
 |ok c=>simp
def rkI(aJ:List (aV×V))(ps:List V)(tm sl w:D)(H:Hp)(i:Nat)(σ:St)(H':Hp):Prop:=∃st,(∃o3 o4 o5,σ=[U (.ref tm),U (.ref sl),U (.ref w),o3,o4,o5])/\wM aJ (ps.take i) []=.ok st/\(∀x∈st,sP x=af)/\st.length<=i/\H' w=U (.lst (st.map V.int))/\aL H H'
theorem zcL(c:Nat):({ cps:=#[c] }:Str).length=1:=rfl
theorem zH{H H':Hp}(s:aL H H')(h:H' Bp=ak):H Bp=ak:=by
 cases e:H Bp with
 |none=>rfl
 |some o=>rw[s _ _ e] at h;cases h
theorem tI{Q:VK}{E:XK}{H:Hp}:fin t (.error e) Q E H↔zfe t e E H:=by cases e <;> rfl
theorem fin_ok{i:Int}{Q:VK}{E:XK}{H:Hp}:fin t (.ok i) Q E H↔Q (.int i) H:=sd
theorem sT.same{H H':Hp}(h:sT H v c)(s:aL H H'):sT H' v c:=by
 cases c with
 |row r=>exact⟨h.1.mono s,h.2⟩
 |skip e to =>
  obtain⟨p,te,h1,h2,h3⟩:=h;exact⟨p,te,h1,s _ _ h2,s _ _ h3⟩
 |go en =>
  obtain⟨p,h1,h2⟩:=h;exact⟨p,h1,s _ _ h2⟩
theorem wE{H H':Hp}(s:aL H H'):∀ {xs:List V} {C:List Cs},Paired (sT H) xs C->Paired (sT H') xs C
 |_,_,.nil=>.nil
 |_,_,.cons h r=>.cons (h.same s) (wE s r)
def TSm(H H':Hp):Prop:=∀b ys,H b=U (.tup ys)->H' b=U (.tup ys)
theorem sT.ts{H H':Hp}(s:TSm H H')(h:sT H v c):sT H' v c:=by
 cases c with
 |row r =>
  obtain⟨h,n⟩:=h;refine⟨?_,n⟩;cases r with
  |iff e a b=>exact n.elim
  |take sh e sl =>
   obtain⟨r,te,a1,a2,a3,a4,a5⟩:=h;exact⟨r,te,a1,a2,a3,s _ _ a4,s _ _ a5⟩
  |give sh e f =>
   obtain⟨r,te,tf,a1,a2,a3,a4,a5,a6,a7⟩:=h;exact⟨r,te,tf,a1,a2,a3,a4,s _ _ a5,s _ _ a6,s _ _ a7⟩
  |lt sl e =>
   obtain⟨r,te,a1,a2,a3,a4,a5⟩:=h;exact⟨r,te,a1,a2,a3,s _ _ a4,s _ _ a5⟩
  |say e =>
   obtain⟨r,te,a1,a2,a3,a4,a5⟩:=h;exact⟨r,te,a1,a2,a3,s _ _ a4,s _ _ a5⟩
  |off e =>
   obtain⟨r,te,a1,a2,a3,a4,a5⟩:=h;exact⟨r,te,a1,a2,a3,s _ _ a4,s _ _ a5⟩
 |skip e to =>
  obtain⟨p,te,h1,h2,h3⟩:=h;exact⟨p,te,h1,s _ _ h2,s _ _ h3⟩
 |go en =>
  obtain⟨p,h1,h2⟩:=h;exact⟨p,h1,s _ _ h2⟩
theorem xZ{H H':Hp}(s:TSm H H'):∀ {xs:List V} {C:List Cs},Paired (sT H) xs C->Paired (sT H') xs C
 |_,_,.nil=>.nil
 |_,_,.cons h r=>.cons (h.ts s) (xZ s r)
theorem zcM(x:Rw):(∃e a b,x=.iff e a b)\/VA x:=by
 cases x with
 |iff e a b=>exact .inl ⟨e,a,b,Z⟩
 |_=>exact .inr trivial
theorem vP(h:VA x)(k:Nat):xB x k=[.row x]:=by
 cases x with
 |iff e a b=>exact h.elim
 |_=>rw[xB];intro e a b z;cases z
theorem zgz{F:D->Prop}(h:hU F H v r):∃p xs hd,v=.ref p/\H p=U (.tup xs)/\tL xs 0=U (.str hd)/\(hd="if"↔¬ VA r):=by
 cases r with
 |take sh e sl =>
  unfold hU at h;obtain⟨r,te,rfl,_,_,e2,e3⟩:=h;exact⟨r,_,_,Z,e2,Z,⟨λz=>absurd z (),λz=>absurd trivial z⟩⟩
 |give sh e f =>
  unfold hU at h;obtain⟨r,te,tf,rfl,_,_,_,e2,e3⟩:=h;exact⟨r,_,_,Z,e2,Z,⟨λz=>absurd z (),λz=>absurd trivial z⟩⟩
 |lt sl e =>
  unfold hU at h;obtain⟨r,te,rfl,_,_,e2,e3⟩:=h;exact⟨r,_,_,Z,e2,Z,⟨λz=>absurd z (),λz=>absurd trivial z⟩⟩
 |say e =>
  unfold hU at h;obtain⟨r,te,rfl,_,_,e2,e3⟩:=h;exact⟨r,_,_,Z,e2,Z,⟨λz=>absurd z (),λz=>absurd trivial z⟩⟩
 |off e =>
  unfold hU at h;obtain⟨r,te,rfl,_,_,e2,e3⟩:=h;exact⟨r,_,_,Z,e2,Z,⟨λz=>absurd z (),λz=>absurd trivial z⟩⟩
 |iff e a b =>
  unfold hU at h;obtain⟨r,te,la,lb,xs,ys,rfl,f1,f2,f3,f4,e2,e3⟩:=h;exact⟨r,_,_,Z,e2,Z,⟨λ_ z=>z,λ_=>rfl⟩⟩
theorem Paired.app2{α β:Type}{F:α->β->Prop}:∀ {a:List α} {b:List β} {c:List α} {d:List β},Paired F a b->Paired F c d->Paired F (a++c) (b++d)
 |_,_,_,_,.nil,h=>h
 |_,_,_,_,.cons h r,h2=>.cons h (Paired.app2 r h2)
def sfI(v:V)(Bo:D)(xs:List V)(k n:Nat)(r:dl)(H:Hp)(i:Nat)(σ:St)(H':Hp):Prop:=∃(rest:dl) (ys:List V) (C:List Cs),(∃o,σ=[U v,U (.int k),U (.ref Bo),o])/\aL H H'/\H' Bo=U (.lst ys)/\Paired (sT H') ys C/\pv Jg H (xs.drop i) rest/\WI (n+1) rest/\C++zY rest (k+C.length)=zY r k
theorem zb6{H:Hp}(h:H Bo=U (.lst ys)):TSm H (upd H Bo (.lst zs)):=λb us e=>by rw[zl (zJ e h ())];exact e
theorem Qm{v:V}{r:dl}{k n:Nat}(h1:RlAt Jg H v r)(h2:WI (n+1) r)(h3:k+(zY r k).length<=500)(q:∀l xs H',aL H H'->H l=ak->H' l=U (.lst xs)->Paired (sT H') xs (zY r k)->Q (.ref l) H') :
  Wu K t n (sH Q) (L2.start ["rows","first","steps","row"] [v,.int k]) H:=by
 obtain⟨p,xs,rfl,_,hp,hx⟩:=h1;refine⟨bS _,λBo hL=>?_⟩;have s0:=sQ (o:=HO.lst []) Bo hL;refine⟨_,Z,p,Z,⟨_,aT.of (s0 _ _ hp)⟩,?_⟩;refine xo xs (sfI (.ref p) Bo xs k n r H) ⟨r,[],[],⟨_,Z⟩,s0,zi,.nil,by rw[gN];exact hx,h2,Z⟩ (λi σ H' ⟨_,_,_,_,s,_⟩=>aT.of (s _ _ hp)) ?_ ?_
 ·rintro i u σ H' hu ⟨rest,ys,C,⟨o,rfl⟩,s,hy,pr,hr,ok,eq⟩;obtain⟨x,rs,rfl,rx,rr⟩:=hr.get hu;have e0:zY (.cons x rs) (k+C.length)=xB x (k+C.length)++zY rs (k+C.length+(xB x (k+C.length)).length):=by rw[zY]
  rw[e0] at eq;have okd:=ok.dp;have c1:(dl.cons x rs).deep=max x.deep rs.deep:=by rw[dl.deep]
  rw[c1] at okd;have okc:=ok.ct;have c2:(dl.cons x rs).cnt=x.cnt+rs.cnt:=by rw[dl.cnt]
  rw[c2] at okc;have okp:=ok.pl;unfold qS at okp;have le:=congrArg fG eq;rw[bD,bD] at le;have ly:=bF pr;have nx:∀ {H2:Hp} {o':Option V} {zs:List V},aL H H2->H2 Bo=U (.lst zs)->Paired (sT H2) zs (C++xB x (k+C.length))->sfI (.ref p) Bo xs k n r H (i+1) [U (.ref p),U (.int k),U (.ref Bo),o'] H2:=λ{H2 o' zs} s2 g2 p2 =>
   ⟨rs,zs,_,⟨_,Z⟩,s2,g2,p2,rr,⟨(),(),okp.2⟩,by rw[cB,bD,<-pL];exact eq⟩
  obtain⟨p1,fs,hd,rfl,e2,e3,e4⟩:=zgz rx;refine kM Z (s _ _ e2) e3 (λez=>?_) λez=>?_
  ·rcases zcM x with ⟨e,a,b,rfl⟩|hni
   rotate_left
   ·exact absurd hni (e4.mp ez)
   have d1:(Rw.iff e a b).deep=max a.deep b.deep+1:=by rw[Rw.deep]
   have d2:(Rw.iff e a b).cnt=max a.cnt b.cnt+1:=by rw[Rw.cnt]
   rw[d1] at okd;rw[d2] at okc;have pl:=okp.1;unfold Vu at pl;refine⟨_,Z,.inl ⟨Z,_,aT.of hy⟩,_,Z,_,Z,zfd Z hy ⟨_,_,Z,Z,_,e,a,b,k+C.length,by rw[<-ly];rfl,rx.mono s,⟨(),(),pl.2.1⟩,⟨(),(),pl.2.2⟩,(),λl us H2 s2 hl pu=>?_⟩⟩;have lu:=bF pu;refine⟨Bo,_,ys,us,Z,Z,s2 _ _ hy,hl,bO (by lia:ys.length+us.length<=1000) (),?_⟩;exact nx (wD (s.trans s2) hL) zi (xZ (zb6 (s2 _ _ hy)) (Paired.app2 (wE s2 pr) pu))
  ·have hni:VA x:=by
    rcases zcM x with ⟨e,a,b,rfl⟩|hni
    ·exact absurd (e4.mpr (λz=>z)) ez
    ·exact hni
   have ec:=vP hni (k+C.length);rw[ec] at nx;refine⟨_,Z,.inl ⟨Z,_,aT.of hy⟩,_,Z,Bo,ys,_,Z,Z,hy,b6 (by lia:ys.length<=900) (),?_⟩;exact nx (wD s hL) zi (Paired.snocP (xZ (zb6 hy) pr) (sT.ts (zb6 hy) ⟨rx.mono s,hni⟩))
 ·rintro σ H' ⟨rest,ys,C,⟨o,rfl⟩,s,hy,pr,hr,ok,eq⟩;have e:=hr.none;subst e;rw[show zY .nil (k+C.length)=[] by rw[zY],fj] at eq;rw[eq] at pr;exact⟨_,Z,q Bo ys H' s hL hy pr⟩
theorem yG{H H':Hp}(e:upd H a o=H')(h:H a=ak):aL H H'/\H' a=U o:=⟨e ▸ sQ a h,e ▸ zi⟩
theorem WP{v:V}{e:List V}{a b:dl}{k n:Nat}(h1:hU Jg H v (.iff e a b))(h2:WI n a)(h3:WI n b)(h4:k+(xB (.iff e a b) k).length<=500)(q:∀l xs H',aL H H'->H' l=U (.lst xs)->Paired (sT H') xs (xB (.iff e a b) k)->Q (.ref l) H') :
  Zv K t n (sH Q) (L2.start ["row","at","steps","to","others"] [v,.int k]) H:=by
 unfold hU at h1;obtain⟨p,te,la,lb,xs,ys,rfl,f1,f2,f3,f4,e2,e3,e4,e6,e5,e7⟩:=h1;have ec:xB (.iff e a b) k=blk e k (zY a (k+1)) (dl.isNil b) (zY b (k+2+(zY a (k+1)).length)):=by rw[xB]
 rw[ec] at h4 q;refine XS Z e2 Z ⟨_,Z,_,_,Z,Z,.ref la,a,k+1,Z,⟨la,xs,Z,f3,e4,e6⟩,h2,?_,λl us H1 s1 fl hl pu=>?_⟩
 ·unfold blk at h4;split at h4 <;> simp only[bW,bD] at h4 <;> lia
 have lu:=bF pu;generalize zY a (k+1)=A at *
 refine⟨_,Z,_,_,Z,Z,zfd Z hl ⟨_,_,Z,Z,?_⟩⟩;have ei:(k:Int)+1+us.length=((k+1+A.length:Nat):Int):=by lia
 show ku K t n _ [U (.ref p),U (.int k),U (.ref l),U (.int ((k:Int)+1+us.length)),ak] H1;rw[ei];refine XS Z (s1 _ _ e2) Z ⟨bS _,λz gz=>?_⟩;generalize f0:upd H1 z _=H2;obtain⟨s2,hz⟩:=yG f0 gz;have S2:=s1.trans s2;refine⟨lb,z,ys,Z,Z,aT.of (S2 _ _ e5),aT.of hz,_,Z,?_⟩;have nb:dl.isNil b=decide (ys=[]):=by
  cases b with
  |nil=>unfold pv at e7;simp[dl.isNil,e7]
  |cons x r=>unfold pv at e7;obtain⟨v,vs,rfl,_⟩:=e7;simp[dl.isNil]
 have hl2:=s2 _ _ hl;have pu2:=wE s2 pu;show if _ then _ else _
 by_cases hb:ys=[]
 ·rw[aq (Bj hb)];have eb:∀Bn,blk e k A (dl.isNil b) Bn=.skip e (k+1+A.length)::A:=λBn=>by unfold blk;rw[aq (by rw[nb];exact Bj hb)]
  rw[eb] at q h4;rw[bW] at h4;refine XS Z (S2 _ _ e2) Z ⟨_,Z,by show (3:Nat)<=Bb;decide,λp1 g1=>?_⟩;generalize c1:upd H2 p1 _=H3;obtain⟨t1,hp1⟩:=yG c1 g1;refine⟨by show (1:Nat)<=Bb;decide,λp2 g2=>?_⟩;generalize c2:upd H3 p2 _=H4;obtain⟨t2,hp2⟩:=yG c2 g2;have T:=t1.trans t2;refine⟨_,Z,_,_,_,us,Z,Z,hp2,T _ _ hl2,bO (by show 1+us.length<=1000;lia) (),λp3 g3=>?_⟩;have t3:=sQ (o:=HO.lst ([V.ref p1]++us)) p3 g3;exact q p3 ([V.ref p1]++us) _ (S2.trans (T.trans t3)) zi (.cons ⟨p1,te,Z,(t2.trans t3) _ _ hp1,(S2.trans (T.trans t3)) _ _ e3⟩ (wE (T.trans t3) pu2))
 ·rw[am (by rw[decide_eq_true_eq];exact hb)];have eb:∀Bn,blk e k A (dl.isNil b) Bn=.skip e (k+2+A.length)::(A++(.go (k+2+A.length+Bn.length)::Bn)):=λBn=>by unfold blk;rw[am (by rw[nb];simpa using hb)]
  rw[eb] at q h4;rw[bW,bD,bW] at h4;have ej:((k+1+A.length:Nat):Int)+1=((k+2+A.length:Nat):Int):=by lia
  refine XS Z (S2 _ _ e2) Z ⟨_,Z,_,_,Z,Z,.ref lb,b,k+2+A.length,?_,⟨lb,ys,Z,f4,S2 _ _ e5,e7.mono S2⟩,h3,(),λl2 ws H3 s3 fl2 hl3 pw=>?_⟩
  ·show [V.ref lb,V.int (((k+1+A.length:Nat):Int)+1)]=_;rw[ej]
  have lw:=bF pw;generalize zY b (k+2+A.length)=Bn at *
  have S3:=S2.trans s3;refine XS Z (S3 _ _ e2) Z ⟨_,Z,_,_,Z,Z,by show (3:Nat)<=Bb;decide,λp1 g1=>?_⟩;generalize c1:upd H3 p1 _=H4;obtain⟨t1,hp1⟩:=yG c1 g1;have hp1:H4 p1=U (.tup [.str (bg "skip"),.ref te,.int ((k+2+A.length:Nat):Int)]):=by rw[<-ej];exact hp1
  refine⟨by show (1:Nat)<=Bb;decide,λp2 g2=>?_⟩;generalize c2:upd H4 p2 _=H5;obtain⟨t2,hp2⟩:=yG c2 g2;have T2:=t1.trans t2;refine⟨_,Z,_,_,_,us,Z,Z,hp2,(s3.trans T2) _ _ hl2,bO (by show 1+us.length<=1000;lia) (),λp3 g3=>?_⟩;generalize c3:upd H5 p3 _=H6;obtain⟨t3,hp3⟩:=yG c3 g3;have T3:=T2.trans t3;refine⟨_,Z,_,_,Z,Z,zfd Z (T3 _ _ hl3) ⟨_,_,Z,Z,by show (2:Nat)<=Bb;decide,λp4 g4=>?_⟩⟩;generalize c4:upd H6 p4 _=H7;obtain⟨t4,hp4⟩:=yG c4 g4;have eg:((k+1+A.length:Nat):Int)+1+ws.length=((k+2+A.length+Bn.length:Nat):Int):=by lia
  have hp4:H7 p4=U (.tup [.str (bg "go"),.int ((k+2+A.length+Bn.length:Nat):Int)]):=by rw[<-eg];exact hp4
  refine⟨by show (1:Nat)<=Bb;decide,λp5 g5=>?_⟩;generalize c5:upd H7 p5 _=H8;obtain⟨t5,hp5⟩:=yG c5 g5;refine⟨_,_,_,_,Z,Z,(t4.trans t5) _ _ hp3,hp5,bO (by show ([V.ref p1]++us).length+1<=1000;rw[bD,dH];lia) (),λp6 g6=>?_⟩;generalize c6:upd H8 p6 _=H9;obtain⟨t6,hp6⟩:=yG c6 g6;have T6:=t4.trans (t5.trans t6);refine⟨_,Z,_,_,_,ws,Z,Z,hp6,(T3.trans T6) _ _ hl3,bO (by rw[bD,bD,dH,dH];lia:_<=1000) (),λp7 g7=>?_⟩;generalize c7:upd H9 p7 _=H10;obtain⟨t7,hp7⟩:=yG c7 g7;have T7:=T6.trans t7;have Bm:=T3.trans T7;have el:[V.ref p1]++us++[V.ref p4]++ws=V.ref p1::(us++(V.ref p4::ws)):=by simp
  refine q p7 ([V.ref p1]++us++[V.ref p4]++ws) _ (S3.trans Bm) hp7 ?_;rw[el];exact .cons ⟨p1,te,Z,(t2.trans (t3.trans T7)) _ _ hp1,(S3.trans Bm) _ _ e3⟩ (Paired.app2 (wE (s3.trans Bm) pu2) (.cons ⟨p4,Z,(t5.trans (t6.trans t7)) _ _ hp4⟩ (wE Bm pw)))
theorem Xj{H:Hp}{Q:VK}{E:XK}(h:wd 0 vs H Q E):False:=by
 obtain⟨v,r,k,e,h1,h2,h3⟩:=h;have:=h2.dp;lia
theorem rnF{P:Str->Option ae}(T:Txt K P t):RnF K t:=⟨T.q07,T.q2j,T.q2i,T.q2o,T.q2n,T.q2k,T.q2l,T.q2m⟩
section
variable {x:D}{a:RAd}{C:List Cs}{s:aX}
theorem hV.notup(R:hV t H x a C s)(h:H b=U (.tup zs)):¬ Ow x a b:=by
 rintro(rfl|rfl|rfl|rfl|rfl)
 ·rw[R.ix] at h;cases h
 ·rw[R.hs] at h;cases h
 ·rw[R.hg] at h;cases h
 ·rw[R.hn] at h;cases h
 ·rw[R.ha] at h;cases h
theorem hV.ts{H':Hp}(R:hV t H x a C s)(k:Kp x a H H'):TSm H H':=λb ys e=>k b _ (R.notup e) e
theorem Kp.of_same{H':Hp}(s:aL H H'):Kp x a H H':=λb o _ e=>s b o e
theorem Kp.trans{H' H'':Hp}(h:Kp x a H H')(k:Kp x a H' H''):Kp x a H H'':=λb o n e=>k b o n (h b o n e)
theorem wV(h:Ow x a b):Kp x a H (upd H b o):=λc o' n e=>by rw[zl (λz=>n (by rw[z];exact h))];exact e
theorem hV.same{H':Hp}(R:hV t H x a C s)(k:aL H H'):hV t H' x a C s :=
 ⟨k _ _ R.ix,let ⟨xs,h1,h2⟩:=R.hc;⟨xs,k _ _ h1,wE k h2⟩,k _ _ R.hs,k _ _ R.hg,k _ _ R.hn,k _ _ R.ha,R.ng,R.nc⟩
theorem hV.putI(R:hV t H x a C s)(s':aX)(e1:s'.sl=s.sl)(e2:s'.gi=s.gi)(e3:s'.no=s.no)(e4:s'.sa=s.sa):hV t (upd H x (.ins t.q01 a.dx (zhU a s'))) x a C s':=by
 refine⟨zi,?_,?_,?_,?_,?_,R.ng,R.nc⟩
 ·obtain⟨xs,h1,h2⟩:=R.hc;exact⟨xs,by rw[zl (zJ h1 R.ix ())];exact h1,xZ (R.ts (wV (.inl Z))) h2⟩
 ·rw[zl (zJ R.hs R.ix ()),e1];exact R.hs
 ·rw[zl (zJ R.hg R.ix ()),e2];exact R.hg
 ·rw[zl (zJ R.hn R.ix ()),e3];exact R.hn
 ·rw[zl (zJ R.ha R.ix ()),e4];exact R.ha
theorem hV.putS(R:hV t H x a C s)(aJ:List (aV×V)):hV t (upd H a.sl (.dK aJ)) x a C { s with sl:=aJ }:=by
 refine⟨by rw[zl (zJ R.ix R.hs ())];exact R.ix,?_,zi,?_,?_,?_,R.ng,R.nc⟩
 ·obtain⟨xs,h1,h2⟩:=R.hc;exact⟨xs,by rw[zl (zJ h1 R.hs ())];exact h1,xZ (R.ts (wV (.inr (.inl Z)))) h2⟩
 ·rw[zl (zJ R.hg R.hs ())];exact R.hg
 ·rw[zl (zJ R.hn R.hs ())];exact R.hn
 ·rw[zl (zJ R.ha R.hs ())];exact R.ha
theorem hV.putG(R:hV t H x a C s)(aK:List aP):hV t (upd H a.gi (.dT (sJ aK))) x a C { s with gi:=aK }:=by
 refine⟨by rw[zl (zJ R.ix R.hg ())];exact R.ix,?_,?_,zi,?_,?_,R.ng,R.nc⟩
 ·obtain⟨xs,h1,h2⟩:=R.hc;exact⟨xs,by rw[zl (zJ h1 R.hg ())];exact h1,xZ (R.ts (wV (.inr (.inr (.inl Z))))) h2⟩
 ·rw[zl (zJ R.hs R.hg ())];exact R.hs
 ·rw[zl (eW R.ng)];exact R.hn
 ·rw[zl (zJ R.ha R.hg ())];exact R.ha
theorem hV.putO(R:hV t H x a C s)(aK:List aP):hV t (upd H a.no (.dT (sJ aK))) x a C { s with no:=aK }:=by
 refine⟨by rw[zl (zJ R.ix R.hn ())];exact R.ix,?_,?_,?_,zi,?_,R.ng,R.nc⟩
 ·obtain⟨xs,h1,h2⟩:=R.hc;exact⟨xs,by rw[zl (zJ h1 R.hn ())];exact h1,xZ (R.ts (wV (.inr (.inr (.inr (.inl Z)))))) h2⟩
 ·rw[zl (zJ R.hs R.hn ())];exact R.hs
 ·rw[zl R.ng];exact R.hg
 ·rw[zl (zJ R.ha R.hn ())];exact R.ha
theorem hV.putA(R:hV t H x a C s)(is:List Int):hV t (upd H a.sa (.lst (is.map V.int))) x a C { s with sa:=is }:=by
 refine⟨by rw[zl (zJ R.ix R.ha ())];exact R.ix,?_,?_,?_,?_,zi,R.ng,R.nc⟩
 ·obtain⟨xs,h1,h2⟩:=R.hc;exact⟨xs,by rw[zl R.nc];exact h1,xZ (R.ts (wV (.inr (.inr (.inr (.inr Z)))))) h2⟩
 ·rw[zl (zJ R.hs R.ha ())];exact R.hs
 ·rw[zl (zJ R.hg R.ha ())];exact R.hg
 ·rw[zl (zJ R.hn R.ha ())];exact R.hn
end
theorem Xk(h:¬ yq C s=af):s.n<C.length:=by
 unfold yq at h;simp only[Bool.or_eq_true,decide_eq_true_eq,not_or] at h;lia
theorem zb7(aK:List aP)(p:Pl)(w:Int):zD (aK++[(p,w)]) p=U w:=by
 have h:=wq (aK++[(p,w)]) p;rw[qP,Va,aq rfl] at h;cases hl:zD (aK++[(p,w)]) p with
 |none=>rw[hl] at h;cases h
 |some i=>rw[hl] at h;cases h;rfl
theorem zhZ(h:sT H v c):∃p zs hd,v=.ref p/\H p=U (.tup zs)/\tL zs 0=U (.str hd)/\(hd=bg "take"->∃sh e x te,c=.row (.take sh e x)/\tL zs 1=U (.str sh)/\tL zs 2=U (.ref te)/\H te=U (.tup e))/\(hd≠bg "take"->∀s,ki c s=ak):=by
 cases c with
 |row r =>
  have h1:=h.1;cases r with
  |take sh e sl=>unfold hU at h1;obtain⟨r,te,rfl,_,_,e2,e3⟩:=h1;exact⟨r,_,_,Z,e2,Z,λ_=>⟨sh,e,sl,te,Z,Z,Z,e3⟩,λz=>absurd Z z⟩
  |give sh e f=>unfold hU at h1;obtain⟨r,te,tf,rfl,_,_,_,e2,e3⟩:=h1;exact⟨r,_,_,Z,e2,Z,λz=>absurd z (),λ_ _=>rfl⟩
  |lt sl e=>unfold hU at h1;obtain⟨r,te,rfl,_,_,e2,e3⟩:=h1;exact⟨r,_,_,Z,e2,Z,λz=>absurd z (),λ_ _=>rfl⟩
  |say e=>unfold hU at h1;obtain⟨r,te,rfl,_,_,e2,e3⟩:=h1;exact⟨r,_,_,Z,e2,Z,λz=>absurd z (),λ_ _=>rfl⟩
  |off e=>unfold hU at h1;obtain⟨r,te,rfl,_,_,e2,e3⟩:=h1;exact⟨r,_,_,Z,e2,Z,λz=>absurd z (),λ_ _=>rfl⟩
  |iff e b d=>exact(h.2:False).elim
 |skip e to=>obtain⟨p,te,e1,e2,_⟩:=h;exact⟨p,_,_,e1,e2,Z,λz=>absurd z (),λ_ _=>rfl⟩
 |go en=>obtain⟨p,e1,e2⟩:=h;exact⟨p,_,_,e1,e2,Z,λz=>absurd z (),λ_ _=>rfl⟩
theorem Qn{κ:Type} [DecidableEq κ]{aJ:List (κ×V)}{k:κ}(h:k ∉ aJ.map (·.1)):yf aJ k=ak:=by
 cases e:yf aJ k with
 |none=>rfl
 |some v=>exact absurd (zct e) h
theorem zcN:∀(gs:List aP) (aJ:List (List aV×V)),(∀r∈gs,zy r.1 ∉ aJ.map (·.1))->(gs.map (·.1)).Nodup->gs.foldl Y5 aJ=aJ++gs.map λr=>(zy r.1,V.int r.2)
 |[],aJ,_,_=>by simp
 |r::gs,aJ,h,nd=>by
  rw[bt,bY] at nd;rw[eU,Y5,vS _ (Qn (h r br)),zcN gs _ (λq hq=>?_) nd.2,bt,cB,List.singleton_append];rw[bQ,bw,not_or];refine⟨h q (bq _ hq),λz=>nd.1 ?_⟩;have z2:zy q.1=zy r.1:=by simpa using z
  rw[<-yL z2];exact bC hq
theorem X4{gs:List aP}(nd:(gs.map (·.1)).Nodup):sJ gs=gs.map λr=>(zy r.1,V.int r.2):=by
 unfold sJ;rw[zcN gs [] (λ_ _ h=>nomatch h) nd,gh]
theorem Xl{H H':Hp}(s:aL H H'):∀ {ys:List V} {aK:List aP},Paired (PrAt H) ys aK->Paired (PrAt H') ys aK
 |_,_,.nil=>.nil
 |_,_,.cons ⟨r,p,e1,e2,e3⟩ t=>.cons ⟨r,p,e1,s _ _ e2,s _ _ e3⟩ (Xl s t)
theorem zfj(p:Pl)(w:Int)(s:aX):(kh p w s).sl=s.sl:=by unfold kh;split <;> rfl
theorem zgA(p:Pl)(w:Int)(s:aX):(kh p w s).n=s.n:=by unfold kh;split <;> rfl
theorem ziM{w:Int}(h:Yy r)(e:tu r w s=.ok s'):s'.n=s.n:=by
 cases r with
 |take sh e' x =>
  cases hk:rk s.sl e' with
  |error er=>simp only[tu,hk] at e;cases e
  |ok n=>simp only[tu,hk] at e;cases e;exact zgA _ _ _
 |give sh e' f =>
  cases hk:rk s.sl e' with
  |error er=>simp only[tu,hk] at e;cases e
  |ok n =>
   cases hk2:rk s.sl f with
   |error er=>simp only[tu,hk,hk2] at e;cases e
   |ok i=>simp only[tu,hk,hk2] at e;cases e;rfl
 |lt x e' =>
  cases hk:rk s.sl e' with
  |error er=>simp only[tu,hk] at e;cases e
  |ok n=>simp only[tu,hk] at e;cases e;rfl
 |say e' =>
  cases hk:rk s.sl e' with
  |error er=>simp only[tu,hk] at e;cases e
  |ok n=>simp only[tu,hk] at e;cases e;rfl
 |off e'=>exact h.elim
 |iff e' b d=>exact h.elim
theorem zaX{r:Rw}{w:Int}{s:aX}(h:Yy r):vK (.row r) w s=match tu r w s with
  |.error er=>.error er
  |.ok s'=>.ok (s.n+1,s'):=by
 cases r with
 |off e'=>exact h.elim
 |iff e' b d=>exact h.elim
 |take sh e' x=>rfl
 |give sh e' f=>rfl
 |lt x e'=>rfl
 |say e'=>rfl
theorem zgB(r:Rw)(h:VA r):(∃e,r=.off e)\/Yy r:=by
 cases r with
 |off e'=>exact .inl ⟨e',Z⟩
 |iff e' b d=>exact h.elim
 |take sh e' x=>exact .inr trivial
 |give sh e' f=>exact .inr trivial
 |lt x e'=>exact .inr trivial
 |say e'=>exact .inr trivial
theorem zgC{F:D->Prop}(h:hU F H v r)(d:Yy r):∃p xs hd,v=.ref p/\H p=U (.tup xs)/\tL xs 0=U (.str hd)/\hd≠bg "go"/\hd≠bg "skip"/\hd≠bg "off":=by
 cases r with
 |take sh e sl=>unfold hU at h;obtain⟨r,te,rfl,_,_,e2,e3⟩:=h;exact⟨r,_,_,Z,e2,Z,(),(),()⟩
 |give sh e f=>unfold hU at h;obtain⟨r,te,tf,rfl,_,_,_,e2,e3⟩:=h;exact⟨r,_,_,Z,e2,Z,(),(),()⟩
 |lt sl e=>unfold hU at h;obtain⟨r,te,rfl,_,_,e2,e3⟩:=h;exact⟨r,_,_,Z,e2,Z,(),(),()⟩
 |say e=>unfold hU at h;obtain⟨r,te,rfl,_,_,e2,e3⟩:=h;exact⟨r,_,_,Z,e2,Z,(),(),()⟩
 |off e=>exact d.elim
 |iff e a b=>exact d.elim
theorem ZQ(h:yP x=af):cN x=af:=(zev h).flat
def zaY(H H':Hp):Prop:=∀b ys,H b=U (.tup ys)->H' b=U (.tup ys)
theorem aL.ts{H H':Hp}(s:aL H H'):zaY H H':=λb ys e=>s _ _ e
theorem zaZ{J:It}{H1:Hp}{Q:Hp->Prop}{Bn:V->St->Hp->(V->St->Hp->Prop)->(St->Hp->Prop)->Prop}(n:Nat)(hn:n<=1000000)(C:St->Prop)(R:Nat->List V->Hp->Prop)(hm:∀i ys H H',zaY H H'->R i ys H->R i ys H')(hC:C τ₀)(h0:R 0 [] H1)
  (go:∀i H,aL H1 H->i<n->J.go i H) (stop:∀H,aL H1 H->J.stop n H) (hD:H1 Bp=ak)
  (hs:∀i x τ ys H H',C τ->aL H1 H->i<n->R i ys H->J.yld i H x H'->Bn x τ H' (λv τ' H4=>C τ'/\R (i+1) (ys++[v]) H4/\aL H H4) (λτ' H4=>C τ'/\R (i+1) ys H4/\aL H H4))
  (hd:∀ys H,ys.length<=n->R n ys H->aL H1 H->H Bp=U (.lst ys)->Q H) :
  ∃W:Nat->Nat->List V->St->Hp->Prop,(∃m,W 0 m [] τ₀ (upd H1 Bp (.lst [])))/\∀i m ys τ H,W i m ys τ H->H Bp=U (.lst ys) /\
  ((J.stop i H/\Q H)\/(J.go i H/\ys.length<Bb/\∃N:V->St->Hp->Prop,
   (∀v τ' H',N v τ' H'->H' Bp=U (.lst ys)/\∃m',m'<m/\W (i+1) m' (ys++[v]) τ' (upd H' Bp (.lst (ys++[v]))))/\∃Nf:St->Hp->Prop,(∀τ' H',Nf τ' H'->∃m',m'<m/\W (i+1) m' ys τ' H') /\
   ∀x H',J.yld i H x H'->Bn x τ H' N Nf)):=by
 have ext:∀ {H:Hp} {o:HO},aL H1 H->aL H1 (upd H Bp o):=λ{H o} h b u e=>by
  rw[zl (zC e hD)];exact h b u e
 refine⟨λi m ys τ H=>m=n-i/\i<=n/\ys.length<=i/\R i ys H/\aL H1 H/\H Bp=U (.lst ys)/\C τ,⟨n,by simp,bS _,bn _,hm _ _ _ _ (aL.ts (ext (aL.refl _))) h0,ext (aL.refl _),zi,hC⟩,?_⟩;rintro i m ys τ H ⟨rfl,hi,hl,hR,hS,hy,hc⟩;refine⟨hy,?_⟩;by_cases hlt:i<n
 ·refine .inr ⟨go i H hS hlt,b6 (by lia:ys.length<=1000000) (),_,?_,_,?_,λx H' y=>hs i x τ ys H H' hc hS hlt hR y⟩
  ·rintro v τ' H4 ⟨c4,r4,s4⟩;have y4:=s4 _ _ hy;exact⟨y4,n-(i+1),(),Z,hlt,by simp;lia,hm _ _ _ _ (λb zs e=>by rw[zl (zJ e y4 (by simp))];exact e) r4,ext (hS.trans s4),zi,c4⟩
  ·rintro τ' H4 ⟨c4,r4,s4⟩;exact⟨n-(i+1),(),Z,hlt,(),r4,hS.trans s4,s4 _ _ hy,c4⟩
 ·obtain rfl:i=n:=by lia
  exact .inl ⟨stop H hS,hd ys H hl hR hS hy⟩
theorem Xm{P:Nat->Bool}(h:Xb P x)(h':Xb P y):Xb P (x++y):=by
 unfold Xb at *
 rw[zf9,se,h,h'];rfl
theorem zfk{P:Nat->Bool}(h:P c=af):Xb P ⟨#[c]⟩:=by
 show [c].all P=af;rw[gA,h];rfl
theorem zgD{P:Nat->Bool}(h:Xb P x)(k:Nat):Xb P (gM x ak (U (k:Int))):=by
 unfold Xb at *
 rw[zal];rw[iV] at *
 exact λc hc=>h c (dA hc)
theorem zdE{P:Nat->Bool}(h:Xb P x)(k:Nat):Xb P (gM x (U (k:Int)) ak):=by
 unfold Xb at *
 rw[Vi];rw[iV] at *
 exact λc hc=>h c (de hc)
theorem zh0(x:Str)(k:Nat)(h:k<=x.length):(gM x ak (U (k:Int))).length=k:=by
 rw[YZ] at *
 rw[zal,cC];lia
theorem zfl(x:Str)(k:Nat):(gM x (U (k:Int)) ak).length=x.length-k:=by
 rw[YZ,YZ,Vi,cL]
theorem zcO{P:Str->Prop}:∀ {ys:List V},(∀v∈ys,∃x,v=.str x/\P x)->∃ls:List Str,ys=ls.map V.str/\∀x∈ls,P x
 |[],_=>⟨[],Z,λ_ z=>nomatch z⟩
 |v::r,h=>by
  obtain⟨x,rfl,px⟩:=h v br;obtain⟨ls,rfl,pl⟩:=zcO (ys:=r) λu hu=>h u (bq _ hu);exact⟨x::ls,Z,λy hy=>by
   rcases bu.mp hy with rfl|hy
   ·exact px
   ·exact pl y hy⟩
structure RnP(m:Nat)(s:aX):Prop where
 ok:RnOk m s
 ng:∀r∈s.gi,cN r.1.1=af
 nn:∀r∈s.no,cN r.1.1=af
theorem RnOk.up(h:RnOk m s):RnOk (m+1) s:=⟨h.so,h.gw,h.nw,cb h.l1,cb h.l2,cb h.l3,cb h.l4,h.nd⟩
theorem RnP.up(h:RnP m s):RnP (m+1) s:=⟨h.ok.up,h.ng,h.nn⟩
theorem zfm{p:Pl}{l:List aP}(nd:(l.map (·.1)).Nodup)(h:zD l p=ak):p ∉ l.map (·.1):=λz=>by
 obtain⟨r,hr,e⟩:=bG.mp z;have:=(W0 (w:=r.2) nd).mpr (show (p,r.2)∈l by rw[<-e];exact hr);rw[h] at this;cases this
theorem zfn{w:Int}(h:RnOk m s)(hw:sP w=af):sP (VC p w s)=af:=by
 unfold VC;cases e:zD s.gi p with
 |some i=>exact xz (P:=λr=>sP r.2=af) h.gw e
 |none =>
  cases e2:zD s.no p with
  |some i=>exact xz (P:=λr=>sP r.2=af) h.nw e2
  |none=>exact hw
theorem zgE{m:Nat}{s:aX}{p:Pl}{w i:Int}{x:Str}(h:RnP m s)(hp:cN p.1=af)(hw:sP w=af)(hi:sP i=af):RnP (m+1) { kh p w s with sl:=yI s.sl (.inr x) (.int i) }:=by
 have so:=Kg h.ok.so (.inr x) hi;have l1:(yI s.sl (.inr x) (V.int i)).length<=m+1:=bO (wa _ _ _) (fP h.ok.l1);unfold kh;by_cases c:(zD s.gi p).isSome=af\/(zD s.no p).isSome=af
 ·rw[aq c];exact⟨⟨so,h.ok.gw,h.ok.nw,l1,cb h.ok.l2,cb h.ok.l3,cb h.ok.l4,h.ok.nd⟩,h.ng,h.nn⟩
 ·rw[am c];have cn:zD s.no p=ak:=by
   cases e:zD s.no p with
   |none=>rfl
   |some i=>exact absurd (.inr (by rw[e];rfl)) c
  refine⟨⟨so,h.ok.gw,λr hr=>?_,l1,cb h.ok.l2,?_,cb h.ok.l4,?_⟩,h.ng,λr hr=>?_⟩
  ·rcases bw.mp hr with hr|hr
   ·exact h.ok.nw r hr
   ·rw[bp.mp hr];exact hw
  ·show (s.no++[(p,w)]).length<=m+1;rw[bD];exact fP h.ok.l3
  ·show ((s.no++[(p,w)]).map (·.1)).Nodup;rw[bQ];refine da.mpr ⟨h.ok.nd,by simp,λa ha b hb=>?_⟩;have hb:b=p:=by simpa using hb
   rw[hb];exact λz=>zfm h.ok.nd cn (by rw[<-z];exact ha)
  ·rcases bw.mp hr with hr|hr
   ·exact h.nn r hr
   ·rw[bp.mp hr];exact hp
theorem zh1{w:Int}(h:RnP m s)(d:Yy r)(k:qQ r)(pl:Vu r)(hw:sP w=af)(e:tu r w s=.ok s'):RnP (m+1) s'/\s'.why=s.why:=by
 cases r with
 |off e'=>exact d.elim
 |iff e' b c=>exact d.elim
 |take sh e' x =>
  cases hk:rk s.sl e' with
  |error er=>simp only[tu,hk] at e;cases e
  |ok n =>
   simp only[tu,hk] at e;cases e;exact⟨zgE h pl.1 hw (zfn h.ok hw),by show (kh _ _ _).why=_;unfold kh;split <;> rfl⟩
 |give sh e' f =>
  cases hk:rk s.sl e' with
  |error er=>simp only[tu,hk] at e;cases e
  |ok n =>
   cases hk2:rk s.sl f with
   |error er=>simp only[tu,hk,hk2] at e;cases e
   |ok i =>
    simp only[tu,hk,hk2] at e;cases e;have hi:=zeN h.ok.so k.2.2.1 hk2;refine⟨⟨⟨h.ok.so,λr hr=>?_,h.ok.nw,cb h.ok.l1,?_,cb h.ok.l3,cb h.ok.l4,h.ok.nd⟩,λr hr=>?_,h.nn⟩,Z⟩
    ·rcases bw.mp hr with hr|hr
     ·exact h.ok.gw r hr
     ·rw[bp.mp hr];exact hi
    ·show (s.gi++[((sh,n),i)]).length<=m+1;rw[bD];exact fP h.ok.l2
    ·rcases bw.mp hr with hr|hr
     ·exact h.ng r hr
     ·rw[bp.mp hr];exact pl.1
 |lt x e' =>
  cases hk:rk s.sl e' with
  |error er=>simp only[tu,hk] at e;cases e
  |ok i =>
   simp only[tu,hk] at e;cases e;have hi:=zeN h.ok.so k.2.1 hk;exact⟨⟨⟨Kg h.ok.so _ hi,h.ok.gw,h.ok.nw,bO (wa _ _ _) (fP h.ok.l1),cb h.ok.l2,cb h.ok.l3,cb h.ok.l4,h.ok.nd⟩,h.ng,h.nn⟩,Z⟩
 |say e' =>
  cases hk:rk s.sl e' with
  |error er=>simp only[tu,hk] at e;cases e
  |ok i =>
   simp only[tu,hk] at e;cases e;exact⟨⟨⟨h.ok.so,h.ok.gw,h.ok.nw,cb h.ok.l1,cb h.ok.l2,cb h.ok.l3,by show (s.sa++[i]).length<=m+1;rw[bD];exact fP h.ok.l4,h.ok.nd⟩,h.ng,h.nn⟩,Z⟩
theorem zh2(er:Er):cN (zaD er)=af:=by cases er <;> lia
theorem zgF{w:Int}(O:Qj C)(h:RnI C m s)(ho:yq C s=ao)(hw:sP w=af):RnI C (m+1) (yS C w s):=by
 have no:¬ yq C s=af:=by rw[ho];decide
 have lt:=Xk no;have hc:C[s.n]?=U C[s.n]:=bb lt;have es:yS C w s=xl C[s.n] w s:=by unfold yS;rw[am no,hc]
 have wn:s.why=ak:=by
  cases e:s.why with
  |none=>rfl
  |some v=>exact absurd (show yq C s=af by unfold yq;rw[e];rfl) no
 have mn:=h.at_ wn;have ok:=O.ok _ (dW lt);have pl:=O.pl _ (dW lt);have P:RnP m s:=⟨h.ok,h.ng,h.nn⟩;have fin:∀ {s':aX} {k:Nat},RnP (m+1) s'->(s'.why=ak->m+1<=k)->(∀v,s'.why=U v->cN v=af)->RnI C (m+1) { s' with n:=k }:=λ{s' k} p l y =>
  ⟨⟨p.ok.so,p.ok.gw,p.ok.nw,p.ok.l1,p.ok.l2,p.ok.l3,p.ok.l4,p.ok.nd⟩,p.ng,p.nn,l,y⟩
 have bad:∀er,RnI C (m+1) { s with why:=U (zaD er) }:=λer=>⟨⟨P.up.ok.so,P.up.ok.gw,P.up.ok.nw,P.up.ok.l1,P.up.ok.l2,P.up.ok.l3,P.up.ok.l4,P.up.ok.nd⟩,P.ng,P.nn,λz=>(by cases z),λv z=>by cases z;exact zh2 er⟩;have does:∀r:Rw,Yy r->Qi (.row r)->zgu (.row r)->RnI C (m+1) (xl (.row r) w s):=λr hf ok pl=>by
  unfold xl;rw[zaX hf];cases hk:tu r w s with
  |error er=>exact bad er
  |ok s' =>
   obtain⟨a,b⟩:=zh1 P hf ok pl hw hk;exact fin a (λ_=>by lia) (λv z=>h.wy v (by rw[<-b];exact z))
 rw[es];have hg:∀to,C[s.n]=.go to->s.n<to:=λto e=>O.fg s.n to (by rw[hc,e]);have hs:∀e to,C[s.n]=.skip e to->s.n<to:=λe to e2=>O.fw s.n to e (by rw[hc,e2]);generalize C[s.n]=c at *
 cases c with
 |go to =>
  have:=hg to rfl;exact fin P.up (λ_=>by lia) h.wy
 |skip e to =>
  have:=hs e to rfl;cases hk:rk s.sl e with
  |error er=>simp only[xl,vK,hk];exact bad er
  |ok i =>
   simp only[xl,vK,hk];refine fin P.up (λ_=>?_) h.wy;split <;> lia
 |row r =>
  cases r with
  |off e =>
   cases hk:rk s.sl e with
   |error er=>simp only[xl,vK,hk];exact bad er
   |ok i =>
    by_cases hi:i=0
    ·simp only[xl,vK,hk,aq hi];exact fin P.up (λ_=>by lia) h.wy
    ·simp only[xl,vK,hk,am hi];exact fin (s':={ s with why:=U (bg "told") }) ⟨⟨P.up.ok.so,P.up.ok.gw,P.up.ok.nw,P.up.ok.l1,P.up.ok.l2,P.up.ok.l3,P.up.ok.l4,P.up.ok.nd⟩,P.ng,P.nn⟩ (λz=>by cases z) (λv z=>by cases z;lia)
  |iff e b d=>exact fin (k:=s.n+1) P.up (λ_=>by lia) h.wy
  |take sh e x=>exact does (.take sh e x) trivial ok pl
  |give sh e x=>exact does (.give sh e x) trivial ok pl
  |lt sh e=>exact does (.lt sh e) trivial ok pl
  |say e=>exact does (.say e) trivial ok pl
theorem W1{w:Int}(ho:yq C s=ao):(jr C s=ak->(yS C w s).no=s.no)/\∀p,jr C s=U p->(yS C w s).no=s.no++[(p,w)]:=by
 have no:¬ yq C s=af:=by rw[ho];decide
 have lt:=Xk no;have hc:C[s.n]?=U C[s.n]:=bb lt;have es:yS C w s=xl C[s.n] w s:=by unfold yS;rw[am no,hc]
 have ea:jr C s=ki C[s.n] s:=by unfold jr;rw[am no,hc];rfl
 rw[es,ea];generalize C[s.n]=c at *
 have triv:∀c',(∀p,ki c' s≠U p)->(xl c' w s).no=s.no->(ki c' s=ak->(xl c' w s).no=s.no)/\∀p,ki c' s=U p->(xl c' w s).no=s.no++[(p,w)]:=λc' a b=>⟨λ_=>b,λp z=>absurd z (a p)⟩;cases c with
 |go to=>exact triv _ (λp z=>nomatch z) rfl
 |skip e to =>
  refine triv _ (λp z=>nomatch z) ?_;cases hk:rk s.sl e <;> simp only[xl,vK,hk]
 |row r =>
  cases r with
  |off e =>
   refine triv _ (λp z=>nomatch z) ?_;cases hk:rk s.sl e with
   |error er=>simp only[xl,vK,hk]
   |ok i =>
    simp only[xl,vK,hk];split <;> rfl
  |iff e b d=>exact triv _ (λp z=>nomatch z) rfl
  |give sh e f =>
   refine triv _ (λp z=>nomatch z) ?_;cases hk:rk s.sl e with
   |error er=>simp only[xl,vK,tu,hk]
   |ok i=>cases hk2:rk s.sl f <;> simp only[xl,vK,tu,hk,hk2]
  |lt x e =>
   refine triv _ (λp z=>nomatch z) ?_;cases hk:rk s.sl e <;> simp only[xl,vK,tu,hk]
  |say e =>
   refine triv _ (λp z=>nomatch z) ?_;cases hk:rk s.sl e <;> simp only[xl,vK,tu,hk]
  |take sh e x =>
   cases hk:rk s.sl e with
   |error er=>exact triv _ (λp z=>by simp only[ki,hk] at z;cases z) (by simp only[xl,vK,tu,hk])
   |ok n =>
    simp only[xl,vK,tu,ki,hk];by_cases c:(zD s.gi (sh,n)).isSome=af\/(zD s.no (sh,n)).isSome=af
    ·rw[aq c];exact⟨λ_=>by unfold kh;rw[aq c],λp z=>nomatch z⟩
    ·rw[am c];exact⟨λz=>(nomatch z),λp z=>by cases z;unfold kh;rw[am c]⟩
structure FwC(k:Nat)(C:List Cs):Prop where
 ok:∀c∈C,Qi c/\zgu c
 fw:∀(i to:Nat) (e:List V),C[i]?=U (Cs.skip e to)->k+i<to
 fg:∀(i to:Nat),C[i]?=U (Cs.go to)->k+i<to
theorem FwC.nil(k:Nat):FwC k []:=⟨λc h=>(nomatch h),λi to e h=>by simp at h,λi to h=>by simp at h⟩
theorem FwC.cons(h1:Qi c/\zgu c)(h2:∀e to,c=.skip e to->k<to)(h3:∀to,c=.go to->k<to)(h:FwC (k+1) C):FwC k (c::C):=by
 refine⟨λx hx=>?_,λi to e hi=>?_,λi to hi=>?_⟩
 ·rcases bu.mp hx with rfl|hx
  ·exact h1
  ·exact h.ok x hx
 ·cases i with
  |zero=>have:=h2 e to (by simpa using hi);lia
  |succ i=>have:=h.fw i to e (by simpa using hi);lia
 ·cases i with
  |zero=>have:=h3 to (by simpa using hi);lia
  |succ i=>have:=h.fg i to (by simpa using hi);lia
theorem FwC.app:∀ {A:List Cs} {k:Nat} {Bn:List Cs},FwC k A->FwC (k+A.length) Bn->FwC k (A++Bn)
 |[],k,Bn,_,h=>by simpa using h
 |c::A,k,Bn,h,h'=>by
  rw[dU];refine .cons (h.ok c br) (λe to z=>by have:=h.fw 0 to e (by rw[z];rfl);lia) (λto z=>by have:=h.fg 0 to (by rw[z];rfl);lia) (FwC.app ⟨λx hx=>h.ok x (bq _ hx),λi to e hi=>?_,λi to hi=>?_⟩ (by rw[bW] at h';rw[show k+1+A.length=k+(A.length+1) by lia];exact h'))
  ·have:=h.fw (i+1) to e (by simpa using hi);lia
  ·have:=h.fg (i+1) to (by simpa using hi);lia
mutual
theorem zfo:∀(r:Rw) (k:Nat),qQ r->Vu r->FwC k (xB r k)
 |.iff e a b,k,o,p=>by
  unfold qQ at o;unfold Vu at p;have ha:=ZR a (k+1) o.2.1 p.2.1;have hb:=ZR b (k+2+(zY a (k+1)).length) o.2.2 p.2.2;have ec:xB (.iff e a b) k=blk e k (zY a (k+1)) (dl.isNil b) (zY b (k+2+(zY a (k+1)).length)):=by rw[xB]
  rw[ec];generalize zY a (k+1)=A at *
  generalize zY b (k+2+A.length)=Bn at *
  unfold blk;split
  ·exact .cons ⟨o.1,trivial⟩ (λe' to z=>by cases z;lia) (λto z=>nomatch z) ha
  ·refine .cons ⟨o.1,trivial⟩ (λe' to z=>by cases z;lia) (λto z=>nomatch z) (.app ha (.cons ⟨trivial,trivial⟩ (λe' to z=>nomatch z) (λto z=>by cases z;lia) ?_));rw[show k+1+A.length+1=k+2+A.length by lia];exact hb
 |.take sh e sl,k,o,p=>by rw[vP (x:=.take sh e sl) trivial];exact .cons ⟨o,p⟩ (λ_ _ z=>nomatch z) () (.nil _)
 |.give sh e f,k,o,p=>by rw[vP (x:=.give sh e f) trivial];exact .cons ⟨o,p⟩ (λ_ _ z=>nomatch z) () (.nil _)
 |.lt sl e,k,o,p=>by rw[vP (x:=.lt sl e) trivial];exact .cons ⟨o,p⟩ (λ_ _ z=>nomatch z) () (.nil _)
 |.say e,k,o,p=>by rw[vP (x:=.say e) trivial];exact .cons ⟨o,p⟩ (λ_ _ z=>nomatch z) () (.nil _)
 |.off e,k,o,p=>by rw[vP (x:=.off e) trivial];exact .cons ⟨o,p⟩ (λ_ _ z=>nomatch z) () (.nil _)
theorem ZR:∀(r:dl) (k:Nat),Z3 r->qS r->FwC k (zY r k)
 |.nil,k,o,p=>by rw[zY];exact .nil k
 |.cons r rs,k,o,p=>by
  unfold Z3 at o;unfold qS at p;rw[zY];exact .app (zfo r k o.1 p.1) (ZR rs _ o.2 p.2)
end
theorem ziN(h1:WI 6 r)(h2:Z3 r)(h3:(zY r 0).length<=40):Qj (zY r 0):=by
 have f:=ZR r 0 h2 h1.pl;exact⟨λc hc=>(f.ok c hc).1,λc hc=>(f.ok c hc).2,λi to e h=>by have:=f.fw i to e h;lia,λi to h=>by have:=f.fg i to h;lia,h3⟩
section
variable {C:List Cs}{s:aX}{m:Nat}
theorem Qo{H':Hp}(h:Jm H v oc)(s:aL H H'):Jm H' v oc:=by
 cases oc with
 |done sa=>obtain⟨o,y,e1,e2,e3⟩:=h;exact⟨o,y,e1,s _ _ e2,s _ _ e3⟩
 |off w=>obtain⟨o,e1,e2⟩:=h;exact⟨o,e1,s _ _ e2⟩
theorem zhf{H':Hp}(h:Jm H v oc)(s:TSm H H'):Jm H' v oc:=by
 cases oc with
 |done sa=>obtain⟨o,y,e1,e2,e3⟩:=h;exact⟨o,y,e1,s _ _ e2,s _ _ e3⟩
 |off w=>obtain⟨o,e1,e2⟩:=h;exact⟨o,e1,s _ _ e2⟩
theorem zgG(h:Zd s out)(h':Zd s out'):out=out':=by
 unfold Zd at h h';cases e:s.why with
 |some w=>rw[e] at h h';rw[h,h']
 |none=>rw[e] at h h';exact Ym h.1 h'.1 λ⟨p,w⟩=>(h.2 p w).trans (h'.2 p w).symm
theorem zb8(h:Zd s out):out.length<=s.gi.length:=by
 unfold Zd at h;cases e:s.why with
 |some w=>rw[e] at h;rw[h];exact bS _
 |none =>
  rw[e] at h;have ld:=wZ s.gi;have n1:((sJ s.gi).map (·.1)).Nodup:=(kg s.gi).1;have n2:((out.map (·.1)).map zy).Nodup:=by
   have:=h.1.nd;unfold gU at *
   rw[gD];exact this.imp λ{a b} hab z=>hab (yL z)
  have sub2:∀k∈(out.map (·.1)).map zy,k∈(sJ s.gi).map (·.1):=λk hk=>by
   obtain⟨p,hp,rfl⟩:=bG.mp hk;obtain⟨r,hr,rfl⟩:=bG.mp hp;exact bC (f:=(·.1)) (tR.mpr ⟨r.1,r.2,Z,(h.2 r.1 r.2).mp hr⟩)
  have:=xK n2 sub2;simp only[bf] at this;lia
end
theorem zh3{H0 H1 H3:Hp}(s1:aL H0 H1)(hx:H1 x=ak)(hdx:H1 dx=ak)(k3:Kk x (upd (upd H1 dx (.own x)) x (.ins t.q01 dx [])) H3)(fr:∀b,OwA x a b->b=x\/upd (upd H1 dx (.own x)) x (.ins t.q01 dx []) b=ak):aL H1 H3/\∀b,OwA x a b->H1 b=ak:=by
 have s2:aL H1 (upd (upd H1 dx (HO.own x)) x (HO.ins t.q01 dx [])):=λb o e=>by rw[zl (zC e hx),zl (zC e hdx)];exact e
 refine⟨λb o e=>k3 b o (λz=>by rw[z,hx] at e;cases e) (s2 b o e),λb ob=>?_⟩;rcases fr b ob with z|z
 ·rw[z];exact hx
 ·exact zH s2 z
section
variable {C:List Cs}
theorem hV.has(R:hV t H x a C s)(ow:OwA x a b):H b≠ak:=by
 obtain⟨ys,hy,_⟩:=R.hc;rcases ow with (z|z|z|z|z)|z
 ·rw[z,R.ix];exact λz=>nomatch z
 ·rw[z,R.hs];exact λz=>nomatch z
 ·rw[z,R.hg];exact λz=>nomatch z
 ·rw[z,R.hn];exact λz=>nomatch z
 ·rw[z,R.ha];exact λz=>nomatch z
 ·rw[z,hy];exact λz=>nomatch z
end
theorem _root_.L2.PrAt.same{H H':Hp}(h:zaN H v q)(s:aL H H'):zaN H' v q:=by
 obtain⟨r,p,e,h1,h2⟩:=h;exact⟨r,p,e,s _ _ h1,s _ _ h2⟩
theorem _root_.L2.PrAt.tsame{H H':Hp}(h:zaN H v q)(s:zaY H H'):zaN H' v q:=by
 obtain⟨r,p,e,h1,h2⟩:=h;exact⟨r,p,e,s _ _ h1,s _ _ h2⟩
theorem YF{H H':Hp}(s:zaY H H'):∀ {vs:List V} {aK:List aP},YB H vs aK->YB H' vs aK
 |_,_,.nil=>.nil
 |_,_,.cons h r=>.cons (h.tsame s) (YF s r)
theorem vQ{H H':Hp}(s:aL H H'):∀ {vs:List V} {aK:List aP},YB H vs aK->YB H' vs aK
 |_,_,.nil=>.nil
 |_,_,.cons h r=>.cons (h.same s) (vQ s r)
theorem Kw{H:Hp}{v:V}{q:aP}:∀ {ys:List V} {aK:List aP},YB H ys aK->zaN H v q->YB H (ys++[v]) (aK++[q])
 |_,_,.nil,h=>.cons h .nil
 |_,_,.cons a r,h=>.cons a (Kw r h)
theorem VL(aK:List aP):∃qs:List Pl,(sJ aK).map (·.1)=qs.map zy/\qs.Nodup/\∀p,p∈qs↔(zD aK p).isSome=af:=by
 have h:=kg aK;have:∀(aJ:List (List aV×V)),(∀kv∈aJ,∃(p:Pl) (w:Int),kv=(zy p,.int w))->∃qs:List Pl,aJ.map (·.1)=qs.map zy:=λaJ=>by
  induction aJ with
  |nil=>exact λ_=>⟨[],Z⟩
  |cons kv r ih =>
   intro hk;obtain⟨qs,e⟩:=ih λz hz=>hk z (bq _ hz);obtain⟨p,w,e2⟩:=hk kv br;exact⟨p::qs,by rw[bt,bt,e,e2]⟩
 obtain⟨qs,e⟩:=this _ h.2;refine⟨qs,e,xp (f:=zy) (by rw[<-e];exact h.1),λp=>?_⟩;constructor
 ·intro hp;have:zy p∈(sJ aK).map (·.1):=by rw[e];exact bC hp
  obtain⟨kv,hk,e1⟩:=bG.mp this;obtain⟨p',w,rfl,hw⟩:=tR.mp hk;have:=yL e1;subst this;rw[hw];rfl
 ·intro hp;obtain⟨w,hw⟩:=fm.mp hp;have:zy p∈qs.map zy:=by rw[<-e];exact bC (f:=(·.1)) (tR.mpr ⟨p,w,Z,hw⟩)
  obtain⟨p',hp',e1⟩:=bG.mp this;rw[<-yL e1];exact hp'
def VM(aK:List aP)(p:Pl):Option aP:=match zD aK p with
 |some w=>if w=0 then ak else U (p,w)
 |none=>ak
def zh4(aK:List aP)(qs:List Pl)(i:Nat)(ys:List V)(H:Hp):Prop:=∃out:List aP,YB H ys out/\out=(qs.take i).filterMap (VM aK)
theorem zgH{H H':Hp}(s:zaY H H')(h:zh4 aK qs i ys H):zh4 aK qs i ys H':=by
 obtain⟨out,h1,h2⟩:=h;exact⟨out,YF s h1,h2⟩
theorem tH :VM aK p=U b↔b.1=p/\zD aK p=U b.2/\b.2≠0:=by
 unfold VM;obtain⟨p',w'⟩:=b;cases e:zD aK p with
 |none=>simp
 |some w =>
  by_cases h:w=0
  ·subst h;simp only[if_true];constructor
   ·intro z;cases z
   ·rintro⟨_,z,h2⟩;exact absurd (bP z).symm h2
  ·simp only[am h,fA,Prod.mk.injEq];constructor
   ·rintro⟨rfl,rfl⟩;exact⟨Z,Z,h⟩
   ·rintro⟨rfl,rfl,_⟩;exact⟨Z,Z⟩
theorem zh5{ps:List Pl}(hw:ps.Pairwise λa b=>yo a b=af)(hm:∀p,p∈ps↔(zD aK p).isSome=af):zay aK (ps.filterMap (VM aK)):=by
 constructor
 ·unfold sV;rw[List.pairwise_filterMap];refine hw.imp λ{a a'} h b hb b' hb'=>?_;rw[(tH.mp hb).1,(tH.mp hb').1];exact h
 ·intro p w;rw[List.mem_filterMap];constructor
  ·rintro⟨a,_,h⟩;obtain⟨h1,h2,h3⟩:=tH.mp h;cases h1;exact⟨h2,h3⟩
  ·rintro⟨h1,h2⟩;exact⟨p,(hm p).mpr (by rw[h1];rfl),tH.mpr ⟨Z,h1,h2⟩⟩
theorem VN{p:Pl}{w:Int}:∀ {l:List aP},zD l p=U w->(p,w)∈l
 |[],h=>by cases h
 |r::t,h=>by
  rw[zD] at h;cases e:zD t p with
  |some w' =>
   rw[e] at h;have:w'=w:=by simpa using h
   subst this;exact bq _ (VN e)
  |none =>
   rw[e] at h;by_cases c:r.1=p
   ·rw[aq c] at h;have:r.2=w:=by simpa using h
    rw[<-c,<-this];exact br
   ·rw[am c] at h;cases h
theorem sL.same{H H':Hp}(h:sL H a aK)(s:aL H H'):sL H' a aK:=by
 obtain⟨xs,h1,h2⟩:=h;exact⟨xs,s _ _ h1,vQ s h2⟩
theorem ziO(h:lfV v):kK v/\isJ v=ao/\plV v:=by
 rcases h with ⟨i,rfl,hi⟩|⟨x,rfl,hx⟩
 ·exact⟨.inl ⟨i,Z,hi⟩,Z,.inl ⟨i,Z⟩⟩
 ·have:=Y0 hx;exact⟨.inr ⟨x,Z,()⟩,this.2.2.1,.inr ⟨x,Z,ZQ hx⟩⟩
theorem sE.same{H H':Hp}(h:sE H nm ws)(s:aL H H'):sE H' nm ws:=⟨s _ _ h.1,h.2⟩
theorem za0(h:sE H nm ws)(n:Nat)(hl:ws.length=n)(hn:0<(n:Int))(e:Int):∃x,tL (ws.map V.str) (e%n)=U (.str x)/\x∈ws/\yP x=af:=by
 obtain⟨v,hv,hm⟩:=zhX e n (xs:=ws.map V.str) (by rw[bf,hl]) hn;obtain⟨x,hx,rfl⟩:=bG.mp hm;exact⟨x,hv,hx,h.2 x hx⟩
theorem Kx(ha:aZ a)(hb:aZ b)(hw:wdJ w)(l:a.length+b.length<1000):aZ (a++b++[.str w]):=by
 refine⟨λaJ=>?_,λz hz=>?_,by rw[bD,bD,dH];lia⟩
 ·obtain⟨r1,g1⟩:=ha.1 aJ;obtain⟨r2,g2⟩:=hb.1 aJ;exact⟨_,zdp hw.1 g1 g2⟩
 ·rcases bw.mp hz with hz|hz
  ·rcases bw.mp hz with hz|hz
   ·exact ha.2.1 z hz
   ·exact hb.2.1 z hz
  ·rw[bp.mp hz];exact .inr ⟨w,Z,hw.2.1⟩
theorem zcP(ha:tmP a)(hb:tmP b)(hw:wdJ w):tmP (a++b++[.str w]):=λz hz=>by
 rcases bw.mp hz with hz|hz
 ·rcases bw.mp hz with hz|hz
  ·exact ha z hz
  ·exact hb z hz
 ·rw[bp.mp hz];exact .inr ⟨w,Z,hw.2.2⟩
theorem Xn(h:lfV u):aZ [u]/\tmP [u]:=by
 obtain⟨o1,j1,p1⟩:=ziO h;exact⟨zeZ o1 j1,λz hz=>by rw[bp.mp hz];exact p1⟩
mutual
theorem zgI:∀(r:Rw) (k:Nat),(xB r k).length<=szR r/\r.cnt<=szR r
 |.iff e a b,k=>by
  have h1:=Xo a (k+1);have h2:=Xo b (k+2+(zY a (k+1)).length);have c:(Rw.iff e a b).cnt=max a.cnt b.cnt+1:=by rw[Rw.cnt]
  have z:szR (.iff e a b)=Zg a+Zg b+2:=by rw[szR]
  rw[xB,c,z];unfold blk;split
  ·exact⟨by simp;lia,()⟩
  ·exact⟨by simp;lia,()⟩
 |.take sh e sl,k=>by simp[xB,szR,Rw.cnt]
 |.give sh e f,k=>by simp[xB,szR,Rw.cnt]
 |.lt sl e,k=>by simp[xB,szR,Rw.cnt]
 |.say e,k=>by simp[xB,szR,Rw.cnt]
 |.off e,k=>by simp[xB,szR,Rw.cnt]
theorem Xo:∀(r:dl) (k:Nat),(zY r k).length<=Zg r/\r.cnt<=Zg r
 |.nil,k=>by simp[zY,Zg,dl.cnt]
 |.cons r rs,k=>by
  have h1:=zgI r k;have h2:=Xo rs (k+(xB r k).length);rw[zY,Zg,dl.cnt,bD];lia
end
theorem Zx(C:List Cs)(tb:Pl->Int):∀(a b:Nat) (s:aX),Ql C tb (a+b) s=Ql C tb b (Ql C tb a s)
 |0,b,s=>by rw[om];rfl
 |a+1,b,s=>by
  rw[pM];exact Zx C tb a b (Qk C tb s)
theorem VO{C:List Cs}{tb:Pl->Int}{s:aX}(h:yq C s=af):∀k,Ql C tb k s=s
 |0=>rfl
 |k+1=>by
  have e:Qk C tb s=s:=by unfold Qk yS;rw[aq h]
  show Ql C tb k (Qk C tb s)=s;rw[e];exact VO h k
theorem rn0 :RnI C 0 st0:=⟨⟨(λk v e=>by cases e),(λr h=>nomatch h),(λr h=>nomatch h),bn _,bn _,bn _,bn _,cr⟩,(λr h=>nomatch h),(λr h=>nomatch h),λ_=>bS _,λw z=>nomatch z⟩
theorem Ky{J:It}{H1:Hp}{Q:Hp->Prop}{Bn:V->St->Hp->(V->St->Hp->Prop)->(St->Hp->Prop)->Prop}(n:Nat)(hn:n<=1000000)(C:St->Prop)(R:Nat->List V->Hp->Prop)(hm:∀i ys H H',(∀b o,b≠Bp->H b=U o->H' b=U o)->R i ys H->R i ys H')(hC:C τ₀)(h0:R 0 [] H1)
  (go:∀i H,aL H1 H->i<n->J.go i H) (stop:∀H,aL H1 H->J.stop n H) (hD:H1 Bp=ak)
  (hs:∀i x τ ys H H',C τ->aL H1 H->i<n->R i ys H->H Bp=U (.lst ys)->J.yld i H x H'->Bn x τ H' (λv τ' H4=>C τ'/\R (i+1) (ys++[v]) H4/\aL H H4) (λτ' H4=>C τ'/\R (i+1) ys H4/\aL H H4))
  (hd:∀ys H,ys.length<=n->R n ys H->aL H1 H->H Bp=U (.lst ys)->Q H) :
  ∃W:Nat->Nat->List V->St->Hp->Prop,(∃m,W 0 m [] τ₀ (upd H1 Bp (.lst [])))/\∀i m ys τ H,W i m ys τ H->H Bp=U (.lst ys) /\
  ((J.stop i H/\Q H)\/(J.go i H/\ys.length<Bb/\∃N:V->St->Hp->Prop,
   (∀v τ' H',N v τ' H'->H' Bp=U (.lst ys)/\∃m',m'<m/\W (i+1) m' (ys++[v]) τ' (upd H' Bp (.lst (ys++[v]))))/\∃Nf:St->Hp->Prop,(∀τ' H',Nf τ' H'->∃m',m'<m/\W (i+1) m' ys τ' H') /\
   ∀x H',J.yld i H x H'->Bn x τ H' N Nf)):=by
 have ext:∀ {H:Hp} {o:HO},aL H1 H->aL H1 (upd H Bp o):=λ{H o} h b u e=>by
  rw[zl (zC e hD)];exact h b u e
 refine⟨λi m ys τ H=>m=n-i/\i<=n/\ys.length<=i/\R i ys H/\aL H1 H/\H Bp=U (.lst ys)/\C τ,⟨n,by simp,bS _,bn _,hm _ _ _ _ (λb o hb e=>by rw[zl hb];exact e) h0,ext (aL.refl _),zi,hC⟩,?_⟩;rintro i m ys τ H ⟨rfl,hi,hl,hR,hS,hy,hc⟩;refine⟨hy,?_⟩;by_cases hlt:i<n
 ·refine .inr ⟨go i H hS hlt,b6 (by lia:ys.length<=1000000) (),_,?_,_,?_,λx H' y=>hs i x τ ys H H' hc hS hlt hR hy y⟩
  ·rintro v τ' H4 ⟨c4,r4,s4⟩;have y4:=s4 _ _ hy;exact⟨y4,n-(i+1),(),Z,hlt,by simp;lia,hm _ _ _ _ (λb o hb e=>by rw[zl hb];exact e) r4,ext (hS.trans s4),zi,c4⟩
  ·rintro τ' H4 ⟨c4,r4,s4⟩;exact⟨n-(i+1),(),Z,hlt,(),r4,hS.trans s4,s4 _ _ hy,c4⟩
 ·obtain rfl:i=n:=by lia
  exact .inl ⟨stop H hS,hd ys H hl hR hS hy⟩
theorem zh6(I:RnI C m s)(h:Zd s out):∀r∈out,sP r.2=af:=by
 unfold Zd at h;cases e:s.why with
 |some w=>rw[e] at h;rw[h];exact λr hr=>nomatch hr
 |none =>
  rw[e] at h;intro r hr;exact xz (P:=λr=>sP r.2=af) I.ok.gw ((h.2 r.1 r.2).mp hr)
structure MkF(K:bx)(t:bv):Prop where
 cl:tD K t.q02
 g:aQ K t.q02 "ground"
 f:aQ K t.q02 "folded"
 w:aQ K t.q02 "worths"
 r:aQ K t.q02 "ranks"
theorem mkF{P:Str->Option ae}(T:Txt K P t):MkF K t:=⟨T.q0c,T.q2f,T.q2e,T.q2h,T.q2g⟩
section
variable {gr wo rk:D}{low:Int}
theorem ziP:cU (bg "ground") (YC gr low wo rk)=U (.ref gr):=by simp only[YC,ca,beq_self_eq_true]
theorem zh7:cU (bg "folded") (YC gr low wo rk)=U (.int low):=by
 have h1:(bg "folded" == bg "ground")=ao:=by lia
 simp only[YC,ca,h1,beq_self_eq_true]
theorem zgJ:cU (bg "worths") (YC gr low wo rk)=U (.ref wo):=by
 have h1:(bg "worths" == bg "ground")=ao:=by lia
 have h2:(bg "worths" == bg "folded")=ao:=by lia
 simp only[YC,ca,h1,h2,beq_self_eq_true]
theorem zfp:cU (bg "ranks") (YC gr low wo rk)=U (.ref rk):=by
 have h1:(bg "ranks" == bg "ground")=ao:=by lia
 have h2:(bg "ranks" == bg "folded")=ao:=by lia
 have h3:(bg "ranks" == bg "worths")=ao:=by lia
 simp only[YC,ca,h1,h2,h3,beq_self_eq_true]
end
theorem zcQ{rs:List Int}{k:Nat}{x:Int}(h:rs.Pairwise (· < ·))(e:rs[k]?=U x):∀r∈rs.take (k+1),r<=x:=λr hr=>by
 obtain⟨j,hj⟩:=cK hr;rw[dP] at hj;split at hj
 ·obtain⟨h1,h2⟩:=bo.mp hj;obtain⟨h3,h4⟩:=bo.mp e;rcases gq j k with hl|hg
  ·have:=e9.mp h j k h1 h3 hl;lia
  ·have:j=k:=by lia
   subst this;lia
 ·cases hj
theorem zgK{rs:List Int}{k:Nat}{x:Int}(h:rs.Pairwise (· < ·))(e:rs[k]?=U x):∀r∈rs.drop k,x<=r:=λr hr=>by
 obtain⟨j,hj⟩:=cK hr;rw[lW] at hj;obtain⟨h1,h2⟩:=bo.mp hj;obtain⟨h3,h4⟩:=bo.mp e;rcases lX j with rfl|hp
 ·simp only[Nat.add_zero] at h2;lia
 ·have:=e9.mp h k (k+j) h3 h1 ();lia
def mbW(a:D)(ac:Int)(rs:List Int)(H:Hp)(m:Nat)(σ:St)(H':Hp):Prop:=∃(lo hi:Nat) (o:Option V),σ=[U (.ref a),U (.int ac),U (.int lo),U (.int hi),o]/\aL H H'/\lo<=hi/\hi<=rs.length/\m=hi-lo/\(∀r∈rs.take lo,r<ac)/\(∀r∈rs.drop hi,ac<=r)
theorem VP(p:Pl)(made:Int):∀(gs:List aP) (s:Int×Int),VD p made gs s=match zD gs p with|none=>s|some w=>(made,w)
 |[],s=>rfl
 |r::gs,s=>by
  rw[VD,VP p made gs,zD];cases zD gs p with
  |some w=>rfl
  |none =>
   by_cases e:r.1=p
   ·rw[aq e,aq e];rfl
   ·rw[am e,am e];rfl
theorem xu(p:Pl)(ac:Int):∀(lays:List (Int×List aP)) (s:Int×Int),(wK p ac lays s=s/\∀y∈lays,s.1<y.1->y.1<ac->zD y.2 p=ak) \/
  ∃y∈lays,∃w,zD y.2 p=U w/\y.1<ac/\s.1<y.1/\wK p ac lays s=(y.1,w)/\∀z∈lays,z.1<ac->zD z.2 p≠ak->z.1<=y.1
 |[],s=>.inl ⟨Z,λ_ h=>nomatch h⟩
 |l::ls,s=>by
  rw[wK];by_cases c:s.1<l.1/\l.1<ac
  ·rw[aq c,VP];cases e:zD l.2 p with
   |some w =>
    rcases xu p ac ls (l.1,w) with ⟨h1,h2⟩|⟨y,hy,w',e1,e2,e3,e4,e5⟩
    ·refine .inr ⟨l,br,w,e,c.2,c.1,h1,λz hz zr zn=>?_⟩;rcases bu.mp hz with rfl|hz
     ·exact m6 _
     ·rcases Int.lt_or_le l.1 z.1 with hl|hl
      ·exact absurd (h2 z hz hl zr) zn
      ·exact hl
    ·have e3':l.1<y.1:=e3;refine .inr ⟨y,bq _ hy,w',e1,e2,(),e4,λz hz zr zn=>?_⟩;rcases bu.mp hz with rfl|hz
     ·lia
     ·exact e5 z hz zr zn
   |none =>
    rcases xu p ac ls s with ⟨h1,h2⟩|⟨y,hy,w',e1,e2,e3,e4,e5⟩
    ·refine .inl ⟨h1,λy hy a b=>?_⟩;rcases bu.mp hy with rfl|hy
     ·exact e
     ·exact h2 y hy a b
    ·refine .inr ⟨y,bq _ hy,w',e1,e2,e3,e4,λz hz zr zn=>?_⟩;rcases bu.mp hz with rfl|hz
     ·exact absurd e zn
     ·exact e5 z hz zr zn
  ·rw[am c];rcases xu p ac ls s with ⟨h1,h2⟩|⟨y,hy,w',e1,e2,e3,e4,e5⟩
   ·refine .inl ⟨h1,λy hy a b=>?_⟩;rcases bu.mp hy with rfl|hy
    ·exact absurd ⟨a,b⟩ c
    ·exact h2 y hy a b
   ·refine .inr ⟨y,bq _ hy,w',e1,e2,e3,e4,λz hz zr zn=>?_⟩;rcases bu.mp hz with rfl|hz
    ·rcases Int.lt_or_le s.1 z.1 with hl|hl
     ·exact absurd ⟨hl,zr⟩ c
     ·lia
    ·exact e5 z hz zr zn
theorem xz{gs:List aP}{p:Pl}(nd:(gs.map (·.1)).Nodup):p∈gs.map (·.1)↔zD gs p≠ak:=by
 constructor
 ·intro h e;obtain⟨r,hr,rfl⟩:=bG.mp h;have:=(W0 (p:=r.1) (w:=r.2) nd).mpr hr;rw[e] at this;cases this
 ·intro h;cases e:zD gs p with
  |none=>exact absurd e h
  |some w=>exact bG.mpr ⟨_,(W0 nd).mp e,Z⟩
theorem Qp{rk:D}{F:D->Prop}{r:Int}{gs:List aP}:∀ {wk:List (aV×V)} {l:List (Int×List aP)},Paired (zaO H rk F) wk l->(l.map (·.1)).Nodup->(r,gs)∈l->∃d,yf wk (.inl r)=U (.ref d)/\F d/\d≠rk/\H d=U (.dT (sJ gs))
 |_,_,.nil,_,h=>nomatch h
 |_,_,@Paired.cons _ _ _ kv y wk l ⟨e,d,e2,fd,nd,hd⟩ rest,n,h=>by
  rw[bt,bY] at n;rcases bu.mp h with rfl|h
  ·exact⟨d,by rw[yM e,e2],fd,nd,hd⟩
  ·have ne:¬ kv.1=.inl r:=λz=>n.1 (by rw[e] at z;cases z;exact bC (f:=(·.1)) h);rw[yN ne];exact Qp rest n.2 h
theorem zcR{rk:D}{F:D->Prop}:∀ {wk:List (aV×V)} {l:List (Int×List aP)},Paired (zaO H rk F) wk l->wk.map (·.1)=l.map λy=>(gW y.1:aV)
 |_,_,.nil=>rfl
 |_,_,.cons h rest=>by rw[bt,bt,h.1,zcR rest]
theorem Qq{rk:D}{F:D->Prop}{r:Int}{wk:List (aV×V)}{l:List (Int×List aP)}(h:Paired (zaO H rk F) wk l)(n:r ∉ l.map (·.1)):yf wk (.inl r)=ak:=by
 refine Qn λz=>n ?_;rw[zcR h] at z;obtain⟨y,hy,e⟩:=bG.mp z;cases e;exact bC hy
theorem Qr{rk:D}{F:D->Prop}{r:Int}:∀ {wk:List (aV×V)} {l:List (Int×List aP)},Paired (zaO H rk F) wk l->Paired (zaO H rk F) (yp wk (.inl r)) (Jn l r)
 |_,_,.nil=>.nil
 |_,_,@Paired.cons _ _ _ kv y wk l h rest=>by
  unfold Jn;by_cases e:y.1=r
  ·rw[J4 (by rw[h.1,e]),fI (by simp[e])];exact Qr rest
  ·rw[XL (λz=>e (by rw[h.1] at z;cases z;rfl)),fJ (by simp[e])];exact .cons h (Qr rest)
theorem zgL{l:List (Int×List aP)}{r:Int}(h:r ∉ l.map (·.1)):Jn l r=l:=oX.mpr λy hy=>Bj λe=>h (by rw[<-e];exact bC hy)
theorem VQ{l:List (Int×List aP)}{r:Int}:r ∉ (Jn l r).map (·.1):=λh=>by
 obtain⟨y,hy,e⟩:=bG.mp h;exact of_decide_eq_true (b7.mp hy).2 e
theorem sF.get{rk:D}{F:D->Prop}{P:Pl->Int->Prop}{kk:List (List aV×V)}(h:sF H rk F P kk)(p:Pl):(∃a rs,(zy p,V.ref a)∈kk/\yf kk (zy p)=U (.ref a)/\F a/\H a=U (.lst (rs.map V.int))/\rs.Pairwise (· < ·)/\rs≠[]/\∀r,r∈rs↔P p r)\/(yf kk (zy p)=ak/\zy p ∉ kk.map (·.1)/\∀r,¬ P p r):=by
 by_cases hm:zy p∈kk.map (·.1)
 ·obtain⟨kv,hk,e⟩:=bG.mp hm;obtain⟨p',a,rs,rfl,z⟩:=h.ls kv hk;have:p'=p:=yL e;subst this;exact .inl ⟨a,rs,hk,K8 h.nk _ hk,z⟩
 ·exact .inr ⟨Qn hm,hm,λr hr=>hm (h.al p r hr)⟩
theorem zh8{rs:List Int}{l:List (Int×List aP)}{p:Pl}(h:rs.Pairwise (· < ·))(hr:∀r,r∈rs->v5 l p r):rs.length<=l.length:=by
 have nd:rs.Nodup:=mG (λh=>rC h) h;have:=xK (b:=l.map (·.1)) nd λx hx=>let ⟨gs,h1,_⟩:=hr x hx;bG.mpr ⟨_,h1,Z⟩
 simpa using this
section
variable {G:D->Prop}{rk a:D}{H' H'':Hp}
theorem gV.refl:gV G rk H H:=λ_ _ e _ _=>e
theorem gV.same(k:gV G rk H H')(s:aL H' H''):gV G rk H H'':=λb o e n z=>s _ _ (k b o e n z)
theorem gV.dct(k:gV G rk H H')(o:HO):gV G rk H (upd H' rk o):=λb u e n z=>by rw[zl n];exact k b u e n z
theorem gV.lst(k:gV G rk H H')(ha:H' a=U (.lst xs))(ga:G a):gV G rk H (upd H' a (.lst ys)):=λb u e n z=>by
 have e2:=k b u e n z;by_cases hb:b=a
 ·subst hb;rcases z with z|z
  ·rw[ha] at e2;exact absurd (bP e2).symm (z xs)
  ·exact absurd ga z
 ·rw[zl hb];exact e2
end
theorem Qs{α β:Type}{f:α->β}:∀ {l:List α},(l.map f).Nodup->∀ {x y:α},x∈l->y∈l->f x=f y->x=y
 |[],_,_,_,h,_,_=>nomatch h
 |c::l,n,x,y,hx,hy,e=>by
  rw[bt,bY] at n;rcases bu.mp hx with h1|h1
  ·rcases bu.mp hy with h2|h2
   ·rw[h1,h2]
   ·exact absurd (by rw[<-h1,e];exact bC h2) n.1
  ·rcases bu.mp hy with h2|h2
   ·exact absurd (by rw[<-h2,<-e];exact bC h1) n.1
   ·exact Qs n.2 h1 h2 e
section
variable {G:D->Prop}{rk a:D}{P P':Pl->Int->Prop}{kk:List (List aV×V)}{q0:Pl}{ac:Int}{rs:List Int}
theorem sF.one(h:sF H rk G P kk)(hk:(zy q0,V.ref a)∈kk){p':Pl}(hk2:(zy p',V.ref a')∈kk):a'=a↔p'=q0:=by
 constructor
 ·intro e;have:=Qs h.nv hk2 hk (by rw[e]);exact yL (congrArg Prod.fst this)
 ·intro e;have:=Qs h.nk hk2 hk (by rw[e]);exact V.ref.inj (congrArg Prod.snd this)
theorem za1(h:sF H rk G P kk)(ha:H a=U (.lst (rs.map V.int))):rk≠a:=zJ h.at_ ha ()
theorem Kz{r:Int}(hs:rs.Pairwise (· < ·)):r∈rs.erase ac↔r∈rs/\r≠ac:=by
 have nd:rs.Nodup:=mG (λh=>rC h) hs;rw[nd.mem_erase_iff,and_comm]
theorem sF.out1(h:sF H rk G P kk)(hk:(zy q0,V.ref a)∈kk)(ha:H a=U (.lst (rs.map V.int)))(hs:rs.Pairwise (· < ·))(hi:∀r,r∈rs↔P q0 r)(hne:rs.erase ac≠[])(hP:∀p r,P' p r↔P p r/\¬ (r=ac/\p=q0)):sF (upd H a (.lst ((rs.erase ac).map V.int))) rk G P' kk where
 at_:=by rw[zl (za1 h ha)];exact h.at_
 nk:=h.nk
 nv:=h.nv
 ls:=λkv hkv=>by
  obtain⟨p',a',rs',rfl,ga,ha',hs',hn',hi'⟩:=h.ls kv hkv;by_cases e:a'=a
  ·have ep:=(h.one hk hkv).mp e;subst e ep;refine⟨p',a',rs.erase ac,Z,ga,zi,hs.sublist pN,hne,λr=>?_⟩;rw[Kz hs,hP,hi];exact⟨λz=>⟨z.1,λy=>z.2 y.1⟩,λz=>⟨z.1,λy=>z.2 ⟨y,Z⟩⟩⟩
  ·have ep:¬ p'=q0:=λz=>e ((h.one hk hkv).mpr z);refine⟨p',a',rs',Z,ga,by rw[zl e];exact ha',hs',hn',λr=>?_⟩;rw[hi',hP];exact⟨λz=>⟨z,λy=>ep y.2⟩,λz=>z.1⟩
 al:=λp r z=>h.al p r ((hP p r).mp z).1
theorem sF.out2(h:sF H rk G P kk)(hk:(zy q0,V.ref a)∈kk)(ha:H a=U (.lst (rs.map V.int)))(hs:rs.Pairwise (· < ·))(hi:∀r,r∈rs↔P q0 r)(hne:rs.erase ac=[])(hP:∀p r,P' p r↔P p r/\¬ (r=ac/\p=q0)){us:List V}:sF (upd (upd H a (.lst us)) rk (.dT (yp kk (zy q0)))) rk G P' (yp kk (zy q0)) where
 at_:=zi
 nk:=ii (fR _ cW) h.nk
 nv:=ii (fR _ cW) h.nv
 ls:=λkv hkv=>by
  have hkv2:=zdk hkv;have ne:kv.1≠zy q0:=of_decide_eq_true (b7.mp hkv).2;obtain⟨p',a',rs',rfl,ga,ha',hs',hn',hi'⟩:=h.ls kv hkv2;have ep:¬ p'=q0:=λz=>ne (by rw[z]);have e:¬ a'=a:=λz=>ep ((h.one hk hkv2).mp z);refine⟨p',a',rs',Z,ga,by rw[zl (za1 h ha').symm,zl e];exact ha',hs',hn',λr=>?_⟩;rw[hi',hP];exact⟨λz=>⟨z,λy=>ep y.2⟩,λz=>z.1⟩
 al:=λp r z=>by
  obtain⟨z1,z2⟩:=(hP p r).mp z;obtain⟨kv,hkv,e⟩:=bG.mp (h.al p r z1);refine bG.mpr ⟨kv,b7.mpr ⟨hkv,Bj λy=>?_⟩,e⟩;have:p=q0:=yL (e.symm.trans y);subst this;have hr:r∈rs:=(hi r).mpr z1;by_cases er:r=ac
  ·exact z2 ⟨er,Z⟩
  ·have:=(Kz (ac:=ac) hs).mpr ⟨hr,er⟩;rw[hne] at this;cases this
theorem zb9{k:Nat}(hs:rs.Pairwise (· < ·))(hlt:∀r∈rs.take k,r<ac)(hge:∀r∈rs.drop k,ac<=r)(hno:ac ∉ rs):(rs.take k++ac::rs.drop k).Pairwise (· < ·):=by
 have gt:∀r∈rs.drop k,ac<r:=λr hr=>by
  have h1:=hge r hr;have h2:r≠ac:=λz=>hno (by rw[<-z];exact de hr);lia
 rw[gI,pJ];refine⟨hs.sublist (pR ..),⟨gt,hs.sublist (mI ..)⟩,λx hx y hy=>?_⟩;have:=hlt x hx;rcases bu.mp hy with rfl|hy
 ·exact this
 ·have:=gt y hy;lia
theorem zgM{r:Int}:r∈rs.take k++ac::rs.drop k↔r∈rs\/r=ac:=by
 rw[bw,bu];constructor
 ·rintro(h|h|h)
  ·exact .inl (dA h)
  ·exact .inr h
  ·exact .inl (de h)
 ·rintro(h|h)
  ·have:r∈rs.take k++rs.drop k:=by rw[dq];exact h
   rcases bw.mp this with z|z
   ·exact .inl z
   ·exact .inr (.inr z)
  ·exact .inr (.inl h)
theorem sF.in1{k:Nat}(h:sF H rk G P kk)(hk:(zy q0,V.ref a)∈kk)(ha:H a=U (.lst (rs.map V.int)))(hs:rs.Pairwise (· < ·))(hi:∀r,r∈rs↔P q0 r)(hlt:∀r∈rs.take k,r<ac)(hge:∀r∈rs.drop k,ac<=r)(hno:¬ P q0 ac)(hP:∀p r,P' p r↔P p r\/(r=ac/\p=q0)):sF (upd H a (.lst ((rs.take k++ac::rs.drop k).map V.int))) rk G P' kk where
 at_:=by rw[zl (za1 h ha)];exact h.at_
 nk:=h.nk
 nv:=h.nv
 ls:=λkv hkv=>by
  obtain⟨p',a',rs',rfl,ga,ha',hs',hn',hi'⟩:=h.ls kv hkv;by_cases e:a'=a
  ·have ep:=(h.one hk hkv).mp e;subst e ep;refine⟨p',a',_,Z,ga,zi,zb9 hs hlt hge (λz=>hno ((hi _).mp z)),by simp,λr=>?_⟩;rw[zgM,hP,hi];exact⟨λz=>z.imp_right λy=>⟨y,Z⟩,λz=>z.imp_right λy=>y.1⟩
  ·have ep:¬ p'=q0:=λz=>e ((h.one hk hkv).mpr z);refine⟨p',a',rs',Z,ga,by rw[zl e];exact ha',hs',hn',λr=>?_⟩;rw[hi',hP];exact⟨λz=>.inl z,λz=>z.elim id λy=>absurd y.2 ep⟩
 al:=λp r z=>by
  rcases(hP p r).mp z with z|⟨_,rfl⟩
  ·exact h.al p r z
  ·exact bG.mpr ⟨_,hk,Z⟩
theorem sF.in2(h:sF H rk G P kk)(hk:zy q0 ∉ kk.map (·.1))(hno:∀r,¬ P q0 r)(ga:G a)(hf:∀kv∈kk,kv.2≠.ref a)(ha:a≠rk)(hP:∀p r,P' p r↔P p r\/(r=ac/\p=q0)):sF (upd (upd H rk (.dT (kk++[(zy q0,V.ref a)]))) a (.lst [V.int ac])) rk G P' (kk++[(zy q0,V.ref a)]) where
 at_:=by rw[zl ha.symm];exact zi
 nk:=by
  rw[bQ,da];refine⟨h.nk,by simp,λx hx y hy=>?_⟩;have:y=zy q0:=by simpa using hy
  rw[this];exact λz=>hk (by rw[<-z];exact hx)
 nv:=by
  rw[bQ,da];refine⟨h.nv,by simp,λx hx y hy=>?_⟩;have:y=V.ref a:=by simpa using hy
  rw[this];obtain⟨kv,hkv,rfl⟩:=bG.mp hx;exact hf kv hkv
 ls:=λkv hkv=>by
  rcases bw.mp hkv with hkv|hkv
  ·obtain⟨p',a',rs',rfl,ga',ha',hs',hn',hi'⟩:=h.ls kv hkv;have e:a'≠a:=λz=>hf _ hkv (by rw[z]);have ep:p'≠q0:=λz=>hk (bG.mpr ⟨_,hkv,by rw[z]⟩);refine⟨p',a',rs',Z,ga',by rw[zl e,zl (za1 h ha').symm];exact ha',hs',hn',λr=>?_⟩;rw[hi',hP];exact⟨λz=>.inl z,λz=>z.elim id λy=>absurd y.2 ep⟩
  ·have:=bp.mp hkv;subst this;refine⟨q0,a,[ac],Z,ga,zi,by simp,by simp,λr=>?_⟩;rw[hP,bp];exact⟨λz=>.inr ⟨z,Z⟩,λz=>z.elim (λy=>absurd y (hno r)) λy=>y.1⟩
 al:=λp r z=>by
  rw[bQ,bw];rcases(hP p r).mp z with z|⟨_,rfl⟩
  ·exact .inl (h.al p r z)
  ·exact .inr (by simp)
theorem sF.eqv(h:sF H rk G P kk)(e:∀p r,P p r↔P' p r):sF H rk G P' kk:=⟨h.at_,h.nk,h.nv,λkv hk=>let ⟨p,a,rs,e1,fa,ha,hs,hn,hi⟩:=h.ls kv hk;⟨p,a,rs,e1,fa,ha,hs,hn,λr=>(hi r).trans (e p r)⟩,λp r z=>h.al p r ((e p r).mpr z)⟩
end
def taI(m Bo rk:D)(ac:Int)(ys:List V)(F:D->Prop)(P:Pl->Int->Prop)(gs:List aP)(H:Hp)(i:Nat)(σ:St)(H':Hp):Prop:=(∃o3,σ=[U (.ref m),U (.int ac),U (.ref Bo),o3])/\gV F rk H H'/\Dm H H'/\∃kk,sF H' rk F (λp r=>P p r/\¬ (r=ac/\p∈(gs.take i).map (·.1))) kk
theorem sF.keep2{H':Hp}{rk:D}{F F':D->Prop}{P:Pl->Int->Prop}(h:sF H rk F P aJ)(hr:H' rk=H rk)(k:∀b xs,F b->H b=U (.lst xs)->H' b=U (.lst xs))(ff:∀b,F b->(∃o,H' b=U o)->F' b):sF H' rk F' P aJ:=
 ⟨hr.trans h.at_,h.nk,h.nv,λkv hk=>let ⟨p,a,rs,e,fa,ha,z⟩:=h.ls kv hk;⟨p,a,rs,e,ff a fa ⟨_,k _ _ fa ha⟩,k _ _ fa ha,z⟩,h.al⟩
theorem Dm.refl:Dm H H:=λb o e=>⟨o,e,λ_ z=>z⟩
theorem Dm.trans{H1 H2:Hp}(h:Dm H H1)(k:Dm H1 H2):Dm H H2:=λb o e=>by
 obtain⟨o1,e1,z1⟩:=h b o e;obtain⟨o2,e2,z2⟩:=k b o1 e1;exact⟨o2,e2,λzs z=>z1 zs (z2 zs z)⟩
theorem Dm.of_same{H1:Hp}(s:aL H H1):Dm H H1:=λb o e=>⟨o,s _ _ e,λ_ z=>z⟩
theorem Dm.upd(n:∀zs,o'≠.tup zs):Dm H (upd H a o'):=λb o e=>by
 by_cases c:b=a
 ·subst c;exact⟨_,zi,λzs z=>absurd z (n zs)⟩
 ·exact⟨o,by rw[zl c];exact e,λ_ z=>z⟩
theorem gV.trans{G:D->Prop}{rk:D}{H1 H2:Hp}(h:gV G rk H H1)(k:gV G rk H1 H2):gV G rk H H2:=λb o e n z=>k b o (h b o e n z) n z
theorem zfq{m dx gr wo rk:D}{low:Int}{F:D->Prop}{g:List aP}{l':List (Int×List aP)}{wk':List (aV×V)}{kk':List (List aV×V)}{H3 H':Hp}(me:F m)(fg:F gr)(fw:F wo)(fk:F rk)(nr:gr≠rk)(im:H3 m=U (.ins t.q02 dx (YC gr low wo rk)))(hg:H3 gr=U (.dT (sJ g)))(hw:H3 wo=U (.dK wk'))(hk3:∃kk,H3 rk=U (.dT kk))(wp:Paired (zaO H3 rk F) wk' l')(k:gV F rk H3 H')(own:∀b,F b->∃o,H' b=U o)(rr:sF H' rk F (v5 l') kk')(nd:(l'.map (·.1)).Nodup)(ok:∀y∈l',0<=y.1/\WJ y.2):sW t H' m F g l' low:=by
 obtain⟨kk,hk3⟩:=hk3;exact⟨own,me,nd,ok,dx,gr,wo,rk,wk',kk',k _ _ im (zJ im hk3 ()) (.inl λ_ z=>nomatch z),fg,fw,fk,nr,k _ _ hg nr (.inl λ_ z=>nomatch z),k _ _ hw (zJ hw hk3 ()) (.inl λ_ z=>nomatch z),Paired.mapP wp λ_ _ ⟨e,d,e2,fd,nd,hd⟩=>⟨e,d,e2,fd,nd,k _ _ hd nd (.inl λ_ z=>nomatch z)⟩,rr⟩
theorem KA{F:D->Prop}{rk:D}{H H':Hp}(fk:F rk)(k:gV F rk H H'):∀b o,¬ F b->H b=U o->H' b=U o:=λb o n e=>k b o e (λz=>n (by rw[z];exact fk)) (.inr n)
theorem zfr{l:List (Int×List aP)}{ac:Int}{gs:List aP}(nd:(l.map (·.1)).Nodup)(h:(ac,gs)∈l)(p:Pl)(r:Int):(v5 l p r/\¬ (r=ac/\p∈gs.map (·.1)))↔v5 (Jn l ac) p r:=by
 constructor
 ·rintro⟨⟨g2,h1,h2⟩,n⟩;refine⟨g2,b7.mpr ⟨h1,Bj λz=>?_⟩,h2⟩;have z:r=ac:=z;subst z;have:=Qs nd h1 h rfl;cases this;exact n ⟨Z,h2⟩
 ·rintro⟨g2,h1,h2⟩;obtain⟨h3,h4⟩:=b7.mp h1;exact⟨⟨g2,h3,h2⟩,λz=>of_decide_eq_true h4 z.1⟩
theorem zfs{rk:D}{F:D->Prop}{l:List (Int×List aP)}{P:Pl->Int->Prop}(h:sF H rk F P kk)(hp:∀p r,P p r->v5 l p r)(ok:∀y∈l,WJ y.2)(hl:l.length<=300):kk.length<=18900:=by
 have h1:=xK (b:=(l.flatMap λy=>y.2.map (·.1)).map zy) h.nk λx hx=>by
  obtain⟨kv,hkv,rfl⟩:=bG.mp hx;obtain⟨p,a,rs,rfl,_,_,_,hn,hi⟩:=h.ls kv hkv;obtain⟨r,hr⟩:∃r,r∈rs:=by
   cases rs with
   |nil=>exact absurd Z hn
   |cons r _=>exact⟨r,br⟩
  obtain⟨gs,h2,h3⟩:=hp p r ((hi r).mp hr);exact bC (rP.mpr ⟨_,h2,h3⟩)
 rw[bf,bf] at h1;have h2:∀l:List (Int×List aP),(∀y∈l,WJ y.2)->(l.flatMap λy=>y.2.map (·.1)).length<=63*l.length:=by
  intro l;induction l with
  |nil=>intro _;simp
  |cons y l ih =>
   intro ok;rw[List.flatMap_cons,bD,bf,bW];have:=(ok y br).le;have:=ih λz hz=>ok z (bq _ hz);lia
 have:=h2 l ok;lia
def lyI(m gv d rk:D)(ac:Int)(G:D->Prop)(P:Pl->Int->Prop)(gs:List aP)(H:Hp)(i:Nat)(σ:St)(H':Hp):Prop:=(∃o4,σ=[U (.ref m),U (.int ac),U (.ref gv),U (.ref d),o4])/\gV G rk H H'/\Dm H H'/\∃kk,sF H' rk G (λp r=>P p r\/(r=ac/\p∈(gs.take i).map (·.1))) kk
theorem VR(p:Pl)(ac:Int)(y:Int×List aP):∀(l:List (Int×List aP)) (s:Int×Int),wK p ac (l++[y]) s=(if (wK p ac l s).1<y.1/\y.1<ac then VD p y.1 y.2 (wK p ac l s) else wK p ac l s)
 |[],s=>rfl
 |a::t,s=>by rw[dU,wK,VR p ac y t,wK]
theorem zZ{σ:St}{i:Nat}{x C dx:D}{fs:List (Str×V)}{f:Str}{R:V->Prop}(h1:H x=U (.ins C dx fs))(c:tD K C)(n:aQ K C f)(h0:σ[i]?=U (U (.ref x)))(hv:fs.lookup f=U v)(q:R v):∃y,σ[i]?=U (U y)/\∃a C dx fs v,y=.ref a/\H a=U (.ins C dx fs)/\tD K C/\aQ K C f/\fs.lookup f=U v/\R v:=⟨_,h0,x,C,dx,fs,v,Z,h1,c,n,hv,q⟩
theorem xR{σ:St}{i:Nat}{x C dx:D}{fs:List (Str×V)}{R:V->Prop}(h1:H x=U (.ins C dx fs))(h0:σ[i]?=U (U (.ref x)))(hv:fs.lookup m=ak)(q:R (.ref x)):∃y,σ[i]?=U (U y)/\∃a dx fs,y=.ref a/\H a=U (.ins C dx fs)/\fs.lookup m=ak/\R y:=⟨_,h0,x,dx,fs,Z,h1,hv,q⟩
theorem zh9{P Bm:Prop}(f:Bm->P)(u:Bm):P:=f u
theorem ym{P R:Prop}(h:b=ao)(r:R):if b=af then P else R:=by rw[am (by rw[h];decide)];exact r
theorem yE{P R:Prop}(h:b=af)(p:P):if b=af then P else R:=by rw[aq h];exact p
theorem mB{i j:Int}(a:-10000000000000000000000000000000000000000000000<i)(b:i<10000000000000000000000000000000000000000000000)(c:-10000000000000000000000000000000000000000000000<j)(d:j<10000000000000000000000000000000000000000000000):CMulB i j:=by
 have hb:(10000000000000000000000000000000000000000000000:Int)<big:=by lia
 exact⟨⟨(),()⟩,(),()⟩
def drI(c:Int)(m:Nat)(l:D)(H0:Hp)(i:Nat)(σ:St)(H:Hp):Prop:=∃(ds:List Int) (x y:Int),(∃o5,σ=[U (.int c),U (.int (m:Nat)),U (.ref l),U (.int x),U (.int y),o5])/\aL H0 H/\H l=U (.lst (ds.map V.int))/\ds.length=i/\(∀d∈ds,okD d)/\0<=x/\x<1000100/\0<=y/\y<1000100
theorem mS{i j:Int}(a:0<=i)(b:i<1000100)(c:0<=j)(d:j<1000100):CMulB i j:=mB () () () ()
theorem Jx{k:Int}(h0:σ[i]?=U (U (.ref p)))(h1:H p=U (.lst xs))(h2:tL xs k=U v)(q:Q v H):aN (y8 K) (B i) (tC (.int k)) σ H Q:=⟨_,h0,p,xs,k,v,Z,Z,aT.of h1,h2,q⟩
theorem Qt{σ:St}{te:TE}{y n:Int}(he:∀Q:VK,Q (.int y) H->te σ H Q)(hn:0<n)(q:∀k,0<=k->k<n->Q (.int k) H):aN aD te (tC (.int n)) σ H Q:=he _ ⟨_,_,Z,Z,hn,q _ (cP _ ()) (cg _ hn)⟩
theorem VS{vs:List V}{_E:XK}(h:xq vs H Q _E) :
  Z6 K t (sH Q) (L2.start ["cell","many","found","one","two","k"] vs) H:=by
 obtain⟨c,m,rfl,hm,q⟩:=h;refine⟨(),λl hl=>?_⟩;generalize c_:upd H l _=H0;obtain⟨s0,e0⟩:=yG c_ hl;unfold zo zT zw;show aN aD (B 0) (tC (.int 1000003)) _ _ _;refine Qt (λ_ q=>⟨_,Z,q⟩) () λx0 a1 a2=>⟨_,_,Z,Z,?_⟩;show aN aD (aN aF (B 0) (tC (.int 1000003))) (tC (.int 999983)) _ _ _;refine Qt (λ_ q=>⟨_,Z,_,_,Z,Z,dB,q⟩) () λy0 a3 a4=>⟨_,_,Z,Z,?_⟩;refine⟨_,Z,m,Z,(),(),Yl (drI c m l H) ⟨[],x0+17,y0+29,⟨_,Z⟩,s0,e0,Z,(λd z=>nomatch z),(),(),(),()⟩ ?_ ?_⟩
 ·rintro i σ H1 hi ⟨ds,x,y,⟨o5,rfl⟩,s1,h1,li,od,x0,x1,y0,y1⟩;have hi:i<m:=by lia
  show aN _ _ (tC (.int 1000003)) _ _ _;refine Qt (λ_ q=>⟨_,Z,_,Z,_,_,Z,Z,mS x0 x1 x0 x1,_,Z,_,_,Z,Z,mS () () y0 y1,_,_,Z,Z,_,Z,_,_,Z,Z,q⟩) () λx' n1 n2=>?_;have n2':x'<1000100:=by lia
  dsimp only;refine Qt (λ_ q=>⟨_,Z,_,Z,_,_,Z,Z,mS y0 y1 n1 n2',_,Z,_,_,Z,Z,mS () () n1 n2',_,_,Z,Z,_,_,Z,Z,q⟩) () λy' n3 n4=>?_;have n4':y'<1000100:=by lia
  refine⟨_,Z,.inl ⟨Z,_,aT.of h1⟩,_,Z,_,_,Z,Z,mS n1 n2' () (),_,Z,_,_,Z,Z,l,_,_,Z,Z,h1,b6 (by rw[bf];lia:_<=63) (),ds++[x'*999983+y'],x',y',⟨_,Z⟩,wD s1 hl,by rw[bQ];exact zi,by rw[bD,li];rfl,λd hd=>?_,n1,n2',n3,n4'⟩;rcases bw.mp hd with hd|hd
  ·exact od d hd
  ·rw[bp.mp hd];exact⟨(),()⟩
 ·rintro σ H1 ⟨ds,x,y,⟨o5,rfl⟩,s1,h1,li,od,_⟩;exact⟨_,Z,q l ds H1 s1 hl h1 (by simpa using li) od⟩
theorem zia{n:Int}:sP (n*1000000021000000147000000343%2000000000000000000000000000001-1000000000000000000000000000000)=af:=by
 have g1:=cP (n*1000000021000000147000000343) (b:=2000000000000000000000000000001) ();have g2:=cg (n*1000000021000000147000000343) (b:=2000000000000000000000000000001) ();exact tU.mpr ()
theorem zgN:∀v∈jw++wl,(match v with|.str w=>yP (w++bg "z")|_=>ao)=af:=by lia
theorem zgO(h:smW w)(n1:inV (.str w) jw=ao)(n2:inV (.str w) wl=ao):yP w=af:=by
 obtain⟨h1,h2,h3⟩:=h;have ne:decide (w="")=ao:=Bk λz=>by rw[z] at h1;exact absurd h1 ()
 have nl:decide (6<w.length)=ao:=Bk ();unfold yP;unfold Xb at h3;rw[n1,n2,h3,ne,nl];rfl
theorem ziQ(h:inV (.str w) (jw++wl)=af):yP (w++bg "z")=af:=by
 unfold inV at h;obtain⟨v,hv,e⟩:=iU.mp h;have z:=zgN v hv;cases v <;> simp only[eqV,cO] at e;rename_i y;have e':y=w:=by simpa using e
 subst e';exact z
theorem zcS :inV v (a++b)=(inV v a || inV v b):=by unfold inV;rw[List.any_append]
section
variable {n:Int}{a:D}{ws:List Str}{x:Str}
theorem zft{k:Int}(h:okD n)(hk:0<k):okD (n/k):=by
 obtain⟨a,b⟩:=h;have h1:=Int.ediv_nonneg a (rD hk);have h2:=Int.ediv_le_self (a:=n) k a;exact⟨h1,()⟩
theorem lx(h:yP x=af):aZ [.str x]/\tmP [.str x]:=Xn (.inr ⟨x,Z,h⟩)
theorem Qu{σ:St}{j:Nat}{te:TE}{r:Int}(h3:sE H a ws)(h4:ws.length=2)(h0:σ[j]?=U (U (.ref a)))(ht:∀Q:VK,Q (.int r) H->te σ H Q)(hq:∀x,yP x=af->Q (.str x) H):aN (y8 K) (B j) (aN aD te (tC (.int 2))) σ H Q:=by
 obtain⟨x,hx,_,nx⟩:=za0 h3 2 h4 () r;exact⟨_,h0,ht _ ⟨_,_,Z,Z,(by lia:(0:Int)<2),_,_,_,_,Z,Z,aT.of h3.1,hx,hq x nx⟩⟩
theorem za2{k:Int}(d:yD n k)(h0:σ[0]?=U (U (.int n)))(Q:VK)(q:Q (.int (n/k)) H):aN aF (B 0) (tC (.int k)) σ H Q:=⟨_,h0,_,_,Z,Z,d,q⟩
theorem tm3(a:aZ [u]/\tmP [u])(b:aZ [v]/\tmP [v])(j:wdJ w):aZ [u,v,.str w]/\tmP [u,v,.str w]:=⟨Kx a.1 b.1 j (by simp),zcP a.2 b.2 j⟩
theorem Jy{vs:List V}{_E:XK}(h:kZ vs H Q _E) :
  qf K t (sH Q) (L2.start ["number","slots","kind"] vs) H:=by
 obtain⟨n,a,ws,rfl,h1,h3,h4,q⟩:=h;have jw1:wdJ (bg "over"):=⟨(),(),()⟩;have jw2:wdJ (bg "rest"):=⟨(),(),()⟩;unfold qf zo yc Jb zT;refine Qt (λ_ q=>⟨_,Z,q⟩) () λk k0 k1=>?_;have fin:∀ {e:List V} {H1:Hp},aL H H1->e.length<=3->aZ e/\tmP e->e.length<=Bb/\∀p,H1 p=ak->Q (.ref p) (upd H1 p (.tup e)):=λs l h=>⟨bO l (),λp hp=>q p _ _ (s.trans (sQ p hp)) (zH s hp) zi h.1 h.2⟩;refine⟨_,Z,_,_,Z,Z,_,Z,YV (λ_=>Qt (za2 dB Z) () λk k0 k1=>fin (aL.refl _) (by lia:1<=3) (Xn (.inl ⟨_,Z,tU.mpr ()⟩))) λ_=>⟨_,Z,Z,_,Z,YV (λ_=>Qu h3 h4 Z (za2 dB Z) λx nx=>fin (aL.refl _) (by lia:1<=3) (lx nx)) λ_=>?_⟩⟩;refine zh9 (λBm=>⟨_,Z,Z,_,Z,YV (λ_=>⟨_,Z,_,_,Z,Z,dB,_,_,Z,Z,(by lia:(0:Int)<3),Z,_,Z,YV (λ_=>Qu h3 h4 Z (za2 dB Z) λx nx=>fin (aL.refl _) (bn 3) (tm3 (Xn (.inl ⟨7,Z,()⟩)) (lx nx) jw1)) λ_=>Bm⟩) λ_=>Bm⟩) ?_;have o:=zft (k:=5) h1 ();exact⟨_,Z,Z,_,Z,YV (λ_=>Qu h3 h4 Z (za2 dB Z) λx nx=>fin (aL.refl _) (bn 3) (tm3 (lx nx) (Xn (.inl ⟨3,Z,()⟩)) jw2)) λ_=>⟨_,Z,_,_,Z,Z,dB,_,Z,o.1,o.2,λw H' hw s=>fin s (by lia:1<=3) (Xn (.inl ⟨_,Z,hw⟩))⟩⟩
def tw8:List V:=[V.str (bg "plus"),V.str (bg "minus"),V.str (bg "times"),V.str (bg "over"),V.str (bg "rest"),V.str (bg "under"),V.str (bg "same")]
theorem zib{i:Int}(h0:0<=i)(h1:i<7):∃w:Str,tL tw8 i=U (.str w)/\wdJ w:=by
 obtain⟨x,hx,hm⟩:=zaV (xs:=tw8) (i:=i) h0 h1;unfold tw8 at hm;simp only[bu,cf,or_false] at hm;rcases hm with rfl|rfl|rfl|rfl|rfl|rfl|rfl <;> exact⟨_,hx,(),(),()⟩
theorem Jz{vs:List V}{_E:XK}(h:vM vs H Q _E) :
  qg K t (sH Q) (L2.start ["number","slots","words","kind"] vs) H:=by
 obtain⟨n,a,ws,rfl,h1,h3,h4,q⟩:=h;have fin:∀ {e:List V} {H1:Hp},aL H H1->e.length<=3->aZ e/\tmP e->e.length<=Bb/\∀p,H1 p=ak->Q (.ref p) (upd H1 p (.tup e)):=λs l h=>⟨bO l (),λp hp=>q p _ _ (s.trans (sQ p hp)) (zH s hp) zi h.1 h.2⟩;unfold qg zo yc zT;refine⟨(by lia:7<=Bb),λl hl=>?_⟩;generalize c_:upd H l _=H0;obtain⟨s0,e0⟩:=yG c_ hl;have e0:H0 l=U (.lst tw8):=e0;have h3:=h3.same s0;have o:=zft (k:=9) h1 ();have o':=zft (k:=36) h1 ();refine Qt (σ:=[U (.int n),U (.ref a),U (.ref l),ak]) (te:=B 0) (n:=9) (λ_ q=>⟨_,Z,q⟩) () λk k0 k1=>?_;refine⟨_,Z,Z,_,Z,YV (λ_=>⟨_,Z,_,_,Z,Z,dB,_,Z,o.1,o.2,λw H' hw s=>fin (s0.trans s) (by lia:1<=3) (Xn (.inl ⟨_,Z,hw⟩))⟩) λz0=>⟨_,Z,Z,_,Z,YV (λ_=>Qu h3 h4 Z (za2 dB Z) λx nx=>fin s0 (by lia:1<=3) (lx nx)) λz1=>?_⟩⟩;have z0:k≠0:=λe=>z0 (Bj (congrArg V.int e));have z1:k≠1:=λe=>z1 (Bj (congrArg V.int e));obtain⟨y,hy,jy⟩:=zib (i:=k-2) () ();exact⟨_,Z,_,_,Z,Z,dB,_,_,Z,Z,(by lia:(0:Int)<2),Z,_,Z,YV (λ_=>Qu h3 h4 Z (za2 dB Z) λx nx=>⟨_,Z,_,_,Z,Z,dB,_,Z,o'.1,o'.2,λw H' hw s=>⟨_,Z,_,Z,_,_,Z,Z,_,_,_,_,Z,Z,aT.of (s _ _ e0),hy,fin (s0.trans s) (bn 3) (tm3 (lx nx) (Xn (.inl ⟨_,Z,hw⟩)) jy)⟩⟩) λ_=>Qu h3 h4 Z (za2 dB Z) λx nx=>Qu h3 h4 Z (za2 dB Z) λz nz=>⟨_,Z,_,Z,_,_,Z,Z,_,_,_,_,Z,Z,aT.of e0,hy,fin s0 (bn 3) (tm3 (lx nx) (lx nz) jy)⟩⟩
end
def abc:Str:="abcdefghijklmnopqrstuvwxyz"
theorem zic:∀c∈abc.cps.toList,inL c=af:=by lia
theorem zfu{e:Int}(g1:0<=e)(g2:e<26):∃c,tL abc.cps.toList e=U c/\inL c=af:=by
 obtain⟨v,h1,h2⟩:=zaV (xs:=abc.cps.toList) (i:=e) g1 (by rw[show abc.cps.toList.length=26 from by lia];exact g2);exact⟨v,h1,zic v h2⟩
def zi4(v:V):Prop:=∃c,v=.str ⟨#[c]⟩/\inL c=af
theorem za3:∀ {ls:List Str},(∀x∈ls,∃c,x=⟨#[c]⟩/\inL c=af)->((ls.map λp=>p.cps.toList).flatten).length=ls.length/\((ls.map λp=>p.cps.toList).flatten).all inL=af/\(ls.map (·.length)).sum=ls.length
 |[],_=>⟨Z,Z,Z⟩
 |x::ls,h=>by
  obtain⟨c,rfl,hc⟩:=h x br;obtain⟨a,b,d⟩:=za3 (ls:=ls) λy hy=>h y (bq _ hy);have l1:((⟨#[c]⟩:Str)::ls).length=ls.length+1:=rfl;refine⟨?_,?_,?_⟩
  ·rw[bt,pY,bD,a,l1];show 1+ls.length=_;lia
  ·rw[bt,pY,se,b];show ([c].all inL&&af)=af;simp[hc]
  ·rw[bt,cE,d,zcL,l1];lia
section
variable {c:Int}{x y:Str}
theorem zcT(h:yP x=af):smW x:=by
 unfold yP at h;simp only[b8,mF,iZ,decide_eq_false_iff_not] at h;obtain⟨⟨⟨h1,h2⟩,_⟩,h3⟩:=h;refine⟨?_,(),h3⟩;cases z:x.length with
 |zero =>
  exfalso;apply h1;obtain⟨⟨l⟩⟩:=x;have:l.length=0:=z;rw[List.length_eq_zero_iff.mp this];rfl
 |succ n=>lia
theorem zdF{k:Nat}{o2:Option V}(hx:yP x=af)(hk:k<x.length){d:Nat}(hd:inL d=af)(q:∀nm ws H',aL H H'->H nm=ak->sE H' nm ws->ws.length=2->Q (.ref nm) H') :
  v7 K t (sH Q) [U (.int c),U (.str "abcdefghijklmnopqrstuvwxyz"),o2,U (.str x),U (.int (k:Nat)),U (.str ⟨#[d]⟩)] H:=by
 obtain⟨h1,h2,h3⟩:=zcT hx;have ol:=zcL d;have od:=zfk hd;have fin:∀ {u v:Str} {H1:Hp},yP u=af->yP v=af->aL H H1->2<=Bb/\∀p,H1 p=ak->Q (.ref p) (upd H1 p (HO.lst [.str u,.str v])):=λ{u v H1} hu hv s=>⟨(),λp hp=>q p [u,v] _ (s.trans (sQ p hp)) (zH s hp) ⟨zi,λw hw=>by
  rcases bu.mp hw with e|hw
  ·rw[e];exact hu
  ·rw[bp.mp hw];exact hv⟩ Z⟩
 have sx:x.length<=Bb:=y7 ();unfold v7 zo yc Jb;refine zh9 (λBm=>⟨_,Z,_,_,Z,Z,dB,_,_,Z,Z,(by lia:(0:Int)<3),Z,_,Z,YV (λ_=>⟨_,Z,_,_,Z,⟨sx,Z⟩,_,_,Z,Z,_,Z,YV (λc6=>⟨_,Z,_,Z,_,Z,_,_,Z,Z,y7 (by have:=of_decide_eq_true c6;lia),_,Z,⟨by rw[vI];lia,by have:=of_decide_eq_true c6;rw[vI];lia,Xm h3 od⟩,λz H' hz s=>fin hx hz s⟩) λ_=>Bm⟩) λ_=>Bm⟩) ?_;refine zh9 (λBm=>⟨_,Z,_,_,Z,Z,dB,_,_,Z,Z,(by lia:(0:Int)<3),Z,_,Z,YV (λ_=>⟨_,Z,_,_,Z,⟨sx,Z⟩,_,_,Z,Z,_,Z,YV (λc6=>⟨_,Z,_,Z,_,_,Z,Z,y7 (by have:=of_decide_eq_true c6;lia),_,Z,⟨by rw[vI];lia,by have:=of_decide_eq_true c6;rw[vI];lia,Xm od h3⟩,λz H' hz s=>⟨_,Z,fin hz hx s⟩⟩) λ_=>Bm⟩) λ_=>Bm⟩) ?_;have a1:=zh0 x k ();have a2:=zfl x (k+1);have e:((k:Int)+1)=((k+1:Nat):Int):=by lia
 refine⟨_,Z,_,Z,_,Z,_,Z,_,Z,sx,_,Z,_,_,Z,Z,y7 (),_,Z,_,Z,_,_,Z,Z,_,Z,_,Z,sx,_,_,Z,Z,?_⟩;rw[e];exact⟨y7 (by rw[vI];lia),_,Z,⟨by rw[vI,vI];lia,by rw[vI,vI];lia,Xm (Xm (zgD h3 k) od) (zdE h3 (k+1))⟩,λz H' hz s=>fin hx hz s⟩
end
theorem zhg(h0:σ[k]?=U (U (.ref d)))(hc:zbF [k] σ=[U (.ref d)])(hd:H d=U (.dT (sJ aK)))(hl:(sJ aK).length<=63)(ht:∀(p:D) (q:Pl) (w:Int) (H':Hp) (A Bn:Hp->Prop),zD aK q=U w->sR H' d (.ref p) (U (.int w))->(w≠0->A H')->(w=0->Bn H')->tt [U (.ref p),U (.ref d)] H' λb H3=>if b=af then A H3 else Bn H3)(q:∀l out H',aL H H'->H l=ak->sL H' l out->zay aK out->out.length<=(sJ aK).length->Q (.ref l) H') :
  qq (x9 K (sO zcF (zd (B k) zk))) (zw 0) tt (yZ (zd (B 0) (zd (jW (B 1) (B 0)) zk))) 1 [k] σ H Q:=by
 obtain⟨qs,hqs,nqs,mqs⟩:=VL aK;refine⟨_,h0,d,sJ aK,qs,Z,hd,hqs,(),λl ps hl0 hperm hpw hps=>?_⟩;generalize c_:upd H l _=H1;obtain⟨s1,q1⟩:=yG c_ hl0;have lp:ps.length=(sJ aK).length:=by
  have a1:=hperm.length_eq;have a2:=congrArg fG hqs;rw[bf] at a1;rw[bf,bf] at a2;lia
 refine⟨l,Z,⟨_,aT.of q1⟩,λBp hD=>?_⟩;rw[hc];refine zaZ (J:=Itl K l) ps.length () (λτ=>∃o,τ=[o,U (.ref d)]) (zh4 aK (ps.map (·.2))) (λi ys H H' s h=>zgH s h) ⟨_,Z⟩ ⟨[],.nil,Z⟩ (λi H s h=>⟨_,_,aT.of (s _ _ q1),bb (by rw[bf];exact h)⟩) (λH s=>⟨_,aT.of (s _ _ q1),by rw[bf];exact bn _⟩) hD ?_ ?_
 ·rintro i v τ ys H4 H5 ⟨o,rfl⟩ s4 hi hR ⟨rfl,hv⟩;have hv:=hv _ (aT.of (s4 _ _ q1));rw[bB] at hv;obtain⟨n,hn,rfl⟩:=b9.mp hv;have hp:=s4 _ _ (s1 _ _ (hps n (bT hn)));have hm:n.2∈qs:=hperm.mem_iff.mp (bC (bT hn));obtain⟨w,hw⟩:=fm.mp ((mqs n.2).mp hm);have g:sR H5 d (.ref n.1) ((zD aK n.2).map V.int):=.inr ⟨sJ aK,zy n.2,n.1,.inl (s4 _ _ (s1 _ _ hd)),Z,hp,(wq aK n.2).symm⟩;rw[hw] at g;have tk:(ps.map (·.2)).take (i+1)=(ps.map (·.2)).take i++[n.2]:=by rw[cq,bB,hn];rfl
  obtain⟨out,hr,ho⟩:=hR;refine ht n.1 n.2 w H5 _ _ hw g (λw0=>⟨_,Z,_,Z,_,Z,d,_,Z,g,by show 2<=Bb;rw[bN];decide,λp hp2=>⟨⟨_,Z⟩,?_,sQ p hp2⟩⟩) λw0=>⟨⟨_,Z⟩,?_,aL.refl _⟩
  ·refine⟨out++[(n.2,w)],Kw (vQ (sQ p hp2) hr) ⟨p,n.1,Z,zi,sQ p hp2 _ _ hp⟩,?_⟩;rw[tk,on,<-ho];simp[VM,hw,w0]
  ·refine⟨out,hr,?_⟩;rw[tk,on,<-ho];simp[VM,hw,w0]
 ·rintro ys H4 hly ⟨out,hr,ho⟩ s4 hq;rw[bU (by rw[bf];exact bn _)] at ho;subst ho;refine q Bp _ H4 (s1.trans s4) (zH s1 hD) ⟨ys,hq,hr⟩ (zh5 hpw λp=>(hperm.mem_iff.trans (mqs p))) ?_;have:=List.length_filterMap_le (VM aK) (ps.map (·.2));rw[bf] at this;lia
theorem Qv{vs:List V}{_E:XK}(h:Zh vs H Q _E) :
  Wt K t (sH Q) (L2.start ["rows","worths"] vs) H:=by
 obtain⟨a,aK,rfl,h1,h2,h3,q⟩:=h;obtain⟨xs,hx,rx⟩:=h1;refine⟨_,Z,a,xs,aK,Z,hx,rx,h3,λd hd=>?_⟩;generalize c_:upd H d _=H0;obtain⟨s0,d0⟩:=yG c_ hd;refine zhg (aK:=aK) Z Z d0 h2 (λp q0 w H' A Bn _ g a b=>⟨_,Z,_,Z,d,_,Z,g,Z,_,Z,?_⟩) λl out H' s hl ho T _=>q l out H' (s0.trans s) (zH s0 hl) ho T;by_cases w0:w=0
 ·exact ym (by rw[w0];rfl) (b w0)
 ·exact yE (by rw[Bk (λz=>w0 (V.int.inj z))];rfl) (a w0)
theorem za4{f:Pl->Int}{p:Pl}:∀ {qs:List Pl},zD (qs.map λq=>(q,f q)) p=if p∈qs then U (f p) else ak
 |[]=>rfl
 |q::qs=>by
  rw[bt,zD,za4 (qs:=qs)];by_cases h:p∈qs
  ·rw[aq h,aq (bq _ h)];rfl
  ·rw[am h];by_cases e:q=p
   ·subst e;rw[aq Z,aq br];rfl
   ·rw[am e,am (λz=>(bu.mp z).elim (λy=>e y.symm) h)];rfl
def PlV(H:Hp)(v:V)(q:Pl):Prop:=∃p,v=.ref p/\H p=U (.tup [.str q.1,.int q.2])
theorem Qw:∀ {ys:List V} {aJ:List (List aV×V)} {qs:List Pl},Paired (zaH H) ys aJ->aJ.map (·.1)=qs.map zy->Paired (PlV H) ys qs
 |_,_,[],.nil,_=>.nil
 |_,_,_::_,.nil,e=>by cases e
 |_,_,[],.cons _ _,e=>by cases e
 |_,_,q::qs,.cons ⟨p,e1,e2⟩ r,e=>by
  rw[bt,bt] at e;obtain⟨h1,h2⟩:=sA e;exact .cons ⟨p,e1,by rw[h1] at e2;exact e2⟩ (Qw r h2)
theorem ziR{α β:Type}{F:α->β->Prop}:∀ {a:List α} {b:List β} {c:List α} {d:List β},Paired F a b->Paired F c d->Paired F (a++c) (b++d)
 |_,_,_,_,.nil,h=>h
 |_,_,_,_,.cons h r,h2=>.cons h (ziR r h2)
def tfR(aK:List aP)(i:Nat)(ys:List V)(H:Hp):Prop:=Paired (PrAt H) ys (aK.take i)
section
variable {m:D}{ac:Int}{F:D->Prop}{g:List aP}{lays:List (Int×List aP)}
theorem zgP{l3:D}{ys:List V}{qs:List Pl}(h1:sS t H m F g lays)(h2:0<=ac)(hl:H l3=U (.lst ys))(hy:Paired (PlV H) ys qs)(le:qs.length<=63)
  (q:∀l out H',aL H H'->H l=ak->sL H' l out->zay (qs.map λq=>(q,ya g lays q ac)) out->Q (.ref l) H') :
  vp K t (sH Q) [U (.ref m),U (.int ac),U (.ref l3)] H:=by
 have ly:=bF hy;obtain⟨aK,er⟩:∃aK,aK=qs.map λq=>(q,ya g lays q ac):=⟨_,Z⟩;have lr:aK.length=qs.length:=by rw[er,bf]
 rw[<-er] at q;refine⟨_,Z,l3,Z,⟨_,aT.of hl⟩,λBp hD=>?_⟩;refine zaZ (J:=Itl K l3) ys.length () (λτ=>∃o,τ=[o,U (.ref m),U (.int ac)]) (tfR aK) (λi ys H H' s h=>Paired.mapP h λ_ _ z=>L2.PrAt.tsame z s) ⟨_,Z⟩ .nil (λi H s h=>⟨_,_,aT.of (s _ _ hl),bb h⟩) (λH s=>⟨_,aT.of (s _ _ hl),bn _⟩) hD ?_ ?_
 ·rintro i v τ us H4 H5 ⟨o,rfl⟩ s4 hi hR ⟨rfl,hv⟩;have hv:=hv _ (aT.of (s4 _ _ hl));obtain⟨q0,hq0,p,rfl,hp⟩:=Paired.getP hy hv;have hm5:=h1.same s4;obtain⟨dx,fs,i1,i2,i3,i4⟩:=hm5.ins;refine yE (R:=False) Z ⟨_,Z,xR i1 Z i3 ⟨_,Z,_,Z,m,p,ac,F,g,lays,q0,Z,hm5,h2,s4 _ _ hp,λH6 s6=>⟨by show 2<=Bb;rw[bN];decide,λr hr=>⟨⟨_,Z⟩,?_,s6.trans (sQ r hr)⟩⟩⟩⟩;have tk:aK.take (i+1)=aK.take i++[(q0,ya g lays q0 ac)]:=by rw[cq,er,bB,hq0];rfl
  unfold tfR;rw[tk];exact Paired.snocP (Paired.mapP hR λ_ _ z=>L2.PrAt.same z (s6.trans (sQ r hr))) ⟨r,p,Z,zi,(s4.trans (s6.trans (sQ r hr))) _ _ hp⟩
 ·intro us H4 hlu hR s4 hq;unfold tfR at hR;rw[bU ()] at hR;have ld:=wZ aK;exact⟨Bp,aK,Z,⟨us,hq,hR⟩,(),(),λl out H' s hl2 ho ht=>q l out H' (s4.trans s) (zH s4 hl2) ho ht⟩
theorem ZV{vs:List V}{_E:XK}(MF:MkF K t)(h:xY t vs H Q _E) :
  jg K t (sH Q) (L2.start ["self","rank","places"] vs) H:=by
 obtain⟨m,ac,F,g,lays,rfl,h1,h2,h3,q⟩:=h;have M:sW t H m F g lays 0:=h1;obtain⟨dx,gr,wo,rk,wk,kk,MI⟩:=M.ex;obtain⟨gs,e1,_,gm⟩:=VL g;obtain⟨ks,e2⟩:∃ks:List Pl,kk.map (·.1)=ks.map zy:=by
  have:=MI.rr.ls;clear MI M;induction kk with
  |nil=>exact⟨[],Z⟩
  |cons kv kk ih =>
   obtain⟨ks,e⟩:=ih λx hx=>this x (bq _ hx);obtain⟨p,a,rs,rfl,_⟩:=this kv br;exact⟨p::ks,by rw[bt,bt,e]⟩
 have kn:ks.Nodup:=xp (f:=zy) (by rw[<-e2];exact MI.rr.nk);have kp:∀p∈ks,p∈lays.flatMap λy=>y.2.map (·.1):=λp hp=>by
  have:zy p∈kk.map (·.1):=by rw[e2];exact bC hp
  obtain⟨kv,hkv,e⟩:=bG.mp this;obtain⟨p',a,rs,rfl,_,_,_,hn,hi⟩:=MI.rr.ls kv hkv;obtain rfl:p'=p:=yL e;obtain⟨r,hr⟩:=List.exists_mem_of_ne_nil _ hn;obtain⟨gs,hg,hp2⟩:=(hi r).mp hr;exact rP.mpr ⟨_,hg,hp2⟩
 have l2:=xK kn kp;rw[List.length_flatMap] at l2;have l1:=wZ g;have l3:g.length+(lays.map λy=>y.2.length).sum<=63:=h3;have l4:(sJ g).length=gs.length:=by have:=congrArg fG e1;rw[bf,bf] at this;exact this
 have l5:(lays.map λy=>(y.2.map (·.1)).length)=lays.map λy=>y.2.length:=dC λy _=>bf ..;rw[l5] at l2;refine⟨_,Z,m,_,_,Z,MI.im,v6 (),_,Z,m,_,_,_,_,Z,MI.im,zh7,h2,λH1 s1=>?_⟩;have MI1:=MI.keep M.me λb o _ e=>s1 _ _ e;refine(zZ MI1.im MF.cl MF.g Z ziP ⟨gr,_,Z,MI1.hg,λa1 ys1 ha1 hy1=>?_⟩);generalize c_:upd H1 a1 _=H2;obtain⟨s2,q2⟩:=yG c_ ha1;have MI2:=MI1.keep M.me λb o _ e=>s2 _ _ e;refine(zZ MI2.im MF.cl MF.r Z zfp ⟨rk,_,Z,MI2.rr.at_,λa2 ys2 ha2 hy2=>?_⟩);generalize c2:upd H2 a2 _=H3;obtain⟨s3,q3⟩:=yG c2 ha2;have p1:Paired (PlV H3) ys1 gs:=Qw (Paired.mapP hy1 λ_ _ ⟨p,e,h⟩=>⟨p,e,(s2.trans s3) _ _ h⟩) e1;have p2:Paired (PlV H3) ys2 ks:=Qw (Paired.mapP hy2 λ_ _ ⟨p,e,h⟩=>⟨p,e,s3 _ _ h⟩) e2;have n1:=bF p1;have n2:=bF p2;refine⟨a1,a2,_,_,Z,Z,s3 _ _ q2,q3,y7 (),λa3 ha3=>?_⟩;generalize c3:upd H3 a3 _=H4;obtain⟨s4,q4⟩:=yG c3 ha3;have S4:=s1.trans (s2.trans (s3.trans s4));refine zgP (qs:=gs++ks) (h1.same S4) h2 q4 (ziR (Paired.mapP p1 λ_ _ ⟨p,e,h⟩=>⟨p,e,s4 _ _ h⟩) (Paired.mapP p2 λ_ _ ⟨p,e,h⟩=>⟨p,e,s4 _ _ h⟩)) (by rw[bD];lia) λl out H' s hl ho ht=>q l out H' (S4.trans s) (zH S4 hl) ho ⟨ht.1,λp w=>?_⟩;rw[ht.2 p w,za4];by_cases hp:p∈gs++ks
 ·rw[aq hp];exact⟨λz=>⟨bP z.1,z.2⟩,λz=>⟨by rw[<-z.1],z.2⟩⟩
 ·rw[am hp];refine⟨λz=>(nomatch z.1),λz=>absurd ?_ z.2⟩;rw[bw,not_or] at hp;have z1:ya g lays p ac=w:=z.1;rw[<-z1];unfold ya;rcases xu p ac lays (-1,(zD g p).getD 0) with ⟨e,_⟩|⟨y,hy,w,e,_⟩
  ·rw[e];cases e:zD g p with
   |none=>rfl
   |some w=>exact absurd ((gm p).mpr (by rw[e];rfl)) hp.1
  ·have:=MI.rr.al p y.1 ⟨y.2,hy,(xz (M.ok y hy).2.nd).mpr (by rw[e];exact λz=>nomatch z)⟩;rw[e2] at this;obtain⟨p',hp',e3⟩:=bG.mp this;rw[yL e3] at hp';exact absurd hp' hp.2
end
def tbI(c:Int)(a x d:D)(H0:Hp)(i:Nat)(σ:St)(H':Hp):Prop:=∃aK:List aP,(∃o1 o2,σ=[U (.int c),U (.ref a),U (.ref x),U (.ref d),o1,o2])/\aL H0 H'/\H' d=U (.dT (sJ aK))/\aK.length<=i/\∀r∈aK,cN r.1.1=af/\sP r.2=af/\r.2≠0
theorem VT{vs:List V}{_E:XK}(h:jO vs H Q _E) :
  Z7 K t (sH Q) (L2.start ["cell","shelves","xs","found","k","worth"] vs) H:=by
 obtain⟨c,a,ws,rfl,h1,h2,q⟩:=h;refine⟨_,Z,c,10,Z,(),λx ds H1 s1 fx hx ld od d hd=>?_⟩;have g1:=cP c (b:=6) ();have g2:=cg c (b:=6) ();have s2:=sQ (o:=HO.dT []) d hd;have S2:=s1.trans s2;have fd:=zH s1 hd;refine⟨_,Z,_,_,Z,Z,by show (0:Int)<6;decide,c%6,Z,(),(),Yl (tbI c a x d H1) ⟨[],⟨_,_,Z⟩,s2,zi,bn _,λ_ z=>nomatch z⟩ ?_ ?_⟩
 ·rintro i σ H' hi ⟨aK,⟨o1,o2,rfl⟩,s,hD,hl,hr⟩;rw[rE];have lm:(ds.map V.int).length=ds.length:=bf ..;have hx':aT K H' x (ds.map V.int):=aT.of (s _ _ hx);have h1':=h1.same (s1.trans s);have i6:i<6:=by lia
  have at1:∀ {j:Nat},j<10->tL (ds.map V.int) ((j:Nat):Int)=U (.int (ds.getD j 0))/\okD (ds.getD j 0):=λ{j} hj=>by
   have hj:j<ds.length:=by lia
   have e:ds.getD j 0=ds[j]:=by rw[bM,bb hj];rfl
   exact⟨xS (by rw[bB,bb hj,e];rfl),by rw[e];exact od _ (dW hj)⟩
  obtain⟨e5,o5⟩:=at1 (j:=i+5) ();obtain⟨e0,o0⟩:=at1 (j:=i) ();generalize ds.getD (i+5) 0=u at *
  generalize ds.getD i 0=v at *
  refine⟨_,Z,_,Z,_,_,Z,Z,x,_,((i+5:Nat):Int),_,Z,Z,hx',e5,u,Z,o5.1,o5.2,λw H2 hw s2=>⟨_,Z,Z,_,Z,?_⟩⟩;by_cases w0:w=0
  ·exact ym (by rw[w0];rfl) ⟨aK,⟨_,_,Z⟩,s.trans s2,s2 _ _ hD,(),hr⟩
  refine yE (by rw[Bk (λz=>w0 (V.int.inj z))];rfl) ?_;obtain⟨sh,hsh,_,nsh⟩:=za0 (h1'.same s2) 2 h2 () v;have hx2:=hx'.mono s2;refine⟨_,Z,_,Z,_,Z,_,Z,_,Z,x,_,i,_,Z,Z,hx2,e0,_,_,Z,Z,by show (0:Int)<2;decide,a,_,v%2,_,Z,Z,aT.of (h1'.same s2).1,hsh,_,Z,_,Z,x,_,i,_,Z,Z,hx2,e0,_,_,Z,Z,dB,_,_,Z,Z,by show (0:Int)<3;decide,by show 2<=Bb;rw[bN];decide,λp hp=>?_⟩;have s5:=sQ (o:=HO.tup [V.str sh,V.int (v/2%3)]) p hp;have S5:=s2.trans s5;have lD:=wZ aK;refine⟨d,_,Z,DPut.t (k:=zy (sh,v/2%3)) (S5 _ _ hD) zi (b6 (by lia:_<=900) ()),aK++[((sh,v/2%3),w)],⟨_,_,Z⟩,wD (s.trans S5) hd,?_,by simp;lia,?_⟩
  ·rw[qP];exact zi
  ·intro z hz;rcases bw.mp hz with hz|hz
   ·exact hr z hz
   ·rw[bp.mp hz];exact⟨ZQ nsh,hw,λz=>w0 z⟩
 ·rintro σ H' ⟨aK,⟨o1,o2,rfl⟩,s,hD,hl,hr⟩;have lD:=wZ aK;refine zhg (aK:=aK) Z Z hD () (λp q0 w H' A Bn hw _ a _=>yE (P:=A H') (R:=Bn H') Z (a (hr _ (VN hw)).2.2)) λl out H3 s3 hl0 ho T lo=>?_;have S:=s1.trans s;exact q l out H3 (S.trans s3) (zH S hl0) ho T.1 (λr h=>hr _ (VN ((T.2 r.1 r.2).mp h).1)) ()
section
variable {F:D->Prop}{vs:List V}{rs:List Rw}
theorem za5:∀ {vs:List V} {rs:List Rw},Paired (hU F H) vs rs->pv F H vs (dl.of rs)
 |_,_,.nil=>by unfold dl.of pv;rfl
 |_,_,.cons a t=>by
  unfold dl.of pv;exact⟨_,_,Z,a,za5 t⟩
theorem za6:∀ {rs:List Rw},(∀r∈rs,Vu r)->qS (dl.of rs)
 |[],_=>by unfold dl.of qS;trivial
 |r::rs,h=>by
  unfold dl.of qS;exact⟨h r br,za6 λx hx=>h x (bq _ hx)⟩
theorem za7:∀ {rs:List Rw},(∀r∈rs,qQ r)->Z3 (dl.of rs)
 |[],_=>by unfold dl.of Z3;trivial
 |r::rs,h=>by
  unfold dl.of Z3;exact⟨h r br,za7 λx hx=>h x (bq _ hx)⟩
theorem Xp{n:Nat}:∀ {rs:List Rw},(∀r∈rs,r.deep<=n)->(dl.of rs).deep<=n
 |[],_=>by unfold dl.of;simp[dl.deep]
 |r::rs,h=>by
  unfold dl.of;have h1:=h r br;have h2:=Xp (rs:=rs) λx hx=>h x (bq _ hx);simp only[dl.deep];lia
theorem W2(h:VA r):r.deep=0:=by
 cases r with
 |iff e a b=>exact absurd h (λz=>z)
 |take _ _ _=>simp[Rw.deep]
 |give _ _ _=>simp[Rw.deep]
 |lt _ _=>simp[Rw.deep]
 |say _=>simp[Rw.deep]
 |off _=>simp[Rw.deep]
theorem jE{α β:Type}{R:α->β->Prop}:∀ {xs:List α} {ys:List β} (k:Nat),Paired R xs ys->Paired R (xs.take k) (ys.take k)
 |_,_,0,_=>.nil
 |_,_,_+1,.nil=>.nil
 |_,_,k+1,.cons a t=>.cons a (jE k t)
theorem Zy{α β:Type}{R:α->β->Prop}:∀ {xs:List α} {ys:List β} (k:Nat),Paired R xs ys->Paired R (xs.drop k) (ys.drop k)
 |_,_,0,h=>h
 |_,_,_+1,.nil=>.nil
 |_,_,k+1,.cons _ t=>Zy k t
end
theorem zfv(xs:List V)(n:Nat):jI xs ak (U (n:Int))=xs.take n:=by
 unfold jI;rw[HT.sIx_none,HT.sIx_nat,gN,rj];by_cases c:n<=xs.length
 ·rw[cw c]
 ·rw[cZ (),bU (bn _),bU ()]
theorem zid(xs:List V)(n:Nat):jI xs (U (n:Int)) ak=xs.drop n:=by
 unfold jI;rw[HT.sIx_none,HT.sIx_nat];by_cases c:n<=xs.length
 ·rw[cw c];exact bU (by rw[cL];exact bn _)
 ·rw[cZ (),nM (bn _),nM (),List.take_nil]
theorem zfw(xs:List V)(k m:Nat)(hk:k<=m)(hm:m<=xs.length):jI xs (U (k:Int)) (U (m:Int))=(xs.drop k).take (m-k):=by
 unfold jI;rw[HT.sIx_nat,HT.sIx_nat,cw hm,cw (by lia:k<=xs.length)]
section
variable {c:Int}{a b Bo X:D}{ds:List Int}{us ws:List Str}{vs:List V}{rs:List Rw}{Hb:Hp}
theorem VU{α β:Type}{R:α->β->Prop}:∀ {xs:List α} {ys:List β} {us:List α} {vs:List β},Paired R xs ys->Paired R us vs->Paired R (xs++us) (ys++vs)
 |_,_,_,_,.nil,h=>h
 |_,_,_,_,.cons a t,h=>.cons a (VU t h)
theorem zca:∀ {rs:List Rw},(∀r∈rs,VA r)->(dl.of rs).cnt<=rs.length
 |[],_=>by unfold dl.of;simp[dl.cnt]
 |r::rs,h=>by
  have h2:=zca (rs:=rs) λx hx=>h x (bq _ hx);have h1:=h r br;unfold dl.of;cases r with
  |iff e a b=>exact absurd h1 (λz=>z)
  |take _ _ _=>simp only[dl.cnt,Rw.cnt,bW];lia
  |give _ _ _=>simp only[dl.cnt,Rw.cnt,bW];lia
  |lt _ _=>simp only[dl.cnt,Rw.cnt,bW];lia
  |say _=>simp only[dl.cnt,Rw.cnt,bW];lia
  |off _=>simp only[dl.cnt,Rw.cnt,bW];lia
def szX(r:Rw):Nat:=match r with|.iff _ a b=>a.cnt+b.cnt+3|_=>1
theorem zgQ(h:VA r):szX r=1:=by
 cases r with
 |iff e a b=>exact absurd h (λz=>z)
 |take _ _ _=>rfl
 |give _ _ _=>rfl
 |lt _ _=>rfl
 |say _=>rfl
 |off _=>rfl
theorem W3:∀ {rs:List Rw},(∀r∈rs,VA r)->(rs.map szX).sum=rs.length
 |[],_=>rfl
 |r::rs,h=>by
  rw[bt,cE,zgQ (h r br),W3 λx hx=>h x (bq _ hx),bW];lia
theorem zie(h:∀r∈rs,rwW r)(l:rs.length<=6):zgv rs:=⟨bO (Xp (n:=0) λr hr=>by rw[W2 (h r hr).nf];exact bn _) (),za6 λr hr=>(h r hr).pl,za7 λr hr=>(h r hr).ok,by
 have:=W3 λr hr=>(h r hr).nf;show (rs.map szX).sum<=11;lia⟩
theorem zif{σ:St}{te tf:TE}{y:Int}{n:Nat}(he:∀Q:VK,Q (.int y) H->te σ H Q)(hf:∀Q:VK,Q (.int (n:Nat)) H->tf σ H Q)(hn:0<n)(q:∀k:Nat,k<n->Q (.int (k:Nat)) H):aN aD te tf σ H Q:=he _ (hf _ ⟨_,_,Z,Z,Int.ofNat_lt.mpr hn,by
 have f1:=cP y (b:=(n:Int)) ();have f2:=cg y (b:=(n:Int)) ();obtain⟨k,ek⟩:∃k:Nat,y%(n:Int)=k:=⟨(y%(n:Int)).toNat,(lL f1).symm⟩;have z:=q k ();rw[<-ek] at z;exact z⟩)
theorem zdG{o5 o6 o7:Option V}(hX:H X=U (.lst (ds.map V.int)))(ld:ds.length=22)(od:∀d∈ds,okD d)(hL:H Bo=U (.lst vs))(fL:Hb Bo=ak)(pr:Paired (hU (λb=>Hb b=ak) H) vs rs)(rw_:∀r∈rs,rwW r)(l6:rs.length<=6)(hw:sE H b ws)(lw:ws.length=2)(S:aL Hb H)
  (q:∀l rs H',aL Hb H'->RlAt (λb=>Hb b=ak) H' (.ref l) (dl.of rs)->zgv rs->Q (.ref l) H') :
  jh K t (sH Q) [U (.int c),U (.ref a),U (.ref b),U (.ref X),U (.ref Bo),ak,ak,ak] H:=by
 have lv:=bF pr;have at1:∀ {j:Nat},j<22->tL (ds.map V.int) ((j:Nat):Int)=U (.int (ds.getD j 0))/\okD (ds.getD j 0):=λ{j} hj=>by
  have hj:j<ds.length:=by lia
  have e:ds.getD j 0=ds[j]:=by rw[bM,bb hj];rfl
  exact⟨xS (by rw[bB,bb hj,e];rfl),by rw[e];exact od _ (dW hj)⟩
 unfold jh zo yc;refine⟨_,Z,_,_,Z,Z,dB,_,_,Z,Z,by show (0:Int)<3;decide,Z,_,Z,?_⟩;by_cases hc:c/7%3=0
 ·refine yE (Bj (congrArg V.int hc)) ?_;refine zif (n:=vs.length+1) (λ_ q=>Jx Z hX (at1 (j:=18) ()).1 q) (λ_ q=>⟨_,Z,.ref Bo,vs.length,Z,.inl ⟨_,aT.of hL,Z⟩,_,_,Z,Z,q⟩) (Nat.succ_pos vs.length) λk hk=>?_;have hk:k<vs.length+1:=hk;refine⟨_,Z,zif (n:=vs.length+1-k) (λ_ q=>Jx Z hX (at1 (j:=21) ()).1 q) (λ_ q=>⟨_,Z,.ref Bo,vs.length,Z,.inl ⟨_,aT.of hL,Z⟩,_,_,Z,Z,_,Z,_,_,Z,Z,by rw[show ((vs.length+1-k:Nat):Int)=(vs.length:Int)+1-k by lia] at q;exact q⟩) () λm' hm=>⟨_,_,Z,Z,?_⟩⟩;obtain⟨m,em⟩:∃m,m=k+m':=⟨_,Z⟩;have km:k<=m:=by lia
  have ml:m<=vs.length:=by lia
  obtain⟨e19,o19⟩:=at1 (j:=19) ();refine Jx Z hX e19 ⟨_,Z,_,b,ws,Z,o19,hw,lw,λtp e H1 s1 ft ht te pe=>?_⟩;refine⟨_,Z,_,Z,k,Z,_,Z,(m:Int),by rw[em];rfl,Bo,vs,Z,aT.of (s1 _ _ hL),λp1 hp1=>?_⟩;rw[zfw vs k m km ml];generalize c_:upd H1 p1 _=H2;obtain⟨s2,g2⟩:=yG c_ hp1;have S2:=s1.trans s2;refine⟨_,Z,?_⟩;refine zif (n:=3) (λ_ q=>Jx Z (S2 _ _ hX) (at1 (j:=20) ()).1 q) (λ_ q=>q) () λj f6=>?_;refine⟨_,Z,Bo,vs,Z,aT.of (S2 _ _ hL),λp2 hp2=>?_⟩;rw[zfv];generalize c_:upd H2 p2 _=H3;obtain⟨s3,g3⟩:=yG c_ hp2;refine⟨by show 4<=Bb;rw[bN];decide,λrp hrp=>?_⟩;generalize c_:upd H3 rp _=H4;obtain⟨s4,g4⟩:=yG c_ hrp;have S3:=S2.trans s3;have S4:=S3.trans s4;refine⟨_,Z,_,Z,k,Z,Bo,vs,Z,aT.of (S4 _ _ hL),λp3 hp3=>?_⟩;rw[zfv];generalize c_:upd H4 p3 _=H5;obtain⟨s5,g5⟩:=yG c_ hp3;refine⟨_,Z,by show 1<=Bb;rw[bN];decide,λp4 hp4=>?_⟩;generalize c_:upd H5 p4 _=H6;obtain⟨s6,g6⟩:=yG c_ hp4;refine⟨_,_,_,_,Z,Z,s6 _ _ g5,g6,bO (by rw[cC];show min k vs.length+1<=110;lia:_<=110) (),λp5 hp5=>?_⟩;generalize c_:upd H6 p5 _=H7;obtain⟨s7,g7⟩:=yG c_ hp5;have S7:=S4.trans (s5.trans (s6.trans s7));refine⟨_,Z,_,Z,(m:Int),by rw[em];rfl,Bo,vs,Z,aT.of (S7 _ _ hL),λp6 hp6=>?_⟩;rw[zid];generalize c_:upd H7 p6 _=H8;obtain⟨s8,g8⟩:=yG c_ hp6;refine⟨_,_,_,_,Z,Z,s8 _ _ g7,g8,bO (by rw[bD,cC,cL];show min k vs.length+1+(vs.length-m)<=110;lia:_<=110) (),λp7 hp7=>?_⟩;generalize c_:upd H8 p7 _=H9;obtain⟨s9,g9⟩:=yG c_ hp7;refine⟨_,Z,?_⟩;have T4:=s5.trans (s6.trans (s7.trans (s8.trans s9)));have S9:=S4.trans T4;have P:=Paired.mapP pr λ_ r z=>hU.mono S9 z;have Bn:∀ {n:Nat} {x:Rw},x∈rs.take n->x∈rs:=λh=>dA h;have C:∀ {x:Rw},x∈(rs.drop k).take (m-k)->x∈rs:=λh=>de (dA h);have I:hU (λb=>Hb b=ak) H9 (.ref rp) (.iff e (dl.of ((rs.drop k).take (m-k))) (dl.of (rs.take j))):=by
   unfold hU;exact⟨rp,tp,p1,p2,_,_,Z,zH (S.trans S3) hrp,zH S ft,zH (S.trans s1) hp1,zH (S.trans S2) hp2,T4 _ _ g4,(s2.trans (s3.trans (s4.trans T4))) _ _ ht,(s3.trans (s4.trans T4)) _ _ g2,za5 (jE _ (Zy _ P)),(s4.trans T4) _ _ g3,za5 (jE _ P)⟩
  have all:∀x∈rs.take k++[.iff e (dl.of ((rs.drop k).take (m-k))) (dl.of (rs.take j))]++rs.drop m,x∈rs\/x=.iff e (dl.of ((rs.drop k).take (m-k))) (dl.of (rs.take j)):=λx hx=>by
   rcases bw.mp hx with hx|hx
   ·rcases bw.mp hx with hx|hx
    ·exact .inl (Bn hx)
    ·exact .inr (bp.mp hx)
   ·exact .inl (de hx)
  have ip:Vu (.iff e (dl.of ((rs.drop k).take (m-k))) (dl.of (rs.take j))):=by
   unfold Vu;exact⟨pe,za6 λx hx=>(rw_ x (C hx)).pl,za6 λx hx=>(rw_ x (Bn hx)).pl⟩
  have io:qQ (.iff e (dl.of ((rs.drop k).take (m-k))) (dl.of (rs.take j))):=by
   unfold qQ;exact⟨te,za7 λx hx=>(rw_ x (C hx)).ok,za7 λx hx=>(rw_ x (Bn hx)).ok⟩
  have dp:Rw.deep (.iff e (dl.of ((rs.drop k).take (m-k))) (dl.of (rs.take j)))<=1:=by
   have a1:=Xp (n:=0) (rs:=(rs.drop k).take (m-k)) λx hx=>by rw[W2 (rw_ x (C hx)).nf];exact bn _
   have a2:=Xp (n:=0) (rs:=rs.take j) λx hx=>by rw[W2 (rw_ x (Bn hx)).nf];exact bn _
   simp only[Rw.deep];lia
  refine q p7 (rs.take k++[.iff e (dl.of ((rs.drop k).take (m-k))) (dl.of (rs.take j))]++rs.drop m) H9 (S.trans S9) ⟨p7,_,Z,zH (S.trans (S7.trans s8)) hp7,g9,za5 (VU (VU (jE _ P) (.cons I .nil)) (Zy _ P))⟩ ⟨Xp λx hx=>?_,za6 λx hx=>?_,za7 λx hx=>?_,?_⟩
  ·rcases all x hx with h|rfl
   ·rw[W2 (rw_ x h).nf];exact bS _
   ·exact dp
  ·rcases all x hx with h|rfl
   ·exact(rw_ x h).pl
   ·exact ip
  ·rcases all x hx with h|rfl
   ·exact(rw_ x h).ok
   ·exact io
  ·show ((rs.take k++[Rw.iff e (dl.of ((rs.drop k).take (m-k))) (dl.of (rs.take j))]++rs.drop m).map szX).sum<=11;rw[bQ,bQ,sf,sf,W3 λx hx=>(rw_ x (Bn hx)).nf,W3 λx hx=>(rw_ x (de hx)).nf];have c1:=zca (rs:=(rs.drop k).take (m-k)) λx hx=>(rw_ x (C hx)).nf;have c2:=zca (rs:=rs.take j) λx hx=>(rw_ x (Bn hx)).nf;rw[cC,cL] at c1;rw[cC] at c2;rw[cC,cL];show min k rs.length+((dl.of ((rs.drop k).take (m-k))).cnt+(dl.of (rs.take j)).cnt+3+0)+(rs.length-m)<=11;lia
 ·exact ym (Bk (λz=>hc (V.int.inj z))) ⟨_,Z,q Bo rs H S ⟨Bo,vs,Z,fL,hL,za5 pr⟩ (zie rw_ l6)⟩
def cRw(Bp:D)(Hb:Hp)(i:Nat)(ys:List V)(H:Hp):Prop:=∃rs:List Rw,Paired (hU (λb=>Hb b=ak/\b≠Bp) H) ys rs/\(∀r∈rs,rwW r)/\rs.length=i
theorem JA{vs:List V}{_E:XK}(h:k7 vs H Q _E) :
  Xi K t (sH Q) (L2.start ["cell","shelves","slots","xs","rows","at","to","row"] vs) H:=by
 obtain⟨c,a,b,us,ws,rfl,h1,h2,h3,h4,q⟩:=h;refine⟨_,Z,_,22,Z,(),λX ds H1 s1 fX hX ld od=>?_⟩;unfold zo zT zw;refine Qt (σ:=[U (.int c),U (.ref a),U (.ref b),U (.ref X),ak,ak,ak,ak]) (te:=B 0) (n:=7) (λ_ q=>⟨_,Z,q⟩) () λk g1 g2=>?_;refine⟨_,Z,(),(),λBp hD=>?_⟩;have fD:=zH s1 hD;refine Ky (J:=Itr 0 (k).toNat) (k).toNat () (λτ=>∃o,τ=[o,U (.ref X),U (.ref a),U (.ref b)]) (cRw Bp H) (λi ys H2 H' s ⟨rs,p1,p2⟩=>⟨rs,Paired.mapP p1 λ_ r z=>z.to r (λ_ _ f _=>f) (λb o f e=>s b o f.2 e),p2⟩) ⟨_,Z⟩ ⟨[],.nil,(λr z=>nomatch z),Z⟩ (λi H _ h=>h) (λH _=>bn _) hD ?_ ?_
 ·rintro i v τ ys H4 H5 ⟨o,rfl⟩ s4 hi ⟨rs,pr,wr,li⟩ hy ⟨rfl,rfl⟩;rw[rE];have mb:CMulB 3 i:=mS () () () ();refine⟨_,Z,_,Z,_,_,Z,Z,mb,_,Z,_,Z,_,_,Z,Z,mb,_,_,Z,Z,_,Z,_,_,Z,aT.of (s4 _ _ hX),λp hp=>?_⟩;have e1:3*(i:Int)=((3*i:Nat):Int):=by lia
  have e2:3*(i:Int)+3=((3*i+3:Nat):Int):=by lia
  rw[e2,e1,zfw _ _ _ () (by rw[bf];lia),<-m7,<-m8];have le:((ds.drop (3*i)).take (3*i+3-3*i)).length=3:=by rw[cC,cL];lia
  have oe:∀d∈(ds.drop (3*i)).take (3*i+3-3*i),okD d:=λd hd=>od d (de (dA hd));generalize (ds.drop (3*i)).take (3*i+3-3*i)=es at *
  have s5:=sQ (o:=HO.lst (es.map V.int)) p hp;have S:=s1.trans (s4.trans s5);have ne:∀ {b},upd H5 p (HO.lst (es.map V.int)) b=ak->b≠Bp:=λ{b} e z=>by rw[z,s5 _ _ hy] at e;cases e
  refine⟨_,Z,_,Z,p,_,_,es,us,ws,Z,zi,le,oe,h1.same S,h2,h3.same S,h4,λv r H6 s6 hr hw=>⟨⟨_,Z⟩,⟨rs++[r],Paired.snocP (Paired.mapP pr λ_ _ z=>z.mono (s5.trans s6)) (hr.to r (λb o f _=>⟨zH S f,ne f⟩) λb o _ e=>e),λx hx=>?_,by rw[bD,li];rfl⟩,s5.trans s6⟩⟩;rcases bw.mp hx with hx|hx
  ·exact wr x hx
  ·rw[bp.mp hx];exact hw
 ·rintro ys H4 hly ⟨rs,pr,wr,li⟩ s4 hq;have S:=s1.trans s4;exact zdG (t:=t) (o5:=ak) (o6:=ak) (o7:=ak) (s4 _ _ hX) ld od hq fD (Paired.mapP pr λ_ r z=>z.to r (λ_ _ f _=>f.1) λb o _ e=>e) wr () (h3.same S) h4 S q
end
theorem sX.mono{H H':Hp}(s:aL H H')(h:sX H n v u):sX H' n v u:=by
 induction h with
 |int i=>exact .int i
 |str x=>exact .str x
 |lst e1 e2 l _ ih=>exact .lst (s _ _ e1) (s _ _ e2) l ih
 |tup e1 e2 l _ ih=>exact .tup (s _ _ e1) (s _ _ e2) l ih
theorem Zz{H:Hp}{Q:VK}{E:XK}(h:xt 0 vs H Q E):False:=by
 obtain⟨v,u,_,h,_⟩:=h;cases h
theorem Ww(h0:σ[i]?=U (U v))(ty:Yj K H v tv)(k:fE K tv (.type T)=U b)(q:Q (.bl b) H):sO (ZS K) (zd (B i) (zd (tC (.ty T)) zk)) σ H Q:=⟨_,h0,v,.ty T,tv,b,Z,ty,⟨T,Z,k⟩,q⟩
theorem vE{Q:Bool->Hp->Prop}(h0:σ[i]?=U (U v))(ty:Yj K H v tv)(k:fE K tv (.type T)=U b)(q:Q b H):tB (sO (ZS K) (zd (B i) (zd (tC (.ty T)) zk))) σ H Q:=Ww h0 ty k ⟨b,Z,q⟩
theorem zfx{v:V}(q:Q (.bl af) H):Q (.bl (decide (v=v))) H:=by rw[Bj rfl];exact q
theorem VV{n:Nat}{v u:V}(F:KF K)(h:sX H (n+1) v u)(q:∀H',aL H H'->Q (.bl af) H') :
  jS K t n (sH Q) (L2.start ["found","due","one","other"] [v,u]) H:=by
 unfold jS zo yc tOr Jb Wz;cases h with
 |int i =>
  refine vE Z (.int i) F.i_l (ym Z (vE Z (.int i) F.i_t (ym Z (vE Z (.int i) F.i_s (ym Z ?_)))));exact Ww Z (.int i) (xI _) ⟨af,Z,yE Z (Ww Z (.int i) F.i_b ⟨ao,Z,af,Z,yE Z ⟨_,Z,_,Z,Z,zfx (q _ (aL.refl _))⟩⟩)⟩
 |str y =>
  refine vE Z (.str y) F.s_l (ym Z (vE Z (.str y) F.s_t (ym Z (vE Z (.str y) (xI _) (yE Z ?_)))));exact Ww Z (.str y) (xI _) ⟨af,Z,yE Z ⟨_,Z,_,Z,Z,zfx (q _ (aL.refl _))⟩⟩
 |@lst _ a b xs ys ha hb ll hx =>
  refine vE Z (.lst hb) (xI _) (yE Z (yE Z (vE Z (.lst ha) (xI _) (ym Z (ym Z ?_)))));refine Ww Z (.lst ha) (xI _) (Ww Z (.lst hb) (xI _) ⟨Z,_,Z,ym Z ?_⟩);refine⟨_,Z,.ref a,xs.length,Z,.inl ⟨_,aT.of ha,Z⟩,_,Z,.ref b,ys.length,Z,.inl ⟨_,aT.of hb,Z⟩,Z,_,Z,ym (by rw[Bj (by rw[ll])];rfl) ?_⟩;refine⟨_,Z,_,Z,a,b,xs,ys,Z,ll,.inl ⟨aT.of ha,aT.of hb,zdw xs ys (λ_ σ H'=>(∃o1 o2,σ=[U (.ref a),U (.ref b),o1,o2])/\aL H H') ⟨⟨_,_,Z⟩,aL.refl _⟩ (λi σ H' z=>⟨aT.of (z.2 _ _ ha),aT.of (z.2 _ _ hb)⟩) ?_ ?_⟩⟩
  ·rintro i x y T σ H1 hi hj hT ⟨⟨o1,o2,rfl⟩,S⟩;have s1:=sQ (o:=HO.tup [x,y]) T hT;exact⟨T,_,Z,sN.of zi,Z,_,_,Z,_,_,Z,Z,_,Z,_,Z,x,y,Z,sX.mono (S.trans s1) (hx i x y hi hj),λH2 s2=>⟨_,Z,ym Z ⟨⟨_,_,Z⟩,S.trans (s1.trans s2)⟩⟩⟩
  ·rintro σ H' ⟨_,S⟩;exact q _ S
 |@tup _ a b xs ys ha hb ll hx =>
  refine vE Z (.tup hb) F.t_l (ym Z (vE Z (.tup hb) (xI _) (yE Z (vE Z (.tup ha) F.t_l (yE Z (vE Z (.tup ha) (xI _) (ym Z ?_)))))));refine Ww Z (.tup ha) F.t_l (Ww Z (.tup hb) F.t_l ⟨Z,_,Z,ym Z ?_⟩);refine⟨_,Z,.ref a,xs.length,Z,.inr ⟨_,sN.of ha,Z⟩,_,Z,.ref b,ys.length,Z,.inr ⟨_,sN.of hb,Z⟩,Z,_,Z,ym (by rw[Bj (by rw[ll])];rfl) ?_⟩;refine⟨_,Z,_,Z,a,b,xs,ys,Z,ll,.inr ⟨sN.of ha,sN.of hb,zez xs ys (λ_ σ H'=>(∃o1 o2,σ=[U (.ref a),U (.ref b),o1,o2])/\aL H H') ⟨⟨_,_,Z⟩,aL.refl _⟩ (λi σ H' z=>⟨sN.of (z.2 _ _ ha),sN.of (z.2 _ _ hb)⟩) ?_ ?_⟩⟩
  ·rintro i x y T σ H1 hi hj hT ⟨⟨o1,o2,rfl⟩,S⟩;have s1:=sQ (o:=HO.tup [x,y]) T hT;exact⟨T,_,Z,sN.of zi,Z,_,_,Z,_,_,Z,Z,_,Z,_,Z,x,y,Z,sX.mono (S.trans s1) (hx i x y hi hj),λH2 s2=>⟨_,Z,ym Z ⟨⟨_,_,Z⟩,S.trans (s1.trans s2)⟩⟩⟩
  ·rintro σ H' ⟨_,S⟩;exact q _ S
theorem zhh{s:aX}{gi:List aP}(h:Zd s gi):(gi.map (·.1)).Nodup:=by
 unfold Zd at h;split at h
 ·rw[h];exact cr
 ·exact h.1.nd
section
variable {β:Type}{R R':Int->V->β->Prop}{kv:List (aV×V)}{l:List (Int×β)}{h:Int}{b:β}{v:V}
theorem aY{e:Int×β}:e∈yg l h↔e∈l/\e.1≠h:=by unfold yg;rw[b7,decide_eq_true_eq]
theorem Pk.get(p:Pk R kv l):(yf kv (.inl h)=ak/\h ∉ l.map (·.1))\/∃v b,yf kv (.inl h)=U v/\(h,b)∈l/\R h v b:=by
 unfold Pk at p;induction p with
 |nil=>exact .inl ⟨Q8,λz=>nomatch z⟩
 |@cons x e kv l hd tl ih =>
  by_cases c:e.1=h
  ·subst c;exact .inr ⟨x.2,e.2,yM hd.1,br,hd.2⟩
  ·have n:¬ x.1=.inl h:=by rw[hd.1];exact λz=>c (mP z)
   rw[yN n,bt,bu];exact ih.imp (λz=>⟨z.1,λy=>y.elim (λy=>c y.symm) z.2⟩) λ⟨v,b,z1,z2,z3⟩=>⟨v,b,z1,bq _ z2,z3⟩
theorem Pk.drop(p:Pk R kv l):Pk R (yp kv (.inl h)) (yg l h):=by
 unfold Pk at p;induction p with
 |nil=>exact .nil
 |@cons x e kv l hd tl ih =>
  by_cases c:e.1=h
  ·rw[J4 (hd.1.trans (congrArg _ c)),yg,du,am (by rw[decide_eq_true_eq];exact λz=>z c)];exact ih
  ·rw[XL (by rw[hd.1];exact λz=>c (mP z)),yg,du,aq (Bj c)];exact .cons hd ih
theorem Pk.put(p:Pk R kv l)(n:h ∉ l.map (·.1))(r:R h v b):Pk R (yI kv (.inl h) v) (l++[(h,b)]):=by
 rcases p.get (h:=h) with ⟨e,_⟩|⟨v,b,_,m,_⟩
 ·rw[vS _ e];exact Paired.snocP p ⟨Z,r⟩
 ·exact absurd (bC (f:=λe:Int×β=>e.1) m) n
theorem Pk.set(p:Pk R kv l)(nd:(l.map (·.1)).Nodup)(f:∀k v b',(k,b')∈l->k≠h->R k v b'->R' k v b')(g:∀v,yf kv (.inl h)=U v->R' h v b):Pk R' kv (XX l h b):=by
 unfold Pk at p;induction p with
 |nil=>exact .nil
 |@cons x e kv l hd tl ih =>
  rw[bt,bY] at nd;have f':=λk v b' m=>f k v b' (bq e m);by_cases c:e.1=h
  ·refine .cons ?_ (ih nd.2 f' λv z=>?_)
   ·dsimp only;rw[aq c];subst c;exact⟨hd.1,g _ (yM hd.1)⟩
   ·rcases Pk.get (R:=R) tl (h:=h) with ⟨y,_⟩|⟨_,b',_,m,_⟩
    ·rw[y] at z;cases z
    ·exact absurd (bC (f:=λe:Int×β=>e.1) m) (by rw[<-c];exact nd.1)
  ·refine .cons ?_ (ih nd.2 f' λv z=>g v ((yN (by rw[hd.1];exact λz=>c (mP z))).trans z));dsimp only;rw[am c];exact⟨hd.1,f _ _ _ br c hd.2⟩
end
theorem dkF{P:Str->Option ae}(T:Txt K P t):DkF K t:=⟨T.q05,T.q0i,T.q1m,T.q23,T.q28,T.q22,T.q20,T.q27,T.q24,T.q26,T.q25,T.q21,T.q2c,T.q2b,T.q2d,T.q2a,T.q2p⟩
section
variable {H':Hp}{lb lb':D->Nat}{Bo L':List (D×HO)}{m re b:D}{g:List aP}{lays:List (Int×List aP)}{P:Pl->Int->Prop}{cs:List V}{CC:List (List Cs)}{n ac:Int}{la:List (aV×V)}{o o' wo:HO}{i:Nat}{r:D}{no gi:List aP}{ld:List (Int×aX×List aP)}{s:aX}{M:Nat->Prop}
theorem TSm.of(s:aL H H'):TSm H H':=λ_ _ e=>s _ _ e
theorem sM.at(h:sM t H lb Bo m re g lays P cs CC)(e:Bo[i]?=U (b,o)):H b=U o:=(h.ob i b o e).1
theorem sM.lb_(h:sM t H lb Bo m re g lays P cs CC)(e:Bo[i]?=U (b,o)):lb b=i+1:=(h.ob i b o e).2
theorem sM.core2{P':Pl->Int->Prop}(h:sM t H lb Bo m re g lays P cs CC)(e:∀b,lb b≠0->lb' b=lb b)(e':∀b,lb b=0->lb' b=0\/lb' b=11/\∃o,H' b=U o)(ob:∀i b o,L'[i]?=U (b,o)->H' b=U o/\lb b=i+1)(k:∀b o,lb b=10\/lb b=13->H b=U o->H' b=U o)(rr:∃kk,sF H' re (λb=>lb' b=11) P' kk)(ts:TSm H H')(al:∀b o,H b=U o->∃o',H' b=U o'):sM t H' lb' L' m re g lays P' cs CC:=by
 have e10:(λb=>lb' b=10)=λb=>lb b=10:=funext λb=>propext (by
  rcases lX (lb b) with z|z
  ·rcases e' b z with y|⟨y,_⟩ <;> rw[y,z] <;> decide
  ·rw[e b ()])
 refine⟨λi b o z=>?_,by rw[e10];exact h.ms.keep (λb o fb e=>k b o (.inl fb) e) ts,rr,(e _ (by rw[h.rl];decide)).trans h.rl,Paired.mapP h.cc λv C ⟨⟨c,ys,ev,hc,pc⟩,lc⟩=>⟨⟨c,ys,ev,k c _ (.inr (lc c ev)) hc,xZ ts pc⟩,λc ev=>(e c (by rw[lc c ev];decide)).trans (lc c ev)⟩,λb hb=>?_⟩
 ·obtain⟨h1,h2⟩:=ob i b o z;exact⟨h1,(e b ()).trans h2⟩
 ·rcases lX (lb b) with z|z
  ·rcases e' b z with y|⟨_,y⟩
   ·exact absurd y hb
   ·exact y
  ·obtain⟨o,z⟩:=h.ow b ();exact al b o z
theorem sM.core(h:sM t H lb Bo m re g lays P cs CC)(ob:∀i b o,L'[i]?=U (b,o)->H' b=U o/\lb b=i+1)(k:∀b o,10<=lb b->lb b<14->H b=U o->H' b=U o)(ts:TSm H H')(al:∀b o,H b=U o->∃o',H' b=U o'):sM t H' lb L' m re g lays P cs CC :=
 h.core2 (λ_ _=>rfl) (λ_=>.inl) ob (λb o z e=>k b o () () e) (let ⟨kk,z⟩:=h.rr;⟨kk,z.keep h.rl (λb o fb e=>k b o (by rw[fb];decide) (by rw[fb];decide) e) λ_ z=>z⟩) ts al
open Classical in
theorem sM.regrow{P':Pl->Int->Prop}(h:sM t H lb Bo m re g lays P cs CC)(ll:Bo.length=9)(k:gV (λb=>lb b=11\/H b=ak) re H H')(dm:Dm H H')(rr:sF H' re (λb=>lb b=11\/H b=ak) P' kk):∃lb',Fr M1 H H' lb lb'/\sM t H' lb' Bo m re g lays P' cs CC:=by
 have kp:∀b o,lb b≠11->H b=U o->H' b=U o:=λb o z e=>k b o e (λy=>z (by rw[y];exact h.rl)) (.inr λy=>y.elim z λy=>by rw[e] at y;cases y);obtain⟨kk0,r0⟩:=h.rr;have ts:TSm H H':=λb zs e=>k b _ e (zJ e r0.at_ ()) (.inl λ_ z=>nomatch z);have al:∀b o,H b=U o->∃o',H' b=U o':=λb o e=>let ⟨o',z,_⟩:=dm b o e;⟨o',z⟩
 have ln:∀b,lb b≠0->H b≠ak:=λb z y=>by obtain⟨o,e⟩:=h.ow b z;rw[y] at e;cases e
 refine⟨λb=>if H b=ak/\∃o,H' b=U o then 11 else lb b,⟨λb o e=>am (λz=>by rw[z.1] at e;cases e),λb o z e=>kp b o (by unfold M1 at z;lia) e,ts,al⟩,h.core2 (λb z=>am λy=>ln b z y.1) (λb z=>?_) (λi b o z=>?_) (λb o z e=>kp b o () e) ⟨kk,rr.keep2 Z (λb xs _ e=>e) λb fb z=>?_⟩ ts al⟩
 ·by_cases y:H b=ak/\∃o,H' b=U o
  ·exact .inr ⟨aq y,y.2⟩
  ·exact .inl ((am y).trans z)
 ·obtain⟨h1,h2⟩:=h.ob i b o z;have:=(bo.mp z).1;exact⟨kp b o () h1,h2⟩
 ·by_cases y:H b=ak/\∃o,H' b=U o
  ·exact aq y
  ·exact(am y).trans (fb.resolve_right λw=>y ⟨w,z⟩)
theorem sM.keep(h:sM t H lb Bo m re g lays P cs CC)(ll:Bo.length=9)(k:∀b o,lb b≠0->lb b<14->H b=U o->H' b=U o)(ts:TSm H H')(al:∀b o,H b=U o->∃o',H' b=U o'):sM t H' lb Bo m re g lays P cs CC :=
 h.core (λi b o e=>by
  obtain⟨h1,h2⟩:=h.ob i b o e;have:=(bo.mp e).1;exact⟨k b o () () h1,h2⟩) (λb o h1 h2 e=>k b o () h2 e) ts al
theorem sM.same(h:sM t H lb Bo m re g lays P cs CC)(ll:Bo.length=9)(s:aL H H'):sM t H' lb Bo m re g lays P cs CC:=h.keep ll (λb o _ _ e=>s _ _ e) (TSm.of s) λb o e=>⟨o,s _ _ e⟩
theorem VW:∀b' u,H b'=U u->∃u',upd H b o b'=U u':=λb' u e=>by
 by_cases c:b'=b
 ·exact⟨o,by rw[c];exact zi⟩
 ·exact⟨u,by rw[zl c];exact e⟩
theorem ZA(e:H b=U o)(n:∀zs,o≠.tup zs):TSm H (upd H b o'):=λb' ys e'=>by rw[zl (zJ e' e (λz=>n ys z.symm))];exact e'
theorem sM.put(h:sM t H lb Bo m re g lays P cs CC)(ll:Bo.length=9)(e:Bo[i]?=U (b,o))(n:∀zs,o≠.tup zs):sM t (upd H b o') lb (Bo.set i (b,o')) m re g lays P cs CC:=by
 have li:=(bo.mp e).1;obtain⟨eb,lbb⟩:=h.ob i b o e;refine h.core (λj b2 o2 e2=>?_) (λb2 o2 h1 h2 e2=>?_) (ZA eb n) VW
 ·rw[List.getElem?_set] at e2;by_cases c:i=j
  ·rw[aq c,aq ()] at e2;cases e2;exact⟨zi,()⟩
  ·rw[am c] at e2;obtain⟨h1,h2⟩:=h.ob j b2 o2 e2;exact⟨by rw[zl (λz=>by rw[z] at h2;lia)];exact h1,h2⟩
 ·rw[zl (λz=>by rw[z] at h1;lia)];exact e2
theorem Fr.mono{M':Nat->Prop}(h:Fr M H H' lb lb')(k:∀l,M' l->M l):Fr M' H H' lb lb':=⟨h.ex,λb o z e=>h.kp b o (k _ z) e,h.ts,h.al⟩
theorem Fr.m0(h:Fr M1 H H' lb lb'):Fr M0 H H' lb lb':=h.mono λl z=>z.imp id λy=>by lia
theorem Fr.same(s:aL H H'):Fr M H H' lb lb:=⟨λ_ _ _=>rfl,λ_ _ _ e=>s _ _ e,λ_ _ e=>s _ _ e,λ_ o e=>⟨o,s _ _ e⟩⟩
theorem Fr.trans{H2:Hp}{lb2:D->Nat}(h:Fr M H H' lb lb')(k:Fr M H' H2 lb' lb2):Fr M H H2 lb lb2 :=
 ⟨λb o e=>let ⟨o',e'⟩:=h.al b o e;(k.ex b o' e').trans (h.ex b o e),λb o z e=>k.kp b o (by rw[h.ex b o e];exact z) (h.kp b o z e),λb zs e=>k.ts b zs (h.ts b zs e),λb o e=>let ⟨o',e'⟩:=h.al b o e;k.al b o' e'⟩
theorem sM.fput(h:sM t H lb Bo m re g lays P cs CC)(e:Bo[i]?=U (b,o))(n:∀zs,o≠.tup zs)(ll:i<9:=by lia):Fr M1 H (upd H b o') lb lb:=by
 have l:=h.lb_ e;exact⟨λ_ _ _=>rfl,λb2 u z e2=>by rw[zl (λy=>by rw[y,l] at z;unfold M1 at z;lia)];exact e2,ZA (h.at e) n,VW⟩
theorem zhi(h:sL H l aK)(F:Fr M H H' lb lb')(k:M 14)(z:lb l=14):sL H' l aK:=by
 obtain⟨xs,hx,hp⟩:=h;exact⟨xs,F.kp _ _ (by rw[z];exact k) hx,Paired.mapP hp λ_ _ y=>L2.PrAt.tsame y F.ts⟩
theorem tG.fr(h:tG H lb r s gi)(F:Fr M H H' lb lb')(k:M 14):tG H' lb' r s gi:=by
 obtain⟨o,nl,gl,e,oc,h1,h2,z1,z2⟩:=h;obtain⟨xs,hx,hp⟩:=id h1;obtain⟨ys,hy,hq⟩:=id h2;exact⟨o,nl,gl,F.ts _ _ e,zhf oc F.ts,zhi h1 F k z1,zhi h2 F k z2,(F.ex _ _ hx).trans z1,(F.ex _ _ hy).trans z2⟩
theorem wF(h:Pk (YE H lb) la ld)(F:Fr M H H' lb lb')(k:M 14):Pk (YE H' lb') la ld:=Paired.mapP h λ_ _ ⟨e,r,er,hr⟩=>⟨e,r,er,hr.fr F k⟩
theorem EnI.fr(h:EnI H lb en n0 es)(F:Fr M H H' lb lb')(k:M 14):EnI H' lb' en n0 es:=⟨h.le,Paired.mapP h.ps λ_ _ ⟨r,er,hr⟩=>⟨r,er,hr.fr F k⟩⟩
theorem sM.out(h:sM t H lb Bo m re g lays P cs CC)(e:H b=ak):lb b=0:=eC λz=>by obtain⟨o,y⟩:=h.ow b z;rw[e] at y;cases y
theorem ZB{vs:List V}{_E:XK}(MF:MkF K t)(h:xQ t vs H Q _E) :
  vD K t (sH Q) (L2.start ["self","place","rank","ranks","above"] vs) H:=by
 obtain⟨m,p,ac,F,g,lays,q0,rfl,h1,h2,q⟩:=h;obtain⟨dx,gr,wo,rk,wk,kk,M⟩:=sW.ex h1;refine(zZ M.im MF.cl MF.r Z zfp ⟨rk,Z,.inr ⟨_,.inl M.rr.at_⟩,_,Z,(),λl hl=>?_⟩);generalize c_:upd H l _=H2;obtain⟨s2,q2⟩:=yG c_ hl;have M2:=M.keep h1.me λb o _ e=>s2 _ _ e;refine⟨_,.t M2.rr.at_ (s2 _ _ h2),?_⟩;have go:∃(c:D) (rs:List Int),((yf kk (zy q0)).getD (.ref l))=.ref c/\H2 c=U (.lst (rs.map V.int))/\rs.Pairwise (· < ·)/\∀r,r∈rs↔v5 lays q0 r:=by
  rcases M2.rr.get q0 with ⟨c,rs,hk,hv,fa,ha,hs,hne,hi⟩|⟨hv,_,no⟩
  ·exact⟨c,rs,by rw[hv];rfl,ha,hs,hi⟩
  ·exact⟨l,[],by rw[hv];rfl,q2,fo,λr=>⟨(),λz=>absurd z (no r)⟩⟩
 obtain⟨c,rs,ev,ha,hs,hi⟩:=go;rw[ev];refine⟨_,Z,_,Z,_,_,Z,Z,c,rs,_,Z,ha,hs,λk H3 s3 hk k1 k2=>?_⟩;have e3:=s3 _ _ ha;refine⟨_,Z,_,Z,.ref c,rs.length,Z,.inl ⟨_,aT.of e3,(bf ..).symm⟩,Z,_,Z,?_⟩;by_cases z:k=rs.length
 ·exact yE (Bj (by rw[z])) (q _ H3 (s2.trans s3) (.inl ⟨Z,λr hr=>by
   have:=k1 r (by rw[z,cM];exact(hi r).mpr hr);lia⟩))
 ·refine ym (Bk (λy=>z (by injection y with y;lia))) ?_;have lt:k<rs.length:=by lia
  have dk:rs.drop k=rs[k]::rs.drop (k+1):=gP lt;refine⟨_,Z,_,Z,c,_,k,_,Z,Z,aT.of e3,xS (by rw[bB,bb lt];rfl),q _ H3 (s2.trans s3) (.inr ⟨rs[k],Z,(hi _).mp (dW lt),?_,λr hr h=>?_⟩)⟩
  ·have:=k2 rs[k] (by rw[dk];exact br);lia
  ·have m:=(hi r).mpr hr;rw[<-dq k rs] at m;rcases bw.mp m with m|m
   ·have:=k1 r m;lia
   ·rw[dk] at m;rcases bu.mp m with m|m
    ·lia
    ·rw[<-dq k rs,dk] at hs;exact rD (ma (List.pairwise_append.mp hs).2.1 m)
end
section
variable {H':Hp}{lb:D->Nat}{Bo:List (D×HO)}{d b:D}{a:tO}{g:List aP}{lays:List (Int×List aP)}{P:Pl->Int->Prop}{cs en:List V}{CC:List (List Cs)}{n f ac:Int}{ws db:List Int}{kv la:List (aV×V)}{o o' wo:HO}{i:Nat}{r:D}{no gi:List aP}{ld:List (Int×aX×List aP)}{s:aX}
theorem zig(x:Int):∃db',yI (dbL db) (.inl x) (.bl af)=dbL db'/\(db.Nodup->db'.Nodup)/\∀y,y∈db'↔y∈db\/y=x:=by
 by_cases c:x∈db
 ·refine⟨db,?_,id,λy=>⟨.inl,λz=>z.elim id λz=>by rw[z];exact c⟩⟩;unfold yI;rw[aq (iU.mpr ⟨(.inl x,.bl af),bC (f:=λr=>((.inl r:aV),V.bl af)) c,Bj Z⟩)];refine(dC λkv hk=>?_).trans (List.map_id _);obtain⟨y,_,rfl⟩:=bG.mp hk;split <;> rfl
 ·refine⟨db++[x],?_,λnd=>?_,λy=>by rw[bw,bp]⟩
  ·rw[vS _ (Qn λz=>?_)]
   ·unfold dbL;rw[bQ];rfl
   rw[dbL,dJ] at z;obtain⟨y,hy,e⟩:=bG.mp z;exact c (by rw[<-mP e];exact hy)
  ·refine da.mpr ⟨nd,by simp,λy hy z hz e=>c ?_⟩;rw[<-bp.mp hz,<-e];exact hy
theorem zcU(x:Int):yp (dbL db) (.inl x)=dbL (db.filter λy=>decide (y≠x)):=by
 unfold yp dbL;rw[List.filter_map];congr 1;refine List.filter_congr λy _=>?_;show decide ((gW y:aV)≠.inl x)=decide (y≠x);simp
theorem zfy{x:Int}(h:x∈db):yf (dbL db) (.inl x)=U (.bl af):=by
 cases e:yf (dbL db) (.inl x) with
 |none =>
  refine absurd ?_ (zag e);rw[dbL,dJ];exact bC (f:=λy:Int=>(gW y:aV)) h
 |some v =>
  obtain⟨p,hp,rfl⟩:=zeu e;obtain⟨y,_,rfl⟩:=bG.mp hp;rfl
theorem DbOk.len(h:DbOk ld db):db.length<=ld.length:=by
 have:=xK h.nd h.su
 rwa [bf] at this
theorem zgR{lo hi:Option Int}(h:x∈jI xs lo hi):x∈xs:=de (dA h)
theorem sM.dbt(x:Int)(h:sM t H lb (tK t d a n f wo cs ws kv la db en) a.mks a.re g lays P cs CC)(l:db.length<=100):∃H' db',DPut H a.db (.int x) (.bl af) H'/\Fr M1 H H' lb lb/\sM t H' lb (tK t d a n f wo cs ws kv la db' en) a.mks a.re g lays P cs CC/\(db.Nodup->db'.Nodup)/\(∀y,y∈db'↔y∈db\/y=x)/\∀b o,b≠a.db->H b=U o->H' b=U o:=by
 obtain⟨db',e,nd,mm⟩:=zig (db:=db) x;have h2:=h.put (i:=7) (o':=.dK (dbL db')) Z Z ();have F2:=h.fput (i:=7) (o':=.dK (dbL db')) Z ();have z:=DPut.k (k:=.inl x) (v:=.bl af) (h.at (i:=7) Z) (by rw[bN];unfold dbL;rw[bf];lia);rw[e] at z;exact⟨_,db',z,F2,h2,nd,mm,λb o z e=>by rw[zl z];exact e⟩
theorem VX{c p:D}{rs:List Int}{k:Nat}{v4:V}(Bp:DkF K t)(h:sM t H lb (tK t d a n f wo cs ws kv la db en) a.mks a.re g lays (tz ld) cs CC)(hd:DbOk ld db)(l10:ld.length<=10)(hc:H c=U (.lst (rs.map V.int)))(hs:rs.Pairwise (· < ·)){R:Int->Prop}(hr:∀r∈rs,r∈ld.map (·.1))(kt:∀r∈rs,ac<r->R r->r∈rs.take k)(q:∀H' db',Fr M1 H H' lb lb->sM t H' lb (tK t d a n f wo cs ws kv la db' en) a.mks a.re g lays (tz ld) cs CC->DbOk ld db'->(∀y∈db,y∈db')->(∀r∈rs,ac<r->R r->r∈db')->Q .non H') :
  qy K t (sH Q) [U (.ref a.jb),U (.ref p),U (.int ac),U (.ref c),U v4,U (.int k),ak] H:=by
 refine⟨_,Z,_,Z,_,Z,_,_,Z,Z,c,rs,_,Z,hc,hs,λk1 H1 s1 _ t1 _=>⟨k1,Z,_,Z,k,Z,c,_,Z,aT.of (s1 _ _ hc),λz hz=>?_⟩⟩;have cm:∀x∈jI (rs.map V.int) (U (k1:Int)) (U (k:Int)),∃y∈rs,V.int y=x:=λx hx=>bG.mp (zgR hx);have cu:∀r∈rs,ac<r->R r->V.int r∈jI (rs.map V.int) (U (k1:Int)) (U (k:Int)):=λr hr lt hR=>by
  obtain⟨m,hm⟩:=cK (kt r hr lt hR);rw[dP] at hm;split at hm
  ·rename_i mk;have ml:=(bo.mp hm).1;have m1:k1<=m:=rH λz=>by
    have:=t1 r (bT (show (rs.take k1)[m]?=U r by rw[dP,aq z];exact hm));lia
   have e1:HT.sIx (rs.map V.int).length 0 (U (k1:Int))=min k1 (rs.map V.int).length:=HT.sIx_nat ..;have e2:HT.sIx (rs.map V.int).length (rs.map V.int).length (U (k:Int))=min k (rs.map V.int).length:=HT.sIx_nat ..;unfold jI;rw[e1,e2,bf];refine bT (i:=m-min k1 rs.length) ?_;rw[dP,aq (),lW,show min k1 rs.length+(m-min k1 rs.length)=m by lia,bB,hm];rfl
  ·cases hm
 generalize jI (rs.map V.int) (U (k1:Int)) (U (k:Int))=ys at *
 have h1:=h.same Z s1;generalize c_:upd H1 z _=H2;obtain⟨s2,e2⟩:=yG c_ hz;refine⟨z,Z,⟨_,aT.of e2⟩,xo ys (λi σ H'=>(∃o6,σ=[U (.ref a.jb),U (.ref p),U (.int ac),U (.ref c),U v4,U (.int k),o6])/\H' z=U (.lst ys)/\Fr M1 H H' lb lb/\∃db',sM t H' lb (tK t d a n f wo cs ws kv la db' en) a.mks a.re g lays (tz ld) cs CC/\DbOk ld db'/\(∀y∈db,y∈db')/\∀x,V.int x∈ys.take i->x∈db') ⟨⟨_,Z⟩,e2,Fr.same (s1.trans s2),db,h1.same Z s2,hd,λ_ z=>z,λ_ z=>nomatch z⟩ (λi σ H' ⟨_,z,_⟩=>aT.of z) ?_ ?_⟩
 ·rintro i u σ H' hu ⟨⟨o6,rfl⟩,hz',F,db',h',hd',su,yi⟩;obtain⟨x,hx,rfl⟩:=cm u (bT hu);have ll:=hd'.len;obtain⟨H4,db4,dp,F4,h4,nd4,mm4,k4⟩:=h'.dbt x ();exact zZ (h'.at (i:=2) Z) Bp.cJ Bp.j4 Z Z ⟨_,Z,a.db,H4,Z,dp,⟨_,Z⟩,k4 _ _ (zJ hz' (h'.at (i:=7) Z) ()) hz',F.trans F4,db4,h4,⟨nd4 hd'.nd,λy hy=>((mm4 y).mp hy).elim (hd'.su y) λe=>by rw[e];exact hr x hx⟩,λy hy=>(mm4 y).mpr (.inl (su y hy)),λy hy=>(mm4 y).mpr (by
   rw[cq,hu] at hy;rcases bw.mp hy with z|z
   ·exact .inl (yi y z)
   ·exact .inr (V.int.inj (bp.mp z)))⟩
 ·rintro σ H' ⟨_,_,F,db',h',hd',su,yi⟩;rw[cM] at yi;exact q H' db' F h' hd' su λr hr lt hR=>yi r (cu r hr lt hR)
theorem VY{p:D}{q0:Pl}(Bp:DkF K t)(h:sM t H lb (tK t d a n f wo cs ws kv la db en) a.mks a.re g lays (tz ld) cs CC)(hd:DbOk ld db)(l10:ld.length<=10)(hp:H p=U (.tup ((zy q0).map kV)))(q:∀H' db',Fr M1 H H' lb lb->sM t H' lb (tK t d a n f wo cs ws kv la db' en) a.mks a.re g lays (tz ld) cs CC->DbOk ld db'->(∀y∈db,y∈db')->(∀r,tz ld q0 r->ac<r->(∀i,v5 lays q0 i->ac<i->r<=i)->r∈db')->Q .non H') :
  Yc K t (sH Q) (L2.start ["self","place","rank","readers","above","behind","reader"] [.ref a.jb,.ref p,.int ac]) H:=by
 obtain⟨kk,r0⟩:=h.rr;have e1:H a.jb=U (.ins t.q03 a.dj (Jo a.mks a.la a.re a.db)):=h.at (i:=2) rfl;refine(zZ e1 Bp.cJ Bp.j3 Z Z ⟨a.re,Z,.inr ⟨_,.inl r0.at_⟩,_,Z,(),λl hl=>?_⟩);generalize c_:upd H l _=H2;obtain⟨s2,q2⟩:=yG c_ hl;have h2:=h.same Z s2;obtain⟨dx,gr,wo',rk,wk,kx,M⟩:=sW.ex h2.ms;refine⟨_,.t (s2 _ _ r0.at_) (s2 _ _ hp),?_⟩;have go:∃(c:D) (rs:List Int),((yf kk (zy q0)).getD (.ref l))=.ref c/\H2 c=U (.lst (rs.map V.int))/\rs.Pairwise (· < ·)/\(∀r∈rs,r∈ld.map (·.1))/\∀r,tz ld q0 r->r∈rs:=by
  rcases r0.get q0 with ⟨c,rs,hk,hv,fa,ha,hs,hne,hi⟩|⟨hv,_,no⟩
  ·refine⟨c,rs,by rw[hv];rfl,s2 _ _ ha,hs,λr hr=>?_,λr z=>(hi r).mpr z⟩;obtain⟨e,he,er,_⟩:=(hi r).mp hr;exact bG.mpr ⟨e,he,er⟩
  ·exact⟨l,[],by rw[hv];rfl,q2,fo,(),λr z=>absurd z (no r)⟩
 obtain⟨c,rs,ev,ha,hs,hr,hi⟩:=go;rw[ev];refine(zZ (s2 _ _ e1) Bp.cJ Bp.j1 Z Z ⟨a.mks,_,_,Z,M.im,v6 (),_,Z,_,Z,a.mks,p,ac,_,g,lays,q0,Z,h2.ms,s2 _ _ hp,λv H3 s3 hv=>?_⟩);have h3:=h2.same Z s3;have S3:=s2.trans s3;rcases hv with ⟨rfl,_⟩|⟨i,rfl,hi2,lt2,_⟩
 ·exact⟨_,Z,Z,_,Z,yE Z ⟨_,Z,.ref c,rs.length,Z,.inl ⟨_,aT.of (s3 _ _ ha),(bf ..).symm⟩,VX (R:=λ_=>True) Bp h3 hd l10 (s3 _ _ ha) hs hr (λr z _ _=>by rw[cM];exact z) λH' db' F o w su y=>q H' db' ((Fr.same S3).trans F) o w su λr z lt _=>y r (hi r z) lt trivial⟩⟩
 ·refine⟨_,Z,Z,_,Z,ym Z ⟨_,Z,_,Z,_,_,Z,Z,c,rs,_,Z,s3 _ _ ha,hs,λk H4 s4 _ _ k2=>?_⟩⟩;refine VX (R:=λr=>r<=i) Bp (h3.same Z s4) hd l10 (s4 _ _ (s3 _ _ ha)) hs hr (λr z _ hR=>?_) λH' db' F o w su y=>q H' db' ((Fr.same (S3.trans s4)).trans F) o w su λr z lt hm=>y r (hi r z) lt (hm i hi2 lt2);rw[<-dq k rs] at z;rcases bw.mp z with z|z
  ·exact z
  ·have:=k2 r z;have:r<=i:=hR;lia
theorem qF(Bp:DkF K t)(h:sM t H lb Bo a.mks a.re g lays P cs CC)(l2:Bo[2]?=U (a.jb,.ins t.q03 a.dj (Jo a.mks a.la a.re a.db)))(l6:Bo[6]?=U (a.la,.dK la))(hv:yf la (.inl ac)=U (.ref r))(h0:0<=ac){s:aX}(hp:tG H lb r s gi)(q1:∀H',aL H H'->Agr g lays ac s.no->Q .non H')(q2:∀v H' q y,aL H H'->y∈s.no->ya g lays y.1 ac≠y.2->H' v=U (.tup [.ref q,.int y.2,.int (ya g lays y.1 ac)])->H' q=U (.tup [.str y.1.1,.int y.1.2])->Q (.ref v) H') :
  vi K t (sH Q) (L2.start ["self","rank","place","worth","now"] [.ref a.jb,.int ac]) H:=by
 obtain⟨o,nl,gl,e,_,⟨xs,hx,px⟩,_,z1,z2⟩:=hp;have e1:=h.at l2;have e2:=h.at l6;obtain⟨dx,fs,im,_,sn,_⟩:=h.ms.ins;have dg:sR H a.la (.int ac) (U (.ref r)):=by
  have z:=sR.k (k:=.inl ac) e2
  rwa [hv] at z
 refine(zZ e1 Bp.cJ Bp.j2 Z Z ⟨_,Z,a.la,_,Z,dg,r,_,1,_,Z,Z,sN.of e,Z,nl,Z,⟨_,aT.of hx⟩,xo xs (λi σ H'=>(∃o2 o3 o4,σ=[U (.ref a.jb),U (.int ac),o2,o3,o4])/\aL H H'/\Agr g lays ac (s.no.take i)) ⟨⟨_,_,_,Z⟩,aL.refl _,λ_ z=>nomatch z⟩ (λi σ H' ⟨_,sm,_⟩=>aT.of (sm _ _ hx)) ?_ ?_⟩)
 ·rintro i u σ H' hu ⟨⟨o2,o3,o4,rfl⟩,sm,ag⟩;obtain⟨y,hy,w,p,rfl,ew,ep⟩:=Paired.getP px hu;refine⟨w,_,Z,sN.of (sm _ _ ew),Z,_,_,Z,_,_,Z,Z,zZ (sm _ _ e1) Bp.cJ Bp.j1 Z Z ⟨a.mks,_,_,Z,sm _ _ im,sn,_,Z,_,Z,a.mks,p,ac,_,g,lays,y.1,Z,h.ms.same sm,h0,sm _ _ ep,λH2 s2=>?_⟩⟩;refine⟨_,Z,_,Z,Z,_,Z,?_⟩;by_cases c:ya g lays y.1 ac=y.2
  ·exact ym (by rw[Bj (congrArg V.int c)];rfl) ⟨⟨_,_,_,Z⟩,sm.trans s2,λx hx=>by
    rw[cq,hy] at hx;rcases bw.mp hx with z|z
    ·exact ag x z
    ·rw[bp.mp z];exact c⟩
  ·refine yE (by rw[Bk (λz=>c (V.int.inj z))];rfl) ⟨_,Z,_,Z,_,Z,by show 3<=Bb;rw[bN];decide,λp' hp'=>?_⟩;have s3:=sQ (o:=HO.tup [V.ref p,V.int y.2,V.int (ya g lays y.1 ac)]) p' hp';exact q2 p' _ p y (sm.trans (s2.trans s3)) (bT hy) c zi (s3 _ _ (s2 _ _ (sm _ _ ep)))
 ·rintro σ H' ⟨_,sm,ag⟩;rw[bF px,cM] at ag;exact q1 H' sm ag
end
section
variable {H':Hp}{lb lb':D->Nat}{d b:D}{a:tO}{g:List aP}{lays:List (Int×List aP)}{P:Pl->Int->Prop}{cs en:List V}{CC:List (List Cs)}{n f ac:Int}{ws db:List Int}{kv la:List (aV×V)}{o o' wo:HO}{i:Nat}{r:D}{no gi:List aP}{ld:List (Int×aX×List aP)}{s:aX}
theorem JB{β:Type}{x y:Int×β}:∀ {l:List (Int×β)},(l.map (·.1)).Nodup->x∈l->y∈l->x.1=y.1->x=y
 |z::l,nd,hx,hy,e=>by
  rw[bt,bY] at nd;rcases bu.mp hx with h1|h1 <;> rcases bu.mp hy with h2|h2
  ·rw[h1,h2]
  ·exact absurd (bG.mpr ⟨y,h2,by rw[<-e,h1]⟩) nd.1
  ·exact absurd (bG.mpr ⟨x,h1,by rw[e,h2]⟩) nd.1
  ·exact JB nd.2 h1 h2 e
theorem kz(Bp:DkF K t)(h:sM t H lb (tK t d a n f wo cs ws kv la db en) a.mks a.re g lays (tz ld) cs CC)(hl:Pk (YE H lb) la ld)(ha:DbA g lays ld db)(l10:ld.length<=10)(nl:(ld.map (·.1)).Nodup)(h0:∀e∈ld,0<=e.1)(q1:∀H',Fr M1 H H' lb lb->sM t H' lb (tK t d a n f wo cs ws kv la [] en) a.mks a.re g lays (tz ld) cs CC->DbA g lays ld []->Q .non H')
  (q2:∀v H' db' q r s gi y,Fr M1 H H' lb lb->sM t H' lb (tK t d a n f wo cs ws kv la db' en) a.mks a.re g lays (tz ld) cs CC->DbA g lays ld db'->(∀x∈db',r<=x)->(r,s,gi)∈ld->y∈s.no->ya g lays y.1 r≠y.2->H' v=U (.tup [.int r,.ref q,.int y.2,.int (ya g lays y.1 r)])->H' q=U (.tup [.str y.1.1,.int y.1.2])->Q (.ref v) H') :
  wC K t (sH Q) (L2.start ["self","ranks","rank","note"] [.ref a.jb]) H:=by
 have hd:=ha.wk;have ll:=hd.len;refine(zZ (h.at (i:=2) Z) Bp.cJ Bp.j4 Z Z ⟨a.db,dbL db,db,Z,h.at (i:=7) Z,by unfold dbL;rw[dJ];rfl,by unfold dbL;rw[bf];lia,λl srt hl0 hs hp=>?_⟩);have nd:srt.Nodup:=hs.nodup_iff.mpr hd.nd;generalize c_:upd H l _=H2;obtain⟨s2,e2⟩:=yG c_ hl0;refine⟨_,Z,l,Z,⟨_,aT.of e2⟩,xo (srt.map V.int) (λi σ H'=>(∃o2 o3,σ=[U (.ref a.jb),U (.ref l),o2,o3])/\H' l=U (.lst (srt.map V.int))/\Fr M1 H H' lb lb/\∃db',sM t H' lb (tK t d a n f wo cs ws kv la db' en) a.mks a.re g lays (tz ld) cs CC/\DbA g lays ld db'/\∀r,r∈srt.drop i↔r∈db') ⟨⟨_,_,Z⟩,e2,Fr.same s2,db,h.same Z s2,ha,λr=>hs.mem_iff⟩ (λi σ H' ⟨_,z,_⟩=>aT.of z) ?_ ?_⟩
 ·rintro i u σ H' hu ⟨⟨o2,o3,rfl⟩,hl',F,db',h',ha',su⟩;have hd':=ha'.wk;rw[bB] at hu;obtain⟨x,hx,rfl⟩:=b9.mp hu;have li:=(bo.mp hx).1;have ex:srt[i]=x:=(bo.mp hx).2;have ed:srt.drop i=x::srt.drop (i+1):=by rw[gP li,ex]
  have xd:x∈db':=(su x).mp (by rw[ed];exact br);obtain⟨e,he,rfl⟩:=bG.mp (hd'.su x xd);have hlF:=wF hl F (M:=M1) (.inr ());rcases hlF.get (h:=e.1) with ⟨_,z⟩|⟨v,b,hv,hm,r,rfl,hr⟩
  ·exact absurd (bC (f:=λe:Int×aX×List aP=>e.1) he) z
  refine⟨_,Z,a.jb,_,_,Z,h'.at (i:=2) Z,Z,_,Z,d,a,lb,_,la,g,lays,_,cs,CC,e.1,r,b.1,b.2,Z,h',Z,Z,hv,h0 e he,hr,λH3 s3 ag=>?_,λv H3 q y s3 hy hn h3 hq=>?_⟩
  ·have h3:=h'.same Z s3;refine⟨_,Z,Z,_,Z,ym Z (zZ (h3.at (i:=2) Z) Bp.cJ Bp.j4 Z Z ⟨a.db,Z,.inl ⟨_,.inl (h3.at (i:=7) Z)⟩,_,Z,dbL db',.inl e.1,_,h3.at (i:=7) Z,Z,zfy xd,?_⟩)⟩;rw[zcU];have h4:=h3.put (i:=7) (o':=.dK (dbL (db'.filter λy=>decide (y≠e.1)))) Z Z ();have F4:=h3.fput (i:=7) (o':=.dK (dbL (db'.filter λy=>decide (y≠e.1)))) Z ();refine⟨⟨_,_,Z⟩,by rw[zl (zJ (s3 _ _ hl') (h3.at (i:=7) Z) ())];exact s3 _ _ hl',F.trans ((Fr.same s3).trans F4),_,h4,⟨⟨hd'.nd.sublist cW,λr hr=>hd'.su r (b7.mp hr).1⟩,λe' he' nm=>?_⟩,λr=>?_⟩
   ·by_cases c:e'.1=e.1
    ·rw[JB nl he' hm c];exact ag
    ·exact ha'.ag e' he' λz=>nm (b7.mpr ⟨z,Bj c⟩)
   ·have nd':=nd.sublist (mI i srt);rw[ed,bY] at nd';have sr:=su r;rw[ed,bu] at sr;rw[b7,decide_eq_true_eq,<-sr];exact⟨λz=>⟨.inr z,λy=>nd'.1 (by rw[<-y];exact z)⟩,λz=>z.1.resolve_left z.2⟩
  ·have h3':=h'.same Z s3;refine⟨_,Z,Z,_,Z,yE Z ⟨_,Z,by show 1<=Bb;rw[bN];decide,λp1 hp1=>?_⟩⟩;generalize c_:upd H3 p1 _=H4;obtain⟨s4,e4⟩:=yG c_ hp1;refine⟨_,Z,p1,v,_,_,Z,Z,sN.of e4,sN.of (s4 _ _ h3),(),by show 1+3<=Bb;rw[bN];decide,?_⟩;refine⟨(),λ_ p2 hp2=>?_⟩;have s5:=sQ (o:=HO.tup [V.int e.1,V.ref q,V.int y.2,V.int (ya g lays y.1 e.1)]) p2 hp2;refine q2 p2 _ db' q e.1 b.1 b.2 y (F.trans (Fr.same (s3.trans (s4.trans s5)))) (h3'.same Z (s4.trans s5)) ha' (λx hx=>?_) hm hy hn zi (s5 _ _ (s4 _ _ hq));have hp':=hp.sublist (mI i srt);have sx:=(su x).mpr hx;rw[ed] at hp' sx;rcases bu.mp sx with z|z
   ·exact Int.le_of_eq z.symm
   ·exact rD (ma hp' z)
 ·rintro σ H' ⟨_,_,F,db',h',ha',su⟩;have:db'=[]:=List.eq_nil_iff_forall_not_mem.mpr λx hx=>by
   have:=(su x).mpr hx;rw[bf,rO] at this;cases this
  rw[this] at h' ha';exact q1 H' F h' ha'
theorem zcV{gs:List aP}{r0:aP}(nd:(gs.map (·.1)).Nodup)(h:gs[i]?=U r0):r0.1 ∉ (gs.take i).map (·.1):=λz=>by
 obtain⟨j,hj⟩:=cK z;rw[bB,dP] at hj;split at hj
 ·rename_i hji;have a1:(gs.map (·.1))[j]?=U r0.1:=by rw[bB];exact hj
  have a2:(gs.map (·.1))[i]?=U r0.1:=by rw[bB,h];rfl
  have:=(gE (bo.mp a1).1 nd).mp (a1.trans a2.symm);lia
 ·cases hj
theorem za8{gs:List aP}{r0:aP}{p:Pl}(h:gs[i]?=U r0):p∈(gs.take (i+1)).map (·.1)↔p∈(gs.take i).map (·.1)\/p=r0.1:=by
 rw[cq,h,bQ,bw];have:p∈ou (·.1) (U r0).toList↔p=r0.1:=by simp
 rw[this]
def tkI(a:tO)(v:V)(ac:Int)(G:D->Prop)(P:Pl->Int->Prop)(no:List aP)(H:Hp)(i:Nat)(σ:St)(H':Hp):Prop:=(∃o3 o4,σ=[U (.ref a.jb),U (.int ac),U v,o3,o4])/\gV G a.re H H'/\Dm H H'/\∃kk,sF H' a.re G (λp j=>P p j/\¬ (j=ac/\p∈(no.take i).map (·.1))) kk
theorem Xq(Bp:DkF K t)(h:sM t H lb (tK t d a n f wo cs ws kv la db en) a.mks a.re g lays (tz ld) cs CC)(hl:Pk (YE H lb) la ld)(ha:DbA g lays ld db)(nl:(ld.map (·.1)).Nodup)(hm:(ac,s,gi)∈ld)(nd:(s.no.map (·.1)).Nodup)(q:∀r H' lb' la' db',Fr M1 H H' lb lb'->sM t H' lb' (tK t d a n f wo cs ws kv la' db' en) a.mks a.re g lays (tz (yg ld ac)) cs CC->Pk (YE H' lb') la' (yg ld ac)->DbA g lays (yg ld ac) db'->tG H' lb' r s gi->Q (.ref r) H') :
  ko K t (sH Q) (L2.start ["self","rank","paper","place","worth"] [.ref a.jb,.int ac]) H:=by
 rcases hl.get (h:=ac) with ⟨_,z⟩|⟨v,b,hv,hb,r,rfl,hr⟩
 ·exact absurd (bC (f:=λe:Int×aX×List aP=>e.1) hm) z
 obtain rfl:b=(s,gi):=by have:=JB nl hb hm rfl;injection this
 refine(zZ (h.at (i:=2) Z) Bp.cJ Bp.j2 Z Z ⟨a.la,Z,.inl ⟨_,.inl (h.at (i:=6) Z)⟩,_,Z,_,.inl ac,_,h.at (i:=6) Z,Z,hv,?_⟩);have h2:=h.put (i:=6) (o':=.dK (yp la (.inl ac))) Z Z ();have F2:=h.fput (i:=6) (o':=.dK (yp la (.inl ac))) Z ();generalize upd H a.la (.dK (yp la (.inl ac)))=H2 at *
 have h2:sM t H2 lb (tK t d a n f wo cs ws kv (yp la (.inl ac)) db en) a.mks a.re g lays (tz ld) cs CC:=h2;have fin:∀H3 db3,Fr M1 H H3 lb lb->sM t H3 lb (tK t d a n f wo cs ws kv (yp la (.inl ac)) db3 en) a.mks a.re g lays (tz ld) cs CC->DbA g lays (yg ld ac) db3->zo (qC (x9 K (aN (y9 K) (B 2) (tC (.int 1)))) (zc8 K 2 (qG (zw 3) (qG (zw 4) zc7))) (yh (zV wz [] E0 (zd (zR K (B 0) "readers") (zd (B 3) (zd (B 1) zk)))))) (zL (B 2)) (sH Q) [U (.ref a.jb),U (.int ac),U (.ref r),ak,ak] H3:=λH3 db3 F3 h3 hd3=>by
  obtain⟨o,nl',gl,er,_,⟨xs,hx,px⟩,_,z1,z2⟩:=hr.fr F3 (.inr ());have e1:H3 a.jb=U (.ins t.q03 a.dj (Jo a.mks a.la a.re a.db)):=h3.at (i:=2) rfl;have rl:=h3.rl;obtain⟨kk,r0⟩:=h3.rr;refine⟨_,Z,r,_,1,_,Z,Z,sN.of er,Z,nl',Z,⟨_,aT.of hx⟩,xo xs (tkI a (.ref r) ac (λb=>lb b=11\/H3 b=ak) (tz ld) s.no H3) ⟨⟨_,_,Z⟩,gV.refl,Dm.refl,kk,(r0.keep (F':=λb=>lb b=11\/H3 b=ak) rl (λb o _ e=>e) λ_ z=>.inl z).eqv λp i=>by simp⟩ (λi σ H' ⟨_,k,_⟩=>aT.of (k _ _ hx (λz=>by rw[z,rl] at z1;cases z1) (.inr λz=>z.elim (λy=>by rw[z1] at y;cases y) λy=>by rw[hx] at y;cases y))) ?_ ?_⟩
  ·rintro i u σ H' hu ⟨⟨o3,o4,rfl⟩,k,dm,kk',hr'⟩;obtain⟨y,hy,w,p,rfl,ew,ep⟩:=Paired.getP px hu;have tk:∀b zs,H3 b=U (.tup zs)->H' b=U (.tup zs):=λb zs e=>k _ _ e (zJ e r0.at_ ()) (.inl λ_ z=>nomatch z);refine⟨w,_,Z,sN.of (tk _ _ ew),Z,_,_,Z,_,_,Z,Z,zZ (k _ _ e1 (zJ e1 r0.at_ ()) (.inl λ_ z=>nomatch z)) Bp.cJ Bp.j3 Z Z ⟨_,Z,_,Z,a.re,p,ac,_,_,kk',y.1,Z,hr',.inl rl,tk _ _ ep,⟨⟨_,hm,Z,bC (bT hy)⟩,λz=>zcV nd hy z.2⟩,λH3 kk3 k3 d3 r3=>⟨⟨_,_,Z⟩,k.trans k3,dm.trans d3,kk3,r3.eqv λp j=>?_⟩⟩⟩;rw[za8 hy];exact⟨λ⟨⟨a,b⟩,c⟩=>⟨a,λd=>d.2.elim (λe=>b ⟨d.1,e⟩) λe=>c ⟨d.1,e⟩⟩,λ⟨a,b⟩=>⟨⟨a,λc=>b ⟨c.1,.inl c.2⟩⟩,λc=>b ⟨c.1,.inr c.2⟩⟩⟩
  ·rintro σ H' ⟨⟨o3,o4,rfl⟩,k,dm,kk',hr'⟩;rw[bF px,cM] at hr';obtain⟨lb',F4,h4⟩:=h3.regrow Z k dm (hr'.eqv (P':=tz (yg ld ac)) λp i=>⟨λ⟨⟨e,he,ei,ep⟩,z⟩=>⟨e,aY.mpr ⟨he,λy=>z ⟨ei.symm.trans y,by rw[JB nl he hm y] at ep;exact ep⟩⟩,ei,ep⟩,λ⟨e,he,ei,ep⟩=>⟨⟨e,(aY.mp he).1,ei,ep⟩,λz=>(aY.mp he).2 (ei.trans z.1)⟩⟩);have F5:=F3.trans F4;exact⟨_,Z,q r H' lb' _ db3 F5 h4 (wF hl F5 (.inr ())).drop hd3 (hr.fr F5 (.inr ()))⟩
 have hd:=ha.wk;have mem:∀x,x∈db->x≠ac->x∈(yg ld ac).map (·.1):=λx hx n=>by
  obtain⟨e,he,rfl⟩:=bG.mp (hd.su x hx);exact bC (f:=λe:Int×aX×List aP=>e.1) (aY.mpr ⟨he,n⟩)
 have h7:H2 a.db=U (.dK (dbL db)):=h2.at (i:=7) rfl;refine(zZ (h2.at (i:=2) Z) Bp.cJ Bp.j4 Z Z ⟨a.db,Z,.inl ⟨_,.inl h7⟩,_,Z,dbL db,.inl ac,h7,Z,λv _=>?_,λz=>?_⟩)
 ·rw[zcU];have h4:=h2.put (i:=7) (o':=.dK (dbL (db.filter λy=>decide (y≠ac)))) Z Z ();have F4:=h2.fput (i:=7) (o':=.dK (dbL (db.filter λy=>decide (y≠ac)))) Z ();exact fin _ _ (F2.trans F4) h4 ⟨⟨hd.nd.sublist cW,λx hx=>mem x (b7.mp hx).1 (of_decide_eq_true (b7.mp hx).2)⟩,λe he nm=>ha.ag e (aY.mp he).1 λz=>nm (b7.mpr ⟨z,Bj (aY.mp he).2⟩)⟩
 ·exact fin _ _ F2 h2 ⟨⟨hd.nd,λx hx=>mem x hx λe=>by rw[<-e,zfy hx] at z;cases z⟩,λe he=>ha.ag e (aY.mp he).1⟩
end
section
variable {H':Hp}{lb lb':D->Nat}{Bo:List (D×HO)}{m re d b:D}{a:tO}{g:List aP}{lays:List (Int×List aP)}{P:Pl->Int->Prop}{cs en:List V}{CC:List (List Cs)}{n f ac:Int}{ws db:List Int}{kv la:List (aV×V)}{o o' wo:HO}{i:Nat}{r:D}{no gi:List aP}{ld:List (Int×aX×List aP)}{s:aX}
open Classical in
theorem sM.relay{F':D->Prop}{lays':List (Int×List aP)}(h:sM t H lb Bo m re g lays P cs CC)(ll:Bo.length=9)(k:∀b o,lb b≠10->H b=U o->H' b=U o)(ts:TSm H H')(M:sS t H' m F' g lays')(f1:∀b,F' b->lb b=10\/H b=ak)(f2:∀b,lb b=10->F' b):∃lb',Fr M1 H H' lb lb'/\sM t H' lb' Bo m re g lays' P cs CC:=by
 have e0:∀b,lb b≠0->¬ lb b=10->¬ F' b:=λb z y w=>(f1 b w).elim y λv=>by obtain⟨o,e⟩:=h.ow b z;rw[v] at e;cases e
 have ex:∀b,lb b≠0->(if F' b then 10 else lb b)=lb b:=λb z=>by
  by_cases y:lb b=10
  ·rw[aq (f2 b y),y]
  ·rw[am (e0 b z y)]
 have e10:(λb=>(if F' b then 10 else lb b)=10)=F':=funext λb=>propext ⟨λz=>by
  by_cases y:F' b
  ·exact y
  ·rw[am y] at z;exact f2 b z,λz=>aq z⟩
 have al:∀b o,H b=U o->∃o',H' b=U o':=λb o e=>by
  by_cases y:lb b=10
  ·exact M.own b (f2 b y)
  ·exact⟨o,k b o y e⟩
 have rl:=h.rl;obtain⟨kk,r0⟩:=h.rr;refine⟨λb=>if F' b then 10 else lb b,⟨λb o e=>?_,λb o z e=>k b o (by unfold M1 at z;lia) e,ts,al⟩,λi b o e=>?_,by rw[e10];exact M,⟨kk,r0.keep rl (λb o fb e=>k b o () e) λb z=>(ex b ()).trans z⟩,(ex _ ()).trans rl,Paired.mapP h.cc λv C ⟨⟨c,ys,ev,hc,pc⟩,lc⟩=>⟨⟨c,ys,ev,k c _ (by rw[lc c ev];decide) hc,xZ ts pc⟩,λc ev=>(ex c (by rw[lc c ev];decide)).trans (lc c ev)⟩,λb hb=>?_⟩
 ·by_cases y:F' b
  ·rw[aq y];exact((f1 b y).resolve_right λz=>by rw[z] at e;cases e).symm
  ·rw[am y]
 ·obtain⟨h1,h2⟩:=h.ob i b o e;have:=(bo.mp e).1;exact⟨k b o () h1,(ex b ()).trans h2⟩
 ·by_cases y:F' b
  ·exact M.own b y
  ·obtain⟨o,e⟩:=h.ow b (λz=>hb ((am y).trans z));exact al b o e
theorem zhj(h:Paired (zaH H) ys (sJ gs)):∀y∈ys,∃c q,y=.ref c/\H c=U (.tup ((zy q).map kV)):=λy hy=>by
 obtain⟨i,hi⟩:=cK hy;obtain⟨kv,hk,c,e,hc⟩:=Paired.getP h hi;obtain⟨qs,eq,_⟩:=VL gs;have z:=bC (f:=λx:List aV×V=>x.1) (bT hk);rw[eq] at z;obtain⟨q,_,e2⟩:=bG.mp z;exact⟨c,q,e,by rw[e2];exact hc⟩
theorem zfz{ys:List V}{gs:List aP}(h:Paired (zaH H) ys (sJ gs))(nd:(gs.map (·.1)).Nodup):ys.length=gs.length:=by rw[bF h,X4 nd,bf]
def ptI(a:tO)(r:D)(ac:Int)(l:D)(G:D->Prop)(P:Pl->Int->Prop)(no:List aP)(H:Hp)(i:Nat)(σ:St)(H':Hp):Prop:=(∃o4 o5,σ=[U (.ref a.jb),U (.int ac),U (.ref r),U (.ref l),o4,o5])/\gV G a.re H H'/\Dm H H'/\∃kk,sF H' a.re G (λp j=>P p j\/j=ac/\p∈(no.take i).map (·.1)) kk
theorem zdH{g:List aP}{ls ls':List (Int×List aP)}{p:Pl}{r k:Int}(nd:(ls.map (·.1)).Nodup)(nd':(ls'.map (·.1)).Nodup)(z0:∀y∈ls,0<=y.1)(z0':∀y∈ls',0<=y.1)(t1:∀y∈ls,y.1≠r->y∈ls')(t2:∀y∈ls',y.1≠r->y∈ls)
  (hk:k<=r\/((∀y∈ls,y.1=r->zD y.2 p=ak)/\∀y∈ls',y.1=r->zD y.2 p=ak)\/∃y∈ls,r<y.1/\y.1<k/\zD y.2 p≠ak):ya g ls p k=ya g ls' p k:=by
 unfold ya;have a1:∀y∈ls,y.1<k->zD y.2 p≠ak->(∀z∈ls,z.1<k->zD z.2 p≠ak->z.1<=y.1)->y.1≠r:=λy hy lt ne mx e=>by
  rcases hk with h|⟨h,_⟩|⟨z,hz,h1,h2,h3⟩
  ·lia
  ·exact ne (h y hy e)
  ·have:=mx z hz h2 h3;lia
 have a2:∀y∈ls',y.1<k->zD y.2 p≠ak->(∀z∈ls',z.1<k->zD z.2 p≠ak->z.1<=y.1)->y.1≠r:=λy hy lt ne mx e=>by
  rcases hk with h|⟨_,h⟩|⟨z,hz,h1,h2,h3⟩
  ·lia
  ·exact ne (h y hy e)
  ·have:=mx z (t1 z hz ()) h2 h3;lia
 rcases xu p k ls (-1,(zD g p).getD 0) with ⟨e1,n1⟩|⟨y,hy,w,e1,e2,e3,e4,e5⟩ <;> rcases xu p k ls' (-1,(zD g p).getD 0) with ⟨f1,n2⟩|⟨y',hy',w',f1,f2,f3,f4,f5⟩
 ·rw[e1,f1]
 ·have ne:zD y'.2 p≠ak:=by rw[f1];exact λz=>nomatch z
  have:=n1 y' (t2 y' hy' (a2 y' hy' f2 ne f5)) f3 f2;exact absurd this ne
 ·have ne:zD y.2 p≠ak:=by rw[e1];exact λz=>nomatch z
  have:=n2 y (t1 y hy (a1 y hy e2 ne e5)) e3 e2;exact absurd this ne
 ·have ne:zD y.2 p≠ak:=by rw[e1];exact λz=>nomatch z
  have ne':zD y'.2 p≠ak:=by rw[f1];exact λz=>nomatch z
  have m1:=t1 y hy (a1 y hy e2 ne e5);have m2:=t2 y' hy' (a2 y' hy' f2 ne' f5);have:y=y':=JB nd' m1 hy' (Int.le_antisymm (f5 y m1 e2 ne) (e5 y' m2 f2 ne'));rw[e4,f4];rw[this,f1] at e1;exact(bP e1).symm
theorem zhk{ys:List V}{gs:List aP}{p:Pl}(h:Paired (zaH H) ys (sJ gs))(nd:(gs.map (·.1)).Nodup)(hp:p∈gs.map (·.1)):∃c,.ref c∈ys/\H c=U (.tup ((zy p).map kV)):=by
 obtain⟨w,hw⟩:=Option.ne_none_iff_exists'.mp ((xz nd).mp hp);obtain⟨i,hi⟩:=cK (tR.mpr ⟨p,w,Z,hw⟩);obtain⟨v,hv⟩:∃v,ys[i]?=U v:=⟨_,bb (by rw[bF h];exact(bo.mp hi).1)⟩;obtain⟨y,hy,c,rfl,hc⟩:=Paired.getP h hv;cases hi.symm.trans hy;exact⟨c,bT hv,hc⟩
def Dd(ld:List (Int×aX×List aP))(lays:List (Int×List aP))(ac:Int)(p:Pl)(db:List Int):Prop:=∀r,tz ld p r->ac<r->(∀i,v5 lays p i->ac<i->r<=i)->r∈db
theorem zgS{p q:Pl}(h:HO.tup ((zy p).map kV)=.tup ((zy q).map kV)):p=q:=by
 injection h with h;have h:[V.str p.1,V.int p.2]=[V.str q.1,V.int q.2]:=h;injection h with h1 h2;injection h2 with h2;exact pI (V.str.inj h1) (V.int.inj h2)
theorem zih{g:List aP}{lays:List (Int×List aP)}{ld:List (Int×aX×List aP)}{ac:Int}{gi gs:List aP}{db':List Int}{e:Int×aX×List aP}(nd:(lays.map (·.1)).Nodup)(z0:∀y∈lays,0<=y.1)(h0:0<=ac)(ng:(gi.map (·.1)).Nodup)(nds:∀y∈lays,(y.2.map (·.1)).Nodup)(ho:(ac,gs)∈lays\/(ac ∉ lays.map (·.1)/\gs=[]))(he:e∈ld)(ag:Agr g lays e.1 e.2.1.no)(no:e.1 ∉ db')(dd:∀p,p∈gs.map (·.1)\/p∈gi.map (·.1)->Dd ld (xx lays ac gi) ac p db'):Agr g (xx lays ac gi) e.1 e.2.1.no:=by
 have mem:∀y,y∈xx lays ac gi↔(y∈lays/\y.1≠ac)\/y=(ac,gi):=λy=>by
  unfold xx;rw[bw,b7,decide_eq_true_eq,bp]
 have nd':((xx lays ac gi).map (·.1)).Nodup:=by
  unfold xx;rw[bQ,da];refine⟨nd.sublist (fR _ cW),bY.mpr ⟨cf,cr⟩,λa ha b hb=>?_⟩;obtain⟨y,hy,rfl⟩:=bG.mp ha;rw[bp.mp hb];exact of_decide_eq_true (b7.mp hy).2
 intro y hy;rw[<-ag y hy];refine(zdH (r:=ac) nd nd' z0 (λy hy=>?_) (λy hy n=>(mem y).mpr (.inl ⟨hy,n⟩)) (λy hy n=>((mem y).mp hy).elim (λz=>z.1) λz=>absurd (by rw[z]) n) ?_).symm
 ·rcases(mem y).mp hy with z|z
  ·exact z0 y z.1
  ·rw[z];exact h0
 by_cases c1:e.1<=ac
 ·exact .inl c1
 by_cases c2:y.1∈gs.map (·.1)\/y.1∈gi.map (·.1)
 ·refine .inr (.inr ?_);have:=dd y.1 c2 e.1 ⟨e,he,Z,bC (f:=(·.1)) hy⟩ ();obtain⟨i,hi⟩:=Classical.not_forall.mp λz=>no (this z);obtain⟨⟨gs',hg,hp⟩,hi⟩:=pZ.mp hi;obtain⟨lt,nle⟩:=pZ.mp hi;have ml:(i,gs')∈lays:=((mem _).mp hg).elim (λz=>z.1) λz=>by cases z;lia
  exact⟨(i,gs'),ml,lt,by show i<e.1;lia,(xz (nds _ ml)).mp hp⟩
 ·refine .inr (.inl ⟨λx hx ex=>?_,λx hx ex=>?_⟩)
  ·refine mf λz=>c2 (.inl ?_);have:gs=x.2:=by
    rcases ho with h|⟨h,_⟩
    ·have:=JB nd h hx ex.symm;rw[<-this]
    ·exact absurd (by rw[<-ex];exact bC (f:=(·.1)) hx) h
   rw[this];exact(xz (nds x hx)).mpr z
  ·refine mf λz=>c2 (.inr ?_);rcases(mem x).mp hx with y|rfl
   ·exact absurd ex y.2
   ·exact(xz ng).mpr z
theorem Xr(Bp:DkF K t)(h:sM t H lb (tK t d a n f wo cs ws kv la db en) a.mks a.re g lays (tz ld) cs CC)(hl:Pk (YE H lb) la ld)(ha:DbA g lays ld db)(nts:∀e∈ld,zb5 e.2.1.no e.2.2)(l10:ld.length<=10)(nr:ac ∉ ld.map (·.1))(h0:0<=ac)(ll:lays.length<=10)(hp:tG H lb r s gi)(nt:zb5 s.no gi)
  (q:∀H' lb' la' db',Fr M1 H H' lb lb'->sM t H' lb' (tK t d a n f wo cs ws kv la' db' en) a.mks a.re g (xx lays ac gi) (tz (ld++[(ac,s,gi)])) cs CC->Pk (YE H' lb') la' (ld++[(ac,s,gi)])->DbA g (xx lays ac gi) (ld++[(ac,s,gi)]) db'->Q .non H') :
  kr K t (sH Q) (L2.start ["self","rank","paper","before","place","worth"] [.ref a.jb,.int ac,.ref r]) H:=by
 have hd:=ha.wk;have hms:=h.ms;have e1:H a.jb=U (.ins t.q03 a.dj (Jo a.mks a.la a.re a.db)):=h.at (i:=2) rfl;obtain⟨dx,gr,wo',rk,wk,kx,M⟩:=sW.ex h.ms;refine(zZ e1 Bp.cJ Bp.j1 Z Z ⟨a.mks,_,_,Z,M.im,v6 (),_,Z,_,_,_,_,_,_,Z,h.ms,λl ys gs H1 s1 hl0 hl1 hy ho=>?_⟩);have ok:WJ gs:=ho.elim (λz=>(h.ms.ok _ z).2) λz=>by rw[z.2];exact⟨cr,bS _⟩
 have y63:ys.length<=63:=by rw[zfz hy ok.nd];exact ok.le
 have h1:=h.same Z s1;obtain⟨o,nl,gl,er,_,ln,lg,z1,z2⟩:=hp.fr (Fr.same (M:=M1) s1) (.inr ());refine(zZ (s1 _ _ e1) Bp.cJ Bp.j1 Z Z ⟨a.mks,_,_,Z,s1 _ _ M.im,v6 (),_,Z,_,Z,r,_,2,_,Z,Z,sN.of er,Z,_,_,_,_,_,_,_,Z,h1.ms,h0,lg,(λz=>by rw[z2] at z;cases z),⟨nt.ng,bO nt.lg ()⟩,bO ll (),λH2 F2 k2 t2 m2 f2 g2=>?_⟩);obtain⟨lb2,Fr2,h2⟩:=h1.relay Z k2 t2 m2 f2 g2;have F2:=(Fr.same s1).trans Fr2;have e2:H2 a.jb=U (.ins t.q03 a.dj (Jo a.mks a.la a.re a.db)):=h2.at (i:=2) rfl;have hl2:H2 l=U (.lst ys):=Fr2.kp _ _ (.inl (h.out hl0)) hl1;have ky1:=zhj hy;clear M wk kx;obtain⟨dx,gr,wo',rk,wk,kx,M⟩:=sW.ex h2.ms;refine⟨_,Z,zZ e2 Bp.cJ Bp.j1 Z Z ⟨a.mks,_,_,Z,M.im,v6 (),_,Z,_,_,_,_,_,_,Z,h2.ms,λl2 ys2 gs2 H3 s3 hl3 hl4 hy2 ho2=>?_⟩⟩;have ok2:WJ gs2:=ho2.elim (λz=>(h2.ms.ok _ z).2) λz=>by rw[z.2];exact⟨cr,bS _⟩
 have y63':ys2.length<=63:=by rw[zfz hy2 ok2.nd];exact ok2.le
 have ky2:=zhj hy2;refine⟨l,l2,ys,ys2,Z,Z,s3 _ _ hl2,hl4,by rw[bN];lia,λp hp4=>?_⟩;generalize c_:upd H3 p _=H4;obtain⟨s4,e4⟩:=yG c_ hp4;have S4:=s3.trans s4;have ky:∀y∈ys++ys2,∃c q,y=.ref c/\H4 c=U (.tup ((zy q).map kV)):=λy hy=>by
  rcases bw.mp hy with z|z
  ·obtain⟨c,q,e,hc⟩:=ky1 y z;exact⟨c,q,e,S4 _ _ (Fr2.ts _ _ hc)⟩
  ·obtain⟨c,q,e,hc⟩:=ky2 y z;exact⟨c,q,e,s4 _ _ hc⟩
 have inn:∀p,p∈gs.map (·.1)\/p∈gi.map (·.1)->∃c,.ref c∈ys++ys2/\H4 c=U (.tup ((zy p).map kV)):=λp z=>by
  rcases z with z|z
  ·obtain⟨c,m,hc⟩:=zhk hy ok.nd z;exact⟨c,cp _ m,S4 _ _ (Fr2.ts _ _ hc)⟩
  ·have eg:gs2=gi:=by
    have m0:(ac,gi)∈xx lays ac gi:=by unfold xx;exact bJ _ (bp.mpr Z)
    rcases ho2 with h|⟨h,_⟩
    ·have:=JB h2.ms.nd h m0 rfl;injection this
    ·exact absurd (bC (f:=(·.1)) m0) h
   obtain⟨c,m,hc⟩:=zhk hy2 ok2.nd (by rw[eg];exact z);exact⟨c,bJ _ m,s4 _ _ hc⟩
 have lp:lb2 p=0:=h2.out (zH s3 hp4);refine⟨p,Z,⟨_,aT.of e4⟩,xo (ys++ys2) (λi σ H'=>(∃o4,σ=[U (.ref a.jb),U (.int ac),U (.ref r),U (.ref l),o4,ak])/\Fr M1 H4 H' lb2 lb2/\∃db',sM t H' lb2 (tK t d a n f wo cs ws kv la db' en) a.mks a.re g (xx lays ac gi) (tz ld) cs CC/\DbOk ld db'/\(∀y∈db,y∈db')/\∀c p,.ref c∈(ys++ys2).take i->H4 c=U (.tup ((zy p).map kV))->Dd ld (xx lays ac gi) ac p db') ⟨⟨_,Z⟩,Fr.same (aL.refl _),db,h2.same Z S4,hd,(λ_ z=>z),λ_ _ z=>nomatch z⟩ (λi σ H' ⟨_,F,_⟩=>aT.of (F.kp _ _ (.inl lp) e4)) ?_ ?_⟩
 ·rintro i u σ H' hu ⟨⟨o4,rfl⟩,F,db',h',hd',su,dd⟩;obtain⟨c,q0,rfl,hc⟩:=ky u (bT hu);refine⟨_,Z,a.jb,_,_,Z,h'.at (i:=2) Z,Z,_,Z,_,Z,⟨d,a,lb2,n,f,wo,cs,ws,kv,la,db',en,g,_,ld,CC⟩,c,ac,q0,Z,h',hd',l10,F.ts _ _ hc,λH6 db6 F6 h6 hd6 su6 y6=>⟨⟨_,Z⟩,F.trans F6,db6,h6,hd6,λy hy=>su6 y (su y hy),λc' p' m hc'=>?_⟩⟩;rw[cq,hu] at m;rcases bw.mp m with m|m
  ·exact λr z1 z2 z3=>su6 r (dd c' p' m hc' r z1 z2 z3)
  ·cases bp.mp m;cases zgS (bP (hc'.symm.trans hc));exact y6
 ·rintro σ H' ⟨⟨o4,rfl⟩,F,db',h5,hd',su,dd⟩;rw[cM] at dd;have ag:∀e∈ld,e.1 ∉ db'->Agr g (xx lays ac gi) e.1 e.2.1.no:=λe he nm=>zih hms.nd (λy hy=>(hms.ok y hy).1) h0 nt.ng (λy hy=>(hms.ok y hy).2.nd) ho he (ha.ag e he λz=>nm (su _ z)) nm λp z=>let ⟨c,m,hc⟩:=inn p z;dd c p m hc
  clear dd inn su;have F5:=F2.trans ((Fr.same S4).trans F);clear F s4 e4 S4 hl4 s3 M F2 h2 e2 hl2 e1 h1 ln lg er ho ho2 ky ky1 ky2 hy hy2 Fr2 lp;have lla:la.length=ld.length:=bF hl;refine⟨_,Z,zZ (h5.at (i:=2) Z) Bp.cJ Bp.j2 Z Z ⟨_,Z,a.la,_,Z,.k (k:=.inl ac) (h5.at (i:=6) Z) (by rw[bN];lia),?_⟩⟩;have h6:=h5.put (i:=6) (o':=.dK (yI la (.inl ac) (.ref r))) Z Z ();have F6:=F5.trans (h5.fput (i:=6) (o':=.dK (yI la (.inl ac) (.ref r))) Z ());generalize upd H' a.la (.dK (yI la (.inl ac) (.ref r)))=H6 at *
  clear h5 F5;have h6:sM t H6 lb2 (tK t d a n f wo cs ws kv (yI la (.inl ac) (.ref r)) db' en) a.mks a.re g (xx lays ac gi) (tz ld) cs CC:=h6;have ldb:=hd'.len;obtain⟨H7,db7,dp,F7',h7,nd7,mm7,_⟩:=h6.dbt ac ();refine(zZ (h6.at (i:=2) Z) Bp.cJ Bp.j4 Z Z ⟨_,Z,a.db,H7,Z,dp,?_⟩);have F7:=F6.trans F7';have hd7:DbA g (xx lays ac gi) (ld++[(ac,s,gi)]) db7:=⟨⟨nd7 hd'.nd,λy hy=>by
   rw[bQ,bw];exact((mm7 y).mp hy).imp (hd'.su y) λe=>bp.mpr e⟩,λe he nm=>by
   rcases bw.mp he with z|z
   ·exact ag e z λy=>nm ((mm7 _).mpr (.inl y))
   ·cases bp.mp z;exact absurd ((mm7 _).mpr (.inr Z)) nm⟩
  clear h6 F6 F7' dp;obtain⟨o,nl,gl,er,_,⟨xs,hx,px⟩,lg,z1,z2⟩:=hp.fr F7 (.inr ());have e1:H7 a.jb=U (.ins t.q03 a.dj (Jo a.mks a.la a.re a.db)):=h7.at (i:=2) rfl;have rl:=h7.rl;obtain⟨kk,r0⟩:=h7.rr;refine⟨_,Z,r,_,1,_,Z,Z,sN.of er,Z,nl,Z,⟨_,aT.of hx⟩,xo xs (ptI a r ac l (λb=>lb2 b=11\/H7 b=ak) (tz ld) s.no H7) ⟨⟨_,_,Z⟩,gV.refl,Dm.refl,kk,(r0.keep (F':=λb=>lb2 b=11\/H7 b=ak) rl (λb o _ e=>e) λ_ z=>.inl z).eqv λp i=>by simp⟩ (λi σ H' ⟨_,k,_⟩=>aT.of (k _ _ hx (λz=>by rw[z,rl] at z1;cases z1) (.inr λz=>z.elim (λy=>by rw[z1] at y;cases y) λy=>by rw[hx] at y;cases y))) ?_ ?_⟩
  ·rintro i u σ H' hu ⟨⟨o3,o4,rfl⟩,k,dm,kk',hr'⟩;obtain⟨y,hy,w,p,rfl,ew,ep⟩:=Paired.getP px hu;have tk:∀b zs,H7 b=U (.tup zs)->H' b=U (.tup zs):=λb zs e=>k _ _ e (zJ e r0.at_ ()) (.inl λ_ z=>nomatch z);refine⟨w,_,Z,sN.of (tk _ _ ew),Z,_,_,Z,_,_,Z,Z,?_⟩;have np:=zcV nt.nd hy;have sub:∀ {p:Pl},p∈(s.no.take i).map (·.1)->p∈s.no.map (·.1):=λz=>by
    obtain⟨x,hx,rfl⟩:=bG.mp z;exact bC (dA hx)
   have rk:∀p j,tz ld p j->j∈ld.map (·.1):=λp j ⟨e,he,ei,_⟩=>bG.mpr ⟨e,he,ei⟩;refine(zZ (k _ _ e1 (zJ e1 r0.at_ ()) (.inl λ_ z=>nomatch z)) Bp.cJ Bp.j3 Z Z ⟨_,Z,_,Z,a.re,p,ac,_,_,kk',y.1,Z,hr',.inl rl,λb z=>.inr ?_,tk _ _ ep,λz=>z.elim (λz=>nr (rk _ _ z)) λz=>np z.2,?_,λrs hp ha=>?_,λH3 kk3 k3 d3 r3=>⟨⟨_,_,Z⟩,k.trans k3,dm.trans d3,kk3,r3.eqv λp j=>?_⟩⟩)
   ·cases e:H7 b with
    |none=>rfl
    |some o=>obtain⟨o',e',_⟩:=dm b o e;rw[z] at e';cases e'
   ·refine zfs (l:=ld.map (λe=>(e.1,e.2.1.no))++[(ac,s.no)]) hr' (λp r z=>?_) (λy hy=>?_) (by rw[bD,bf];show _+1<=300;lia)
    ·rcases z with ⟨e,he,ei,ep⟩|z
     ·exact⟨e.2.1.no,cp _ (bG.mpr ⟨e,he,by rw[<-ei]⟩),ep⟩
     ·exact⟨s.no,bJ _ (by rw[z.1];exact bp.mpr Z),sub z.2⟩
    ·rcases bw.mp hy with z|z
     ·obtain⟨e,he,rfl⟩:=bG.mp z;exact⟨(nts e he).nd,bO (nts e he).ln ()⟩
     ·cases bp.mp z;exact⟨nt.nd,bO nt.ln ()⟩
   ·have:=xK (b:=ld.map (·.1)) (hp.imp λz=>rC z) λx hx=>(ha x hx).elim (rk _ _) λz=>absurd z.2 np;rw[bf] at this;lia
   ·rw[za8 hy,and_or_left,or_assoc]
  ·rintro σ H' ⟨⟨o3,o4,rfl⟩,k,dm,kk',hr'⟩;rw[bF px,cM] at hr';obtain⟨lb',F8,h8⟩:=h7.regrow Z k dm (hr'.eqv (P':=tz (ld++[(ac,s,gi)])) λp i=>⟨λz=>z.elim (λ⟨e,he,z⟩=>⟨e,cp _ he,z⟩) λz=>⟨_,bJ _ (bp.mpr Z),z.1.symm,z.2⟩,λ⟨e,he,z⟩=>(bw.mp he).imp (λhe=>⟨e,he,z⟩) λhe=>by cases bp.mp he;exact⟨z.1.symm,z.2⟩⟩);have F9:=F7.trans F8;exact q H' lb' _ db7 F9 h8 ((wF hl F9 (.inr ())).put nr ⟨r,Z,hp.fr F9 (.inr ())⟩) hd7
end
section
variable {f n:Int}{g:List aP}{CC:List (List Cs)}{S:DS}{r:Int}{k m:Nat}
theorem rks_mem:r∈vN f k m↔∃j:Nat,r=f+j/\k<=j/\j<m:=by
 unfold vN;rw[List.mem_map];constructor
 ·rintro⟨i,hi,rfl⟩;rw[List.mem_range] at hi;exact⟨k+i,(),(),()⟩
 ·rintro⟨j,rfl,h1,h2⟩;exact⟨j-k,by rw[List.mem_range];lia,()⟩
theorem zfA:(vN f k m).Nodup:=by
 unfold vN;refine List.Pairwise.map _ (λa b (h:a≠b)=>?_) rL;lia
theorem sD.rk(h:sD n f g CC S)(m:r∈S.ws++(S.hl.map (·.2.1)++S.ld.map (·.1))):∃j:Nat,r=f+j/\S.en<=j/\j<CC.length:=rks_mem.mp (h.pm.mem_iff.mp m)
theorem sD.rw_(h:sD n f g CC S)(m:r∈S.ws):∃j:Nat,r=f+j/\S.en<=j/\j<CC.length:=h.rk (cp _ m)
theorem sD.rh(h:sD n f g CC S){e:Int×Int×Nat×aX}(m:e∈S.hl):∃j:Nat,e.2.1=f+j/\S.en<=j/\j<CC.length:=h.rk (bJ _ (cp _ (bC (f:=λe:Int×Int×Nat×aX=>e.2.1) m)))
theorem sD.rl(h:sD n f g CC S)(m:r∈S.ld.map (·.1)):∃j:Nat,r=f+j/\S.en<=j/\j<CC.length:=h.rk (bJ _ (bJ _ m))
theorem sD.nd(h:sD n f g CC S):S.ws.Nodup/\((S.hl.map (·.2.1)).Nodup/\(S.ld.map (·.1)).Nodup/\∀x∈S.hl.map (·.2.1),∀y∈S.ld.map (·.1),x≠y)/\∀x∈S.ws,∀y∈S.hl.map (·.2.1)++S.ld.map (·.1),x≠y:=by
 have z:=h.pm.nodup_iff.mpr zfA;rw[da,da] at z;exact z
theorem sD.len(h:sD n f g CC S):S.ws.length+(S.hl.length+S.ld.length)+S.en=CC.length:=by
 have z:=h.pm.length_eq;have:=h.el;unfold vN at z;simp only[bD,bf,mJ] at z;lia
end
section
variable {H':Hp}{lb lb':D->Nat}{Bo:List (D×HO)}{m re d b dx:D}{a:tO}{g:List aP}{lays:List (Int×List aP)}{P:Pl->Int->Prop}{cs en:List V}{CC:List (List Cs)}{C:List Cs}{n f h0 ac:Int}{ws db:List Int}{kv la:List (aV×V)}{o o' wo:HO}{i k:Nat}{hl:List (Int×Int×Nat×aX)}{S:DS}{v:V}{s:aX}{M:Nat->Prop}
theorem X5(Bp:DkF K t)(h:H d=U (.ins t.q00 dx (YD a n f)))(h2:H a.en=U (.lst en))(q:Q (.int (f+en.length)) H) :
  qv K t (sH Q) (L2.start ["self"] [.ref d]) H:=(zZ h Bp.cD Bp.d3 Z Z (zZ h Bp.cD Bp.d9 Z Z ⟨.ref a.en,en.length,Z,.inl ⟨_,aT.of h2,Z⟩,_,_,Z,Z,q⟩))
theorem YG(Bp:DkF K t)(h:H d=U (.ins t.q00 dx (YD a n f)))(h2:H a.cl=U (.lst cs))(q:Q (.int (f+cs.length)) H) :
  jB K t (sH Q) (L2.start ["self"] [.ref d]) H:=(zZ h Bp.cD Bp.d3 Z Z (zZ h Bp.cD Bp.d4 Z Z ⟨.ref a.cl,cs.length,Z,.inl ⟨_,aT.of h2,Z⟩,_,_,Z,Z,q⟩))
theorem VZ{x l:D}(h:H l=U (.lst (ws.map V.int)))(h1:ws≠[])(q:∀w∈ws,Q (.int w) H):Yb K t (sH Q) (L2.start ["self","ranks"] [.ref x,.ref l]) H:=by
 cases ws with
 |nil=>exact absurd Z h1
 |cons w ws=>exact⟨_,Z,l,_,0,_,Z,Z,aT.of h,by simp[tL,ixN],q w br⟩
theorem YH{x l:D}(h:H l=U (.lst (ws.map V.int)))(h1:ws≠[])(q:∀w∈ws,Q (.int w) H):jC K t (sH Q) (L2.start ["self","ranks"] [.ref x,.ref l]) H:=by
 refine⟨_,Z,1,Z,l,_,-1,.int (ws.getLast h1),Z,Z,aT.of h,?_,q _ (List.getLast_mem h1)⟩;have z:ws.map V.int=ws.dropLast.map V.int++[V.int (ws.getLast h1)]:=by rw[<-List.map_singleton,<-bQ,List.dropLast_concat_getLast]
 rw[z];exact L2.atI_last _ _
theorem X6{x:D}(Bp:DkF K t)(h:H x=U (.ins t.q06 dx []))(q:Q .non (upd H x (.ins t.q06 dx [(bg "times",.int 0)]))):qu K t (sH Q) (L2.start ["self"] [.ref x]) H:=⟨_,Z,x,_,dx,[],Z,h,Bp.cT,Bp.t1,(),q⟩
theorem YI{x l:D}(Bp:DkF K t)(h:H l=U (.lst (ws.map V.int)))(h1:ws≠[])(h2:H x=U (.ins t.q06 dx [(bg "times",.int k)]))(q:∀w∈ws,Q (.int w) (upd H x (.ins t.q06 dx [(bg "times",.int (k+1:Nat))]))):jD K t (sH Q) (L2.start ["self","ranks","at"] [.ref x,.ref l]) H:=by
 have l0:0<ws.length:=List.length_pos_iff.mpr h1;have lt:k%ws.length<ws.length:=Nat.mod_lt _ l0;refine(zZ h2 Bp.cT Bp.t1 Z Z ⟨_,Z,.ref l,ws.length,Z,.inl ⟨_,aT.of h,(bf ..).symm⟩,_,_,Z,Z,by show (0:Int)<(ws.length:Int);lia,?_⟩);refine⟨_,Z,x,_,dx,_,_,Z,h2,Bp.cT,Bp.t1,Z,_,_,Z,Z,dx,_,h2,by show 1<1000;decide,?_⟩;refine⟨_,Z,_,Z,l,_,(k%ws.length:Nat),_,Z,congrArg V.int (Int.natCast_emod _ _).symm,aT.of (by rw[zl (zJ h h2 ())];exact h),xS (by rw[bB,bb lt];rfl),q _ (dW lt)⟩
open Classical in
theorem sM.relab{N:D->Prop}(n:Nat)(hn:13<=n)(h:sM t H lb Bo m re g lays P cs CC)(s:aL H H')(hN:∀b,N b->H b=ak/\∃o,H' b=U o):∃lb',Fr M H H' lb lb'/\sM t H' lb' Bo m re g lays P cs CC/\∀b,N b->lb' b=n:=by
 have l0:∀b,N b->lb b=0:=λb z=>h.out (hN b z).1;have ex:∀b,lb b≠0->(if N b then n else lb b)=lb b:=λb z=>am λy=>z (l0 b y);have e10:(λb=>(if N b then n else lb b)=10)=λb=>lb b=10:=funext λb=>propext (by
  by_cases y:N b
  ·rw[aq y,l0 b y];lia
  ·rw[am y])
 have rl:=h.rl;obtain⟨kk,r0⟩:=h.rr;refine⟨λb=>if N b then n else lb b,⟨λb o e=>am (λy=>by rw[(hN b y).1] at e;cases e),λb o _ e=>s _ _ e,λb zs e=>s _ _ e,λb o e=>⟨o,s _ _ e⟩⟩,⟨λi b o e=>?_,by rw[e10];exact h.ms.same s,⟨kk,r0.keep rl (λb o _ e=>s _ _ e) λb z=>(ex b ()).trans z⟩,(ex _ ()).trans rl,Paired.mapP h.cc λv C ⟨⟨c,ys,ev,hc,pc⟩,lc⟩=>⟨⟨c,ys,ev,s _ _ hc,wE s pc⟩,λc ev=>(ex c (by rw[lc c ev];decide)).trans (lc c ev)⟩,λb hb=>?_⟩,λb z=>aq z⟩
 ·obtain⟨h1,h2⟩:=h.ob i b o e;exact⟨s _ _ h1,(ex b ()).trans h2⟩
 ·by_cases y:N b
  ·exact(hN b y).2
  ·obtain⟨o,e⟩:=h.ow b (λz=>hb ((am y).trans z));exact⟨o,s _ _ e⟩
theorem sM.addC(h:sM t H lb Bo m re g lays P cs CC)(s:aL H H')(hc:H c=ak)(ha:tP H' (.ref c) C):∃lb',Fr M H H' lb lb'/\sM t H' lb' Bo m re g lays P (cs++[.ref c]) (CC++[C]):=by
 obtain⟨c',ys,ec,hy,py⟩:=id ha;cases ec;obtain⟨lb',F,h',z⟩:=h.relab (N:=λb=>b=c) 13 () s λb e=>by rw[e];exact⟨hc,_,hy⟩
 exact⟨lb',F,h'.ob,h'.ms,h'.rr,h'.rl,Paired.snocP h'.cc ⟨ha,λc' e=>by cases e;exact z c Z⟩,h'.ow⟩
theorem hV.fr(R:hV t H x ra C s)(l:∀b,OwA x ra b->lb b=N)(F:Fr M H H' lb lb')(hM:M N):hV t H' x ra C s/\∀b,OwA x ra b->lb' b=N:=by
 have k:∀ {b o},OwA x ra b->H b=U o->H' b=U o:=λ{b o} z e=>F.kp b o (by rw[l b z];exact hM) e;refine⟨⟨k (.inl (.inl Z)) R.ix,let ⟨xs,hx,px⟩:=R.hc;⟨xs,k (.inr Z) hx,xZ F.ts px⟩,k (.inl (.inr (.inl Z))) R.hs,k (.inl (.inr (.inr (.inl Z)))) R.hg,k (.inl (.inr (.inr (.inr (.inl Z))))) R.hn,k (.inl (.inr (.inr (.inr (.inr Z))))) R.ha,R.ng,R.nc⟩,λb z=>?_⟩;cases e:H b with
 |none=>exact absurd e (R.has z)
 |some o=>exact(F.ex b o e).trans (l b z)
theorem HdAt.fr{e:Int×Nat×aX}(h:HdAt t H lb f CC h0 v e)(F:Fr M H H' lb lb')(hM:M (20+h0.toNat)):HdAt t H' lb' f CC h0 v e:=by
 obtain⟨tp,x,ra,C,ev,et,ec,R,l⟩:=h;obtain⟨R',l'⟩:=R.fr l F hM;exact⟨tp,x,ra,C,ev,F.ts _ _ et,ec,R',l'⟩
theorem qh(h:Pk (HdAt t H lb f CC) kv hl)(F:Fr M H H' lb lb')(hM:∀k:Nat,M (20+k)):Pk (HdAt t H' lb' f CC) kv hl:=Paired.mapP h λ_ _ ⟨e,z⟩=>⟨e,z.fr F (hM _)⟩
theorem Yf(k:Nat):M1 (20+k):=.inr ()
theorem tE.of(h:tE t H d a lb n f g CC S)(k:∀b o,lb b≠0->H b=U o->H' b=U o)(ts:TSm H H')(al:∀b o,H b=U o->∃o',H' b=U o'):tE t H' d a lb n f g CC S:=by
 obtain⟨wo,cs,kv,la,db,en,h,hh,hl,z⟩:=h;have F:Fr (λl=>l≠0) H H' lb lb:=⟨λ_ _ _=>rfl,k,ts,al⟩;exact⟨wo,cs,kv,la,db,en,h.keep Z (λb o z _ e=>k b o z e) ts al,qh hh F (λk=>by lia),wF hl F (),z.1,z.2.1.fr F (),z.2.2⟩
theorem tE.same(h:tE t H d a lb n f g CC S)(s:aL H H'):tE t H' d a lb n f g CC S:=h.of (λb o _ e=>s _ _ e) (TSm.of s) λb o e=>⟨o,s _ _ e⟩
theorem tE.put(h:tE t H d a lb n f g CC S)(hl:H l=U (.lst xs))(z:lb l=0):tE t (upd H l (.lst ys)) d a lb n f g CC S:=h.of (λb o y e=>by rw[zl (λw=>y (by rw[w];exact z))];exact e) (ZA hl λ_ z=>nomatch z) VW
theorem tE.l0(h:tE t H d a lb n f g CC S)(e:H b=ak):lb b=0:=by obtain⟨wo,cs,kv,la,db,en,h,_⟩:=h;exact h.out e
theorem tE.cmp(h:tE t H d a lb n f g CC S):H d=U (.ins t.q00 a.dx (YD a n f))/\∃cs en,H a.cl=U (.lst cs)/\H a.en=U (.lst en)/\cs.length=CC.length/\en.length=S.en:=by
 obtain⟨wo,cs,kv,la,db,en,h,_,_,_,le,_⟩:=h;exact⟨h.at (i:=0) Z,cs,en,h.at (i:=3) Z,h.at (i:=8) Z,bF h.cc,le.le⟩
theorem Qx{vs:List V}{_E:XK}(Bp:DkF K t)(h:wf t vs H Q _E) :
  Wv K t (sH Q) (L2.start ["self","code","rank"] vs) H:=by
 obtain⟨d,v,a,lb,n,f,g,CC,C,S,rfl,h1,h,h2,h3,q⟩:=h;obtain⟨wo,cs,kv,la,db,en,h,hh,hl,z⟩:=h;have lc:=bF h.cc;have e1:H d=U (.ins t.q00 a.dx (YD a n f)):=h.at (i:=0) rfl;obtain⟨c0,ys,rfl,hy,py⟩:=h1;refine(xR e1 Z Z ⟨d,_,a,n,f,cs,Z,e1,h.at (i:=3) Z,?_⟩);rw[lc];refine(zZ e1 Bp.cD Bp.d4 Z Z ⟨.inl ⟨Z,_,aT.of (h.at (i:=3) Z)⟩,_,Z,c0,ys,Z,.inl (aT.of hy),λc hc=>?_⟩);generalize c_:upd H c _=H2;obtain⟨s2,e2⟩:=yG c_ hc;obtain⟨lb2,F2,h4⟩:=h.addC (M:=M1) (C:=C) s2 hc ⟨c,ys,Z,e2,wE s2 py⟩;have h5:=h4.put (i:=3) (o':=.lst (cs++[.ref c])) Z Z ();have F5:=F2.trans (h4.fput (i:=3) (o':=.lst (cs++[.ref c])) Z ());refine⟨a.cl,cs,_,Z,Z,h4.at (i:=3) Z,b6 (show cs.length<=10 by lia) (by rw[bN];decide),?_⟩;generalize upd H2 a.cl (.lst (cs++[.ref c]))=H5 at *
 have h5:sM t H5 lb2 (tK t d a n f wo (cs++[.ref c]) S.ws kv la db en) a.mks a.re g S.ls (tz S.ld) (cs++[.ref c]) (CC++[C]):=h5;refine(zZ (h5.at (i:=0) Z) Bp.cD Bp.d5 Z Z ⟨.inl ⟨Z,_,aT.of (h5.at (i:=4) Z)⟩,_,Z,a.wl,_,_,Z,Z,h5.at (i:=4) Z,b6 (by rw[bf];exact h3) (by rw[bN];decide),_,Z,?_⟩);have h6:=h5.put (i:=4) (o':=.lst ((S.ws++[f+CC.length]).map V.int)) Z Z ();have F6:=F5.trans (h5.fput (i:=4) (o':=.lst ((S.ws++[f+CC.length]).map V.int)) Z ());rw[bQ] at h6 F6;refine q _ lb2 F6.m0 ⟨wo,_,kv,la,db,en,by rw[tK,zgx,bQ];exact h6,Paired.mapP (qh hh F6 Yf) λ_ _ ⟨e,tp,x,ra,C,ev,et,ec,z⟩=>⟨e,tp,x,ra,C,ev,et,?_,z⟩,wF hl F6 (.inr ()),z.1,z.2.1.fr F6 (.inr ()),z.2.2⟩;rw[cy (bo.mp ec).1];exact ec
end
section
variable {H':Hp}{lb lb':D->Nat}{d b dx:D}{a:tO}{g:List aP}{cs en:List V}{CC:List (List Cs)}{C:List Cs}{n f h0 ac w:Int}{ws db:List Int}{kv la:List (aV×V)}{o o' wo:HO}{i k:Nat}{r:D}{hl:List (Int×Int×Nat×aX)}{S:DS}{v:V}{M:Nat->Prop}
theorem V0(q:D)(h:H b=U (.tup (.str (evW e)::.int h0::evX q e)))(p:∀p,evP e=U p->H q=U (.tup [.str p.1,.int p.2])):EvAt H (.ref b) (h0,e):=⟨b,q,Z,h,p⟩
theorem YJ(Bp:DkF K t)(h:tE t H d a lb n f g CC S)(ok:sD n f g CC S)(fr:h0 ∉ S.hl.map (·.1))(hw:w∈S.ws)(q:∀v H' lb',Fr M0 H H' lb lb'->EvAt H' v (h0,.take w)->tE t H' d a lb' n f g CC { S with ws:=S.ws.erase w,hl:=S.hl++[(h0,w,0,st0)] }->Q v H') :
  ja K t (sH Q) [U (.ref d),U (.int h0),U (.int w)] H:=by
 obtain⟨wo,cs,kv,la,db,en,h,hh,hl,hd,le,wy⟩:=h;obtain⟨k,rfl,_,hk⟩:=ok.rw_ hw;have l5:=ok.cc.le;have ln:=ok.len;have e1:H d=U (.ins t.q00 a.dx (YD a n f)):=h.at (i:=0) rfl;refine(zZ e1 Bp.cD Bp.d5 Z Z ⟨.inl ⟨Z,_,aT.of (h.at (i:=4) Z)⟩,_,Z,a.wl,_,f+k,Z,Z,h.at (i:=4) Z,hw,?_⟩);have h3:=h.put (i:=4) (o':=.lst ((S.ws.erase (f+k)).map V.int)) Z Z ();have F3:=h.fput (i:=4) (o':=.lst ((S.ws.erase (f+k)).map V.int)) Z ();generalize upd H a.wl (.lst ((S.ws.erase (f+k)).map V.int))=H3 at *
 have h3:sM t H3 lb (tK t d a n f wo cs (S.ws.erase (f+k)) kv la db en) a.mks a.re g S.ls (tz S.ld) cs CC:=h3;have e3:H3 d=U (.ins t.q00 a.dx (YD a n f)):=h3.at (i:=0) rfl;obtain⟨v,hv⟩:∃v,cs[k]?=U v:=⟨_,bb (by rw[bF h3.cc];exact hk)⟩;obtain⟨C,hC,⟨c,ys,rfl,hc,pc⟩,_⟩:=Paired.getP h3.cc hv;refine⟨_,Z,zZ e3 Bp.cD Bp.d4 Z Z ⟨_,Z,zZ e3 Bp.cD Bp.d3 Z Z ⟨_,_,Z,Z,a.cl,cs,k,_,Z,congrArg V.int (),aT.of (h3.at (i:=3) Z),xS hv,?_⟩⟩⟩;intro x dx hx hdx n';have s4:aL H3 (upd (upd H3 dx (HO.own x)) x (HO.ins t.q01 dx [])):=λb o e=>by rw[zl (zC e hx),zl (zC e hdx)];exact e
 refine⟨x,c,dx,ys,C,Z,zi,s4 _ _ hc,wE s4 pc,λH5 ra k5 R5 fr5=>?_⟩;obtain⟨s5,ow⟩:=zh3 (aL.refl H3) hx hdx k5 fr5;obtain⟨lb5,F5,h5,l20⟩:=h3.relab (M:=M1) (N:=OwA x ra) (20+h0.toNat) () s5 λb z=>⟨ow b z,by
  cases e:H5 b with
  |none=>exact absurd e (R5.has z)
  |some o=>exact⟨o,Z⟩⟩
 refine⟨Z,by show 2<=Bb;rw[bN];decide,λtp ht=>?_⟩;generalize c_:upd H5 tp _=H6;obtain⟨s6,e6⟩:=yG c_ ht;have h6:=h5.same Z s6;have F6:=(F3.trans F5).trans (Fr.same s6);have R6:=R5.same s6;clear h5 R5 h3 F3 F5 s4 k5 fr5 s5;have lkv:kv.length=S.hl.length:=bF hh;refine(zZ (h6.at (i:=0) Z) Bp.cD Bp.d6 Z Z ⟨_,Z,a.hd,_,Z,.k (k:=.inl h0) (h6.at (i:=5) Z) (by rw[bN];lia),?_⟩);have h7:=h6.put (i:=5) (o':=.dK (yI kv (.inl h0) (.ref tp))) Z Z ();have F7':=h6.fput (i:=5) (o':=.dK (yI kv (.inl h0) (.ref tp))) Z ();generalize upd H6 a.hd (.dK (yI kv (.inl h0) (.ref tp)))=H7 at *
 have h7:sM t H7 lb5 (tK t d a n f wo cs (S.ws.erase (f+k)) (yI kv (.inl h0) (.ref tp)) la db en) a.mks a.re g S.ls (tz S.ld) cs CC:=h7;have F7:=F6.trans F7';obtain⟨R7,l7⟩:=R6.fr l20 F7' (Yf _);refine⟨_,Z,_,Z,by show 3<=Bb;rw[bN];decide,λp hp=>?_⟩;have s8:=sQ (o:=HO.tup [V.str "take",V.int h0,V.int (f+k)]) p hp;have F8:=F7.trans (Fr.same s8);exact q (.ref p) _ lb5 F8.m0 (V0 p zi λ_ z=>nomatch z) ⟨wo,cs,_,la,db,en,h7.same Z s8,(qh hh F8 Yf).put fr ⟨tp,x,ra,C,Z,s8 _ _ (F7'.ts _ _ e6),by rw[show (f+(k:Int)-f).toNat=k by lia];exact hC,R7.same s8,l7⟩,wF hl F8 (.inr ()),hd,le.fr F8 (.inr ()),wy⟩
theorem Xs{vs:List V}{_E:XK}(Bp:DkF K t)(h:wU t vs H Q _E) :
  kq K t (sH Q) (L2.start ["self","hand","rank"] vs) H:=by
 obtain⟨d,a,lb,n,f,h0,g,CC,S,rfl,h,ok,fr,wn,q⟩:=h;have G:=h;obtain⟨wo,cs,kv,la,db,en,h,hh,hl,hd,le,wy⟩:=h;have e1:H d=U (.ins t.q00 a.dx (YD a n f)):=h.at (i:=0) rfl;have ew:H a.wy=U wo:=h.at (i:=1) rfl;rcases wy with rfl|rfl|⟨k,rfl⟩
 ·refine zZ e1 Bp.cD Bp.d2 Z Z ⟨a.wy,_,_,_,_,Z,ew,Z,.tail _ (.tail _ (.head _)),zZ e1 Bp.cD Bp.d5 Z Z ⟨a.wl,_,Z,.inl (aT.of (h.at (i:=4) Z)),λl hl0=>⟨a.wy,l,_,Z,zi,wn,λw hw=>?_⟩⟩⟩;have s2:=sQ (o:=HO.lst (S.ws.map V.int)) l hl0;exact YJ Bp (G.same s2) ok fr hw λv H' lb' F=>q v H' lb' w ((Fr.same s2).trans F) hw
 ·refine zZ e1 Bp.cD Bp.d2 Z Z ⟨a.wy,_,_,_,_,Z,ew,Z,.head _,zZ e1 Bp.cD Bp.d5 Z Z ⟨a.wl,_,Z,.inl (aT.of (h.at (i:=4) Z)),λl hl0=>⟨a.wy,l,_,Z,zi,wn,λw hw=>?_⟩⟩⟩;have s2:=sQ (o:=HO.lst (S.ws.map V.int)) l hl0;exact YJ Bp (G.same s2) ok fr hw λv H' lb' F=>q v H' lb' w ((Fr.same s2).trans F) hw
 ·refine zZ e1 Bp.cD Bp.d2 Z Z ⟨a.wy,_,_,_,_,Z,ew,Z,.tail _ (.head _),zZ e1 Bp.cD Bp.d5 Z Z ⟨a.wl,_,Z,.inl (aT.of (h.at (i:=4) Z)),λl hl0=>?_⟩⟩;have s2:=sQ (o:=HO.lst (S.ws.map V.int)) l hl0;have h2:=h.same Z s2;have h3:=h2.put (i:=1) (o':=.ins t.q06 a.dw [(bg "times",.int (k+1:Nat))]) Z Z ();have F3:=(Fr.same s2).trans (h2.fput (i:=1) (o':=.ins t.q06 a.dw [(bg "times",.int (k+1:Nat))]) Z ());exact⟨a.wy,l,a.dw,_,k,Z,zi,wn,h2.at (i:=1) Z,λw hw=>YJ Bp ⟨_,cs,kv,la,db,en,h3,qh hh F3 Yf,wF hl F3 (.inr ()),hd,le.fr F3 (.inr ()),.inr (.inr ⟨_,Z⟩)⟩ ok fr hw λv H' lb' F=>q v H' lb' w (F3.m0.trans F) hw⟩
end
section
variable {H':Hp}{lb lb':D->Nat}{m d b u:D}{a:tO}{g:List aP}{cs en:List V}{CC:List (List Cs)}{n f h0 w:Int}{ws db:List Int}{kv la:List (aV×V)}{o o' wo:HO}{i k:Nat}{r:Int}{gi:List aP}{hl:List (Int×Int×Nat×aX)}{S:DS}{v:V}{s:aX}{y:aP}{qa:D}{R:St->Hp->Prop}
theorem zcW(Bp:DkF K t)(h:tE t H d a lb n f g CC S)(ok:sD n f g CC S)(fr:h0 ∉ S.hl.map (·.1))(hm:(f+(S.en:Int),s,gi)∈S.ld)(ag:Agr g S.ls (f+S.en) s.no)(q:mvP t H d a lb n f h0 g CC S Q) :
  vm K t { nx:=λσ H'=>R σ H',rt:=Q } [U (.ref d),U (.int h0),U (.int (f+S.en)),U v] H:=by
 obtain⟨wo,cs,kv,la,db,en,h,hh,hl,hd,le,wy⟩:=h;have e1:H d=U (.ins t.q00 a.dx (YD a n f)):=h.at (i:=0) rfl;have l5:=ok.cc.le;have ln:=ok.len;refine(zZ e1 Bp.cD Bp.d9 Z Z ⟨.inl ⟨Z,_,aT.of (h.at (i:=8) Z)⟩,zZ e1 Bp.cD Bp.d8 Z Z ⟨a.jb,_,_,Z,h.at (i:=2) Z,Z,_,Z,⟨d,a,lb,n,f,wo,cs,S.ws,kv,la,db,en,g,S.ls,S.ld,CC⟩,f+S.en,s,gi,Z,h,hl,hd,ok.nd.2.1.2.1,hm,(ok.nt _ hm).nd,λr H3 lb3 la3 db3 F3 h3 hl3 hd3 hr3=>?_⟩⟩);have l0:=le.le;refine⟨a.en,en,_,Z,Z,h3.at (i:=8) Z,b6 (show en.length<=5 by lia) (by rw[bN];decide),?_⟩;have h4:=h3.put (i:=8) (o':=.lst (en++[.ref r])) Z Z ();have F4':=h3.fput (i:=8) (o':=.lst (en++[.ref r])) Z ();generalize upd H3 a.en (.lst (en++[.ref r]))=H4 at *
 have h4:sM t H4 lb3 (tK t d a n f wo cs S.ws kv la3 db3 (en++[.ref r])) a.mks a.re g S.ls (tz (yg S.ld (f+S.en))) cs CC:=h4;refine⟨_,Z,_,Z,by show 3<=Bb;rw[bN];decide,λp hp=>?_⟩;have s5:=sQ (o:=HO.tup [V.str "settle",V.int h0,V.int (f+S.en)]) p hp;have F5':=F4'.trans (Fr.same s5);have F5:=F3.trans F5';exact q _ _ lb3 _ _ F5.m0 (V0 (e:=.settle (f+S.en)) p zi λ_ z=>nomatch z) (.settle hm ag fr) ⟨wo,cs,kv,la3,db3,en++[.ref r],h4.same Z s5,qh hh F5 Yf,wF hl3 F5' (.inr ()),hd3,⟨by rw[bD,l0];rfl,Paired.snocP (le.fr F5 (.inr ())).ps ⟨r,Z,hr3.fr F5' (.inr ())⟩⟩,wy⟩
theorem zii(k:Nat):(ws.take k++r::ws.drop k).Perm (r::ws):=by
 refine List.perm_middle.trans ?_;rw[dq]
theorem zij(so:ws.Pairwise (· < ·))(nr:r ∉ ws)(h1:∀x∈ws.take k,x<r)(h2:∀x∈ws.drop k,r<=x):(ws.take k++r::ws.drop k).Pairwise (· < ·):=by
 have z:=so;rw[<-dq k ws,gI] at z;refine gI.mpr ⟨z.1,List.pairwise_cons.mpr ⟨λx hx=>?_,z.2.1⟩,λx hx y hy=>?_⟩
 ·have:=h2 x hx;have:r≠x:=λe=>nr (by rw[e];exact de hx);lia
 ·rcases bu.mp hy with rfl|hy
  ·exact h1 x hx
  ·exact z.2.2 x hx y hy
theorem zcX(Bp:DkF K t)(h:tE t H d a lb n f g CC S)(ok:sD n f g CC S)(fr:h0 ∉ S.hl.map (·.1))(hm:(r,s,gi)∈S.ld)(hy:y∈s.no)(hn:ya g S.ls y.1 r≠y.2)(hu:H u=U (.tup [.int r,.ref qa,.int y.2,.int (ya g S.ls y.1 r)]))(hq:H qa=U (.tup [.str y.1.1,.int y.1.2]))(q:mvP t H d a lb n f h0 g CC S Q){o2:Option V} :
  vj K t { nx:=λσ H'=>R σ H',rt:=Q } [U (.ref d),U (.int h0),o2,U (.ref u)] H:=by
 obtain⟨wo,cs,kv,la,db,en,h,hh,hl,hd,le,wy⟩:=h;have l5:=ok.cc.le;have ln:=ok.len;have nr:r ∉ S.ws:=λz=>ok.nd.2.2 r z r (bJ _ (bC (f:=λe:Int×aX×List aP=>e.1) hm)) rfl;refine(zZ (h.at (i:=0) Z) Bp.cD Bp.d8 Z Z ⟨a.jb,_,_,Z,h.at (i:=2) Z,Z,_,Z,u,_,0,_,Z,Z,sN.of hu,Z,⟨d,a,lb,n,f,wo,cs,S.ws,kv,la,db,en,g,S.ls,S.ld,CC⟩,r,s,gi,Z,h,hl,hd,ok.nd.2.1.2.1,hm,(ok.nt _ hm).nd,λr' H3 lb3 la3 db3 F3 h3 hl3 hd3 _=>?_⟩);have h3:sM t H3 lb3 (tK t d a n f wo cs S.ws kv la3 db3 en) a.mks a.re g S.ls (tz (yg S.ld r)) cs CC:=h3;have e3:H3 d=U (.ins t.q00 a.dx (YD a n f)):=h3.at (i:=0) rfl;have hu3:=F3.ts _ _ hu;refine(zZ e3 Bp.cD Bp.d5 Z Z ⟨.inl ⟨Z,_,aT.of (h3.at (i:=4) Z)⟩,zZ e3 Bp.cD Bp.d5 Z Z ⟨_,Z,u,_,0,_,Z,Z,sN.of hu3,Z,a.wl,S.ws,r,Z,h3.at (i:=4) Z,ok.so,λk H4 s4 hk k1 k2=>?_⟩⟩);have h4:=h3.same Z s4;have hu4:=s4 _ _ hu3;refine⟨_,Z,u,_,0,_,Z,Z,sN.of hu4,Z,a.wl,_,k,_,Z,Z,h4.at (i:=4) Z,by rw[bf];exact hk,by rw[bf];lia,?_⟩;have em:(S.ws.map V.int).take k++V.int r::(S.ws.map V.int).drop k=(S.ws.take k++r::S.ws.drop k).map V.int:=by rw[bQ,bt,m8,m7]
 rw[em];have h5:=h4.put (i:=4) (o':=.lst ((S.ws.take k++r::S.ws.drop k).map V.int)) Z Z ();have F5':=(Fr.same s4).trans (h4.fput (i:=4) (o':=.lst ((S.ws.take k++r::S.ws.drop k).map V.int)) Z ());generalize upd H4 a.wl (.lst ((S.ws.take k++r::S.ws.drop k).map V.int))=H5 at *
 have h5:sM t H5 lb3 (tK t d a n f wo cs (S.ws.take k++r::S.ws.drop k) kv la3 db3 en) a.mks a.re g S.ls (tz (yg S.ld r)) cs CC:=h5;refine⟨_,Z,by show 2<=Bb;rw[bN];decide,λp1 hp1=>?_⟩;generalize c_:upd H5 p1 _=H6;obtain⟨s6,e6⟩:=yG c_ hp1;refine⟨_,Z,p1,u,_,_,Z,Z,sN.of e6,sN.of (s6 _ _ (F5'.ts _ _ hu3)),(),by show 2+4<=Bb;rw[bN];decide,(),λ_ p hp=>?_⟩;have s7:=sQ (o:=HO.tup [V.str "again",V.int h0,V.int r,V.ref qa,V.int y.2,V.int (ya g S.ls y.1 r)]) p hp;have F7':=F5'.trans (Fr.same (s6.trans s7));have F7:=F3.trans F7';exact q _ _ lb3 _ _ F7.m0 (V0 (e:=.again r y.1 y.2 _) qa zi λp e=>by cases e;exact F7.ts _ _ hq) (.again hm hy hn (zii k) (zij ok.so nr k1 k2) fr) ⟨wo,cs,kv,la3,db3,en,h5.same Z (s6.trans s7),qh hh F7 Yf,wF hl3 F7' (.inr ()),hd3,le.fr F7 (.inr ()),wy⟩
theorem zgT(Bp:DkF K t)(h:tE t H d a lb n f g CC S)(ok:sD n f g CC S)(fr:h0 ∉ S.hl.map (·.1))(hm:f+(S.en:Int) ∉ S.ld.map (·.1))(q:mvP t H d a lb n f h0 g CC S Q){o2 o3:Option V} :
  vn K t (sH Q) [U (.ref d),U (.int h0),o2,o3] H:=by
 have G:=h;obtain⟨wo,cs,kv,la,db,en,h,_⟩:=h;refine(zZ (h.at (i:=0) Z) Bp.cD Bp.d5 Z Z ⟨by show 0<=Bb;exact bS _,λz hz=>?_⟩);have s3:=sQ (o:=HO.lst []) z hz;have h3:=h.same Z s3;have G3:=G.same s3;refine⟨a.wl,z,_,Z,Z,aT.of (h3.at (i:=4) Z),aT.of zi,_,Z,?_⟩;generalize upd H z (.lst [])=H3 at *
 cases ew:S.ws with
 |nil =>
  refine ym Z ⟨_,Z,by show 2<=Bb;rw[bN];decide,λp hp=>?_⟩;have s4:=sQ (o:=HO.tup [V.str "rest",V.int h0]) p hp;exact q _ _ lb _ _ (Fr.same (s3.trans s4)) (V0 (e:=.rest) p zi λ_ z=>nomatch z) (.rest ew hm fr) (G3.same s4)
 |cons x xs=>exact yE Z (xR (h3.at (i:=0) Z) Z Z ⟨_,Z,d,a,lb,n,f,h0,g,CC,S,Z,G3,ok,fr,(by rw[ew];exact λz=>nomatch z),λv H4 lb4 r F4 hr ev G4=>q v H4 lb4 _ _ ((Fr.same s3).trans F4) ev (.take hr fr) G4⟩)
theorem ZW{vs:List V}{_E:XK}(Bp:DkF K t)(h:xX t vs H Q _E) :
  jd K t (sH Q) (L2.start ["self","hand","lowest","changed"] vs) H:=by
 obtain⟨d,a,lb,n,f,h0,g,CC,S,rfl,h,ok,fr,q⟩:=h;obtain⟨wo,cs,kv,la,db,en,h,hh,hl,hd,le,wy⟩:=h;have l5:=ok.cc.le;have ln:=ok.len;have e1:H d=U (.ins t.q00 a.dx (YD a n f)):=h.at (i:=0) rfl;have nn:∀e∈S.ld,0<=e.1:=λe he=>by
  obtain⟨j,z,_⟩:=ok.rl (bC (f:=λe:Int×aX×List aP=>e.1) he);have:=ok.f0;lia
 refine(xR e1 Z Z ⟨d,_,a,n,f,en,Z,e1,h.at (i:=8) Z,?_⟩);rw[le.le];have gt:∀ {H2 db2},Fr M1 H H2 lb lb->sM t H2 lb (tK t d a n f wo cs S.ws kv la db2 en) a.mks a.re g S.ls (tz S.ld) cs CC->DbA g S.ls S.ld db2->tE t H2 d a lb n f g CC S/\mvP t H2 d a lb n f h0 g CC S Q:=λF2 h2 hd2=>⟨⟨wo,cs,kv,la,_,en,h2,qh hh F2 Yf,wF hl F2 (.inr ()),hd2,le.fr F2 (.inr ()),wy⟩,λv H' lb' e S' F=>q v H' lb' e S' (F2.m0.trans F)⟩;have dg:∀ {H2 db2},sM t H2 lb (tK t d a n f wo cs S.ws kv la db2 en) a.mks a.re g S.ls (tz S.ld) cs CC->sR H2 a.la (.int (f+S.en)) (yf la (.inl (f+S.en))):=λh2=>.k (k:=.inl (f+(S.en:Int))) (h2.at (i:=6) Z);refine(zZ e1 Bp.cD Bp.d8 Z Z ⟨a.jb,_,_,Z,h.at (i:=2) Z,Z,⟨d,a,lb,n,f,wo,cs,S.ws,kv,la,db,en,g,S.ls,S.ld,CC⟩,Z,h,hl,hd,show S.ld.length<=10 by lia,ok.nd.2.1.2.1,nn,λH2 F2 h2 hd2=>?_,λv H2 db2 qa r s gi y F2 h2 hd2 lo hm hy hn hv hq=>?_⟩)
 ·obtain⟨G2,q2⟩:=gt F2 h2 hd2;refine⟨_,Z,zZ (h2.at (i:=0) Z) Bp.cD Bp.d8 Z Z ⟨a.jb,_,_,_,_,Z,h2.at (i:=2) Z,Bp.cJ,Bp.j2,Z,a.la,_,Z,dg h2,_,Z,?_⟩⟩;rcases hl.get (h:=f+(S.en:Int)) with ⟨z,nm⟩|⟨v,b,z,m,_⟩
  ·rw[z];exact ym Z (ym Z ⟨_,Z,Z,_,Z,ym Z (zgT Bp G2 ok fr nm q2)⟩)
  ·rw[z];exact yE Z ⟨_,Z,Z,_,Z,yE Z (yE Z (zcW Bp G2 ok fr m (hd2.ag _ m λz=>nomatch z) q2))⟩
 ·obtain⟨G2,q2⟩:=gt F2 h2 hd2;refine⟨_,Z,zZ (h2.at (i:=0) Z) Bp.cD Bp.d8 Z Z ⟨a.jb,_,_,_,_,Z,h2.at (i:=2) Z,Bp.cJ,Bp.j2,Z,a.la,_,Z,dg h2,_,Z,?_⟩⟩;rcases hl.get (h:=f+(S.en:Int)) with ⟨z,nm⟩|⟨w,b,z,m,_⟩
  ·rw[z];exact ym Z (ym Z ⟨_,Z,Z,_,Z,yE Z (zcX Bp G2 ok fr hm hy hn hv hq q2)⟩)
  ·rw[z];refine yE Z ⟨_,Z,Z,_,Z,ym Z ⟨_,Z,v,_,0,_,Z,Z,sN.of hv,Z,_,Z,Z,_,Z,?_⟩⟩;by_cases c:r=f+S.en
   ·refine ym (by rw[Bj (congrArg V.int c)];rfl) ?_;exact⟨_,Z,Z,_,Z,yE Z (zcX Bp G2 ok fr hm hy hn hv hq q2)⟩
   ·refine yE (by rw[Bk (λe=>c (V.int.inj e))];rfl) (zcW Bp G2 ok fr m (hd2.ag _ m λz=>c ?_) q2);obtain⟨j,e,jl,_⟩:=ok.rl (bC (f:=λe:Int×aX×List aP=>e.1) hm);have e:r=f+j:=e;have:=lo _ z;lia
end
section
variable {H':Hp}{lb lb':D->Nat}{Bo:List (D×HO)}{m re d b tp x:D}{a:tO}{ra:RAd}{g:List aP}{lays:List (Int×List aP)}{P:Pl->Int->Prop}{cs en:List V}{CC:List (List Cs)}{C:List Cs}{n f h0 r:Int}{db:List Int}{kv la:List (aV×V)}{wo:HO}{i j k:Nat}{gi:List aP}{hl:List (Int×Int×Nat×aX)}{S:DS}{v:V}{s s':aX}{M:Nat->Prop}{R:St->Hp->Prop}
theorem Kp.ts(R:hV t H x ra C s)(k:Kp x ra H H'):TSm H H':=λb zs e=>k b _ (λy=>by
 rcases y with y|y|y|y|y
 ·rw[y,R.ix] at e;cases e
 ·rw[y,R.hs] at e;cases e
 ·rw[y,R.hg] at e;cases e
 ·rw[y,R.hn] at e;cases e
 ·rw[y,R.ha] at e;cases e) e
theorem zgU(R:hV t H x ra C s)(R':hV t H' x ra C s')(l:∀b,OwA x ra b->lb b=N)(k:Kp x ra H H'):Fr (λl=>l≠N) H H' lb lb:=⟨λ_ _ _=>rfl,λb o z e=>k b o (λy=>z (l b (.inl y))) e,Kp.ts R k,λb o e=>by
 by_cases y:OwA x ra b
 ·cases e:H' b with
  |none=>exact absurd e (R'.has y)
  |some o=>exact⟨o,Z⟩
 ·exact⟨o,k b o (λz=>y (.inl z)) e⟩⟩
theorem sM.step(hN:20<=N)(h:sM t H lb Bo m re g lays P cs CC)(ll:Bo.length=9)(R:hV t H x ra C s)(R':hV t H' x ra C s')(l:∀b,OwA x ra b->lb b=N)(k:Kp x ra H H'):Fr (λl=>l≠N) H H' lb lb/\sM t H' lb Bo m re g lays P cs CC:=
 have F:=zgU R R' l k
 ⟨F,h.keep ll (λb o _ z e=>F.kp b o (show lb b≠N by lia) e) F.ts F.al⟩
structure MvI(t:bv)(H:Hp)(d:D)(a:tO)(lb:D->Nat)(n f h0:Int)(g:List aP)(CC:List (List Cs))(S:DS)(wo:HO)(cs:List V)(kv la:List (aV×V))(db:List Int)(en:List V)(r:Int)(j:Nat)(s:aX)(tp x:D)(ra:RAd)(C:List Cs):Prop where
 o:sM t H lb (tK t d a n f wo cs S.ws kv la db en) a.mks a.re g S.ls (tz S.ld) cs CC
 hh:Pk (HdAt t H lb f CC) kv S.hl
 hl:Pk (YE H lb) la S.ld
 hd:DbA g S.ls S.ld db
 le:EnI H lb en S.en S.es
 wy:zhW t a wo
 hm:(h0,r,j,s)∈S.hl
 hv:yf kv (.inl h0)=U (.ref tp)
 ht:H tp=U (.tup [.int r,.ref x])
 ec:CC[(r-f).toNat]?=U C
 rn:hV t H x ra C s
 l20:∀b,OwA x ra b->lb b=20+h0.toNat
theorem MvI.same(h:MvI t H d a lb n f h0 g CC S wo cs kv la db en r j s tp x ra C)(k:aL H H'):MvI t H' d a lb n f h0 g CC S wo cs kv la db en r j s tp x ra C :=
 ⟨h.o.same Z k,qh h.hh (Fr.same (M:=M1) k) Yf,wF h.hl (Fr.same (M:=M1) k) (.inr ()),h.hd,h.le.fr (Fr.same (M:=M1) k) (.inr ()),h.wy,h.hm,h.hv,k _ _ h.ht,h.ec,h.rn.same k,h.l20⟩
theorem MvI.step(h:MvI t H d a lb n f h0 g CC S wo cs kv la db en r j s tp x ra C)(ok:sD n f g CC S)(R':hV t H' x ra C s')(k:Kp x ra H H'):Fr M0 H H' lb lb/\tE t H' d a lb n f g CC { S with hl:=XX S.hl h0 (r,j+1,s') }:=by
 obtain⟨F,h'⟩:=h.o.step (N:=20+h0.toNat) () Z h.rn R' h.l20 k;have h0p:=(ok.hr _ h.hm).1;have h0p:0<=h0:=h0p;refine⟨F.mono λl z=>by unfold M0 at z;lia,wo,cs,kv,la,db,en,h',h.hh.set ok.hn (λk v b' m z y=>y.fr F ?_) (λv z=>?_),wF h.hl F (),h.hd,h.le.fr F (),h.wy⟩
 ·have:=(ok.hr _ m).1;have:0<=k:=this;lia
 ·rw[h.hv] at z;cases z;exact⟨tp,x,ra,C,Z,F.ts _ _ h.ht,h.ec,R',h.l20⟩
theorem zdI(Bp:DkF K t)(h:MvI t H d a lb n f h0 g CC S wo cs kv la db en r j s tp x ra C)(ok:sD n f g CC S)(ho:yq C s=af)(q:mvP t H d a lb n f h0 g CC S Q) :
  Zs K t { nx:=λσ H'=>R σ H',rt:=Q } [U (.ref d),U (.int h0),U (.int r),U (.ref x),o4,o5] H:=by
 have eh:=h.o.at (i:=5) rfl;have l5:=ok.cc.le;have ln:=ok.len;obtain⟨C',ec',I,j11⟩:=ok.rn _ h.hm;obtain rfl:C'=C:=bP (ec'.symm.trans h.ec);obtain⟨k,rk,_,kl⟩:=ok.rh h.hm;have rk:r=f+k:=rk;have f0:=ok.f0;refine(zZ (h.o.at (i:=0) Z) Bp.cD Bp.d6 Z Z ⟨a.hd,Z,.inl ⟨_,.inl eh⟩,_,Z,_,.inl h0,_,eh,Z,h.hv,?_⟩);have h3:=h.o.put (i:=5) (o':=.dK (yp kv (.inl h0))) Z Z ();have F3:=h.o.fput (i:=5) (o':=.dK (yp kv (.inl h0))) Z ();generalize upd H a.hd (.dK (yp kv (.inl h0)))=H3 at *
 have h3:sM t H3 lb (tK t d a n f wo cs S.ws (yp kv (.inl h0)) la db en) a.mks a.re g S.ls (tz S.ld) cs CC:=h3;obtain⟨R3,_⟩:=h.rn.fr h.l20 F3 (Yf _);have l2:s.gi.length<=j:=I.ok.l2;have l3:s.no.length<=j:=I.ok.l3;have j11:j<=11:=j11;refine(zZ (h3.at (i:=0) Z) Bp.cD Bp.d8 Z Z ⟨a.jb,_,_,Z,h3.at (i:=2) Z,Z,_,Z,xR R3.ix Z Z ⟨x,ra,C',s,Z,R3,(),I.ok.nd,(),(λH' z=>by rw[ho] at z;cases z),λr' o nl gl out H4 _ s4 hnl hgl _ hr oc hn hg gi=>?_⟩⟩);obtain⟨lb4,F4,h4,l14⟩:=h3.relab (M:=M1) (N:=λb=>b=nl\/b=gl) 14 () s4 λb z=>by
  obtain⟨xs,hx,_⟩:=id hn;obtain⟨ys,hy,_⟩:=id hg;rcases z with rfl|rfl
  ·exact⟨hnl,_,hx⟩
  ·exact⟨hgl,_,hy⟩
 have hP:tG H4 lb4 r' s out:=⟨o,nl,gl,hr,oc,hn,hg,l14 _ (.inl Z),l14 _ (.inr Z)⟩;have lo:out.length<=s.gi.length:=zb8 gi;have nt:zb5 s.no out:=⟨I.ok.nd,zhh gi,(),()⟩;have ll:S.ls.length<=5:=by
  have:=xK (b:=vN f 0 CC.length) h.o.ms.nd λx hx=>by
   obtain⟨y,hy,rfl⟩:=bG.mp hx;have:=ok.ly y hy;exact rks_mem.mpr ⟨(y.1-f).toNat,(),(),()⟩
  unfold vN at this;rw[bf,bf,mJ] at this;lia
 have nr:r ∉ S.ld.map (·.1):=λz=>ok.nd.2.1.2.2 r (bC (f:=λe:Int×Int×Nat×aX=>e.2.1) h.hm) r z rfl;have F34:=F3.trans F4;refine⟨⟨d,a,lb4,n,f,wo,cs,S.ws,_,la,db,en,g,S.ls,S.ld,CC⟩,r',r,s,out,Z,h4,wF h.hl F34 (.inr ()),h.hd,ok.nt,show S.ld.length<=10 by lia,nr,show 0<=r by lia,show S.ls.length<=10 by lia,hP,nt,λH5 lb5 la5 db5 F5 h5 hl5 hd5=>?_⟩;refine⟨_,Z,_,Z,by show 3<=Bb;rw[bN];decide,λp hp=>?_⟩;have s6:=sQ (o:=HO.tup [V.str "lay",V.int h0,V.int r]) p hp;have F6:=F34.trans (F5.trans (Fr.same s6));exact q _ _ lb5 _ _ F6.m0 (V0 (e:=.lay r) p zi λ_ z=>nomatch z) (.lay h.hm h.ec ho gi) ⟨wo,cs,_,la5,db5,en,h5.same Z s6,(qh h.hh F6 Yf).drop,wF hl5 (Fr.same (M:=M1) s6) (.inr ()),hd5,h.le.fr F6 (.inr ()),h.wy⟩
theorem zdJ(Bp:DkF K t)(h:MvI t H d a lb n f h0 g CC S wo cs kv la db en r j s tp x ra C)(ok:sD n f g CC S)(ho:yq C s=ao)(q:mvP t H d a lb n f h0 g CC S Q) :
  Zt K t (sH Q) [U (.ref d),U (.int h0),U (.int r),U (.ref x),ak,ak] H:=by
 obtain⟨C',ec',I,j11⟩:=ok.rn _ h.hm;obtain rfl:C'=C:=bP (ec'.symm.trans h.ec);obtain⟨O,lC⟩:=ok.cc.ok C' (bT h.ec);obtain⟨k,rk,_,kl⟩:=ok.rh h.hm;have rk:r=f+k:=rk;have f0:=ok.f0;have j11:j<=11:=j11;refine(xR h.rn.ix Z Z ⟨x,ra,C',s,Z,h.rn,O.ok,I.ok.so,λH3 ha s3=>?_,λp q1 H3 ha s3 hq=>?_⟩)
 ·have h3:=h.same s3;refine⟨_,Z,Z,_,Z,yE Z (xR h3.rn.ix Z Z ⟨x,0,j,ra,C',s,Z,h3.rn,O.ok,I.ok,(),λH4 k4 R4=>?_⟩)⟩;obtain⟨F4,G4⟩:=h3.step ok R4 k4;refine⟨_,Z,_,Z,by show 3<=Bb;rw[bN];decide,λp hp=>?_⟩;have s6:=sQ (o:=HO.tup [V.str "step",V.int h0,V.int r]) p hp;exact q _ _ lb _ _ ((Fr.same s3).trans (F4.trans (Fr.same s6))) (V0 (e:=.step r) p zi λ_ z=>nomatch z) (.step h.hm h.ec ho ha) (G4.same s6)
 ·have h3:=h.same s3;obtain⟨_,_,im,_,sn,_⟩:=h3.o.ms.ins;refine⟨_,Z,Z,_,Z,ym Z (zZ (h3.o.at (i:=0) Z) Bp.cD Bp.d7 Z Z ⟨a.mks,_,_,Z,im,sn,_,Z,_,Z,a.mks,q1,r,_,g,S.ls,p,Z,h3.o.ms,(),hq,λH4 s4=>?_⟩)⟩;have h4:=h3.same s4;refine(xR h4.rn.ix Z Z ⟨_,Z,x,ya g S.ls p r,j,ra,C',s,Z,h4.rn,O.ok,I.ok,(),λH5 k5 R5=>?_⟩);obtain⟨F5,G5⟩:=h4.step ok R5 k5;refine⟨_,Z,_,Z,_,Z,_,Z,by show 5<=Bb;rw[bN];decide,λp' hp=>?_⟩;have s6:=sQ (o:=HO.tup [V.str "read",V.int h0,V.int r,V.ref q1,V.int (ya g S.ls p r)]) p' hp;exact q _ _ lb _ _ ((Fr.same (s3.trans s4)).trans (F5.trans (Fr.same s6))) (V0 (e:=.read r p _) q1 zi λp e=>by cases e;exact s6 _ _ (F5.ts _ _ (s4 _ _ hq))) (.read h.hm h.ec ho ha) (G5.same s6)
theorem JC{vs:List V}{_E:XK}(Bp:DkF K t)(h:xN t vs H Q _E) :
  Xh K t (sH Q) (L2.start ["self","hand","rank","run","place","worth"] vs) H:=by
 obtain⟨d,a,lb,n,f,h0,g,CC,S,rfl,h,ok,p0,pn,q⟩:=h;have G:=h;obtain⟨wo,cs,kv,la,db,en,h,hh,hl,hd,le,wy⟩:=h;have e1:H d=U (.ins t.q00 a.dx (YD a n f)):=h.at (i:=0) rfl;have eh:H a.hd=U (.dK kv):=h.at (i:=5) rfl;refine⟨_,Z,_,_,Z,Z,_,Z,ym (Bk ()) ⟨_,Z,zZ e1 Bp.cD Bp.d1 Z Z ⟨_,_,Z,Z,_,Z,ym (Bk ()) ⟨_,Z,zZ e1 Bp.cD Bp.d6 Z Z ⟨a.hd,_,Z,.k (k:=.inl h0) eh,_,Z,?_⟩⟩⟩⟩⟩;rcases hh.get (h:=h0) with ⟨z,nm⟩|⟨v,⟨r,j,s⟩,z,hm,tp,x,ra,C,rfl,ht,ec,R,l20⟩
 ·rw[z];exact yE Z (xR e1 Z Z ⟨_,Z,d,a,lb,n,f,h0,g,CC,S,Z,G,ok,nm,q⟩)
 ·have dg:sR H a.hd (.int h0) (U (.ref tp)):=by
   have y:=sR.k (k:=.inl h0) eh
   rwa [z] at y
  rw[z];refine ym Z (zZ e1 Bp.cD Bp.d6 Z Z ⟨_,Z,a.hd,_,Z,dg,tp,_,0,_,Z,Z,sN.of ht,Z,?_⟩);refine(zZ e1 Bp.cD Bp.d6 Z Z ⟨_,Z,a.hd,_,Z,dg,tp,_,1,_,Z,Z,sN.of ht,Z,?_⟩);refine(xR R.ix Z Z ⟨x,ra,C,s,Z,R,λH2 s2=>⟨_,Z,?_⟩⟩);have I:MvI t H2 d a lb n f h0 g CC S wo cs kv la db en r j s tp x ra C:=MvI.same ⟨h,hh,hl,hd,le,wy,hm,z,ht,ec,R,l20⟩ s2;have q2:mvP t H2 d a lb n f h0 g CC S Q:=λv H' lb' e S' F=>q v H' lb' e S' ((Fr.same s2).trans F);cases ho:yq C s with
  |true=>exact yE Z (zdI Bp I ok ho q2)
  |false=>exact ym Z (zdJ Bp I ok ho q2)
end
structure PO(H0:Hp)(x w:D)(ox:HO)(H:Hp)(lb:D->Nat)(F:D->Prop)(E:List (Nat×D×HO)):Prop where
 hx:H x=U ox
 lx:lb x=1
 ob:∀e∈E,1<e.1/\H e.2.1=U e.2.2/\lb e.2.1=e.1
 ow:∀b,lb b≠0->∃o,H b=U o
 kp:Kk x H0 H
 fr:∀b,lb b≠0->b=x\/b=w\/H0 b=ak
 f10:∀b,lb b=10↔F b
section
variable {H0 H':Hp}{x w c:D}{ox o:HO}{lb:D->Nat}{E:List (Nat×D×HO)}{n:Nat}{N F:D->Prop}
theorem PO.put(h:PO H0 x w ox H lb F E)(o:HO):PO H0 x w o (upd H x o) lb F E:=by
 refine⟨zi,h.lx,λe he=>?_,λb z=>?_,λb u z e=>by rw[zl z];exact h.kp b u z e,h.fr,h.f10⟩
 ·obtain⟨h1,h2,h3⟩:=h.ob e he;exact⟨h1,by rw[zl (λy=>by rw[y,h.lx] at h3;lia)];exact h2,h3⟩
 ·obtain⟨u,e⟩:=h.ow b z;exact VW b u e
theorem PO.same(h:PO H0 x w ox H lb F E)(s:aL H H'):PO H0 x w ox H' lb F E:=⟨s _ _ h.hx,h.lx,λe he=>let ⟨h1,h2,h3⟩:=h.ob e he;⟨h1,s _ _ h2,h3⟩,λb z=>let ⟨o,e⟩:=h.ow b z;⟨o,s _ _ e⟩,λb o z e=>s _ _ (h.kp b o z e),h.fr,h.f10⟩
theorem PO.l0(h:PO H0 x w ox H lb F E)(hc:H c=ak):lb c=0/\H0 c=ak:=by
 have nx:c≠x:=λz=>by rw[z,h.hx] at hc;cases hc
 refine⟨eC (λz=>by obtain⟨o,e⟩:=h.ow c z;rw[hc] at e;cases e),?_⟩;cases e:H0 c with
 |none=>rfl
 |some u=>have:=h.kp c u nx e;rw[hc] at this;cases this
open Classical in
theorem PO.lab{F':D->Prop}(h:PO H0 x w ox H lb F E)(n:Nat)(hF:∀b,(N b/\n=10\/F b)↔F' b)(hN:∀b,N b->lb b=0/\H0 b=ak/\∃o,H b=U o):∃lb',PO H0 x w ox H lb' F' E/\(∀b,N b->lb' b=n)/\∀b,¬ N b->lb' b=lb b:=by
 have e0:∀b,lb b≠0->¬ N b:=λb z y=>z (hN b y).1;refine⟨λb=>if N b then n else lb b,⟨h.hx,(am (e0 x (by rw[h.lx];decide))).trans h.lx,λe he=>?_,λb z=>?_,h.kp,λb z=>?_,λb=>?_⟩,λb z=>aq z,λb z=>am z⟩
 ·obtain⟨h1,h2,h3⟩:=h.ob e he;by_cases y:N e.2.1
  ·have:=(hN _ y).1;lia
  ·exact⟨h1,h2,(am y).trans h3⟩
 ·by_cases y:N b
  ·exact(hN b y).2.2
  ·exact h.ow b (λw=>z ((am y).trans w))
 ·by_cases y:N b
  ·exact .inr (.inr (hN b y).2.1)
  ·exact h.fr b (λw=>z ((am y).trans w))
 ·rw[<-hF,<-h.f10];by_cases y:N b
  ·rw[aq y,(hN b y).1];simp[y]
  ·rw[am y];simp[y]
theorem PO.new(h:PO H0 x w ox H lb F E)(n:Nat)(n1:1<n)(n2:n≠10)(hc:H c=ak):∃lb',PO H0 x w ox (upd H c o) lb' F ((n,c,o)::E):=by
 obtain⟨l0,f0⟩:=h.l0 hc;obtain⟨lb',h',e1,e2⟩:=(h.same (sQ c hc (o:=o))).lab (N:=λb=>b=c) n (λb=>⟨λz=>z.resolve_left λy=>n2 y.2,.inr⟩) λb z=>by rw[z];exact⟨l0,f0,_,zi⟩
 exact⟨lb',h'.hx,h'.lx,λe he=>by
  rcases bu.mp he with rfl|he
  ·exact⟨n1,zi,e1 c Z⟩
  ·exact h'.ob e he,h'.ow,h'.kp,h'.fr,h'.f10⟩
open Classical in
theorem PO.init(h:H0 x=U o)(hw:∃u,H0 w=U u):∃lb,PO H0 x w o H0 lb (λ_=>False) []/\(w≠x->lb w=2)/\∀b,b≠x->b≠w->lb b=0:=by
 refine⟨λb=>if b=x then 1 else if b=w then 2 else 0,⟨h,aq Z,(λe he=>nomatch he),λb z=>?_,λb u _ e=>e,λb z=>?_,λb=>?_⟩,λz=>(am z).trans (aq Z),λb z y=>(am z).trans (am y)⟩
 ·by_cases y:b=x
  ·rw[y];exact⟨_,h⟩
  ·by_cases v:b=w
   ·rw[v];exact hw
   ·rw[am y,am v] at z;exact absurd Z z
 ·by_cases y:b=x
  ·exact .inl y
  ·by_cases v:b=w
   ·exact .inr (.inl v)
   ·rw[am y,am v] at z;exact absurd Z z
 ·by_cases y:b=x
  ·rw[aq y];simp
  ·by_cases v:b=w
   ·rw[am y,aq v];simp
   ·rw[am y,am v];simp
section
variable {C dx:D}{fs:List (Str×V)}{fl:Str}{y:V}{σ:St}{Bp:Ja}{k:Nat}
theorem PO.st(P:PO H0 x w (.ins C dx fs) H lb F E)(h0:σ[0]?=U (U (.ref x)))(c:tD K C)(n:aQ K C fl)(hl:fs.length<1000)(q:∀H',PO H0 x w (.ins C dx (vG fl y fs)) H' lb F E->Bp.nx σ H'):B 0 σ H λx' H2=>∃a C dx fs,x'=.ref a/\H2 a=U (.ins C dx fs)/\tD K C/\aQ K C fl/\fs.length<1000/\Bp.nx σ (upd H2 a (.ins C dx (vG fl y fs))):=⟨_,h0,x,C,dx,fs,Z,P.hx,c,n,hl,q _ (P.put _)⟩
theorem PO.stM(M:sS t H m F g [])(P:PO H0 x w (.ins C dx fs) H lb F E)(h0:σ[0]?=U (U (.ref x)))(c:tD K C)(n:aQ K C fl)(hl:fs.length<1000)(q:∀H',PO H0 x w (.ins C dx (vG fl y fs)) H' lb F E->sS t H' m F g []->Bp.nx σ H'):B 0 σ H λx' H2=>∃a C dx fs,x'=.ref a/\H2 a=U (.ins C dx fs)/\tD K C/\aQ K C fl/\fs.length<1000/\Bp.nx σ (upd H2 a (.ins C dx (vG fl y fs))):=⟨_,h0,x,C,dx,fs,Z,P.hx,c,n,hl,q _ (P.put _) (M.keep (λb o fb e=>by rw[zl (λz=>by have:=(P.f10 b).mpr fb;rw[z,P.lx] at this;cases this)];exact e) (ZA P.hx λ_ z=>nomatch z))⟩
theorem PO.sv(P:PO H0 x w (.ins C dx fs) H lb F E)(h0:σ[0]?=U (U (.ref x)))(h1:σ[k]?=U (U y))(c:tD K C)(n:aQ K C fl)(hl:fs.length<1000)(q:∀H',PO H0 x w (.ins C dx (vG fl y fs)) H' lb F E->Bp.nx σ H'):xT K (B 0) (B k) fl Bp σ H:=⟨_,h1,P.st h0 c n hl q⟩
theorem PO.so(o:HO)(m:Nat)(m1:1<m)(m2:m≠10)(P:PO H0 x w (.ins C dx fs) H lb F E)(h0:σ[0]?=U (U (.ref x)))(c:tD K C)(n:aQ K C fl)(hl:fs.length<1000)(q:∀c H' lb',PO H0 x w (.ins C dx (vG fl (.ref c) fs)) H' lb' F ((m,c,o)::E)->Bp.nx σ H')(p:D)(hp:H p=ak):B 0 σ (upd H p o) λx' H2=>∃a C dx fs,x'=.ref a/\H2 a=U (.ins C dx fs)/\tD K C/\aQ K C fl/\fs.length<1000/\Bp.nx σ (upd H2 a (.ins C dx (vG fl (.ref p) fs))):=by
 obtain⟨lb',P'⟩:=P.new (o:=o) m m1 m2 hp;exact P'.st h0 c n hl λH'=>q p H' lb'
end
theorem JE{l dx:D}{xs:List V}{C:List Cs}(F:RnF K t)(h1:H x=U (.ins t.q01 dx []))(h2:H l=U (.lst xs))(h3:Paired (sT H) xs C)(q:∀H' a,Kk x H H'->hV t H' x a C st0->(∀b,OwA x a b->b=x\/H b=ak)->Q .non H') :
  Zo K t (sH Q) (L2.start ["self","code"] [.ref x,.ref l]) H:=by
 obtain⟨lb,P,_⟩:=PO.init h1 ⟨_,h1⟩;unfold Zo zo;refine⟨_,Z,l,xs,Z,.inl (aT.of h2),P.so (.lst xs) 2 () () Z F.cl F.n1 () λco H1 lb1 P=>P.st Z F.cl F.n2 (by show 1<1000;decide) λH2 P=>P.st Z F.cl F.n3 (by show 2<1000;decide) λH3 P=>P.so (.dK []) 3 () () Z F.cl F.n4 (by show 3<1000;decide) λsl H4 lb4 P=>P.so (.dT []) 4 () () Z F.cl F.n5 (by show 4<1000;decide) λgi H5 lb5 P=>P.so (.dT []) 5 () () Z F.cl F.n6 (by show 5<1000;decide) λno H6 lb6 P=>⟨(),P.so (.lst []) 6 () () Z F.cl F.n7 (by show 6<1000;decide) λsa H7 lb7 P=>?_⟩⟩;have ob:∀n c o,(n,c,o)∈_->H7 c=U o/\lb7 c=n:=λn c o z=>(P.ob (n,c,o) z).2;have o2:=ob 2 co _ (.tail _ (.tail _ (.tail _ (.tail _ (.head _)))));have o3:=ob 3 sl _ (.tail _ (.tail _ (.tail _ (.head _))));have o4:=ob 4 gi _ (.tail _ (.tail _ (.head _)));have o5:=ob 5 no _ (.tail _ (.head _));have o6:=ob 6 sa _ (.head _);have nx:∀ {n:Nat} {b:D},lb7 b=n+2->b=x\/H b=ak:=λ{n b} z=>(P.fr b ()).imp id λy=>y.elim (λy=>by rw[y,P.lx] at z;lia) id;refine q H7 ⟨dx,co,sl,gi,no,sa⟩ P.kp ⟨P.hx,⟨xs,o2.1,xZ (λb zs e=>P.kp _ _ (zJ e h1 ()) e) h3⟩,o3.1,o4.1,o5.1,o6.1,λz=>by rw[show gi=no from z,o5.2] at o4;exact absurd o4.2 (),λz=>by rw[show co=sa from z,o6.2] at o2;exact absurd o2.2 ()⟩ λb z=>?_;rcases z with (z|z|z|z|z)|z
 ·exact .inl z
 ·rw[z];exact nx o3.2
 ·rw[z];exact nx o4.2
 ·rw[z];exact nx o5.2
 ·rw[z];exact nx o6.2
 ·rw[z];exact nx o2.2
theorem JF{vs:List V}{_E:XK}(Bp:DkF K t)(h:k8 t vs H Q _E) :
  qc K t (sH Q) (L2.start ["self","makes"] vs) H:=by
 obtain⟨x,m,dx,rfl,h1,q⟩:=h;obtain⟨lb,P,_⟩:=PO.init h1 ⟨_,h1⟩;unfold qc zo;refine P.sv Z Z Bp.cJ Bp.j1 () λH1 P=>P.so (.dK []) 7 () () Z Bp.cJ Bp.j2 (by show 1<1000;decide) λla H2 lb2 P=>P.so (.dT []) 11 () () Z Bp.cJ Bp.j3 (by show 2<1000;decide) λre H3 lb3 P=>P.so (.dK []) 8 () () Z Bp.cJ Bp.j4 (by show 3<1000;decide) λdb H7 lb6 P7=>?_;have go:∀n c o,(n,c,o)∈[(8,db,HO.dK []),(11,re,.dT []),(7,la,.dK [])]->H7 c=U o/\H c=ak/\lb6 c=n:=λn c o z=>by
  obtain⟨h1,h2,h3⟩:=P7.ob _ z;have h1:1<n:=h1;have h3:lb6 c=n:=h3;rcases P7.fr c () with y|y|y
  ·rw[y,P7.lx] at h3;lia
  ·rw[y,P7.lx] at h3;lia
  ·exact⟨h2,y,h3⟩
 obtain⟨a1,a2,a3⟩:=go 7 la _ (.tail _ (.tail _ (.head _)));obtain⟨b1,b2,b3⟩:=go 11 re _ (.tail _ (.head _));obtain⟨c1,c2,c3⟩:=go 8 db _ (.head _);exact q _ la re db P7.kp P7.hx a1 b1 c1 a2 b2 c2 (λz=>by rw[z,c3] at a3;cases a3)
theorem JG{vs:List V}{_E:XK}(Bp:DkF K t)(h:xM t vs H Q _E) :
  qd K t (sH Q) (L2.start ["self","table","hands","way","first"] vs) H:=by
 obtain⟨x,l,w,dx,dw,n,f,wo,g,rfl,h1,h2,h3,h4,nw,q⟩:=h;obtain⟨lb,P,lw,_⟩:=PO.init (w:=w) h1 ⟨_,h4⟩;have P:PO H x w _ H lb (λ_=>False) [(2,w,wo)]:=⟨P.hx,P.lx,λe he=>by cases bp.mp he;exact⟨by show 1<2;decide,h4,lw nw⟩,P.ow,P.kp,P.fr,P.f10⟩;obtain⟨xs,hx,px⟩:=h2;have nlx:l≠x:=zJ hx h1 ();unfold qd zo;refine P.sv Z Z Bp.cD Bp.d1 () λH1 P=>P.sv Z Z Bp.cD Bp.d2 (by show 1<1000;decide) λH2 P=>P.sv Z Z Bp.cD Bp.d3 (by show 2<1000;decide) λH3 P=>⟨(),P.so (.lst []) 4 () () Z Bp.cD Bp.d4 (by show 3<1000;decide) λcl H4 lb4 P=>⟨(),P.so (.lst []) 5 () () Z Bp.cD Bp.d5 (by show 4<1000;decide) λwl H5 lb5 P=>P.so (.dK []) 6 () () Z Bp.cD Bp.d6 (by show 5<1000;decide) λhd H9 lb9 P=>?_⟩⟩;refine⟨_,Z,?_⟩;intro m dm hm hdm nm;have sm:aL H9 (upd (upd H9 dm (HO.own m)) m (HO.ins t.q02 dm [])):=λb o e=>by rw[zl (zC e hm),zl (zC e hdm)];exact e
 have hl9:sL H9 l g:=⟨xs,P.kp _ _ nlx hx,Paired.mapP px λ_ _ ⟨r,p,e,e1,e2⟩=>⟨r,p,e,P.kp _ _ (zJ e1 h1 ()) e1,P.kp _ _ (zJ e2 h1 ()) e2⟩⟩;refine⟨m,l,dm,g,Z,zi,hl9.same sm,h3,λH10 F k10 M10 f10=>⟨Z,?_⟩⟩;have s10:aL H9 H10:=λb o e=>k10 b o (zC e hm) (sm _ _ e);have fF:∀b,F b->H9 b=ak:=λb z=>by
  rcases f10 b z with y|y
  ·rw[y];exact hm
  ·cases e:H9 b with
   |none=>rfl
   |some o=>have:=sm b o e;rw[y] at this;cases this
 obtain⟨lb10,P',e10,_⟩:=(P.same s10).lab (N:=F) (F':=F) 10 (λb=>⟨λz=>z.elim (λy=>y.1) c9,λz=>.inl ⟨z,Z⟩⟩) λb z=>⟨(P.l0 (fF b z)).1,(P.l0 (fF b z)).2,M10.own b z⟩;replace P:=P';clear P' k10 f10 s10 sm hm hdm nm hl9 fF;refine P.stM M10 Z Bp.cD Bp.d7 (by show 6<1000;decide) λH11 P M11=>?_;refine⟨_,Z,x,_,_,_,_,Z,P.hx,Bp.cD,Bp.d7,Z,?_⟩;intro jb dj hj hdj nj;have sj:aL H11 (upd (upd H11 dj (HO.own jb)) jb (HO.ins t.q03 dj [])):=λb o e=>by rw[zl (zC e hj),zl (zC e hdj)];exact e
 refine⟨jb,m,dj,Z,zi,λH12 la re db k12 j12 l12 r12 d12 nl nr nd ld=>⟨Z,?_⟩⟩;have s12:aL H11 H12:=λb o e=>k12 b o (zC e hj) (sj _ _ e);have fr:∀b,upd (upd H11 dj (HO.own jb)) jb (HO.ins t.q03 dj []) b=ak->H11 b=ak:=λb z=>by
  cases e:H11 b with
  |none=>rfl
  |some o=>have:=sj b o e;rw[z] at this;cases this
 have e0:∀b,H11 b=ak->_:=λb z=>P.l0 z;have M12:=M11.same s12;have Q0:=P.same s12;obtain⟨lb1,Q1,a1,b1⟩:=Q0.lab (N:=λb=>b=jb) (F':=F) 3 (λb=>⟨λz=>z.resolve_left (λy=>nomatch y.2),.inr⟩) λb z=>by rw[z];exact⟨(e0 _ hj).1,(e0 _ hj).2,_,j12⟩
 have n1:la≠jb:=λz=>by rw[z,zi] at nl;cases nl
 have n2:re≠jb:=λz=>by rw[z,zi] at nr;cases nr
 have n3:db≠jb:=λz=>by rw[z,zi] at nd;cases nd
 have n4:re≠la:=zJ r12 l12 ();have n5:db≠re:=zJ d12 r12 ();obtain⟨lb2,Q2,a2,b2⟩:=Q1.lab (N:=λb=>b=la) (F':=F) 7 (λb=>⟨λz=>z.resolve_left (λy=>nomatch y.2),.inr⟩) λb z=>by rw[z,b1 _ n1];exact⟨(e0 _ (fr _ nl)).1,(e0 _ (fr _ nl)).2,_,l12⟩
 obtain⟨lb3,Q3,a3,b3⟩:=Q2.lab (N:=λb=>b=re) (F':=F) 11 (λb=>⟨λz=>z.resolve_left (λy=>nomatch y.2),.inr⟩) λb z=>by rw[z,b2 _ n4,b1 _ n2];exact⟨(e0 _ (fr _ nr)).1,(e0 _ (fr _ nr)).2,_,r12⟩
 obtain⟨lb4,Q4,a4,b4⟩:=Q3.lab (N:=λb=>b=db) (F':=F) 8 (λb=>⟨λz=>z.resolve_left (λy=>nomatch y.2),.inr⟩) λb z=>by rw[z,b3 _ n5,b2 _ ld.symm,b1 _ n3];exact⟨(e0 _ (fr _ nd)).1,(e0 _ (fr _ nd)).2,_,d12⟩
 have y1:lb4 jb=3:=by rw[b4 _ n3.symm,b3 _ n2.symm,b2 _ n1.symm,a1 _ rfl]
 have y2:lb4 la=7:=by rw[b4 _ ld,b3 _ n4.symm,a2 _ rfl]
 have y3:lb4 re=11:=by rw[b4 _ n5.symm,a3 _ rfl]
 have y4:=a4 _ rfl;have P:PO H x w _ H12 lb4 F [(3,jb,.ins t.q03 dj (Jo m la re db)),(7,la,.dK []),(11,re,.dT []),(8,db,.dK []),(6,hd,.dK []),(5,wl,.lst []),(4,cl,.lst []),(2,w,wo)]:=⟨Q4.hx,Q4.lx,λe he=>by
  rcases bu.mp he with rfl|he
  ·exact⟨by show 1<3;decide,j12,y1⟩
  rcases bu.mp he with rfl|he
  ·exact⟨by show 1<7;decide,l12,y2⟩
  rcases bu.mp he with rfl|he
  ·exact⟨by show 1<11;decide,r12,y3⟩
  rcases bu.mp he with rfl|he
  ·exact⟨by show 1<8;decide,d12,y4⟩
  exact Q4.ob e he,Q4.ow,Q4.kp,Q4.fr,Q4.f10⟩
 clear Q0 Q1 Q2 Q3 Q4 a1 a2 a3 a4 b1 b2 b3 b4 y1 y2 y3 y4 n1 n2 n3 n4 n5 s12 sj k12 e0 fr nl nr nd ld hj hdj nj j12 l12 r12 d12;refine P.stM M12 Z Bp.cD Bp.d8 (by show 7<1000;decide) λH13 P M13=>?_;refine⟨(),λen hc=>?_⟩;have M14:=M13.same (sQ en hc (o:=.lst []));obtain⟨lb5,P'⟩:=P.new (o:=.lst []) 9 () () hc;replace P:=P';clear P';generalize upd H13 en (.lst [])=H14 at *
 refine P.stM M14 Z Bp.cD Bp.d9 (by show 8<1000;decide) λH15 P M15=>?_;have eF:(λb=>lb5 b=10)=F:=funext λb=>propext (P.f10 b);have ob:∀n c o,(n,c,o)∈_->H15 c=U o/\lb5 c=n:=λn c o z=>(P.ob (n,c,o) z).2;obtain⟨r1,r2⟩:=ob 11 re _ (.tail _ (.tail _ (.tail _ (.head _))));refine q H15 ⟨dx,w,dw,cl,wl,hd,m,jb,dj,en,la,re,db⟩ lb5 Z Z P.kp (λb o n1 n2 e=>eC λz=>by rcases P.fr b z with y|y|y;exact n1 y;exact n2 y;rw[y] at e;cases e) ⟨λi b o e=>?_,by rw[eF];exact M15,⟨[],⟨r1,cr,cr,(),λ_ _ ⟨_,z,_⟩=>nomatch z⟩⟩,r2,.nil,P.ow⟩
 match i,e with
 |0,e=>cases e;exact⟨P.hx,P.lx⟩
 |1,e=>cases e;exact ob 2 _ _ (.tail _ (.tail _ (.tail _ (.tail _ (.tail _ (.tail _ (.tail _ (.tail _ (.head _)))))))))
 |2,e=>cases e;exact ob 3 _ _ (.tail _ (.head _))
 |3,e=>cases e;exact ob 4 _ _ (.tail _ (.tail _ (.tail _ (.tail _ (.tail _ (.tail _ (.tail _ (.head _))))))))
 |4,e=>cases e;exact ob 5 _ _ (.tail _ (.tail _ (.tail _ (.tail _ (.tail _ (.tail _ (.head _)))))))
 |5,e=>cases e;exact ob 6 _ _ (.tail _ (.tail _ (.tail _ (.tail _ (.tail _ (.head _))))))
 |6,e=>cases e;exact ob 7 _ _ (.tail _ (.tail _ (.head _)))
 |7,e=>cases e;exact ob 8 _ _ (.tail _ (.tail _ (.tail _ (.tail _ (.head _)))))
 |8,e=>cases e;exact ob 9 _ _ (.head _)
end
section
variable {β:Type}{l:List (Int×β)}{h:Int}{b b0:β}{q:Int×β->Nat}
theorem za9:∀ {l:List (Int×β)},h ∉ l.map (·.1)->yg l h=l
 |[],_=>rfl
 |e::l,n=>by
  rw[bt,bu] at n;have c:e.1≠h:=λz=>n (.inl z.symm);rw[yg,du,aq (Bj c)];exact congrArg _ (za9 λz=>n (.inr z))
theorem qk:∀ {l:List (Int×β)},(l.map (·.1)).Nodup->(h,b0)∈l->(XX l h b).Perm ((h,b)::yg l h)/\l.Perm ((h,b0)::yg l h)
 |e::l,nd,m=>by
  rw[bt,bY] at nd;by_cases c:e.1=h
  ·have e0:e=(h,b0):=JB (l:=e::l) (by rw[bt,bY];exact nd) br m c;have n:h ∉ l.map (·.1):=by rw[<-c];exact nd.1
   have z:yg (e::l) h=l:=by rw[yg,du,am (by rw[decide_eq_true_eq];exact λz=>z c)];exact za9 n
   have y:XX l h b=l:=(dC λe he=>am λw=>n (bG.mpr ⟨e,he,w⟩)).trans (List.map_id _);rw[z];refine⟨?_,by rw[e0]⟩;show ((if e.1=h then (h,b) else e)::XX l h b).Perm _;rw[aq c,y]
  ·have m:=(bu.mp m).resolve_left λz=>c (by rw[<-z]);obtain⟨p1,p2⟩:=qk nd.2 m;have z:yg (e::l) h=e::yg l h:=by rw[yg,du,aq (Bj c)];rfl
   rw[z];refine⟨?_,(p2.cons e).trans (.swap ..)⟩;show ((if e.1=h then (h,b) else e)::XX l h b).Perm _;rw[am c];exact(p1.cons e).trans (.swap ..)
theorem Xt(nd:(l.map (·.1)).Nodup)(m:(h,b0)∈l):((XX l h b).map q).sum=q (h,b)+((yg l h).map q).sum/\(l.map q).sum=q (h,b0)+((yg l h).map q).sum:=by
 obtain⟨p1,p2⟩:=qk (b:=b) nd m;exact⟨(p1.map q).sum_nat.trans (by rw[bt,cE]),(p2.map q).sum_nat.trans (by rw[bt,cE])⟩
end
theorem KB{q:Int->Nat}:∀ {a b:List Int},a.Nodup->(∀x∈a,x∈b)->(a.map q).sum<=(b.map q).sum
 |[],_,_,_=>bS _
 |x::a,b,nd,h=>by
  rw[bY] at nd;have p:=i7 (h x br);rw[(p.map q).sum_nat,bt,bt,cE,cE];refine oR (KB nd.2 λy hy=>?_) _;exact(oE λz=>nd.1 (by rw[<-z];exact hy)).mpr (h y (bq _ hy))
theorem ji{α:Type}{q q':α->Nat}:∀ {l:List α},(∀x∈l,q x<=q' x)->(l.map q).sum<=(l.map q').sum
 |[],_=>bn _
 |x::l,h=>by
  have i:=ji λy hy=>h y (bq x hy);have:=h x br;rw[bt,bt,cE,cE];lia
theorem W4{α:Type}{q q':α->Nat}:∀ {l:List α},(l.map λx=>q x+q' x).sum=(l.map q).sum+(l.map q').sum
 |[]=>rfl
 |x::l=>by
  have i:=W4 (q:=q) (q':=q') (l:=l);rw[bt,bt,bt,cE,cE,cE,i];lia
theorem zcY{α:Type}{p:α->Prop} [DecidablePred p]{q:α->Nat}:∀ {l:List α},(l.map λx=>if p x then q x else 0).sum=((l.filter λx=>decide (p x)).map q).sum
 |[]=>rfl
 |x::l=>by
  have i:=zcY (p:=p) (q:=q) (l:=l);rw[bt,cE,i,du];by_cases c:p x
  ·rw[aq c,aq (Bj c),bt,cE]
  ·rw[am c,am (by rw[decide_eq_true_eq];exact c),om]
section
variable {g:List aP}{ls:List (Int×List aP)}{p:Pl}{r r':Int}{gi:List aP}
theorem X7{r r':Int}(h:r'<=r):∀(ls:List (Int×List aP)) (s:Int×Int),wK p r' (ls.filter λy=>decide (y.1≠r)) s=wK p r' ls s
 |[],_=>rfl
 |y::ls,s=>by
  rw[du];by_cases c:y.1=r
  ·rw[am (by rw[decide_eq_true_eq];exact λz=>z c),X7 h ls,wK,am ()]
  ·rw[aq (Bj c),wK,wK,X7 h ls]
theorem zba(h:r'<=r):ya g (xx ls r gi) p r'=ya g ls p r':=by
 unfold ya xx;rw[VR,am (λz=>Int.not_lt.mpr h z.2),X7 h]
theorem zbb:∀(aK:List aP) (s:Int×Int),(∀w∈aK,sP w.2=af)->sP s.2=af->sP (VD p r aK s).2=af
 |[],_,_,h=>h
 |w::aK,s,hr,h=>by
  rw[VD];refine zbb aK _ (λx hx=>hr x (bq _ hx)) ?_;split
  ·exact hr w br
  ·exact h
theorem zbc:∀(ls:List (Int×List aP)) (s:Int×Int),(∀y∈ls,∀w∈y.2,sP w.2=af)->sP s.2=af->sP (wK p r ls s).2=af
 |[],_,_,h=>h
 |y::ls,s,hr,h=>by
  rw[wK];refine zbc ls _ (λx hx=>hr x (bq _ hx)) ?_;split
  ·exact zbb _ _ (hr y br) h
  ·exact h
end
section
variable {f n h:Int}{g:List aP}{CC:List (List Cs)}{S S':DS}{e:Ev}
theorem zfB(I:RnI C j s)(ho:yq C s=ao):j<C.length:=by
 have no:¬ yq C s=af:=by rw[ho];decide
 have lt:=Xk no;have wn:s.why=ak:=by
  cases e:s.why with
  |none=>rfl
  |some v=>exact absurd (show yq C s=af by unfold yq;rw[e];rfl) no
 have:=I.at_ wn;lia
theorem V1{k n:Nat}(h:k<n):vN f k n=(f+k)::vN f (k+1) n:=by
 unfold vN;rw[show n-k=n-(k+1)+1 by lia,List.range_succ_eq_map,bt,dJ];refine congr (congrArg _ ()) (dC λi _=>?_);show f+(k:Int)+((i+1:Nat):Int)=f+((k+1:Nat):Int)+i;lia
theorem sD.run(ok:sD n f g CC S){r:Int}{s s':aX}{w:Int}{C:List Cs}(m:(h,r,j,s)∈S.hl)(ec:CC[(r-f).toNat]?=U C)(ho:yq C s=ao)(hw:sP w=af):sD n f g CC { S with hl:=XX S.hl h (r,j+1,yS C w s) }:=by
 obtain⟨p1,p2⟩:=qk (b:=(r,j+1,yS C w s)) ok.hn m;obtain⟨C',ec',I,_⟩:=ok.rn _ m;obtain rfl:C'=C:=bP (ec'.symm.trans ec);have O:=ok.cc.ok C' (bT ec);have jl:j<C'.length:=zfB I ho;have mm:∀e∈XX S.hl h (r,j+1,yS C' w s),e=(h,r,j+1,yS C' w s)\/e∈S.hl:=λe he=>(bu.mp (p1.mem_iff.mp he)).imp id λz=>(aY.mp z).1;refine⟨ok.f0,ok.cc,ok.el,?_,ok.so,?_,λe he=>?_,λe he=>?_,ok.nt,ok.ly,ok.gw,ok.lw⟩
 ·refine dQ (.append_left _ (.append_right _ ?_)) ok.pm;exact(p1.map λe:Int×Int×Nat×aX=>e.2.1).trans (p2.map λe:Int×Int×Nat×aX=>e.2.1).symm
 ·exact((p1.map λe:Int×Int×Nat×aX=>e.1).trans (p2.map λe:Int×Int×Nat×aX=>e.1).symm).nodup_iff.mpr ok.hn
 ·rcases mm e he with rfl|he
  ·show 0<=h/\h<n;exact ok.hr _ m
  ·exact ok.hr e he
 ·rcases mm e he with rfl|he
  ·exact⟨C',ec,zgF O.1 I ho hw,by show j+1<=11;have:=O.2;lia⟩
  ·exact ok.rn e he
theorem sD.iw(ok:sD n f g CC S)(p:Pl)(r:Int):sP (ya g S.ls p r)=af:=zbc _ _ ok.lw (ok.gw p)
theorem Mv.ok(ok:sD n f g CC S)(m:Mv f g CC S h e S')(h0:0<=h)(hn:h<n):sD n f g CC S':=by
 cases m with
 |step m ec ho ha=>exact ok.run (s':=st0) m ec ho rfl
 |read m ec ho ha=>exact ok.run (s':=st0) m ec ho (ok.iw _ _)
 |@lay r j s C gi m ec ho hg =>
  obtain⟨_,p2⟩:=qk (b:=(r,j,s)) ok.hn m;obtain⟨C',ec',I,j11⟩:=ok.rn _ m;obtain⟨k,rk,_,kl⟩:=ok.rh m;have rk:r=f+k:=rk;have l2:s.gi.length<=j:=I.ok.l2;have l3:s.no.length<=j:=I.ok.l3;have j11:j<=11:=j11;have lo:gi.length<=s.gi.length:=zb8 hg;have mm:∀y∈xx S.ls r gi,y∈S.ls\/y=(r,gi):=λy hy=>(bw.mp hy).imp (λz=>(b7.mp z).1) λz=>bp.mp z;refine⟨ok.f0,ok.cc,ok.el,?_,ok.so,ok.hn.sublist (cW.map _),λe he=>ok.hr e (aY.mp he).1,λe he=>ok.rn e (aY.mp he).1,λe he=>?_,λy hy=>?_,ok.gw,λy hy=>?_⟩
  ·refine dQ (.append_left _ ?_) ok.pm;refine dQ ?_ (.append_right _ (p2.map λe:Int×Int×Nat×aX=>e.2.1).symm);rw[bQ,<-cB];exact oo
  ·rcases bw.mp he with he|he
   ·exact ok.nt e he
   ·cases bp.mp he;exact(⟨I.ok.nd,zhh hg,(),()⟩:zb5 s.no gi)
  ·rcases mm y hy with hy|rfl
   ·exact ok.ly y hy
   ·show f<=r/\r<_;lia
  ·rcases mm y hy with hy|rfl
   ·exact ok.lw y hy
   ·exact zh6 I hg
 |@settle s gi m fr =>
  obtain⟨_,p2⟩:=qk (b:=(s,gi)) ok.nd.2.1.2.1 m;obtain⟨k,rk,_,kl⟩:=ok.rl (bC (f:=λe:Int×aX×List aP=>e.1) m);have rk:f+(S.en:Int)=f+k:=rk;refine⟨ok.f0,ok.cc,by show S.en+1<=_;lia,?_,ok.so,ok.hn,ok.hr,ok.rn,λe he=>ok.nt e (aY.mp he).1,ok.ly,ok.gw,ok.lw⟩;have z:=ok.pm;rw[V1 (show S.en<CC.length by lia)] at z;refine List.Perm.cons_inv (a:=f+(S.en:Int)) (dQ ?_ z);refine dQ ?_ (.append_left _ (.append_left _ (p2.map λe:Int×aX×List aP=>e.1).symm));rw[<-cB,<-cB];exact rQ.symm
 |@again r s gi p o ws' m hy hn' pw so fr =>
  obtain⟨_,p2⟩:=qk (b:=(s,gi)) ok.nd.2.1.2.1 m;refine⟨ok.f0,ok.cc,ok.el,?_,so,ok.hn,ok.hr,ok.rn,λe he=>ok.nt e (aY.mp he).1,ok.ly,ok.gw,ok.lw⟩;refine dQ (.append_right _ pw) (dQ ?_ ok.pm);refine dQ ?_ (.append_left _ (.append_left _ (p2.map λe:Int×aX×List aP=>e.1).symm));rw[<-cB,<-cB];exact rQ.symm
 |@take r m fr =>
  obtain⟨k,rk,_,kl⟩:=ok.rw_ m;refine⟨ok.f0,ok.cc,ok.el,?_,ok.so.sublist pN,?_,λe he=>?_,λe he=>?_,ok.nt,ok.ly,ok.gw,ok.lw⟩
  ·refine dQ ?_ ((List.Perm.append_right _ (i7 m)).symm.trans ok.pm);rw[bQ,cB];show (S.ws.erase r++(S.hl.map (·.2.1)++r::S.ld.map (·.1))).Perm (r::(S.ws.erase r++(S.hl.map (·.2.1)++S.ld.map (·.1))));rw[<-cB,<-cB];exact List.perm_middle
  ·rw[bQ];refine da.mpr ⟨ok.hn,by simp,λx hx y hy z=>fr ?_⟩;rw[<-show y=h from bp.mp hy,<-z];exact hx
  ·rcases bw.mp he with he|he
   ·exact ok.hr e he
   ·cases bp.mp he;exact⟨h0,hn⟩
  ·rcases bw.mp he with he|he
   ·exact ok.rn e he
   ·cases bp.mp he;exact⟨_,bb (show (r-f).toNat<CC.length by lia),rn0,bS _⟩
 |rest w l fr=>exact ok
end
def tM(f:Int)(n:Nat)(r:Int):Nat:=14*2^(n-1-(r-f).toNat)
open Classical in
noncomputable def pen(f:Int)(n:Nat)(g:List aP)(ls:List (Int×List aP))(r:Int)(no:List aP):Nat:=if Agr g ls r no then 0 else tM f n r
noncomputable def phH(f:Int)(n:Nat)(g:List aP)(ls:List (Int×List aP))(e:Int×Int×Nat×aX):Nat:=11-e.2.2.1+2+(tM f n e.2.1-14)+pen f n g ls e.2.1 e.2.2.2.no
noncomputable def phL(f:Int)(n:Nat)(g:List aP)(ls:List (Int×List aP))(e:Int×aX×List aP):Nat:=1+pen f n g ls e.1 e.2.1.no
noncomputable def Phi(f:Int)(n:Nat)(g:List aP)(S:DS):Nat:=(S.ws.map (tM f n)).sum+((S.hl.map (phH f n g S.ls)).sum+(S.ld.map (phL f n g S.ls)).sum)
section
variable {f h r r':Int}{n k:Nat}{N:Int}{g gi no:List aP}{CC:List (List Cs)}{S S':DS}{e:Ev}{ls ls':List (Int×List aP)}
theorem zfC:14<=tM f n r:=Nat.le_mul_of_pos_right 14 (Nat.pow_pos ())
theorem zcb:∀m k:Nat,k+m=n->((vN f k n).map (tM f n)).sum=14*(2^m-1)
 |0,k,h=>by
  rw[show vN f k n=[] by unfold vN;rw[show n-k=0 by lia];rfl];rfl
 |m+1,k,h=>by
  rw[V1 (),bt,cE,zcb m (k+1) ()];unfold tM;rw[show n-1-(f+(k:Int)-f).toNat=m by lia,Nat.pow_succ];have:1<=2^m:=Nat.pow_pos ();lia
theorem zcc:pen f n g ls r no<=tM f n r:=by unfold pen;split;exact bS _;exact bn _
theorem zfD(h:∀p,ya g ls' p r=ya g ls p r):pen f n g ls' r no=pen f n g ls r no:=by
 have:Agr g ls' r no↔Agr g ls r no:=forall_congr' λy=>by rw[h]
 unfold pen;rw[propext this]
def exR(f:Int)(n:Nat)(r x:Int):Nat:=if r<x then tM f n x else 0
theorem zcZ:pen f n g (xx ls r gi) r' no<=pen f n g ls r' no+exR f n r r':=by
 by_cases c:r<r'
 ·have:=zcc (f:=f) (n:=n) (g:=g) (ls:=xx ls r gi) (r:=r') (no:=no);unfold exR;rw[aq c];lia
 ·rw[zfD λp=>zba ()];exact eK _ _
theorem zc0(ok:sD N f g CC S)(m:(h,r,j,s)∈S.hl)(jl:j<11)(ag:Agr g S.ls r s.no->Agr g S.ls r s'.no):Phi f n g { S with hl:=XX S.hl h (r,j+1,s') }<Phi f n g S:=by
 obtain⟨e1,e2⟩:=Xt (b:=(r,j+1,s')) (q:=phH f n g S.ls) ok.hn m;have:pen f n g S.ls r s'.no<=pen f n g S.ls r s.no:=by
  unfold pen;split
  ·exact bS _
  ·rw[am λz=>(by assumption:¬ _) (ag z)];exact bn _
 have p1:phH f n g S.ls (h,r,j+1,s')=11-(j+1)+2+(tM f n r-14)+pen f n g S.ls r s'.no:=rfl;have p2:phH f n g S.ls (h,r,j,s)=11-j+2+(tM f n r-14)+pen f n g S.ls r s.no:=rfl;unfold Phi;dsimp only;lia
theorem Mv.dec(ok:sD N f g CC S)(m:Mv f g CC S h e S'):(e=.rest/\S'=S)\/Phi f CC.length g S'<Phi f CC.length g S:=by
 have run:∀ {r j s C},(h,r,j,s)∈S.hl->CC[(r-f).toNat]?=U C->yq C s=ao->j<11:=λ{r j s C} m ec ho=>by
  obtain⟨C',ec',I,_⟩:=ok.rn _ m;obtain rfl:C'=C:=bP (ec'.symm.trans ec);have:=(ok.cc.ok C' (bT ec)).2;have:j<C'.length:=zfB I ho;lia
 cases m with
 |step m ec ho ha =>
  refine .inr (zc0 ok m (run m ec ho) λz=>?_);rw[(W1 ho).1 ha];exact z
 |read m ec ho ha =>
  refine .inr (zc0 ok m (run m ec ho) λz=>?_);rw[(W1 ho).2 _ ha];intro y hy;rcases bw.mp hy with hy|hy
  ·exact z y hy
  ·rw[bp.mp hy]
 |@lay r j s C gi m ec ho hg =>
  refine .inr ?_;obtain⟨_,p2⟩:=qk (b:=(r,j,s)) ok.hn m;obtain⟨_,e2⟩:=Xt (b:=(r,j,s)) (q:=phH f CC.length g S.ls) ok.hn m;obtain⟨k,rk,_,kl⟩:=ok.rh m;have rk:r=f+k:=rk;have b1:((yg S.hl h).map (phH f CC.length g (xx S.ls r gi))).sum<=((yg S.hl h).map (phH f CC.length g S.ls)).sum+((yg S.hl h).map λe=>exR f CC.length r e.2.1).sum:=by
   rw[<-W4];exact ji λx _=>by have:=zcZ (f:=f) (n:=CC.length) (g:=g) (ls:=S.ls) (r:=r) (gi:=gi) (r':=x.2.1) (no:=x.2.2.2.no);unfold phH;lia
  have b2:(S.ld.map (phL f CC.length g (xx S.ls r gi))).sum<=(S.ld.map (phL f CC.length g S.ls)).sum+(S.ld.map λe=>exR f CC.length r e.1).sum:=by
   rw[<-W4];exact ji λx _=>by have:=zcZ (f:=f) (n:=CC.length) (g:=g) (ls:=S.ls) (r:=r) (gi:=gi) (r':=x.1) (no:=x.2.1.no);unfold phL;lia
  have b3:((yg S.hl h).map λe=>exR f CC.length r e.2.1).sum+(S.ld.map λe=>exR f CC.length r e.1).sum<=tM f CC.length r-14:=by
   have z:((yg S.hl h).map λe=>exR f CC.length r e.2.1).sum+(S.ld.map λe=>exR f CC.length r e.1).sum=((((yg S.hl h).map (·.2.1)++S.ld.map (·.1)).filter λx=>decide (r<x)).map (tM f CC.length)).sum:=by
    rw[<-zcY,bQ,fK,dJ,dJ];rfl
   rw[z];have sb:((yg S.hl h).map (·.2.1)++S.ld.map (·.1)).Sublist (S.hl.map (·.2.1)++S.ld.map (·.1)):=(cW.map _).append (List.Sublist.refl _);have nd:=(ok.pm.nodup_iff.mpr zfA).sublist (List.sublist_append_right S.ws _);refine bO (KB (b:=vN f (k+1) CC.length) (nd.sublist (List.filter_sublist.trans sb)) λx hx=>?_) ?_
   ·obtain⟨h1,h2⟩:=b7.mp hx;obtain⟨j,ej,_,jl⟩:=ok.rk (bJ _ (sb.subset h1));have:=of_decide_eq_true h2;exact rks_mem.mpr ⟨j,ej,(),jl⟩
   ·rw[zcb (CC.length-(k+1)) (k+1) ()];unfold tM;rw[show CC.length-1-(r-f).toNat=CC.length-(k+1) by lia];lia
  have b4:=zfD (f:=f) (n:=CC.length) (g:=g) (no:=s.no) (ls:=S.ls) (ls':=xx S.ls r gi) (r:=r) λp=>zba (m6 r);have p1:phH f CC.length g S.ls (h,r,j,s)=11-j+2+(tM f CC.length r-14)+pen f CC.length g S.ls r s.no:=rfl;have p2:([(r,s,gi)].map (phL f CC.length g (xx S.ls r gi))).sum=1+pen f CC.length g (xx S.ls r gi) r s.no+0:=rfl;unfold Phi;dsimp only;rw[bQ,fK];lia
 |@settle s gi m fr =>
  obtain⟨_,e2⟩:=Xt (b:=(s,gi)) (q:=phL f CC.length g S.ls) ok.nd.2.1.2.1 m;refine .inr ?_;have p1:phL f CC.length g S.ls (f+S.en,s,gi)=1+pen f CC.length g S.ls (f+S.en) s.no:=rfl;unfold Phi;dsimp only;lia
 |@again r s gi p o ws' m hy hn pw so fr =>
  obtain⟨_,e2⟩:=Xt (b:=(s,gi)) (q:=phL f CC.length g S.ls) ok.nd.2.1.2.1 m;refine .inr ?_;have e1:pen f CC.length g S.ls r s.no=tM f CC.length r:=by unfold pen;exact am λz=>hn (z _ hy)
  have p1:phL f CC.length g S.ls (r,s,gi)=1+pen f CC.length g S.ls r s.no:=rfl;unfold Phi;dsimp only;rw[(pw.map (tM f CC.length)).sum_nat,bt,cE];lia
 |@take r m fr =>
  refine .inr ?_;have e1:=((i7 m).map (tM f CC.length)).sum_nat;rw[bt,cE] at e1;have e2:pen f CC.length g S.ls r st0.no=0:=by unfold pen;exact aq λy hy=>nomatch hy
  have:=zfC (f:=f) (n:=CC.length) (r:=r);have p1:([(h,r,0,st0)].map (phH f CC.length g S.ls)).sum=11-0+2+(tM f CC.length r-14)+pen f CC.length g S.ls r st0.no+0:=rfl;unfold Phi;dsimp only;rw[bQ,fK];lia
 |rest w l fr=>exact .inl ⟨Z,Z⟩
theorem zik(ok:sD N f g CC S):Phi f CC.length g S<=1000:=by
 have l5:=ok.cc.le;have w:∀ {e},e∈S.hl->phH f CC.length g S.ls e<=2*tM f CC.length e.2.1:=λ{e} he=>by
  have:=zfC (f:=f) (n:=CC.length) (r:=e.2.1);have:=zcc (f:=f) (n:=CC.length) (g:=g) (ls:=S.ls) (r:=e.2.1) (no:=e.2.2.2.no);unfold phH;lia
 have w2:∀ {e},e∈S.ld->phL f CC.length g S.ls e<=2*tM f CC.length e.1:=λ{e} he=>by
  have:=zfC (f:=f) (n:=CC.length) (r:=e.1);have:=zcc (f:=f) (n:=CC.length) (g:=g) (ls:=S.ls) (r:=e.1) (no:=e.2.1.no);unfold phL;lia
 have a1:(S.hl.map (phH f CC.length g S.ls)).sum<=(S.hl.map λe=>2*tM f CC.length e.2.1).sum:=ji λe he=>w he;have a2:(S.ld.map (phL f CC.length g S.ls)).sum<=(S.ld.map λe=>2*tM f CC.length e.1).sum:=ji λe he=>w2 he;have a3:=ji (l:=S.ws) (q:=tM f CC.length) (q':=λr=>2*tM f CC.length r) λe _=>by lia
 have z:=(ok.pm.map λr=>2*tM f CC.length r).sum_nat;rw[bQ,bQ,fK,fK,dJ,dJ] at z;have y:=zcb (f:=f) (n:=CC.length) (CC.length-S.en) S.en (by have:=ok.el;lia);have t:=W4 (q:=tM f CC.length) (q':=tM f CC.length) (l:=vN f S.en CC.length);have t':((vN f S.en CC.length).map λr=>2*tM f CC.length r).sum=((vN f S.en CC.length).map λx=>tM f CC.length x+tM f CC.length x).sum:=by
  congr 1;exact dC λx _=>by lia
 have p:2^(CC.length-S.en)<=2^5:=Nat.pow_le_pow_right () ();have p:2^(CC.length-S.en)<=32:=p;have z:(S.ws.map λr=>2*tM f CC.length r).sum+((S.hl.map λe=>2*tM f CC.length e.2.1).sum+(S.ld.map λe=>2*tM f CC.length e.1).sum)=_:=z;unfold Phi;lia
end
section
variable {H':Hp}{lb lb':D->Nat}{d l:D}{a:tO}{cs en xs ys:List V}{CC:List (List Cs)}{n f h:Int}{g:List aP}{S S':DS}{v:V}{es:List He}{e:Ev}{J:List He->DS->Prop}
theorem EvAt.ts(h:EvAt H v x)(ts:TSm H H'):EvAt H' v x:=let ⟨b,q,e,h1,h2⟩:=h;⟨b,q,e,ts _ _ h1,λp z=>ts _ _ (h2 p z)⟩
theorem zfE(h:Paired (EvAt H) xs es)(ts:TSm H H'):Paired (EvAt H') xs es:=Paired.mapP h λ_ _ z=>z.ts ts
theorem Fr.up{M:Nat->Prop}(h:Fr M H H' lb lb')(hl:H' l=U (.lst xs))(hn:H l=ak):Fr M H (upd H' l (.lst ys)) lb lb':=⟨h.ex,λb o z e=>by rw[zl (λy=>by rw[y,hn] at e;cases e)];exact h.kp b o z e,λb zs e=>ZA hl () _ _ (h.ts b zs e),λb o e=>let ⟨o',e'⟩:=h.al b o e;VW b o' e'⟩
def TnI(n:Int)(S:DS)(i t:Nat):Prop:=t<8/\(S.hl=[]\/∃e∈S.hl,((i:Int)+t)%n=e.1)
theorem zfF(ok:sD n f g CC S)(h1:1<=n)(h8:n<=8)(i:Nat):∃t,TnI n S i t:=by
 cases e:S.hl with
 |nil=>exact⟨0,(),.inl e⟩
 |cons x xs =>
  have m:x∈S.hl:=by rw[e];exact br
  obtain⟨a1,a2⟩:=ok.hr x m;have b1:=cP (x.1-i) (show n≠0 by lia);have b2:=cg (x.1-i) (show 0<n by lia);refine⟨((x.1-i)%n).toNat,(),.inr ⟨x,m,?_⟩⟩;rw[lL b1,Int.add_emod,Int.emod_emod_of_dvd _ (Int.dvd_refl n),<-Int.add_emod,show (i:Int)+(x.1-i)=x.1 by lia,Int.emod_eq_of_lt a1 a2]
structure FnI(t:bv)(H:Hp)(d l:D)(a:tO)(lb:D->Nat)(n f:Int)(g:List aP)(CC:List (List Cs))(J:List He->DS->Prop)(m:Nat)(H':Hp)(lb':D->Nat)(xs:List V)(es:List He)(S:DS)(t':Nat):Prop where
 em:m=8*Phi f CC.length g S+t'
 lm:xs.length+m<=9000
 tn:TnI n S xs.length t'
 fr:Fr M0 H H' lb lb'
 hl:H' l=U (.lst xs)
 l0:lb' l=0
 pd:Paired (EvAt H') xs es
 js:J es S
 ok:sD n f g CC S
 dk:tE t H' d a lb' n f g CC S
def FnE(t:bv)(H:Hp)(d l:D)(a:tO)(lb:D->Nat)(n f:Int)(g:List aP)(CC:List (List Cs))(J:List He->DS->Prop)(m:Nat)(σ:St)(H':Hp):Prop:=σ=[U (.ref d),U (.ref l)]/\∃lb' xs es S t',FnI t H d l a lb n f g CC J m H' lb' xs es S t'
theorem FnI.next{H2:Hp}{lb2:D->Nat}(I:FnI t H d l a lb n f g CC J m H' lb' xs es S t')(h1:1<=n)(h8:n<=8)(hn:H l=ak)(lt:S.en<CC.length)(js:∀es S h e S',J es S->sD n f g CC S->h=(es.length:Int)%n->Mv f g CC S h e S'->J (es++[(h,e)]) S')(F2:Fr M0 H' H2 lb' lb2)(ev:EvAt H2 v ((xs.length:Int)%n,e))(mv:Mv f g CC S ((xs.length:Int)%n) e S2)(G2:tE t H2 d a lb2 n f g CC S2):H2 l=U (.lst xs)/\∃m',m'<m/\FnE t H d l a lb n f g CC J m' [U (.ref d),U (.ref l)] (upd H2 l (.lst (xs++[v]))):=by
 have b1:=cP (xs.length:Int) (show n≠0 by lia);have b2:=cg (xs.length:Int) (show 0<n by lia);have hl2:=F2.kp _ _ (by rw[I.l0];exact .inl Z) I.hl;have l2:lb2 l=0:=(F2.ex _ _ I.hl).trans I.l0;have ts:TSm H2 (upd H2 l (.lst (xs++[v]))):=ZA hl2 λ_ z=>nomatch z
 have ok2:=Mv.ok I.ok mv b1 b2;have em:=I.em;have lm:=I.lm;refine⟨hl2,?_⟩;have fin:∀t2,TnI n S2 (xs.length+1) t2->8*Phi f CC.length g S2+t2<m->∃m',m'<m/\FnE t H d l a lb n f g CC J m' [U (.ref d),U (.ref l)] (upd H2 l (.lst (xs++[v]))):=λt2 T2 lt2=>⟨_,lt2,Z,lb2,xs++[v],es++[((xs.length:Int)%n,e)],S2,t2,Z,by rw[bD];show xs.length+1+_<=9000;lia,by rw[bD];exact T2,(I.fr.trans F2).up hl2 hn,zi,l2,Paired.snocP (zfE (zfE I.pd F2.ts) ts) (ev.ts ts),js es S _ e S2 I.js I.ok (by rw[bF I.pd]) mv,ok2,G2.put hl2 l2⟩;rcases mv.dec I.ok with ⟨rfl,e12⟩|dc
 ·cases mv with
  |rest w nl fr =>
   have ne:S.hl≠[]:=λz=>by
    have:=I.ok.pm;rw[w,z,V1 lt] at this;exact nl (this.mem_iff.mpr br)
   obtain⟨x,hx,ex⟩:=I.tn.2.resolve_left ne;have t0:t'≠0:=λz=>fr (by
    rw[z,show (xs.length:Int)+((0:Nat):Int)=xs.length by lia] at ex;rw[ex];exact bC (f:=λe:Int×Int×Nat×aX=>e.1) hx)
   have:=I.tn.1;exact fin (t'-1) ⟨(),.inr ⟨x,hx,by rw[show ((xs.length+1:Nat):Int)+((t'-1:Nat):Int)=xs.length+t' by lia];exact ex⟩⟩ ()
 ·obtain⟨t2,T2⟩:=zfF ok2 h1 h8 (xs.length+1);have:=T2.1;exact fin t2 T2 ()
theorem WQ{vs:List V}{_E:XK}(Bp:DkF K t)(h:xG t vs H Q _E) :
  Zu K t (sH Q) (L2.start ["self","told"] vs) H:=by
 obtain⟨d,a,lb,n,f,g,CC,S,J,rfl,h,ok,h1,h8,j0,js,q⟩:=h;refine⟨(),λl hl=>?_⟩;have s0:=sQ (o:=HO.lst []) l hl;have P1:=zik ok;obtain⟨t0,T0⟩:=zfF ok h1 h8 0;have:=T0.1;refine⟨FnE t H d l a lb n f g CC J,⟨_,Z,lb,[],[],S,t0,Z,by show 0+_<=9000;lia,T0,Fr.same s0,zi,h.l0 hl,.nil,j0,ok,h.same s0⟩,?_⟩;rintro m σ H1 ⟨rfl,lb1,xs,es,S1,t1,I⟩;obtain⟨e1,cs,en,ec,ee,lc,le⟩:=I.dk.cmp;refine(xR e1 Z Z ⟨d,_,a,n,f,en,Z,e1,ee,xR e1 Z Z ⟨d,_,a,n,f,cs,Z,e1,ec,_,_,Z,Z,_,Z,?_⟩⟩);have el:=I.ok.el;have lm:=I.lm;rcases gq en.length cs.length with lt|ge
 ·refine yE (Bj ()) ⟨λσ' H'=>∃m',m'<m/\FnE t H d l a lb n f g CC J m' σ' H',λ_ _ z=>z,?_⟩;have b1:=cP (xs.length:Int) (show n≠0 by lia);have b2:=cg (xs.length:Int) (show 0<n by lia);refine⟨_,Z,.inl ⟨Z,_,aT.of I.hl⟩,xR e1 Z Z ⟨_,Z,.ref l,xs.length,Z,.inl ⟨_,aT.of I.hl,Z⟩,zZ e1 Bp.cD Bp.d1 Z Z ⟨_,_,Z,Z,by show (0:Int)<n;lia,d,a,lb1,n,f,(xs.length:Int)%n,g,CC,S1,Z,I.dk,I.ok,b1,b2,λv H2 lb2 e S2 F2 ev mv G2=>?_⟩⟩⟩;obtain⟨hl2,z⟩:=I.next h1 h8 hl () js F2 ev mv G2;exact⟨l,xs,v,Z,Z,hl2,b6 (show xs.length<=9000 by lia) (by rw[bN];decide),z⟩
 ·exact ym (Bk ()) ⟨_,Z,q l xs es H1 lb1 S1 I.fr I.l0 hl I.hl I.pd () I.js I.ok () I.dk⟩
end
def FdI(C:List Cs)(s:aX):Prop:=∃j,∀tb:Pl->Int,(∀y∈s.no,tb y.1=y.2)->s=Ql C tb j st0
def lsE(f:Int):List (aX×List aP)->List (Int×List aP)
 |[]=>[]
 |e::es=>(f,e.2)::lsE (f+1) es
structure StI(f:Int)(g:List aP)(CC:List (List Cs))(S:DS):Prop where
 le:S.es.length=S.en
 rn:∀e∈S.hl,∀C,CC[(e.2.1-f).toNat]?=U C->FdI C e.2.2.2
 rl:∀e∈S.ld,∀C,CC[(e.1-f).toNat]?=U C->FdI C e.2.1/\yq C e.2.1=af/\Zd e.2.1 e.2.2
 rs:∀(k:Nat) e C,S.es[k]?=U e->CC[k]?=U C->FdI C e.1/\yq C e.1=af/\Zd e.1 e.2/\Agr g (lsE f (S.es.take k)) (f+k) e.1.no
 ly:∀y,y.1<f+S.en->(y∈S.ls↔y∈lsE f S.es)
 ll:∀e∈S.ld,(e.1,e.2.2)∈S.ls
 nd:(S.ls.map (·.1)).Nodup
 z0:∀y∈S.ls,0<=y.1
 lg:∀y∈S.ls,y.2.length<=11
section
variable {C:List Cs}{s s':aX}{f n h:Int}{g:List aP}{CC:List (List Cs)}{S S':DS}{e:Ev}{es:List (aX×List aP)}{p:Pl}{w:Int}
theorem FdI.new:FdI C st0:=⟨0,λ_ _=>rfl⟩
theorem FdI.step(F:FdI C s)(ho:yq C s=ao)(na:jr C s=ak):FdI C (yS C 0 s):=by
 obtain⟨j,F⟩:=F;refine⟨j+1,λtb h=>?_⟩;rw[(W1 ho).1 na] at h;rw[Zx,<-F tb h];show yS C 0 s=Qk C tb s;unfold Qk zhV;rw[na]
theorem FdI.read(F:FdI C s)(ho:yq C s=ao)(ea:jr C s=U p):FdI C (yS C w s):=by
 obtain⟨j,F⟩:=F;refine⟨j+1,λtb h=>?_⟩;rw[(W1 ho).2 p ea] at h;rw[Zx,<-F tb λy hy=>h y (cp _ hy)];show yS C w s=Qk C tb s;unfold Qk zhV;rw[ea];have e:tb p=w:=h (p,w) (bJ _ (bp.mpr Z));show yS C w s=yS C (tb p) s;rw[e]
theorem FdI.det(F:FdI C s)(F':FdI C s')(o:yq C s=af)(o':yq C s'=af)(tb:Pl->Int)(a:∀y∈s.no,tb y.1=y.2)(a':∀y∈s'.no,tb y.1=y.2):s=s':=by
 obtain⟨j,F⟩:=F;obtain⟨j',F'⟩:=F';have e:=F tb a;have e':=F' tb a';have x:Ql C tb (j+j') st0=s:=by rw[Zx,<-e,VO o]
 have x':Ql C tb (j'+j) st0=s':=by rw[Zx,<-e',VO o']
 rw[<-x,<-x',Nat.add_comm]
theorem Xu:∀(es:List (aX×List aP)) (f:Int) {y:Int×List aP},y∈lsE f es↔∃(k:Nat) (e:aX×List aP),es[k]?=U e/\y=(f+k,e.2)
 |[],f,y=>⟨(),λ⟨_,_,z,_⟩=>nomatch z⟩
 |e::es,f,y=>by
  rw[lsE,bu,Xu es];constructor
  ·rintro(rfl|⟨k,x,h,rfl⟩)
   ·exact⟨0,e,Z,by rw[Int.ofNat_zero,Int.add_zero]⟩
   ·exact⟨k+1,x,h,by rw[show f+1+(k:Int)=f+((k+1:Nat):Int) by lia]⟩
  ·rintro⟨k,x,h,rfl⟩;cases k with
   |zero=>cases h;exact .inl (by rw[Int.ofNat_zero,Int.add_zero])
   |succ k=>exact .inr ⟨k,x,h,by rw[show f+1+(k:Int)=f+((k+1:Nat):Int) by lia]⟩
theorem zfG:∀(es:List (aX×List aP)) (f:Int),((lsE f es).map (·.1)).Nodup
 |[],_=>cr
 |e::es,f=>by
  rw[lsE,bt,bY];refine⟨λz=>?_,zfG es (f+1)⟩;obtain⟨y,hy,ey⟩:=bG.mp z;obtain⟨k,x,_,rfl⟩:=(Xu es (f+1)).mp hy;have ey:f+1+(k:Int)=f:=ey;lia
theorem zbd{ls ls':List (Int×List aP)}{k:Int}(nd:(ls.map (·.1)).Nodup)(nd':(ls'.map (·.1)).Nodup)(t:∀y,y.1<k->(y∈ls↔y∈ls')):ya g ls p k=ya g ls' p k:=by
 unfold ya;rcases xu p k ls (-1,(zD g p).getD 0) with ⟨e1,n1⟩|⟨y,hy,w,e1,e2,e3,e4,e5⟩ <;> rcases xu p k ls' (-1,(zD g p).getD 0) with ⟨f1,n2⟩|⟨y',hy',w',f1,f2,f3,f4,f5⟩
 ·rw[e1,f1]
 ·rw[n1 y' ((t y' f2).mpr hy') f3 f2] at f1;cases f1
 ·rw[n2 y ((t y e2).mp hy) e3 e2] at e1;cases e1
 ·have ne:zD y.2 p≠ak:=by rw[e1];exact λz=>nomatch z
  have ne':zD y'.2 p≠ak:=by rw[f1];exact λz=>nomatch z
  have m1:=(t y e2).mp hy;have:y=y':=JB nd' m1 hy' (Int.le_antisymm (f5 y m1 e2 ne) (e5 y' ((t y' f2).mpr hy') f2 ne'));rw[e4,f4];rw[this,f1] at e1;exact(bP e1).symm
theorem zc1{S1 S2:DS}(A:StI f g CC S1)(Bn:StI f g CC S2):∀k,k<=CC.length->S1.es.take (min k S2.es.length)=S2.es.take (min k S1.es.length)
 |0,_=>by rw[Nat.zero_min,Nat.zero_min];rfl
 |k+1,hk=>by
  have ih:=zc1 A Bn k ();rcases gq k S1.es.length with c1|c1 <;> rcases gq k S2.es.length with c2|c2
  ·rw[cw (),cw ()] at ih;rw[cw (),cw ()];have h1:S1.es[k]?=U S1.es[k]:=bb c1;have h2:S2.es[k]?=U S2.es[k]:=bb c2;have hC:CC[k]?=U CC[k]:=bb ();obtain⟨a1,a2,a3,a4⟩:=A.rs k _ _ h1 hC;obtain⟨b1,b2,b3,b4⟩:=Bn.rs k _ _ h2 hC;rw[<-ih] at b4;have e1:S1.es[k].1=S2.es[k].1:=a1.det b1 a2 b2 (λp=>ya g (lsE f (S1.es.take k)) p (f+k)) a4 b4;rw[<-e1] at b3;have e2:S1.es[k]=S2.es[k]:=pI e1 (zgG a3 b3);rw[cq,cq,ih,h1,h2,e2]
  ·rw[cZ (),cw ()] at ih;rw[cZ (),cw (),ih,bU c2,bU ()]
  ·rw[cw (),cZ ()] at ih;rw[cw (),cZ (),<-ih,bU c1,bU ()]
  ·rw[cZ (),cZ ()] at ih;rw[cZ (),cZ ()];exact ih
end
section
variable {C:List Cs}{s s':aX}{f n h r:Int}{g gi:List aP}{CC:List (List Cs)}{S S':DS}{e:Ev}{j:Nat}{C0:List Cs}
theorem StI.set(A:StI f g CC S)(ok:sD n f g CC S)(m:(h,r,j,s)∈S.hl)(ec:CC[(r-f).toNat]?=U C)(F:FdI C s'):StI f g CC { S with hl:=XX S.hl h (r,j+1,s') }:=by
 refine { A with rn:=λe he C' hC=>?_ };obtain⟨e',m',rfl⟩:=bG.mp he;by_cases c:e'.1=h
 ·rw[aq c] at hC ⊢;cases bP (hC.symm.trans ec);exact F
 ·rw[am c] at hC ⊢;exact A.rn e' m' C' hC
theorem tT{ls:List (Int×List aP)}{y:Int×List aP}:y∈xx ls r gi↔(y∈ls/\y.1≠r)\/y=(r,gi):=by
 unfold xx;rw[bw,b7,decide_eq_true_eq,bp]
theorem zil{ls:List (Int×List aP)}(nd:(ls.map (·.1)).Nodup):((xx ls r gi).map (·.1)).Nodup:=by
 unfold xx;rw[bQ,da];refine⟨nd.sublist (fR _ cW),bY.mpr ⟨cf,cr⟩,λa ha b hb=>?_⟩;obtain⟨y,hy,rfl⟩:=bG.mp ha;rw[bp.mp hb];exact of_decide_eq_true (b7.mp hy).2
theorem StI.mv(A:StI f g CC S)(ok:sD n f g CC S)(mv:Mv f g CC S h e S'):StI f g CC S':=by
 have f0:=ok.f0;cases mv with
 |step m ec ho na=>exact A.set ok m ec ((A.rn _ m _ ec).step ho na)
 |read m ec ho ea=>exact A.set ok m ec ((A.rn _ m _ ec).read ho ea)
 |@lay r j s C gi m ec ho hg =>
  obtain⟨k,rk,kn,_⟩:=ok.rh m;have rk:r=f+k:=rk;refine⟨A.le,λe he=>A.rn e (aY.mp he).1,λe he C' hC=>?_,A.rs,λy hy=>?_,λe he=>?_,zil A.nd,λy hy=>?_,λy hy=>?_⟩
  ·rcases bw.mp he with z|z
   ·exact A.rl e z C' hC
   ·cases bp.mp z;cases bP (hC.symm.trans ec);exact⟨A.rn _ m _ ec,ho,hg⟩
  ·have hy:y.1<f+S.en:=hy;rw[<-A.ly y hy];exact tT.trans ⟨λz=>z.elim (λz=>z.1) λz=>by rw[z] at hy;have:r<f+S.en:=hy;lia,λz=>.inl ⟨z,()⟩⟩
  ·rcases bw.mp he with z|z
   ·exact tT.mpr (.inl ⟨A.ll e z,λy=>ok.nd.2.1.2.2 r (bC (f:=λe:Int×Int×Nat×aX=>e.2.1) m) _ (bC (f:=λe:Int×aX×List aP=>e.1) z) y.symm⟩)
   ·cases bp.mp z;exact tT.mpr (.inr Z)
  ·rcases tT.mp hy with z|z
   ·exact A.z0 y z.1
   ·rw[z];show 0<=r;lia
  ·rcases tT.mp hy with z|z
   ·exact A.lg y z.1
   ·rw[z];obtain⟨_,_,I,j11⟩:=ok.rn _ m;exact bO (zb8 hg) (bO I.ok.l2 j11)
 |@settle s gi m ag fr =>
  have le:=A.le;have ek:(f+(S.en:Int)-f).toNat=S.en:=by lia
  obtain⟨_,_,_,kl⟩:=ok.rl (bC (f:=λe:Int×aX×List aP=>e.1) m);refine⟨by show (S.es++[(s,gi)]).length=S.en+1;rw[bD,le];rfl,A.rn,λe he=>A.rl e (aY.mp he).1,λk e C hk hC=>?_,λy hy=>?_,λe he=>A.ll e (aY.mp he).1,A.nd,A.z0,A.lg⟩
  ·have hk:(S.es++[(s,gi)])[k]?=U e:=hk;show FdI C e.1/\yq C e.1=af/\Zd e.1 e.2/\Agr g (lsE f ((S.es++[(s,gi)]).take k)) (f+k) e.1.no;rcases gq k S.es.length with c|c
   ·rw[cy c] at hk;rw[List.take_append_of_le_length ()];exact A.rs k e C hk hC
   ·rw[dy c] at hk;obtain rfl:k=S.es.length:=by
     have:=(bo.mp hk).1;rw[dH] at this;lia
    rw[rF] at hk;cases hk;rw[le] at hC ⊢;obtain⟨a1,a2,a3⟩:=A.rl _ m C (by rw[ek];exact hC);rw[<-le,List.take_left,le];exact⟨a1,a2,a3,λy hy=>by rw[<-ag y hy];exact(zbd A.nd (zfG _ _) A.ly).symm⟩
  ·have hy:y.1<f+((S.en+1:Nat):Int):=hy;show y∈S.ls↔y∈lsE f (S.es++[(s,gi)]);have lm:y∈lsE f (S.es++[(s,gi)])↔y∈lsE f S.es\/y=(f+S.en,gi):=by
    rw[Xu,Xu];constructor
    ·rintro⟨k,e,hk,rfl⟩;rcases gq k S.es.length with c|c
     ·rw[cy c] at hk;exact .inl ⟨k,e,hk,Z⟩
     ·rw[dy c] at hk;obtain rfl:k=S.es.length:=by
       have:=(bo.mp hk).1;rw[dH] at this;lia
      rw[rF] at hk;cases hk;exact .inr (by rw[le])
    ·rintro(⟨k,e,hk,rfl⟩|rfl)
     ·exact⟨k,e,by rw[cy (bo.mp hk).1];exact hk,Z⟩
     ·exact⟨S.es.length,(s,gi),by rw[dy (bn _),rF];rfl,by rw[le]⟩
   rw[lm];by_cases c:y.1<f+S.en
   ·rw[A.ly y c];exact⟨.inl,λz=>z.resolve_right λz=>by rw[z] at c;have:f+(S.en:Int)<f+S.en:=c;lia⟩
   ·refine⟨λz=>.inr (JB A.nd z (A.ll _ m) (by show y.1=f+S.en;lia)),λz=>?_⟩;rcases z with z|z
    ·obtain⟨k,e,hk,rfl⟩:=(Xu _ _).mp z;have:=(bo.mp hk).1;exact absurd (show f+(k:Int)<f+S.en by lia) c
    ·rw[z];exact A.ll _ m
 |again=>exact { A with rl:=λe he=>A.rl e (aY.mp he).1,ll:=λe he=>A.ll e (aY.mp he).1 }
 |take =>
  refine { A with rn:=λe he C hC=>?_ };rcases bw.mp he with z|z
  ·exact A.rn e z C hC
  ·cases bp.mp z;exact FdI.new
 |rest=>exact A
theorem StI.add(A:StI f g CC S)(ok:sD n f g CC S):StI f g (CC++[C0]) (zgx f CC.length S) :=
 have up:∀(i:Nat) C,i<CC.length->(CC++[C0])[i]?=U C->CC[i]?=U C:=λi C lt z=>by rw[cy lt] at z;exact z
 ⟨A.le,λe he C hC=>A.rn e he C (up _ C (by obtain⟨k,z,_,l⟩:=ok.rh he;lia) hC),λe he C hC=>A.rl e he C (up _ C (by obtain⟨k,z,_,l⟩:=ok.rl (bC (f:=λe:Int×aX×List aP=>e.1) he);lia) hC),λk e C hk hC=>A.rs k e C hk (up _ C (by have l1:k<S.es.length:=(bo.mp hk).1;have:=A.le;have:=ok.el;lia) hC),A.ly,A.ll,A.nd,A.z0,A.lg⟩
theorem Mv.es(mv:Mv f g CC S h e S'):∃t,S'.es=S.es++t:=by
 cases mv with
 |@settle s gi=>exact⟨[(s,gi)],Z⟩
 |_=>exact⟨[],(fj _).symm⟩
end
section
variable {H0 H1 H':Hp}{lb:D->Nat}{d l w x dx dw Bp tl:D}{a:tO}{CC:List (List Cs)}{n f k:Int}{g:List aP}{S:DS}{wo:HO}{E:XK}{aK:List V}{v:V}{e:aX×List aP}{b:D}{o:HO}
def hdD(Bp:D)(H:Hp):Hp:=λb=>if b=Bp then ak else H b
theorem KC(n:b≠Bp)(e:H b=U o):hdD Bp H b=U o:=(am n).trans e
theorem X8(e:hdD Bp H b=U o):b≠Bp/\H b=U o:=by
 unfold hdD at e;by_cases z:b=Bp
 ·rw[aq z] at e;cases e
 ·rw[am z] at e;exact⟨z,e⟩
theorem PpC.same(h:PpC H0 H v e)(s:aL H H'):PpC H0 H' v e:=let ⟨r,o,nl,gl,e,h1,h2,h3,h4,z⟩:=h;⟨r,o,nl,gl,e,s _ _ h1,Qo h2 s,h3.same s,h4.same s,z⟩
theorem WR{vs:List V}{_E:XK}(F:DkF K t)(h:xH t vs H Q _E) :
  Zm K t (sH Q) (L2.start ["self"] vs) H:=by
 obtain⟨d,a,lb,n,f,g,CC,S,rfl,h,l5,q⟩:=h;obtain⟨wo,cs,kv,la,db,en,h,_,_,_,E,_⟩:=h;have ee:H a.en=U (.lst en):=h.at (i:=8) rfl;have le:=E.le;have lp:=bF E.ps;refine(zZ (h.at (i:=0) Z) F.cD F.d9 Z Z ⟨a.en,Z,⟨_,aT.of ee⟩,λBp hD=>?_⟩);have hs:∀ {H2:Hp},aL H H2->aL H (hdD Bp H2):=λs b o z=>KC (zC z hD) (s _ _ z);refine Ky (J:=Itl K a.en) en.length () (λτ=>∃o,τ=[o]) (λi ys H2=>Paired (PpC H (hdD Bp H2)) ys (S.es.take i)) (λi ys H2 H3 s z=>Paired.mapP z λ_ _ y=>y.same λb o z=>KC (X8 z).1 (s _ _ (X8 z).1 (X8 z).2)) ⟨_,Z⟩ .nil (λi H s h=>⟨_,_,aT.of (s _ _ ee),bb h⟩) (λH s=>⟨_,aT.of (s _ _ ee),bn _⟩) hD ?_ ?_
 ·rintro i v τ us H4 H5 ⟨o,rfl⟩ s4 hi hR hD4 ⟨rfl,hv⟩;have hv:=hv _ (aT.of (s4 _ _ ee));obtain⟨e,he,r,rfl,o',nl,gl,hr,oc,⟨xs,hx,px⟩,⟨ys,hy,py⟩,_⟩:=Paired.getP E.ps hv;refine yE (R:=False) Z ⟨_,Z,r,_,0,_,Z,Z,sN.of (s4 _ _ hr),Z,_,Z,r,_,1,_,Z,Z,sN.of (s4 _ _ hr),Z,nl,xs,Z,.inl (aT.of (s4 _ _ hx)),λp1 h1=>?_⟩;generalize c1:upd H5 p1 _=H6;obtain⟨s6,e6⟩:=yG c1 h1;have S6:=s4.trans s6;refine⟨_,Z,r,_,2,_,Z,Z,sN.of (S6 _ _ hr),Z,gl,ys,Z,.inl (aT.of (S6 _ _ hy)),λp2 h2=>?_⟩;generalize c2:upd H6 p2 _=H7;obtain⟨s7,e7⟩:=yG c2 h2;have S7:=S6.trans s7;refine⟨by show 3<=Bb;rw[bN];decide,λp3 h3=>?_⟩;have s8:=sQ (o:=HO.tup [o',.ref p1,.ref p2]) p3 h3;have e8:upd H7 p3 (HO.tup [o',.ref p1,.ref p2]) p3=U (.tup [o',.ref p1,.ref p2]):=zi;refine⟨⟨_,Z⟩,?_,s6.trans (s7.trans s8)⟩;have S8:=hs (S7.trans s8);show Paired (PpC H (hdD Bp (upd H7 p3 (HO.tup [o',.ref p1,.ref p2])))) (us++[.ref p3]) (S.es.take (i+1));rw[show S.es.take (i+1)=S.es.take i++[e] by rw[cq,he];rfl];refine Paired.snocP (Paired.mapP hR λ_ _ y=>y.same λb o z=>KC (X8 z).1 ((s6.trans (s7.trans s8)) _ _ (X8 z).2)) ⟨p3,o',p1,p2,Z,KC (zC (s7 _ _ (s6 _ _ hD4)) h3).symm e8,Qo oc S8,⟨xs,KC (zC hD4 h1).symm (s8 _ _ (s7 _ _ e6)),vQ S8 px⟩,⟨ys,KC (zC (s6 _ _ hD4) h2).symm (s8 _ _ e7),vQ S8 py⟩,zH s4 h1,zH S6 h2⟩
 ·intro us H4 hlu hR s4 hq;rw[bU ()] at hR;exact q Bp us H4 s4 hD hq (Paired.mapP hR λ_ _ y=>y.same λb o z=>(X8 z).2)
theorem V2{vs:List V}{_E:XK}(F:DkF K t)(h:vb t vs H Q _E) :
  Yd K t (sH Q) (L2.start ["self"] vs) H:=by
 obtain⟨d,a,lb,n,f,g,CC,S,rfl,h,f0,fw,q⟩:=h;obtain⟨wo,cs,kv,la,db,en,h,_,_,_,E,_⟩:=h;have e1:H d=U (.ins t.q00 a.dx (YD a n f)):=h.at (i:=0) rfl;have M:sW t H a.mks (λb=>lb b=10) g S.ls 0:=h.ms;obtain⟨dx,gr,wo,rk,wk,kk,MI⟩:=M.ex;rw[<-E.le] at q;exact(zZ e1 F.cD F.d7 Z Z ⟨a.mks,_,_,Z,MI.im,v6 (),xR e1 Z Z ⟨d,_,a,n,f,en,Z,e1,h.at (i:=8) Z,a.mks,f+en.length,_,g,S.ls,Z,h.ms,(),fw,q⟩⟩)
theorem XG(ht:sL H tl g)(hr:H tl=U (.lst aK))(l5:g.length<=5)(hl:H l=ak)(s1:aL (upd H l (.lst aK)) H1)(hw:H1 w=U wo)(nw:upd H l (.lst aK) w=ak)(wy:∀a:tO,a.dw=dw->zhW t a wo)(hx:H1 x=ak)(hdx:H1 dx=ak)(q:∀d a lb H',aL H H'->(∀b o,H b=U o->lb b=0)->tE t H' d a lb n 0 g [] S0->Q (.ref d) H'):xM t [.ref x,.ref l,.int n,.ref w,.int 0] (upd (upd H1 dx (.own x)) x (.ins t.q00 dx [])) (λv H2=>v=.non/\Q (.ref x) H2) E:=by
 obtain⟨rs,hr',pt⟩:=ht;rw[hr] at hr';cases hr';have s2:=sQ (o:=HO.lst aK) l hl;have e1:upd H l (.lst aK) l=U (.lst aK):=zi;generalize upd H l (.lst aK)=H2 at *
 have s3:aL H1 (upd (upd H1 dx (.own x)) x (.ins t.q00 dx [])):=λb o z=>by rw[zl (zC z hx),zl (zC z hdx)];exact z
 have S:=s2.trans (s1.trans s3);have nx:∀b o,H b=U o->b≠x:=λb o z y=>by have:=s1 _ _ (s2 _ _ z);rw[y,hx] at this;cases this
 refine⟨x,l,w,dx,dw,n,0,wo,g,Z,zi,⟨aK,s3 _ _ (s1 _ _ e1),vQ S pt⟩,(),s3 _ _ hw,(λz=>by rw[z,hx] at hw;cases hw),λH' a lb ea ed k z0 h=>⟨rfl,q x a lb H' (λb o z=>k b o (nx b o z) (S _ _ z)) (λb o z=>z0 b o (nx b o z) (λy=>by have:=s2 _ _ z;rw[y,nw] at this;cases this) (S _ _ z)) ⟨wo,[],[],[],[],[],h,.nil,.nil,⟨⟨cr,λ_ z=>nomatch z⟩,λ_ z=>nomatch z⟩,⟨rfl,.nil⟩,wy a ed⟩⟩⟩
theorem JH{vs:List V}{_E:XK}(h:vO t vs H Q _E) :
  Xd K t (sH Q) (L2.start ["table","hands","kind"] vs) H:=by
 obtain⟨tl,n,k,g,rfl,ht,l5,q⟩:=h;obtain⟨aK,hr,pt⟩:=id ht;refine⟨_,Z,Z,_,Z,?_⟩;by_cases k1:k=1
 ·refine yE (Bj (congrArg V.int k1)) ⟨_,Z,tl,aK,Z,.inl (aT.of hr),λl hl=>⟨_,Z,?_⟩⟩;intro w dw hw hdw nw x dx hx hdx nx;have s1:aL (upd H l (.lst aK)) (upd (upd (upd H l (.lst aK)) dw (.own w)) w (.ins t.q0e dw [])):=λb o z=>by rw[zl (zC z hw),zl (zC z hdw)];exact z
  exact XG (dw:=dw) ht hr l5 hl s1 zi hw (λa ea=>.inr (.inl (by rw[ea]))) hx hdx q
 refine ym (Bk λz=>k1 (V.int.inj z)) ⟨_,Z,Z,_,Z,?_⟩;by_cases k2:k=2
 ·refine yE (Bj (congrArg V.int k2)) ⟨_,Z,tl,aK,Z,.inl (aT.of hr),λl hl=>⟨_,Z,?_⟩⟩;intro w dw hw hdw nw;refine⟨w,dw,Z,zi,⟨Z,?_⟩⟩;intro x dx hx hdx nx;have s1:aL (upd H l (.lst aK)) (upd (upd (upd (upd H l (.lst aK)) dw (.own w)) w (.ins t.q06 dw [])) w (.ins t.q06 dw [(bg "times",.int 0)])):=λb o z=>by rw[zl (zC z hw),zl (zC z hw),zl (zC z hdw)];exact z
  exact XG (dw:=dw) ht hr l5 hl s1 zi hw (λa ea=>.inr (.inr ⟨0,by rw[ea];rfl⟩)) hx hdx q
 ·refine ym (Bk λz=>k2 (V.int.inj z)) ⟨_,Z,tl,aK,Z,.inl (aT.of hr),λl hl=>⟨_,Z,?_⟩⟩;intro w dw hw hdw nw x dx hx hdx nx;have s1:aL (upd H l (.lst aK)) (upd (upd (upd H l (.lst aK)) dw (.own w)) w (.ins t.q0f dw [])):=λb o z=>by rw[zl (zC z hw),zl (zC z hdw)];exact z
  exact XG (dw:=dw) ht hr l5 hl s1 zi hw (λa ea=>.inl (by rw[ea])) hx hdx q
end
section
variable {f:Int}{g:List aP}{CC:List (List Cs)}{S:DS}{C:List Cs}{v:V}{H':Hp}
section
variable {N:Int}
theorem sD.add(ok:sD N f g CC S)(hC:Qj C/\C.length<=11)(h5:CC.length<5):sD N f g (CC++[C]) (zgx f CC.length S):=by
 have ln:(CC++[C]).length=CC.length+1:=bD ..;have el:=ok.el;refine⟨ok.f0,⟨λC' h=>?_,()⟩,by show S.en<=_;lia,?_,?_,ok.hn,ok.hr,λe he=>?_,ok.nt,λy hy=>?_,ok.gw,ok.lw⟩
 ·rcases bw.mp h with h|h
  ·exact ok.cc.ok C' h
  ·rw[bp.mp h];exact hC
 ·show ((S.ws++[f+(CC.length:Int)])++_).Perm (vN f S.en _);rw[ln];have z:vN f S.en (CC.length+1)=vN f S.en CC.length++[f+(CC.length:Int)]:=by
   unfold vN;rw[show CC.length+1-S.en=CC.length-S.en+1 by lia,List.range_succ,bQ];refine congrArg _ ?_;show [f+(S.en:Int)+((CC.length-S.en:Nat):Int)]=_;rw[show f+(S.en:Int)+((CC.length-S.en:Nat):Int)=f+CC.length by lia]
  rw[z,cB];refine dQ ?_ (ok.pm.append_right _);rw[cB];exact .append_left _ oo
 ·refine gI.mpr ⟨ok.so,by simp,λx hx y hy=>?_⟩;obtain⟨j,rfl,_,jl⟩:=ok.rw_ hx;rw[bp.mp hy];lia
 ·obtain⟨C',h1,h2⟩:=ok.rn e he;exact⟨C',by rw[cy (bo.mp h1).1];exact h1,h2⟩
 ·have:=ok.ly y hy;lia
end
theorem tP.same(h:tP H v C)(k:aL H H'):tP H' v C:=let ⟨c,ys,e,hc,pc⟩:=h;⟨c,ys,e,k _ _ hc,wE k pc⟩
end
structure DK where
 a:tO
 lb:D->Nat
 CC:List (List Cs)
 S:DS
structure DkA(t:bv)(H:Hp)(g:List aP)(p:D×Int)(X:DK):Prop where
 k:tE t H p.1 X.a X.lb p.2 0 g X.CC X.S
 o:sD p.2 0 g X.CC X.S
 s:StI 0 g X.CC X.S
structure TwI(t:bv)(H:Hp)(g:List aP)(p r:D×Int)(X Y:DK):Prop where
 x:DkA t H g p X
 y:DkA t H g r Y
 ap:∀b,X.lb b≠0->Y.lb b=0
structure Bz(H:Hp)(X Y:DK)(H':Hp)(X' Y':DK):Prop where
 ts:TSm H H'
 kp:∀b o,X.lb b=0/\Y.lb b=0->H b=U o->H' b=U o/\X'.lb b=0/\Y'.lb b=0
structure Up(t:bv)(g:List aP)(p r:D×Int)(H:Hp)(X Y:DK)(CC':List (List Cs))(H':Hp)(X':DK):Prop where
 tw:TwI t H' g p r X' Y
 bz:Bz H X Y H' X' Y
 cc:X'.CC=CC'
 es:∃t,X'.S.es=X.S.es++t
section
variable {H' H2:Hp}{g:List aP}{p r:D×Int}{X Y X' Y' X2 Y2:DK}{CC:List (List Cs)}{C:List Cs}{h:Int}{v:V}{E:XK}{b:D}{o:HO}{lb':D->Nat}{S':DS}{e:aX×List aP}{H0:Hp}
theorem TwI.symm(I:TwI t H g p r X Y):TwI t H g r p Y X:=⟨I.y,I.x,λb z=>eC λy=>z (I.ap b y)⟩
theorem TwI.same(I:TwI t H g p r X Y)(s:aL H H'):TwI t H' g p r X Y:=⟨{ I.x with k:=I.x.k.same s },{ I.y with k:=I.y.k.same s },I.ap⟩
theorem Bz.symm(Bn:Bz H X Y H' X' Y'):Bz H Y X H' Y' X':=⟨Bn.ts,λb o z e=>let ⟨a,c⟩:=Bn.kp b o z.symm e;⟨a,c.symm⟩⟩
theorem Bz.same(s:aL H H'):Bz H X Y H' X Y:=⟨TSm.of s,λb o z e=>⟨s _ _ e,z⟩⟩
theorem TwI.up(I:TwI t H g p r X Y)(F:Fr M0 H H' X.lb lb')(k:tE t H' p.1 X.a lb' p.2 0 g CC S')(o:sD p.2 0 g CC S')(s:StI 0 g CC S')(es:∃t,S'.es=X.S.es++t):Up t g p r H X Y CC H' ⟨X.a,lb',CC,S'⟩:=by
 refine⟨⟨⟨k,o,s⟩,{ I.y with k:=I.y.k.of (λb o z e=>F.kp b o (.inl (I.symm.ap b z)) e) F.ts F.al },λb z=>?_⟩,⟨F.ts,λb o z e=>⟨F.kp b o (.inl z.1) e,(F.ex b o e).trans z.1,z.2⟩⟩,rfl,es⟩;cases e:H b with
 |none=>exact I.y.k.l0 e
 |some o=>exact I.ap b λy=>z ((F.ex b o e).trans y)
theorem zcd(I:TwI t H g p r X Y)(co:tP H v C)(hC:Qj C/\C.length<=11)(h5:X.CC.length<5)(q:∀w H' X',Up t g p r H X Y (X.CC++[C]) H' X'->Q w H'):zk σ H λxs H2=>wf t (.ref p.1::((v::xs)++[])) H2 Q E0:=by
 have:=I.x.o.len;exact⟨p.1,v,X.a,X.lb,p.2,0,g,X.CC,C,X.S,Z,co,I.x.k,(),(),λH' lb' F G=>q _ H' _ (I.up F G (I.x.o.add hC h5) (I.x.s.add I.x.o) ⟨[],(fj _).symm⟩)⟩
theorem zc2(I:TwI t H g p r X Y)(p0:0<=h)(pn:h<p.2)(q:∀w H' X',Up t g p r H X Y X.CC H' X'->Q w H'):xN t [.ref p.1,.int h] H Q E0 :=
 ⟨p.1,X.a,X.lb,p.2,0,h,g,X.CC,X.S,Z,I.x.k,I.x.o,p0,pn,λv H' lb' e S' F _ mv G=>q v H' _ (I.up F G (Mv.ok I.x.o mv p0 pn) (I.x.s.mv I.x.o mv) mv.es)⟩
theorem zfH(I:TwI t H g p r X Y)(n1:1<=p.2)(n8:p.2<=8)(q:∀w H' X',Up t g p r H X Y X.CC H' X'->X'.S.en=X.CC.length->Q w H'):zk σ H λxs H2=>xG t (.ref p.1::(xs++[])) H2 Q E0:=
 ⟨p.1,X.a,X.lb,p.2,0,g,X.CC,X.S,λ_ S=>StI 0 g X.CC S/\∃t,S.es=X.S.es++t,Z,I.x.k,I.x.o,n1,n8,⟨I.x.s,[],(fj _).symm⟩,(λes S h e S' J ok _ mv=>⟨J.1.mv ok mv,let ⟨a,ea⟩:=J.2;let ⟨c,ec⟩:=mv.es;⟨a++c,by rw[ec,ea,cB]⟩⟩),λl xs es H' lb' S' F _ _ _ _ _ J ok en G=>q _ H' _ (I.up F G ok J.1 J.2) en⟩
theorem zfI(A:StI 0 g CC S')(ok:sD h 0 g CC S')(l5:g.length<=5):zgy g S'.ls:=by
 have a:=ji (q:=λy:Int×List aP=>y.2.length) (q':=λ_=>11) A.lg;have b:=xK A.nd (b:=vN 0 0 CC.length) λx hx=>by
  obtain⟨y,hy,rfl⟩:=bG.mp hx;have:=ok.ly y hy;exact rks_mem.mpr ⟨y.1.toNat,(),bS _,()⟩
 have c:=ok.cc.le;unfold vN at b;rw[bf,bf,mJ] at b;rw[List.map_const',List.sum_replicate_nat] at a;unfold zgy;lia
variable {n:Nat}{x y x' y' u w:V}{xs ys:List V}{a c:D}{aK:List aP}
theorem V3(i:Nat)(u w:V)(h:([]:List V)[i]?=U u):sX H n u w:=nomatch h
theorem wG(h:sX H n x x')(k:∀(i:Nat) u w,xs[i]?=U u->ys[i]?=U w->sX H n u w)(i:Nat)(u w:V)(h1:(x::xs)[i]?=U u)(h2:(x'::ys)[i]?=U w):sX H n u w:=by
 cases i with
 |zero=>cases h1;cases h2;exact h
 |succ i=>exact k i u w h1 h2
theorem zfJ{β:Type}{R R':V->β->Prop}{es:List β}(h1:H a=U (.lst xs))(h2:H c=U (.lst ys))(p1:Paired R xs es)(p2:Paired R' ys es)(k:∀u w e,R u e->R' w e->sX H n u w):sX H (n+1) (.ref a) (.ref c):=by
 refine .lst h1 h2 ((bF p1).trans (bF p2).symm) λi u w hu hw=>?_;obtain⟨e,he,r⟩:=Paired.getP p1 hu;obtain⟨e',he',r'⟩:=Paired.getP p2 hw;cases he.symm.trans he';exact k u w e r r'
theorem Qy(h1:sL H a aK)(h2:sL H c aK):sX H (n+4) (.ref a) (.ref c):=by
 obtain⟨xs,a1,a2⟩:=h1;obtain⟨ys,b1,b2⟩:=h2;refine zfJ a1 b1 a2 b2 ?_;rintro u w e ⟨r,p,rfl,r1,r2⟩ ⟨r',p',rfl,r1',r2'⟩;exact .tup r1 r1' Z (wG (.tup r2 r2' Z (wG (.str _) (wG (.int _) λi u w h _=>V3 i u w h))) (wG (.int _) λi u w h _=>V3 i u w h))
theorem ziS(h1:Jm H x oc)(h2:Jm H y oc):sX H (n+3) x y:=by
 cases oc with
 |done sa =>
  obtain⟨o,z,rfl,a1,a2⟩:=h1;obtain⟨o',z',rfl,b1,b2⟩:=h2;refine .tup a1 b1 Z (wG (.str _) (wG (.tup a2 b2 Z λi u w h1 h2=>?_) λi u w h _=>V3 i u w h));rw[bB] at h1 h2;obtain⟨k,e,rfl⟩:=b9.mp h1;rw[e] at h2;cases h2;exact .int k
 |off s =>
  obtain⟨o,rfl,a1⟩:=h1;obtain⟨o',rfl,b1⟩:=h2;exact .tup a1 b1 Z (wG (.str _) (wG (.str _) λi u w h _=>V3 i u w h))
def Z2(X Y:DK)(b:D):Prop:=X.lb b=0/\Y.lb b=0
def PpZ(X Y:DK)(H:Hp)(v:V)(e:aX×List aP):Prop:=∃r o nl gl,v=.ref r/\H r=U (.tup [o,.ref nl,.ref gl])/\Jm H o (zdD e.1)/\sL H nl e.1.no/\sL H gl e.2/\Z2 X Y nl/\Z2 X Y gl
structure EpI(H:Hp)(X Y:DK)(l:D)(xs:List V)(es:List (aX×List aP)):Prop where
 hl:H l=U (.lst xs)
 z:Z2 X Y l
 ps:Paired (PpZ X Y H) xs es
structure TbI(H:Hp)(X Y:DK)(l:D)(aK:List aP):Prop where
 hl:sL H l aK
 z:Z2 X Y l
variable {l:D}{es:List (aX×List aP)}
theorem EpI.of(I:TwI t H g p r X Y)(n:H l=ak)(hl:H' l=U (.lst xs))(ps:Paired (PpC H H') xs es):EpI H' X Y l xs es:=⟨hl,⟨I.x.k.l0 n,I.y.k.l0 n⟩,Paired.mapP ps λ_ _ ⟨r,o,nl,gl,e,h1,h2,h3,h4,n1,n2⟩=>⟨r,o,nl,gl,e,h1,h2,h3,h4,⟨I.x.k.l0 n1,I.y.k.l0 n1⟩,I.x.k.l0 n2,I.y.k.l0 n2⟩⟩
theorem Bz.ls(Bn:Bz H X Y H' X' Y')(h:sL H l aK)(z:Z2 X Y l):sL H' l aK/\Z2 X' Y' l:=by
 obtain⟨xs,a1,a2⟩:=h;obtain⟨b1,b2⟩:=Bn.kp _ _ z a1;exact⟨⟨xs,b1,YF Bn.ts a2⟩,b2⟩
theorem TbI.bz(h:TbI H X Y l aK)(Bn:Bz H X Y H' X' Y'):TbI H' X' Y' l aK:=⟨(Bn.ls h.hl h.z).1,(Bn.ls h.hl h.z).2⟩
theorem EpI.bz(h:EpI H X Y l xs es)(Bn:Bz H X Y H' X' Y'):EpI H' X' Y' l xs es:=⟨(Bn.kp _ _ h.z h.hl).1,(Bn.kp _ _ h.z h.hl).2,Paired.mapP h.ps λ_ _ ⟨r,o,nl,gl,e,h1,h2,h3,h4,n1,n2⟩=>⟨r,o,nl,gl,e,Bn.ts _ _ h1,zhf h2 Bn.ts,(Bn.ls h3 n1).1,(Bn.ls h4 n2).1,(Bn.ls h3 n1).2,(Bn.ls h4 n2).2⟩⟩
theorem zhl(h1:H a=U (.lst xs))(h2:H c=U (.lst ys))(p1:Paired (PpZ X1 Y1 H) xs es)(p2:Paired (PpZ X2 Y2 H) ys es):sX H 6 (.ref a) (.ref c):=by
 refine zfJ h1 h2 p1 p2 ?_;rintro u w e ⟨r,o,nl,gl,rfl,r1,r2,r3,r4,_⟩ ⟨r',o',nl',gl',rfl,r1',r2',r3',r4',_⟩;exact .tup r1 r1' Z (wG (ziS r2 r2') (wG (Qy (n:=0) r3 r3') (wG (Qy (n:=0) r4 r4') λi u w h _=>V3 i u w h)))
theorem zhm{α β:Type}{R:α->β->Prop}:∀(k:Nat) {a:List α} {b:List β},Paired R a b->Paired R (a.take k) (b.take k)
 |0,_,_,_=>.nil
 |_+1,_,_,.nil=>.nil
 |k+1,_,_,.cons h r=>.cons h (zhm k r)
end
def σT(s cl:D)(o1 o2 o3:Option V)(p r:D×Int)(o9 o10 o11 o12 o13 o14:Option V):St:=[U (.ref s),o1,o2,o3,U (.ref cl),U (.int p.2),U (.int r.2),U (.ref p.1),U (.ref r.1),o9,o10,o11,o12,o13,o14]
structure LwB(K:bx)(H0:Hp)(s cl:D)(ns:List Int)(vs:List V)(CC:List (List Cs))(g:List aP)(p r:D×Int):Prop where
 hS:aT K H0 s (ns.map V.int)
 hn:ns.length<=63
 hx:H0 cl=U (.lst vs)
 px:Paired (tP H0) vs CC
 cc:zgw CC
 l5:g.length<=5
 b1:1<=p.2/\p.2<=8
 b2:1<=r.2/\r.2<=8
structure LwT(t:bv)(H0:Hp)(g:List aP)(p r:D×Int)(H:Hp)(X Y:DK):Prop where
 tw:TwI t H g p r X Y
 sm:∀b o,H0 b=U o->H b=U o/\Z2 X Y b
section
variable {H0 H':Hp}{g aK:List aP}{p r:D×Int}{X Y X' Y':DK}{CC CC':List (List Cs)}{C:List Cs}{s cl l1 l2 l3:D}{ns:List Int}{vs xs1 xs2:List V}{v:V}{es:List (aX×List aP)}{ad i:Nat}{o1 o2 o3 o9 o10 o11 o12 o13 o14:Option V}
theorem LwT.s0(Bo:LwT t H0 g p r H X Y):aL H0 H:=λb o e=>(Bo.sm b o e).1
theorem LwT.x(Bo:LwT t H0 g p r H X Y)(Bm:Up t g p r H X Y CC' H' X'):LwT t H0 g p r H' X' Y:=⟨Bm.tw,λb o e=>let ⟨a,c⟩:=Bo.sm b o e;Bm.bz.kp b o c a⟩
theorem LwT.y(Bo:LwT t H0 g p r H X Y)(Bm:Up t g r p H Y X CC' H' Y'):LwT t H0 g p r H' X Y':=⟨Bm.tw.symm,λb o e=>let ⟨a,c⟩:=Bo.sm b o e;Bm.bz.symm.kp b o c a⟩
theorem LwT.same(Bo:LwT t H0 g p r H X Y)(k:aL H H'):LwT t H0 g p r H' X Y:=⟨Bo.tw.same k,λb o e=>let ⟨a,c⟩:=Bo.sm b o e;⟨k _ _ a,c⟩⟩
theorem LwB.code(Bn:LwB K H0 s cl ns vs CC g p r)(Bo:LwT t H0 g p r H X Y)(hv:vs[i]?=U v):∃C,tP H v C/\(Qj C/\C.length<=11)/\i<5/\CC.take (i+1)=CC.take i++[C]/\i<CC.length:=by
 obtain⟨C,hC,co⟩:=Paired.getP Bn.px hv;have lt:=(bo.mp hC).1;have:=Bn.cc.le;exact⟨C,co.same Bo.s0,Bn.cc.ok C (bT hC),(),by rw[cq,hC];rfl,lt⟩
theorem zdK(Bo:LwT t H0 g p r H X Y)(Bn:LwB K H0 s cl ns vs CC g p r)(hX:X.S.en=CC.length)(hY:Y.S.en=CC.length)(q:∀H',Q (.bl af) H') :
  Km K t (sH Q) (σT s cl o1 o2 o3 p r o9 o10 o11 o12 o13 o14) H:=by
 obtain⟨e1,_,en1,_,ee1,_,le1⟩:=Bo.tw.x.k.cmp;obtain⟨e2,_,en2,_,ee2,_,le2⟩:=Bo.tw.y.k.cmp;have lv:=bF Bn.px;have hc:=Bo.s0 _ _ Bn.hx;refine(xR e1 Z Z ⟨p.1,_,X.a,p.2,0,en1,Z,e1,ee1,_,Z,.ref cl,vs.length,Z,.inl ⟨_,aT.of hc,Z⟩,Z,_,Z,yE (Bj (congrArg V.int (show (0:Int)+en1.length=vs.length by lia))) (xR e2 Z Z ⟨r.1,_,Y.a,r.2,0,en2,Z,e2,ee2,_,Z,.ref cl,vs.length,Z,.inl ⟨_,aT.of hc,Z⟩,Z,?_⟩)⟩);rw[show (0:Int)+en2.length=vs.length by lia];exact zfx (q _)
theorem zim{k:Nat}(h:k<=xs.length):jI xs ak (U (k:Int))=xs.take k:=by
 unfold jI;rw[HT.sIx_none,HT.sIx_nat,cw h];exact congrArg _ (gN ..)
theorem zdL(Bo:LwT t H0 g p r H X Y)(Bn:LwB K H0 s cl ns vs CC g p r)(hX:X.S.en=CC.length)(hY:Y.S.en=CC.length)(e1:EpI H X Y l1 xs1 es)(e2:EpI H X Y l2 xs2 X.S.es)(ee:∃t,X.S.es=es++t)(e3:TbI H X Y l3 aK)(tf:zaP (λq=>ya g X.S.ls q (0+X.S.en)) aK)(q:∀H',Q (.bl af) H') :
  Kn K t (sH Q) (σT s cl o1 o2 (U (.ref l3)) p r o9 o10 o11 o12 (U (.ref l1)) (U (.ref l2))) H:=by
 have n1:=bF e1.ps;have n2:=bF e2.ps;obtain⟨w,ew⟩:=ee;have lw:=congrArg fG ew;rw[bD] at lw;refine⟨_,Z,_,Z,_,Z,.ref l1,xs1.length,Z,.inl ⟨_,aT.of e1.hl,Z⟩,_,Z,l2,xs2,Z,aT.of e2.hl,λb hb=>?_⟩;rw[zim ()];generalize c_:upd H b _=H1;obtain⟨s1,eb⟩:=yG c_ hb;have tk:X.S.es.take xs1.length=es:=by rw[ew,n1,List.take_left]
 have p2:=zhm xs1.length e2.ps;rw[tk] at p2;have E1:=e1.bz (Bz.same s1);have E2:Paired (PpZ X Y H1) _ es:=Paired.mapP p2 λ_ _ ⟨r,o,nl,gl,e,h1,h2,h3,h4,z⟩=>⟨r,o,nl,gl,e,s1 _ _ h1,Qo h2 s1,h3.same s1,h4.same s1,z⟩;refine⟨_,_,Z,zhl E1.hl eb E1.ps E2,λH2 s2=>⟨_,Z,ym Z ?_⟩⟩;have S2:=s1.trans s2;have L2':=Bo.same S2;refine(xR L2'.tw.x.k.cmp.1 Z Z ⟨p.1,X.a,X.lb,p.2,0,g,X.CC,X.S,Z,L2'.tw.x.k,m6 _,zfI Bo.tw.x.s Bo.tw.x.o Bn.l5,λl4 rows4 H4 s4 n4 h4 tf4=>?_⟩);have er:rows4=aK:=Ym tf4.1 tf.1 λx=>(tf4.2 x.1 x.2).trans (tf.2 x.1 x.2).symm;rw[er] at h4;exact⟨_,Z,_,_,Z,Qy (n:=2) h4 (e3.hl.same (S2.trans s4)),λH5 s5=>⟨_,Z,ym Z (zdK (L2'.same (s4.trans s5)) Bn hX hY q)⟩⟩
theorem zdM(Bo:LwT t H0 g p r H X Y)(Bn:LwB K H0 s cl ns vs CC g p r)(hX:X.S.en=CC.length)(hY:Y.S.en=CC.length)(e1:EpI H X Y l1 xs1 es)(e2:EpI H X Y l2 xs2 X.S.es)(ee:∃t,X.S.es=es++t)(e3:TbI H X Y l3 aK)(tf:zaP (λq=>ya g X.S.ls q (0+X.S.en)) aK)(q:∀H',Q (.bl af) H') :
  Ko K t (sH Q) (σT s cl o1 o2 (U (.ref l3)) p r o9 o10 o11 o12 (U (.ref l1)) (U (.ref l2))) H:=by
 have n2:=bF e2.ps;have lv:=bF Bn.px;have l5:=Bn.cc.le;have le:=Bo.tw.x.s.le;refine⟨_,Z,.ref l2,xs2.length,Z,.inl ⟨_,aT.of e2.hl,Z⟩,_,Z,.ref cl,vs.length,Z,.inl ⟨_,aT.of (Bo.s0 _ _ Bn.hx),Z⟩,Z,_,Z,ym (by rw[Bj (by rw[show xs2.length=vs.length by lia])];rfl) ?_⟩;refine(xR Bo.tw.x.k.cmp.1 Z Z ⟨p.1,X.a,X.lb,p.2,0,g,X.CC,X.S,Z,Bo.tw.x.k,(),λl4 xs4 H4 s4 n4 h4 p4=>⟨_,Z,_,_,Z,zhl h4 (s4 _ _ e2.hl) (EpI.of Bo.tw n4 h4 p4).ps (e2.bz (Bz.same s4)).ps,λH5 s5=>⟨_,Z,ym Z ?_⟩⟩⟩);have S5:=s4.trans s5;exact zdL (Bo.same S5) Bn hX hY (e1.bz (Bz.same S5)) (e2.bz (Bz.same S5)) ee (e3.bz (Bz.same S5)) tf q
theorem zdN(Bo:LwT t H0 g p r H X Y)(Bn:LwB K H0 s cl ns vs CC g p r)(cX:X.CC=CC)(cY:Y.CC=CC)(hY:Y.S.en=CC.length)(e1:EpI H X Y l1 xs1 X.S.es)(e2:EpI H X Y l2 xs2 Y.S.es)(e3:TbI H X Y l3 aK)(tf:zaP (λq=>ya g Y.S.ls q (0+Y.S.en)) aK)(q:∀H',Q (.bl af) H') :
  Kq K t (sH Q) (σT s cl o1 o2 (U (.ref l3)) p r o9 o10 o11 o12 (U (.ref l1)) (U (.ref l2))) H:=by
 refine(xR Bo.tw.x.k.cmp.1 Z Z (zfH Bo.tw Bn.b1.1 Bn.b1.2 λw H' X' Bm en=>?_));have A:=Bm.tw.x.s;have Bp:=Bo.tw.y.s;rw[Bm.cc,cX] at A;rw[cY] at Bp;rw[cX] at en;have ss:=zc1 A Bp CC.length (bn _);rw[A.le,Bp.le,en,hY,Nat.min_self,bU (by rw[A.le,en];exact bn _),bU (by rw[Bp.le,hY];exact bn _)] at ss;have E2:=e2.bz Bm.bz;rw[<-ss] at E2;refine zdM (Bo.x Bm) Bn en hY (e1.bz Bm.bz) E2 Bm.es (e3.bz Bm.bz) ?_ q;have ef:(λq=>ya g Y.S.ls q (0+Y.S.en))=λq=>ya g X'.S.ls q (0+X'.S.en):=funext λq=>by
  rw[hY,en];refine zbd Bp.nd A.nd λy hy=>?_;have a:=A.ly y (by rw[en];exact hy);have d:=Bp.ly y (by rw[hY];exact hy);rw[ss] at a;exact d.trans a.symm
 rw[<-ef];exact tf
theorem zdO(Bo:LwT t H0 g p r H X Y)(Bn:LwB K H0 s cl ns vs CC g p r)(cX:X.CC=CC)(cY:Y.CC=CC)(hY:Y.S.en=CC.length)(e1:EpI H X Y l1 xs1 X.S.es)(q:∀H',Q (.bl af) H') :
  Kr K t (sH Q) (σT s cl o1 o2 o3 p r o9 o10 o11 o12 (U (.ref l1)) o14) H:=by
 have l5:=Bn.cc.le;refine(xR Bo.tw.y.k.cmp.1 Z Z ⟨r.1,Y.a,Y.lb,r.2,0,g,Y.CC,Y.S,Z,Bo.tw.y.k,(),λl2 xs2 H2 s2 n2 h2 p2=>?_⟩);have L2':=Bo.same s2;refine(xR L2'.tw.y.k.cmp.1 Z Z ⟨r.1,Y.a,Y.lb,r.2,0,g,Y.CC,Y.S,Z,L2'.tw.y.k,m6 _,zfI Bo.tw.y.s Bo.tw.y.o Bn.l5,λl3 aK H3 s3 n3 h3 tf=>?_⟩);have E2:=EpI.of Bo.tw n2 h2 p2;exact zdN (L2'.same s3) Bn cX cY hY (e1.bz (Bz.same (s2.trans s3))) (E2.bz (Bz.same s3)) ⟨h3,L2'.tw.x.k.l0 n3,L2'.tw.y.k.l0 n3⟩ tf q
theorem zdP(Bo:LwT t H0 g p r H X Y)(Bn:LwB K H0 s cl ns vs CC g p r)(cX:X.CC=CC)(cY:Y.CC=CC)(e1:EpI H X Y l1 xs1 X.S.es)(q:∀H',Q (.bl af) H') :
  Ks K t (sH Q) (σT s cl o1 o2 o3 p r o9 o10 o11 o12 (U (.ref l1)) o14) H :=
 (xR Bo.tw.y.k.cmp.1 Z Z (zfH Bo.tw.symm Bn.b2.1 Bn.b2.2 λw H' Y' Bm en=>zdO (Bo.y Bm) Bn cX (Bm.cc.trans cY) (by rw[en,cY]) (e1.bz Bm.bz.symm) q))
theorem zdQ(Bo:LwT t H0 g p r H X Y)(Bn:LwB K H0 s cl ns vs CC g p r)(cX:X.CC=CC)(cY:Y.CC=CC.take ad)(la:ad<=CC.length)(e1:EpI H X Y l1 xs1 X.S.es)(q:∀H',Q (.bl af) H') :
  Kt K t (sH Q) (σT s cl o1 o2 o3 p r o9 (U (.int ad)) o11 o12 (U (.ref l1)) o14) H:=by
 have lv:=bF Bn.px;refine⟨_,Z,_,Z,_,Z,cl,vs,Z,aT.of (Bo.s0 _ _ Bn.hx),λb hb=>?_⟩;have ec:jI vs (U (ad:Int)) ak=vs.drop ad:=by
  have e3:HT.sIx vs.length 0 (U (ad:Int))=min ad vs.length:=HT.sIx_nat ..;have e8:HT.sIx vs.length vs.length ak=vs.length:=rfl;unfold jI;rw[e3,e8,cw (),bU (by rw[cL];exact bn _)]
 rw[ec];generalize c_:upd H b _=H1;obtain⟨s1,eb⟩:=yG c_ hb;have zb:Z2 X Y b:=⟨Bo.tw.x.k.l0 hb,Bo.tw.y.k.l0 hb⟩;refine⟨b,Z,⟨_,aT.of eb⟩,xo (vs.drop ad) (λi σ H2=>(∃o9,σ=σT s cl o1 o2 o3 p r o9 (U (.int ad)) o11 o12 (U (.ref l1)) o14)/\∃Y',LwT t H0 g p r H2 X Y'/\Y'.CC=CC.take (ad+i)/\EpI H2 X Y' l1 xs1 X.S.es/\H2 b=U (.lst (vs.drop ad))/\Z2 X Y' b) ⟨⟨_,Z⟩,Y,Bo.same s1,cY,e1.bz (Bz.same s1),eb,zb⟩ (λi σ H2 ⟨_,_,_,_,_,z,_⟩=>aT.of z) ?_ ?_⟩
 ·rintro i v σ H2 hi ⟨⟨o9,rfl⟩,Y',J,c,e,h2,z2⟩;rw[lW] at hi;obtain⟨C,co,hC,i5,tk,lt⟩:=Bn.code J hi;have lc:Y'.CC.length=ad+i:=by rw[c,cC];lia
  refine(xR J.tw.y.k.cmp.1 Z Z ⟨_,Z,zcd J.tw.symm co hC () λw H3 Y3 Bm=>?_⟩);obtain⟨a,d⟩:=Bm.bz.symm.kp _ _ z2 h2;exact⟨⟨_,Z⟩,Y3,J.y Bm,by rw[Bm.cc,c,<-tk];rfl,e.bz Bm.bz.symm,a,d⟩
 ·rintro σ H2 ⟨⟨o9,rfl⟩,Y',J,c,e,_⟩;rw[cL,show ad+(vs.length-ad)=CC.length by lia,cM] at c;exact zdP J Bn cX c e q
theorem zdR(Bo:LwT t H0 g p r H X Y)(Bn:LwB K H0 s cl ns vs CC g p r)(cX:X.CC=CC)(cY:Y.CC=CC.take ad)(la:ad<=CC.length)(q:∀H',Q (.bl af) H') :
  Ku K t (sH Q) (σT s cl o1 o2 o3 p r o9 (U (.int ad)) o11 o12 o13 o14) H:=by
 have l5:=Bn.cc.le;have el:=Bo.tw.x.o.el;rw[cX] at el;exact(xR Bo.tw.x.k.cmp.1 Z Z ⟨p.1,X.a,X.lb,p.2,0,g,X.CC,X.S,Z,Bo.tw.x.k,(),λl1 xs1 H1 s1 n1 h1 p1=>zdQ (Bo.same s1) Bn cX cY la (EpI.of Bo.tw n1 h1 p1) q⟩)
def LwM(t:bv)(H0:Hp)(g:List aP)(p r:D×Int)(CC:List (List Cs))(s cl:D)(o1 o2 o3 o9 o13 o14:Option V)(σ:St)(H:Hp):Prop:=∃(o11 o12:Option V) (ad:Nat) (X Y:DK),σ=σT s cl o1 o2 o3 p r o9 (U (.int ad)) o11 o12 o13 o14/\LwT t H0 g p r H X Y/\X.CC=CC/\Y.CC=CC.take ad/\ad<=CC.length
theorem V4{c:Int}(Bo:LwT t H0 g p r H X Y)(Bn:LwB K H0 s cl ns vs CC g p r)(cX:X.CC=CC)(cY:Y.CC=CC.take ad)(la:ad<=CC.length)(hD:Bp.nx=LwM t H0 g p r CC s cl o1 o2 o3 o9 o13 o14) :
  zaQ K t Bp (σT s cl o1 o2 o3 p r o9 (U (.int ad)) o11 (U (.int c)) o13 o14) H:=by
 have b2:=Bn.b2;refine(xR Bo.tw.y.k.cmp.1 Z Z ⟨_,Z,_,_,Z,Z,dB,_,Z,_,_,Z,Z,by show (0:Int)<r.2;lia,zc2 Bo.tw.symm (cP _ ()) (cg _ ()) λw H' Y' Bm=>?_⟩);show Bp.nx _ H';rw[hD];exact⟨_,_,ad,X,Y',Z,Bo.y Bm,cX,Bm.cc.trans cY,la⟩
theorem zdS(Bo:LwT t H0 g p r H X Y)(Bn:LwB K H0 s cl ns vs CC g p r)(cX:X.CC=CC)(cY:Y.CC=[])(q:∀H',Q (.bl af) H') :
  Kv K t (sH Q) (σT s cl o1 o2 o3 p r o9 (U (.int 0)) o11 o12 o13 o14) H:=by
 have hn:=Bn.hn;have lm:(ns.map V.int).length=ns.length:=bf ..;have lv:=bF Bn.px;refine⟨_,Z,.ref s,ns.length,Z,.inl ⟨_,Bn.hS.mono Bo.s0,lm.symm⟩,ns.length,Z,(),(),Yl (λ_=>LwM t H0 g p r CC s cl o1 o2 o3 o9 o13 o14) ⟨_,_,0,X,Y,Z,Bo,cX,cY,bS _⟩ ?_ ?_⟩
 ·rintro i σ H1 hi ⟨o11,o12,ad,X,Y,rfl,Bo,cX,cY,la⟩;have hi:i<ns.length:=by lia
  rw[rE];have b1:=Bn.b1;have at1:∀ {j:Nat},j<ns.length->∃c:Int,tL (ns.map V.int) ((j:Nat):Int)=U (.int c):=λ{j} hj=>⟨ns[j],xS (by rw[bB,bb hj];rfl)⟩;obtain⟨c1,e1⟩:=at1 hi;obtain⟨c2,e2⟩:=at1 (j:=ns.length-1-i) ();refine(xR Bo.tw.x.k.cmp.1 Z Z ⟨_,Z,_,Z,s,_,i,_,Z,Z,Bn.hS.mono Bo.s0,e1,_,_,Z,Z,dB,_,Z,_,_,Z,Z,by show (0:Int)<p.2;lia,zc2 Bo.tw (cP _ ()) (cg _ ()) λw H2 X2 Bm=>?_⟩);have L2':=Bo.x Bm;have cX2:=Bm.cc.trans cX;have hS:=Bn.hS.mono L2'.s0;have hc:=L2'.s0 _ _ Bn.hx;refine⟨_,Z,_,Z,.ref s,ns.length,Z,.inl ⟨_,hS,lm.symm⟩,_,_,Z,Z,_,Z,_,_,Z,Z,s,_,(ns.length:Int)-1-i,_,Z,Z,hS,by rw[show (ns.length:Int)-1-i=((ns.length-1-i:Nat):Int) by lia];exact e2,?_⟩;refine⟨_,Z,_,_,Z,Z,by show (0:Int)<7;decide,_,_,Z,Z,_,Z,?_⟩;by_cases k1:c2%7<2
  ·refine yE (Bj k1) ⟨_,Z,_,Z,.ref cl,vs.length,Z,.inl ⟨_,aT.of hc,Z⟩,_,_,Z,Z,_,Z,?_⟩;by_cases k2:(ad:Int)<vs.length
   ·obtain⟨v,hv⟩:∃v,vs[ad]?=U v:=⟨_,bb ()⟩;obtain⟨C,co,hC,i5,tk,lt⟩:=Bn.code L2' hv;have lc:Y.CC.length=ad:=by rw[cY,cC];lia
    exact yE (Bj k2) (xR L2'.tw.y.k.cmp.1 Z Z ⟨_,Z,_,Z,cl,vs,ad,v,Z,Z,aT.of hc,xS hv,zcd L2'.tw.symm co hC () λw H3 Y3 U3=>⟨_,Z,_,_,Z,Z,V4 (ad:=ad+1) (L2'.y U3) Bn cX2 (by rw[U3.cc,cY,<-tk]) lt Z⟩⟩)
   ·exact ym (Bk k2) (V4 L2' Bn cX2 cY la Z)
  ·exact ym (Bk k1) (ym Z (V4 L2' Bn cX2 cY la Z))
 ·rintro σ H1 ⟨o11,o12,ad,X,Y,rfl,Bo,cX,cY,la⟩;exact zdR Bo Bn cX cY la q
theorem zfK(Bo:LwT t H0 g p r H X Y)(Bn:LwB K H0 s cl ns vs CC g p r)(cX:X.CC=[])(cY:Y.CC=[])(q:∀H',Q (.bl af) H') :
  zaR K t (sH Q) (σT s cl o1 o2 o3 p r o9 o10 o11 o12 o13 o14) H:=by
 have lv:=bF Bn.px;refine⟨_,Z,cl,Z,⟨_,aT.of (Bo.s0 _ _ Bn.hx)⟩,xo vs (λi σ H2=>(∃o9,σ=σT s cl o1 o2 o3 p r o9 o10 o11 o12 o13 o14)/\∃X',LwT t H0 g p r H2 X' Y/\X'.CC=CC.take i) ⟨⟨_,Z⟩,X,Bo,cX⟩ (λi σ H2 ⟨_,_,J,_⟩=>aT.of (J.s0 _ _ Bn.hx)) ?_ ?_⟩
 ·rintro i v σ H2 hi ⟨⟨o9,rfl⟩,X',J,c⟩;obtain⟨C,co,hC,i5,tk,lt⟩:=Bn.code J hi;have lc:X'.CC.length=i:=by rw[c,cC];lia
  exact(xR J.tw.x.k.cmp.1 Z Z ⟨_,Z,zcd J.tw co hC () λw H3 X3 Bm=>⟨⟨_,Z⟩,X3,J.x Bm,by rw[Bm.cc,c,<-tk]⟩⟩)
 ·rintro σ H2 ⟨⟨o9,rfl⟩,X',J,c⟩;rw[lv,cM] at c;exact zdS J Bn c cY q
end
theorem Qz:∀a:dl,a.deep=0->Zg a<=a.cnt
 |.nil,_=>by rw[Zg];exact bS _
 |.cons r rs,h=>by
  rw[dl.deep] at h;have i:=Qz rs ();rw[Zg,dl.cnt];have:szR r<=r.cnt:=by
   cases r with
   |iff e a b=>rw[Rw.deep] at h;lia
   |_=>simp[szR,Rw.cnt]
  lia
theorem zhn:∀rs:List Rw,(dl.of rs).deep<=1->Zg (dl.of rs)<=(rs.map szX).sum
 |[],_=>by show Zg .nil<=_;rw[Zg];exact bS _
 |r::rs,h=>by
  have h:(dl.cons r (dl.of rs)).deep<=1:=h;rw[dl.deep] at h;have i:=zhn rs ();show Zg (.cons r (dl.of rs))<=_;rw[Zg,bt,cE];have:szR r<=szX r:=by
   cases r with
   |iff e a b =>
    rw[Rw.deep] at h;have h1:=Qz a ();have h2:=Qz b ();rw[szR];show _<=a.cnt+b.cnt+3;lia
   |_=>simp[szR,szX]
  lia
theorem zin(h:zgv rs):WI 6 (dl.of rs)/\(zY (dl.of rs) 0).length<=11/\Qj (zY (dl.of rs) 0):=by
 have z:=Xo (dl.of rs) 0;have s:=zhn rs h.dp;have:(rs.map szX).sum<=11:=h.sz;have:=h.dp;have R:WI 6 (dl.of rs):=⟨(),(),h.pl⟩;exact⟨R,(),ziN R h.ok ()⟩
theorem ziT(ns:List Int):∃ys:List Int,jI (ns.map V.int) (U (3:Int)) (U (8:Int))=ys.map V.int/\ys.length<=5:=by
 have e3:HT.sIx ns.length 0 (U (3:Int))=min 3 ns.length:=HT.sIx_nat ..;have e8:HT.sIx ns.length ns.length (U (8:Int))=min 8 ns.length:=HT.sIx_nat ..;refine⟨(ns.drop (min 3 ns.length)).take (min 8 ns.length-min 3 ns.length),?_,?_⟩
 ·unfold jI;rw[bf,e3,e8,m8,m7]
 ·rw[cC,cL];lia
theorem zfL{H:Hp}{cl tl s:D}{CC:List (List Cs)}{ns:List Int}{tab:List aP}{vs:List V}{n1 n2:Int}{o1 o2 o7 o8 o9 o10 o11 o12 o13 o14:Option V}(hS:aT K H s (ns.map V.int))(hn:ns.length<=63)(hb:∀i∈ns,Cb i)(hc:H cl=U (.lst vs))(px:Paired (tP H) vs CC)(cc:zgw CC)(hT:sL H tl tab)(l5:tab.length<=5)(iw:∀r∈tab,sP r.2=af)(b1:1<=n1/\n1<=8)(b2:1<=n2/\n2<=8)(q:∀H',Q (.bl af) H') :
  zaS K t (sH Q) [U (.ref s),o1,o2,U (.ref tl),U (.ref cl),U (.int n1),U (.int n2),o7,o8,o9,o10,o11,o12,o13,o14] H:=by
 refine⟨_,Z,_,Z,_,Z,s,ns,0,Z,hS,hn,hb,λc1 H1 s1 _=>⟨_,_,Z,Z,dB,_,_,Z,Z,by show (0:Int)<3;decide,tl,n1,_,tab,Z,hT.same s1,l5,λd1 a1 lb1 H2 s2 z2 G2=>?_⟩⟩;have S2:=s1.trans s2;refine⟨_,Z,_,Z,_,Z,s,ns,0,Z,hS.mono S2,hn,hb,λc2 H3 s3 _=>⟨_,_,Z,Z,dB,_,_,Z,Z,by show (0:Int)<3;decide,tl,n2,_,tab,Z,hT.same (S2.trans s3),l5,λd2 a2 lb2 H4 s4 z4 G4=>?_⟩⟩;have ok:∀n:Int,sD n 0 tab [] S0:=λn=>⟨m6 _,⟨(),bS _⟩,bn _,.refl _,.nil,cr,(),(),(),(),λp=>zeW iw p,()⟩;have st:StI 0 tab [] S0:=⟨Z,(),(),(λ_ _ _ z=>nomatch z),(λ_ _=>sd),(),cr,(),()⟩;exact zfK (H0:=H) (p:=(d1,n1)) (r:=(d2,n2)) (X:=⟨a1,lb1,[],S0⟩) (Y:=⟨a2,lb2,[],S0⟩) (ns:=ns) (vs:=vs) (CC:=CC) (g:=tab) ⟨⟨⟨(G2.same (s3.trans s4)),ok _,st⟩,⟨G4,ok _,st⟩,λb z=>by
  cases e:H2 b with
  |none=>exact absurd (G2.l0 e) z
  |some o=>exact z4 b o (s3 _ _ e)⟩,λb o e=>⟨((S2.trans s3).trans s4) _ _ e,z2 b o (s1 _ _ e),z4 b o ((S2.trans s3) _ _ e)⟩⟩ ⟨hS,hn,hc,px,cc,l5,b1,b2⟩ Z Z q
theorem zfM{H:Hp}{cl tl s:D}{CC:List (List Cs)}{ns:List Int}{tab:List aP}{vs:List V}{o1 o2 o5 o6 o7 o8 o9 o10 o11 o12 o13 o14:Option V}(hS:aT K H s (ns.map V.int))(hn:ns.length<=63)(hb:∀i∈ns,Cb i)(hc:H cl=U (.lst vs))(px:Paired (tP H) vs CC)(cc:zgw CC)(hT:sL H tl tab)(l5:tab.length<=5)(iw:∀r∈tab,sP r.2=af)(q:∀H',Q (.bl af) H') :
  zaT K t (sH Q) [U (.ref s),o1,o2,U (.ref tl),U (.ref cl),o5,o6,o7,o8,o9,o10,o11,o12,o13,o14] H:=by
 have bd:∀c:Int,1<=1+c%8/\1+c%8<=8:=λc=>by
  have b1:=cP c (show (8:Int)≠0 by lia);have b2:=cg c (show (0:Int)<8 by lia);lia
 refine⟨_,Z,s,ns,0,Z,hS,hn,hb,λc1 H1 s1 _=>⟨_,_,Z,Z,by show (0:Int)<8;decide,_,_,Z,Z,?_⟩⟩;refine⟨_,Z,s,ns,0,Z,hS.mono s1,hn,hb,λc2 H2 s2 _=>⟨_,_,Z,Z,dB,_,_,Z,Z,by show (0:Int)<8;decide,_,_,Z,Z,?_⟩⟩;have S:=s1.trans s2;exact zfL (hS.mono S) hn hb (S _ _ hc) (Paired.mapP px λ_ _ z=>z.same S) cc (hT.same S) l5 iw (bd _) (bd _) q
section
variable {a b tl s:D}{CC:List (List Cs)}{ns:List Int}{us ws:List Str}{tab:List aP}
theorem zfN{o4 o5 o6 o7 o8 o9 o10 o11 o12 o13 o14:Option V}(hS:aT K H s (ns.map V.int))(hn:ns.length<=63)(hb:∀i∈ns,Cb i)(h1:sE H a us)(h2:us.length=2)(h3:sE H b ws)(h4:ws.length=2)(hT:sL H tl tab)(l5:tab.length<=5)(iw:∀r∈tab,sP r.2=af)(q:∀H',Q (.bl af) H') :
  zaU K t (sH Q) [U (.ref s),U (.ref a),U (.ref b),U (.ref tl),o4,o5,o6,o7,o8,o9,o10,o11,o12,o13,o14] H:=by
 obtain⟨ms,em,lm⟩:=ziT ns;refine⟨_,Z,3,Z,8,Z,s,_,Z,hS,λp hp=>?_⟩;rw[em];generalize c_:upd H p _=H1;obtain⟨s1,e1⟩:=yG c_ hp;refine⟨p,Z,⟨_,aT.of e1⟩,λBp hD=>?_⟩;have s2:=sQ (o:=HO.lst []) Bp hD;refine⟨λi m ys τ H'=>m=ms.length-i/\i<=ms.length/\(∃o,τ=[o,U (.ref a),U (.ref b)])/\aL H1 H'/\H' Bp=U (.lst ys)/\∃CC:List (List Cs),Paired (λv C=>tP H' v C/\v≠.ref Bp) ys CC/\CC.length=i/\∀C∈CC,Qj C/\C.length<=11,⟨_,Z,bS _,⟨_,Z⟩,s2,zi,[],.nil,Z,λ_ z=>nomatch z⟩,?_⟩;rintro i m ys τ H2 ⟨rfl,hi,⟨o,rfl⟩,sm,hD2,CC,pc,lc,ok⟩;refine⟨hD2,?_⟩;have ly:=bF pc;rcases gq i ms.length with c|c
 ·refine .inr ⟨⟨_,_,aT.of (sm _ _ e1),bb (by rw[bf];exact c)⟩,b6 (show ys.length<=5 by lia) (by rw[bN];decide),λv τ' H'=>H' Bp=U (.lst ys)/\aL H2 H'/\(∃o,τ'=[o,U (.ref a),U (.ref b)])/\∃C,tP H' v C/\v≠.ref Bp/\Qj C/\C.length<=11,?_,λ_ _=>False,λ_ _ z=>z.elim,?_⟩
  ·rintro v τ' H3 ⟨z1,s3,z2,C,cv,nv,z3⟩;have ts:TSm H3 (upd H3 Bp (.lst (ys++[v]))):=ZA z1 λ_ z=>nomatch z
   have kc:∀ {v C},tP H3 v C->v≠.ref Bp->tP (upd H3 Bp (.lst (ys++[v]))) v C/\v≠.ref Bp:=λ{v C} ⟨c,zs,e,hc,pc⟩ n=>⟨⟨c,zs,e,by rw[zl (λy=>n (by rw[e,y]))];exact hc,xZ (ZA z1 λ_ z=>nomatch z) pc⟩,n⟩;refine⟨z1,ms.length-(i+1),(),Z,c,z2,wD (sm.trans s3) hD,zi,CC++[C],Paired.snocP (Paired.mapP pc λv C ⟨z,n⟩=>?_) ?_,by rw[bD,lc];rfl,λC' z=>?_⟩
   ·obtain⟨c,zs,e,hc,pc⟩:=z.same s3;exact⟨⟨c,zs,e,by rw[zl (λy=>n (by rw[e,y]))];exact hc,xZ ts pc⟩,n⟩
   ·obtain⟨c,zs,e,hc,pc⟩:=cv;exact⟨⟨c,zs,e,by rw[zl (λy=>nv (by rw[e,y]))];exact hc,xZ ts pc⟩,nv⟩
   ·rcases bw.mp z with z|z
    ·exact ok C' z
    ·rw[bp.mp z];exact z3
  ·rintro x H3 ⟨rfl,hx⟩;have hx:=hx _ (aT.of (sm _ _ e1));rw[bB] at hx;obtain⟨n,_,rfl⟩:=b9.mp hx;have S:=s1.trans sm;refine yE (R:=False) Z ⟨_,Z,_,Z,_,Z,n,a,b,us,ws,Z,h1.same S,h2,h3.same S,h4,λl rs H4 s4 rl rx=>?_⟩;obtain⟨R,l11,O⟩:=zin rx;refine⟨.ref l,dl.of rs,Z,rl.any,R,bO l11 (),λl2 xs H5 s5 hl2 hx px=>?_⟩;exact⟨(s4.trans s5) _ _ hD2,s4.trans s5,⟨_,Z⟩,_,⟨l2,xs,Z,hx,px⟩,(λz=>by cases z;rw[s4 _ _ hD2] at hl2;cases hl2),O,l11⟩
 ·refine .inl ⟨⟨_,aT.of (sm _ _ e1),by rw[bf];exact c⟩,?_⟩;have S:=s1.trans sm;exact zfM (hS.mono S) hn hb hD2 (Paired.mapP pc λ_ _ z=>z.1) ⟨ok,()⟩ (hT.same S) l5 iw q
theorem zgV{vs:List V}{_E:XK}(h:sp_law K vs H Q _E) :
  zfg K t (sH Q) (L2.start ["script","shelves","slots","table","codes","hands","others","one","other","code","added","k","back","early","papers"] vs) H:=by
 obtain⟨s,ns,rfl,hS,hn,hb,q⟩:=h;refine⟨_,Z,s,ns,1,Z,hS,hn,hb,λc1 H1 s1 _=>⟨c1,Z,λa us H2 s2 _ na la=>?_⟩⟩;have S2:=s1.trans s2;refine⟨_,Z,s,ns,2,Z,hS.mono S2,hn,hb,λc2 H3 s3 _=>⟨c2,Z,λb ws H4 s4 _ nb lb=>?_⟩⟩;have S4:=S2.trans (s3.trans s4);refine⟨_,Z,s,ns,1,Z,hS.mono S4,hn,hb,λc3 H5 s5 _=>⟨_,_,Z,Z,dB,_,Z,_,a,us,Z,na.same (s3.trans (s4.trans s5)),la,λtl tab H6 s6 _ ht _ ok l5=>?_⟩⟩;have S6:=S4.trans (s5.trans s6);exact zfN (hS.mono S6) hn hb (na.same (s3.trans (s4.trans (s5.trans s6)))) la (nb.same (s5.trans s6)) lb ht l5 (λr z=>(ok r z).2.1) q
end
section
variable {x:D}{a:RAd}{C:List Cs}{s:aX}{E:XK}{σ:St}
theorem ZC{k:Int}(R:hV t H x a C s)(so:xc s.sl)(h0:σ[0]?=U (U (.ref x)))(h1:σ[1]?=U (U (.ref p)))(e2:H p=U (.tup xs))(ek:tL xs k=U (.ref te))(e3:H te=U (.tup e))(ok:aZ e)(q:∀H1,aL H H1->fin t (rk s.sl e) Q E H1) :
  zN t.q01 "worth_of" (yw t) [] E (B 0) (zd (aN (y9 K) (B 1) (tC (.int k))) zk) σ H Q:=
 ⟨_,h0,x,_,_,Z,R.ix,Z,XS h1 e2 ek ⟨x,te,e,a,C,s,Z,R,so,e3,ok,q⟩⟩
theorem zbe(R:hV t H x a C s)(so:xc s.sl)(h0:σ[0]?=U (U (.ref x)))(h1:σ[1]?=U (U (.ref p)))(e2:H p=U (.tup xs))(i1:tL xs 1=U (.str sh))(i2:tL xs 2=U (.ref te))(e3:H te=U (.tup e))(ok:aZ e)(q1:∀i q H',rk s.sl e=.ok i->aL H H'->H' q=U (.tup [.str sh,.int i])->Q (.ref q) H')(q2:∀er H',rk s.sl e=.error er->aL H H'->zfe t er E H') :
  zN t.q01 "place_in" (yT t) [] E (B 0) (zd (B 1) zk) σ H Q:=
 ⟨_,h0,x,_,_,Z,R.ix,Z,_,h1,x,p,xs,sh,te,e,a,C,s,Z,R,so,e2,i1,i2,e3,ok,q1,q2⟩
theorem QA{vs:List V}(F:RnF K t)(h:Ze t vs H Q E) :
  Wq K t E (sH Q) (L2.start ["self","due","worth","place"] vs) H:=by
 obtain⟨x,v,r,w,m,a,C,s,rfl,R,h1,h2,h3,h4,h5,q1,q2⟩:=h;have l1:=h4.l1;have l2:=h4.l2;have l4:=h4.l4;have so:=h4.so;cases r with
 |take sh e sl' =>
  unfold hU at h1;unfold qQ at h3;obtain⟨r,te,rfl,_,_,e2,e3⟩:=h1;refine kM Z e2 Z (λ_=>?_) λz=>absurd Z z;refine⟨_,Z,x,_,_,Z,R.ix,Z,zbe R so Z Z e2 Z Z e3 h3 (λi q H1 hk s1 hq=>?_) λer H1 hk s1=>q2 H1 er (by unfold tu;simp only[hk]) s1⟩;have R1:=R.same s1;refine⟨_,Z,x,q,(sh,i),w,a,C,s,Z,R1,hq,by have:=h4.l3;lia,λH2 K2 R2=>?_⟩;have hs2:=R2.hs;rw[zfj] at hs2;exact qV Z R2.ix F.cl F.n4 Z (XS Z (K2 _ _ (R1.notup (s1 _ _ e2)) (s1 _ _ e2)) Z ⟨_,_,Z,DPut.k (k:=.inr sl') hs2 (b6 (by lia:_<=900) ()),q1 _ _ (by unfold tu;simp only[hk]) ((Kp.of_same s1).trans (K2.trans (wV (.inr (.inl Z))))) (R2.putS _)⟩)
 |give sh e f =>
  unfold hU at h1;unfold qQ at h3;obtain⟨r,te,tf,rfl,_,_,_,e2,e3,e4⟩:=h1;refine kM Z e2 Z (λz=>absurd z ()) λ_=>kM Z e2 Z (λ_=>?_) λz=>absurd Z z;refine zbe R so Z Z e2 Z Z e3 h3.1 (λi q H1 hk s1 hq=>?_) λer H1 hk s1=>q2 H1 er (by unfold tu;simp only[hk]) s1;have R1:=R.same s1;refine ZC R1 so Z Z (s1 _ _ e2) Z (s1 _ _ e4) h3.2 λH3 s3=>?_;cases hk2:rk s.sl f with
  |error er=>exact tI.mpr (q2 H3 er (by unfold tu;simp only[hk,hk2]) (s1.trans s3))
  |ok n =>
   have R3:=R1.same s3;have ld:=wZ s.gi;refine fin_ok.mpr (qV Z R3.ix F.cl F.n5 Z ⟨_,Z,_,_,Z,DPut.t (k:=zy (sh,i)) R3.hg (s3 _ _ hq) (b6 (by lia:_<=900) ()),?_⟩);rw[show yI (sJ s.gi) (zy (sh,i)) (V.int n)=sJ (s.gi++[((sh,i),n)]) from (qP s.gi ((sh,i),n)).symm];exact q1 _ _ (by unfold tu;simp only[hk,hk2]) ((Kp.of_same (s1.trans s3)).trans (wV (.inr (.inr (.inl Z))))) (R3.putG _)
 |lt sl' e =>
  unfold hU at h1;unfold qQ at h3;obtain⟨r,te,rfl,_,_,e2,e3⟩:=h1;refine kM Z e2 Z (λz=>absurd z ()) λ_=>kM Z e2 Z (λz=>absurd z ()) λ_=>kM Z e2 Z (λ_=>?_) λz=>absurd Z z;refine ZC R so Z Z e2 Z e3 h3 λH1 s1=>?_;cases hk:rk s.sl e with
  |error er=>exact tI.mpr (q2 H1 er (by unfold tu;simp only[hk]) s1)
  |ok n =>
   have R2:=R.same s1;exact fin_ok.mpr (qV Z R2.ix F.cl F.n4 Z (XS Z (s1 _ _ e2) Z ⟨_,_,Z,DPut.k (k:=.inr sl') R2.hs (b6 (by lia:_<=900) ()),q1 _ _ (by unfold tu;simp only[hk]) ((Kp.of_same s1).trans (wV (.inr (.inl Z)))) (R2.putS _)⟩))
 |say e =>
  unfold hU at h1;unfold qQ at h3;obtain⟨r,te,rfl,_,_,e2,e3⟩:=h1;refine kM Z e2 Z (λz=>absurd z ()) λ_=>kM Z e2 Z (λz=>absurd z ()) λ_=>kM Z e2 Z (λz=>absurd z ()) λ_=>?_;unfold Z9 yh tBM;refine qV Z R.ix F.cl F.n7 Z ⟨.inl ⟨Z,_,aT.of R.ha⟩,?_⟩;refine ZC R so Z Z e2 Z e3 h3 λH1 s1=>?_;cases hk:rk s.sl e with
  |error er=>exact tI.mpr (q2 H1 er (by unfold tu;simp only[hk]) s1)
  |ok n =>
   have R1:=R.same s1;refine fin_ok.mpr ⟨_,_,_,Z,Z,R1.ha,b6 (by rw[bf];lia:_<=900) (),?_⟩;rw[show ou V.int s.sa++[V.int n]=ou V.int (s.sa++[n]) by simp];exact q1 _ _ (by unfold tu;simp only[hk]) ((Kp.of_same s1).trans (wV (.inr (.inr (.inr (.inr Z)))))) (R1.putA _)
 |off e=>exact h2.elim
 |iff e b d=>exact h2.elim
theorem V5{vs:List V}(F:RnF K t)(h:jN t vs H Q E) :
  Ya K t E (sH Q) (L2.start ["self","due","worth"] vs) H:=by
 obtain⟨x,v,c,w,m,a,C,s,rfl,R,h1,h2,h3,h4,q1,q2⟩:=h;have so:=h3.so;have nx:∀ {v' H1 s1},hV t H1 x a C s1->(∀k:Nat,k=s1.n+1->Q (.int (k:Nat)) H1)->zL (aN aE (zR K (B 0) "at") (tC (.int 1))) (sH Q) (L2.start ["self","due","worth"] [.ref x,v',.int w]) H1:=λR1 q=>by
  unfold zL aN;exact qV Z R1.ix F.cl F.n2 Z ⟨_,_,Z,Z,q _ Z⟩
 cases c with
 |go en =>
  obtain⟨p,rfl,e2⟩:=h1;refine kM Z e2 Z (λ_=>?_) λz=>absurd Z z;exact XS Z e2 Z (q1 H s en Z (.of_same λ_ _ z=>z) R)
 |skip e to =>
  obtain⟨p,te,rfl,e2,e3⟩:=h1;refine kM Z e2 Z (λz=>absurd z ()) λ_=>kM Z e2 Z (λ_=>?_) λz=>absurd Z z;refine ZC R so Z Z e2 Z e3 h2 λH1 s1=>?_;cases hk:rk s.sl e with
  |error er=>exact tI.mpr (q2 H1 er (by unfold vK;simp only[hk]) s1)
  |ok n =>
   have R2:=R.same s1;refine fin_ok.mpr ⟨Z,_,Z,ziL (λhn=>?_) λhn=>?_⟩
   ·exact XS Z (s1 _ _ e2) Z (q1 H1 s to (by unfold vK;simp only[hk,aq hn]) (.of_same s1) R2)
   ·exact nx R2 λk hk'=>q1 H1 s k (by unfold vK;simp only[hk,am hn,hk']) (.of_same s1) R2
 |row r =>
  obtain⟨h1,hni⟩:=h1;rcases zgB r hni with ⟨e,rfl⟩|hdo
  ·unfold hU at h1;unfold Qi qQ at h2;obtain⟨r,te,rfl,_,_,e2,e3⟩:=h1;refine kM Z e2 Z (λz=>absurd z ()) λ_=>kM Z e2 Z (λz=>absurd z ()) λ_=>kM Z e2 Z (λ_=>?_) λz=>absurd Z z;refine ZC R so Z Z e2 Z e3 h2 λH1 s1=>?_;cases hk:rk s.sl e with
   |error er=>exact tI.mpr (q2 H1 er (by unfold vK;simp only[hk]) s1)
   |ok n =>
    have R2:=R.same s1;refine fin_ok.mpr ⟨Z,_,Z,ziK (λhn=>?_) λhn=>?_⟩
    ·have R3:=R2.putI { s with why:=U (bg "told") } rfl rfl rfl rfl;refine⟨_,Z,_,_,_,_,Z,R2.ix,F.cl,F.n3,(by show (7:Nat)<1000;decide),?_⟩;exact nx R3 λk hk'=>q1 _ { s with why:=U (bg "told") } k (by unfold vK;simp only[hk,am hn,hk']) ((Kp.of_same s1).trans (wV (.inl Z))) R3
    ·exact nx R2 λk hk'=>q1 H1 s k (by unfold vK;simp only[hk,aq hn,hk']) (.of_same s1) R2
  ·obtain⟨p,zs,hd,rfl,e2,e3,n1,n2,n3⟩:=zgC h1 hdo;have el:=zaX (w:=w) (s:=s) hdo;refine kM Z e2 e3 (λz=>absurd z n1) λ_=>kM Z e2 e3 (λz=>absurd z n2) λ_=>kM Z e2 e3 (λz=>absurd z n3) λ_=>?_;refine⟨_,Z,x,_,_,Z,R.ix,Z,_,Z,_,Z,x,_,r,w,m,a,C,s,Z,R,h1,hdo,h2,h3,h4,λH1 s' e K1 R1=>?_,λH1 er e s1=>q2 H1 er (by rw[el,e]) s1⟩;have en:=ziM hdo e;exact nx R1 λk hk'=>q1 H1 s' k (by rw[el,e,hk',en]) K1 R1
end
section
variable {x:D}{a:RAd}{C:List Cs}{s:aX}{E:XK}
theorem QB{vs:List V}{_E:XK}{P:Str->Option ae}(T:Txt K P t)(h:Zf t vs H Q _E) :
  Wp K t (sH Q) (L2.start ["self","place"] vs) H:=by
 obtain⟨x,a,C,s,rfl,R,h2,h3,q1,q2⟩:=h;have F:=rnF T;refine⟨_,Z,x,_,_,Z,R.ix,Z,x,a,C,s,Z,R,λH1 s1=>⟨_,Z,?_⟩⟩;show if _ then _ else _
 have R1:=R.same s1;by_cases ho:yq C s=af
 ·rw[aq ho];show if _ then _ else _
  rw[aq rfl];exact q1 H1 (by unfold jr;rw[aq ho]) s1
 rw[am ho];obtain⟨xs,hx,pr⟩:=R1.hc;have lx:=bF pr;have lt:=Xk ho;have hc:C[s.n]?=U C[s.n]:=bb lt;have hv:xs[s.n]?=U xs[s.n]:=bb ();have cv:=yQ pr hv hc;have ok:=h2 _ (dW lt);have es:jr C s=ki C[s.n] s:=by unfold jr;rw[am ho,hc];rfl
 rw[es] at q1 q2;obtain⟨p,zs,hd,ev,hp,h0,ht,hnt⟩:=zhZ cv;unfold zG aN;refine qV Z R1.ix F.cl F.n1 Z (qV Z R1.ix F.cl F.n2 Z ⟨_,xs,_,_,Z,Z,aT.of hx,xS hv,p,zs,0,_,ev,Z,sN.of hp,h0,Z,_,Z,?_⟩);show if _ then _ else _
 by_cases hh:hd=bg "take"
 case neg =>
  rw[aq (by rw[Bk (λz=>hh (V.str.inj z))];rfl)];exact q1 H1 (hnt hh s) s1
 rw[am (by rw[hh];decide)];obtain⟨sh,e,sl,te,ec,a1,a2,ht⟩:=ht hh;rw[ec] at q1 q2 ok;unfold Qi qQ at ok;refine⟨_,Z,x,_,_,Z,R1.ix,Z,?_⟩;unfold zd aN;refine qV Z R1.ix F.cl F.n1 Z (qV Z R1.ix F.cl F.n2 Z ⟨_,xs,_,_,Z,Z,aT.of hx,xS hv,?_⟩);refine⟨x,p,zs,sh,te,e,a,C,s,by rw[ev];rfl,R1,h3,hp,a1,a2,ht,ok,λi q H2 hk s2 hq=>?_,λer H2 hk s2=>?_⟩
 case refine_2 =>
  have q':=q1 H2 (by unfold ki;simp only[hk]) (s1.trans s2);cases er with
  |nought=>exact⟨t.q08,Z,T.m_Nought_Great_Nought,q'⟩
  |great=>exact⟨t.q0a,Z,T.m_Great_Great_Nought,q'⟩
  |stuck=>trivial
 have R2:=R1.same s2;have g1:sR H2 a.gi (.ref q) ((zD s.gi (sh,i)).map V.int):=.inr ⟨sJ s.gi,zy (sh,i),q,.inl R2.hg,Z,hq,(wq _ _).symm⟩;have g2:sR H2 a.no (.ref q) ((zD s.no (sh,i)).map V.int):=.inr ⟨sJ s.no,zy (sh,i),q,.inl R2.hn,Z,hq,(wq _ _).symm⟩;refine⟨_,Z,?_⟩;refine qV Z R2.ix F.cl F.n5 Z ⟨_,_,Z,g1,_,Z,?_⟩;show if _ then _ else _
 cases hg:zD s.gi (sh,i) with
 |some j =>
  rw[aq (by rfl)];show if _ then _ else _
  rw[aq rfl];exact q1 H2 (by unfold ki;simp only[hk,hg];rfl) (s1.trans s2)
 |none =>
  rw[am ()];refine⟨_,Z,?_⟩;refine qV Z R2.ix F.cl F.n6 Z ⟨_,_,Z,g2,_,Z,?_⟩;show if _ then _ else _
  cases hn:zD s.no (sh,i) with
  |some j =>
   rw[aq (by rfl)];exact q1 H2 (by unfold ki;simp only[hk,hg,hn];rfl) (s1.trans s2)
  |none =>
   rw[am ()];refine⟨_,Z,?_⟩;exact q2 (sh,i) q H2 (by unfold ki;simp only[hk,hg,hn];rfl) (s1.trans s2) hq
end
theorem V6{vs:List V}{_E:XK}(h:yK vs H Q _E) :
  Z8 K t (sH Q) (L2.start ["ranks","rank","low","high","amid"] vs) H:=by
 obtain⟨a,rs,ac,rfl,h1,h2,q⟩:=h;refine⟨_,Z,.ref a,rs.length,Z,.inl ⟨_,aT.of h1,(bf ..).symm⟩,mbW a ac rs H,⟨_,0,rs.length,ak,Z,aL.refl H,bS _,bn _,Z,by simp,by simp⟩,?_⟩;rintro m σ H' ⟨lo,hi,o,rfl,s,h4,h5,rfl,h6,h7⟩;refine⟨_,Z,_,Z,_,_,Z,Z,_,Z,?_⟩;by_cases hl:lo<hi
 ·refine yE (Bj ()) ⟨λσ' H'=>∃m',m'<hi-lo/\mbW a ac rs H m' σ' H',λ_ _ z=>z,_,Z,_,Z,_,_,Z,Z,_,_,Z,Z,dB,?_⟩;obtain⟨md,emd⟩:∃md:Nat,((lo:Int)+hi)/2=md:=⟨(lo+hi)/2,()⟩;dsimp only;rw[emd];have l1:lo<=md:=by lia
  have l2:md<hi:=by lia
  obtain⟨x,hx⟩:∃x,rs[md]?=U x:=⟨_,bb ()⟩;refine⟨_,Z,_,Z,a,_,md,_,Z,Z,aT.of (s _ _ h1),xS (j:=md) (by rw[bB,hx];rfl),_,Z,_,_,Z,Z,_,Z,?_⟩;by_cases hr:x<ac
  ·exact yE (Bj hr) ⟨_,Z,_,_,Z,Z,_,(by lia:hi-(md+1)<hi-lo),md+1,hi,_,Z,s,(),h5,Z,λr hr2=>Int.lt_of_le_of_lt (zcQ h2 hx r hr2) hr,h7⟩
  ·exact ym (Bk hr) ⟨_,Z,_,(by lia:md-lo<hi-lo),lo,md,_,Z,s,(),(),Z,h6,λr hr2=>Int.le_trans () (zgK h2 hx r hr2)⟩
 ·refine ym (Bk ()) ⟨_,Z,?_⟩;obtain rfl:lo=hi:=by lia
  exact q lo H' s h5 h6 h7
theorem QC{vs:List V}{_E:XK}{P:Str->Option ae}(T:Txt K P t)(h:jt t vs H Q _E) :
  Wr K t (sH Q) (L2.start ["self","worth"] vs) H:=by
 obtain⟨x,w,m,a,C,s,rfl,R,h2,h3,h4,q⟩:=h;have F:=rnF T;refine⟨_,Z,x,_,_,Z,R.ix,Z,x,a,C,s,Z,R,λH1 s1=>⟨_,Z,?_⟩⟩;have R1:=R.same s1;by_cases ho:yq C s=af
 ·exact yE ho (q H1 (.of_same s1) (by unfold yS;rw[aq ho];exact R1))
 refine ym (rR _ ▸ ho) ?_;obtain⟨xs,hx,pr⟩:=R1.hc;have lx:=bF pr;have lt:=Xk ho;have hc:C[s.n]?=U C[s.n]:=bb lt;have hv:xs[s.n]?=U xs[s.n]:=bb ();have cv:=yQ pr hv hc;have es:∀w,yS C w s=xl C[s.n] w s:=λw=>by unfold yS;rw[am ho,hc]
 rw[es] at q;refine⟨_,Z,x,_,_,Z,R1.ix,Z,zZ R1.ix F.cl F.n1 Z Z (zZ R1.ix F.cl F.n2 Z Z ⟨a.co,xs,_,_,Z,Z,aT.of hx,xS hv,_,Z,x,_,C[s.n],w,m,a,C,s,Z,R1,cv,h2 _ (dW lt),h3,h4,λH2 s' k e K2 R2=>⟨_,Z,x,_,_,_,Z,R2.ix,F.cl,F.n2,(by show (7:Nat)<1000;decide),?_⟩,λH2 er e s2=>?_⟩)⟩
 ·have z:=R2.putI { s' with n:=k } rfl rfl rfl rfl;exact q _ ((Kp.of_same s1).trans (K2.trans (wV (.inl Z)))) (by unfold xl;rw[e];exact z)
 ·have R3:=R1.same s2;have z:=R3.putI { s with why:=U (zaD er) } rfl rfl rfl rfl;have q':=q _ ((Kp.of_same s1).trans ((Kp.of_same s2).trans (wV (.inl Z)))) (by unfold xl;rw[e];exact z);cases er with
  |nought=>exact⟨t.q08,Z,.inr ⟨T.q2s,T.q2t,_,Z,x,_,_,_,Z,R3.ix,F.cl,F.n3,(by show (7:Nat)<1000;decide),q'⟩⟩
  |great=>exact⟨t.q0a,Z,.inl ⟨T.q2v,_,Z,x,_,_,_,Z,R3.ix,F.cl,F.n3,(by show (7:Nat)<1000;decide),q'⟩⟩
  |stuck=>trivial
theorem zdT{m p:D}{ac low:Int}{F:D->Prop}{g:List aP}{lays:List (Int×List aP)}{q0:Pl}(MF:MkF K t)(h1:sW t H m F g lays low)(h2:low<=ac)(h3:H p=U (.tup [.str q0.1,.int q0.2]))(q:∀H',aL H H'->Q (.int (ya g lays q0 ac)) H') :
  jR K t (sH Q) (L2.start ["self","place","rank","ranks","below"] [.ref m,.ref p,.int ac]) H:=by
 obtain⟨dx,gr,wo,rk,wk,kk,M⟩:=h1.ex;refine⟨_,Z,m,_,_,Z,M.im,v6 (),_,Z,m,_,_,_,_,Z,M.im,zh7,h2,λH1 s1=>?_⟩;have M1:=M.keep h1.me λb o _ e=>s1 _ _ e;refine(zZ M1.im MF.cl MF.r Z zfp ⟨rk,Z,.inr ⟨_,.inl M1.rr.at_⟩,_,Z,(),λl hl=>?_⟩);generalize c_:upd H1 l _=H2;obtain⟨s2,q2⟩:=yG c_ hl;have S2:=s1.trans s2;have M2:=M1.keep h1.me λb o _ e=>s2 _ _ e;have hp2:H2 p=U (.tup ((zy q0).map kV)):=S2 _ _ h3;refine⟨_,.t M2.rr.at_ hp2,?_⟩;have gd:∀ {H3:Hp} {σ:St},σ[0]?=U (U (.ref m))->σ[1]?=U (U (.ref p))->MrIn t H3 m F g lays low dx gr wo rk wk kk->H3 p=U (.tup ((zy q0).map kV))->aL H H3->(∀r,v5 lays q0 r->¬ r<ac)->qL (zR K (B 0) "ground") (B 1) (tC (.int 0)) σ H3 Q:=λ{H3 σ} e0 e1 M3 hp3 S3 hno=>by
  refine(zZ M3.im MF.cl MF.g e0 ziP ⟨gr,Z,.inr ⟨_,.inl M3.hg⟩,_,e1,_,.t M3.hg hp3,?_⟩);have ev:ya g lays q0 ac=(zD g q0).getD 0:=by
   unfold ya;rcases xu q0 ac lays (-1,(zD g q0).getD 0) with ⟨e1,_⟩|⟨y,hy,w,e1,e2,_⟩
   ·rw[e1]
   ·exact absurd e2 (hno y.1 ⟨y.2,hy,(xz (h1.ok y hy).2.nd).mpr (by rw[e1];exact λz=>nomatch z)⟩)
  have e2:(yf (sJ g) (zy q0)).getD (V.int 0)=V.int ((zD g q0).getD 0):=by
   rw[wq];cases zD g q0 <;> rfl
  rw[e2,<-ev];exact q H3 S3
 rcases M2.rr.get q0 with ⟨a,rs,hk,hv,fa,ha,hs,hne,hi⟩|⟨hv,hk,hno⟩
 ·rw[hv];refine⟨_,Z,_,Z,a,rs,_,Z,ha,hs,λk H3 s3 hk3 hlt hge=>⟨_,Z,Z,_,Z,?_⟩⟩;have S3:=S2.trans s3;have M3:=M2.keep h1.me λb o _ e=>s3 _ _ e;by_cases h0:k=0
  ·subst h0;exact yE Z (gd Z Z M3 (s3 _ _ hp2) S3 λr hr hlr=>by
    have:=hge r (by rw[gN];exact(hi r).mpr hr);lia)
  ·refine ym (Bk λz=>h0 (by injection z with z;lia)) ?_;obtain⟨x,hx⟩:∃x,rs[k-1]?=U x:=⟨_,bb ()⟩;have ek:(k:Int)-1=((k-1:Nat):Int):=by lia
   obtain⟨gs,hgs,hpg⟩:=(hi x).mp (bT hx);obtain⟨d,v1,fd,nd,hd⟩:=Qp M3.wp h1.nd hgs;have okg:=(h1.ok _ hgs).2;obtain⟨w,hw⟩:∃w,zD gs q0=U w:=by
    cases e:zD gs q0 with
    |none=>exact absurd e ((xz okg.nd).mp hpg)
    |some w=>exact⟨w,Z⟩
   have vd:yf (sJ gs) (zy q0)=U (.int w):=by rw[wq,hw];rfl
   refine(zZ M3.im MF.cl MF.w Z zgJ ⟨_,Z,_,Z,_,_,Z,Z,a,_,((k-1:Nat):Int),_,Z,congrArg V.int ek,aT.of (s3 _ _ ha),xS (j:=k-1) (by rw[bB,hx];rfl),wo,.ref d,Z,(show sR H3 wo (kV (.inl x)) (U (.ref d)) by rw[<-v1];exact .k M3.hw),_,Z,d,V.int w,Z,by rw[<-vd];exact .t hd (s3 _ _ hp2),?_⟩);have xr:x<ac:=hlt x (List.mem_iff_getElem?.mpr ⟨k-1,by rw[dP,aq ()];exact hx⟩);have x0:0<=x:=(h1.ok _ hgs).1;have ev:ya g lays q0 ac=w:=by
    unfold ya;rcases xu q0 ac lays (-1,(zD g q0).getD 0) with ⟨e1,e2⟩|⟨y,hy,w',e1,e2,e3,e4,e5⟩
    ·have:=e2 _ hgs (by show (-1:Int)<x;lia) xr;rw[this] at hw;cases hw
    ·rw[e4];have yx:x<=y.1:=e5 _ hgs xr (by rw[hw];exact λz=>nomatch z);have yr:y.1∈rs:=(hi y.1).mpr ⟨y.2,hy,(xz (h1.ok y hy).2.nd).mpr (by rw[e1];exact λz=>nomatch z)⟩;have xy:y.1<=x:=by
      have:y.1∈rs.take k\/y.1∈rs.drop k:=bw.mp (by rw[dq];exact yr);rcases this with z|z
      ·have ek2:k=k-1+1:=by lia
       rw[ek2] at z;exact zcQ hs hx _ z
      ·have:=hge _ z;lia
     have ey:y.1=x:=by lia
     have e6:y=(x,gs):=by
      have n1:=h1.nd;obtain⟨i,hi1⟩:=cK hy;obtain⟨j,hj1⟩:=cK hgs;have a1:(lays.map (·.1))[i]?=U x:=by rw[bB,hi1,<-ey];rfl
      have a2:(lays.map (·.1))[j]?=U x:=by rw[bB,hj1];rfl
      have ij:=(gE (bo.mp a1).1 n1).mp (a1.trans a2.symm);rw[ij,hj1] at hi1;exact(bP hi1).symm
     rw[e6] at e1;rw[hw] at e1;exact(bP e1).symm
   rw[<-ev];exact q H3 S3
 ·rw[hv];refine⟨_,Z,_,Z,l,[],_,Z,q2,fo,λk H3 s3 hk3 _ _=>⟨_,Z,Z,_,Z,?_⟩⟩;obtain rfl:k=0:=Nat.le_zero.mp hk3;exact yE Z (gd Z Z (M2.keep h1.me λb o _ e=>s3 _ _ e) (s3 _ _ hp2) (S2.trans s3) λr hr=>absurd hr (hno r))
theorem QD{vs:List V}{_E:XK}(h:ju vs H Q _E) :
  Ws K t (sH Q) (L2.start ["ranks_at","place","rank","ranks"] vs) H:=by
 obtain⟨rk,pl,ac,G,P,kk,q0,rfl,hr,gk,gn,hp,hnP,kl,hrl,q⟩:=h;refine⟨_,Z,rk,Z,.inr ⟨_,.inl hr.at_⟩,_,Z,(),λz hz=>?_⟩;generalize c_:upd H z _=H2;obtain⟨s2,q2⟩:=yG c_ hz;have hr2:=hr.keep (F':=G) gk (λb o _ e=>s2 _ _ e) (λ_ z=>z);have ke2:gV G rk H H2:=gV.refl.same s2;have dm2:Dm H H2:=Dm.of_same s2;have gz:G z:=gn z hz;refine⟨kk,zy q0,pl,hr2.at_,Z,s2 _ _ hp,by rw[bN];lia,λv hv=>?_,λhv=>?_⟩
 ·rcases hr2.get q0 with ⟨a,rs,hk,hv2,fa,ha,hs,hne,hi⟩|⟨hv2,_,_⟩
  ·rw[hv2] at hv;cases hv;have rl:=hrl rs hs λr hr=>(hi r).mp hr;refine⟨_,Z,.inl ⟨Z,_,aT.of ha⟩,_,Z,_,Z,a,rs,ac,Z,ha,hs,λk H3 s3 hk3 hlt hge=>⟨_,Z,a,_,k,_,Z,Z,s3 _ _ ha,by rw[bf];exact hk3,by rw[bf];lia,?_⟩⟩;rw[<-m8,<-m7,<-bt (f:=V.int),<-bQ];have hr3:=hr2.keep (F':=G) gk (λb o _ e=>s3 _ _ e) (λ_ z=>z);exact q _ kk ((ke2.same s3).lst (s3 _ _ ha) fa) ((dm2.trans (Dm.of_same s3)).trans (Dm.upd λ_ z=>nomatch z)) (hr3.in1 hk (s3 _ _ ha) hs hi hlt hge hnP λp r=>sd)
  ·rw[hv2] at hv;cases hv
 ·have zr:z≠rk:=zJ q2 hr2.at_ ();rw[vS _ hv];have qz:upd H2 rk (HO.dT (kk++[(zy q0,V.ref z)])) z=U (.lst (([]:List Int).map V.int)):=by rw[zl zr];exact q2
  have hf:∀kv∈kk,kv.2≠.ref z:=λkv hk e=>by
   obtain⟨p',a',rs',rfl,_,ha',_⟩:=hr.ls kv hk;cases e;rw[hz] at ha';cases ha'
  rcases hr2.get q0 with ⟨a,rs,hk,hv2,_⟩|⟨_,hkn,hn⟩
  ·rw[hv2] at hv;cases hv
  refine⟨_,Z,.inl ⟨Z,_,aT.of qz⟩,_,Z,_,Z,z,[],ac,Z,qz,fo,λk H3 s3 hk3 hlt hge=>?_⟩;have k0:k=0:=Nat.le_zero.mp hk3;subst k0;have d3:Dm H (upd H2 rk (HO.dT (kk++[(zy q0,V.ref z)]))):=dm2.trans (Dm.upd λ_ z=>nomatch z);refine⟨_,Z,z,[],0,_,Z,Z,s3 _ _ qz,bn _,(),q _ (kk++[(zy q0,V.ref z)]) (((ke2.dct _).same s3).lst (s3 _ _ qz) gz) ((d3.trans (Dm.of_same s3)).trans (Dm.upd λ_ z=>nomatch z)) ?_⟩;refine(hr2.in2 (a:=z) (ac:=ac) hkn hn gz hf zr λp r=>sd).keep gk (λb o fb eb=>?_) (λ_ z=>z);show upd H3 z (HO.lst [V.int ac]) b=U o;by_cases hb:b=z
  ·subst hb;rw[zi] at eb ⊢;exact eb
  ·rw[zl hb] at eb ⊢;exact s3 _ _ eb
theorem V7{m p:D}{ac:Int}{F:D->Prop}{g:List aP}{lays:List (Int×List aP)}{q0:Pl}(MF:MkF K t)(h1:sS t H m F g lays)(h2:0<=ac)(h3:H p=U (.tup [.str q0.1,.int q0.2]))(q:∀H',aL H H'->Q (.int (ya g lays q0 ac)) H') :
  jR K t (sH Q) (L2.start ["self","place","rank","ranks","below"] [.ref m,.ref p,.int ac]) H:=zdT MF h1 h2 h3 q
theorem QE{E:XK}{aJ:List (aV×V)}{tm sl:D}{ps:List V}{r:Except Er Int}(hK:fE K (.type "int") (.type "str")=U ao)(hJ:∀H:Hp,sN K H t.q0r jw)(h1:H tm=U (.tup ps))(h2:H sl=U (.dK aJ))(h3:Good aJ ps r)(h4:∀v∈ps,kK v)(h5:ps.length<=1000)(h6:xc aJ)
  (q:∀H',aL H H'->fin t r Q E H'):Wo K t E (sH Q) (L2.start ["term","slots","worths","part","second","first"] [.ref tm,.ref sl]) H:=by
 refine⟨(),λw hw=>⟨_,Z,tm,Z,⟨_,sN.of ((sQ w hw) _ _ h1)⟩,?_⟩⟩;have run0:=h3.1 [];have fe:∀ {e:Er} {H':Hp},wM aJ ps []=.error e->aL H H'->fin t (.error e) Q E H':=λ{e H'} z s=>by
  rw[z] at run0;cases r with
  |ok i=>cases run0
  |error e' =>
   cases run0;exact q _ s
 have ns:wM aJ ps []≠.error .stuck:=λz=>by
  rw[z] at run0;cases r with
  |ok i=>cases run0
  |error e' =>
   cases run0;exact h3.2 rfl
 refine zei ps (rkI aJ ps tm sl w H) ⟨[],⟨_,_,_,Z⟩,Z,(λx z=>nomatch z),bn _,zi,sQ w hw⟩ (λi σ H' ⟨st,a,b,c,d,e,s⟩=>sN.of (s _ _ h1)) ?_ ?_
 ·rintro i v σ H' hv ⟨st,⟨o3,o4,o5,rfl⟩,hr,hW,hl,hst,hS⟩;have hi:i<ps.length:=(bo.mp hv).1;have one:=zgd hr hv;have ok:=h4 v (bT hv);have fl:YU v=af:=by rcases ok with ⟨j,rfl,_⟩|⟨x,rfl,_⟩ <;> rfl
  have add:∀ {l:List Int} {d:Int} {H2:Hp} {o4 o5:Option V},wM aJ (ps.take (i+1)) []=.ok (l++[d])->(∀y∈l,sP y=af)->sP d=af->l.length<=i->H2 w=U (.lst (l.map V.int))->aL H H2->(∃k xs y,V.ref w=.ref k/\[V.int d]=[y]/\H2 k=U (.lst xs)/\xs.length<Bb/\rkI aJ ps tm sl w H (i+1) [U (V.ref tm),U (V.ref sl),U (V.ref w),U v,o4,o5] (upd H2 k (.lst (xs++[y])))):=λ{l d H2 o4 o5} one' hl' hd ll hw2 S2=>by
   refine⟨w,_,_,Z,Z,hw2,?_,l++[d],⟨_,_,_,Z⟩,one',?_,?_,?_,wD S2 hw⟩
   ·rw[bf];exact b6 (by lia:l.length<=1000) ()
   ·intro y hy;rcases bw.mp hy with h|h
    ·exact hl' y h
    ·rw[bp.mp h];exact hd
   ·rw[bD];show l.length+1<=i+1;lia
   ·rw[bQ];exact zi
  refine⟨_,Z,t.q0r,jw,Z,.inr (hJ H'),fl,Z,_,Z,?_⟩;by_cases c:inV v jw=af
  ·refine yE c ?_;rcases zhY st with ⟨l,a,b,rfl⟩|z
   ·obtain⟨x,rfl,hx⟩:∃x:Str,v=.str x/\x.length<=1000:=by
     rcases ok with ⟨j,rfl,_⟩|h
     ·exact absurd c (by rw[show inV (V.int j) jw=ao from rfl];decide)
     ·exact h
    have e1:ou V.int (l++[a,b])=(l.map V.int++[.int a])++[.int b]:=by simp
    rw[e1] at hst;have one':=one.trans (zfi c);have ln:(l++[a,b]).length=l.length+2:=by simp
    refine⟨_,Z,.inl ⟨Z,_,aT.of hst⟩,w,_,_,Z,Z,hst,zaW,_,Z,.inl ⟨Z,_,aT.of zi⟩,w,_,_,Z,Z,by rw[X0];exact zi,zaW,_,Z,.inl ⟨Z,_,aT.of zi⟩,_,Z,_,Z,_,Z,x,a,b,Z,hx,hW a (by simp),hW b (by simp),λH2 s2=>?_⟩;rw[X0,X0] at s2;have S2:aL H H2:=(wD (wD hS hw) hw).trans s2;cases e:j7 x a b with
    |ok d =>
     rw[e] at one';have hd:sP d=af:=by
      unfold j7 at e;split at e
      ·cases e
      ·split at e
       ·rename_i z;cases e;exact z
       ·cases e
     exact add one' (λy hy=>hW y (cp _ hy)) hd () (s2 _ _ zi) S2
    |error er =>
     rw[e] at one';have:=fe (zcB one') S2;cases er with
     |nought=>exact this
     |great=>exact this
     |stuck=>trivial
   ·exact absurd (zcB (one.trans (z aJ v c))) ns
  ·refine ym (rR _ ▸ c) ?_;have st1:wJ aJ st v=.ok (st++[zeq aJ v]):=by
    unfold wJ;rw[am (by unfold isJ;exact c)]
   have fin1:=add (o4:=o4) (o5:=o5) (one.trans st1) hW (zan h6 ok) hl hst hS;refine⟨_,Z,.inl ⟨Z,_,aT.of hst⟩,?_⟩;rcases ok with ⟨j,rfl,hj⟩|⟨x,rfl,hx⟩
   ·exact vE Z (.int j) hK (ym Z ⟨_,Z,fin1⟩)
   ·refine vE Z (.str x) (xI _) (yE Z ⟨_,Z,sl,Z,.inl ⟨aJ,.inl (hS _ _ h2)⟩,_,Z,_,sR.k (k:=.inr x) (hS _ _ h2),?_⟩);have ev:(yf aJ (.inr x)).getD (V.int 0)=V.int (zeq aJ (.str x)):=by
     show _=V.int (match yf aJ (.inr x) with|some (.int i)=>i|_=>0);cases e:yf aJ (.inr x) with
     |none=>rfl
     |some u =>
      obtain⟨i,rfl,_⟩:=h6 _ _ e;rfl
    rw[ev];exact fin1
 ·rintro σ H' ⟨st,⟨o3,o4,o5,rfl⟩,hr,hW,hl,hst,hS⟩;rw[cM] at hr;rw[hr] at run0;cases r with
  |error e=>cases run0
  |ok i =>
   have e:st=[i]:=by injection run0
   subst e;exact⟨_,Z,.inl ⟨Z,_,aT.of hst⟩,w,_,_,Z,Z,hst,Z,q _ (wD hS hw)⟩
section
variable {x:D}{a:RAd}{C:List Cs}{s:aX}
theorem JI{vs:List V}{_E:XK}(F:RnF K t)(h:kY t vs H Q _E) :
  Xg K t (sH Q) (L2.start ["self","notes"] vs) H:=by
 obtain⟨x,a,C,s,rfl,R,h2,h3,h4,q1,q2⟩:=h;refine(xR R.ix Z Z ⟨x,a,C,s,Z,R,λH1 s1=>⟨_,Z,?_⟩⟩);have R1:=R.same s1;cases ho:yq C s with
 |false=>exact yE Z (q1 H1 ho s1)
 |true =>
  refine ym Z (zZ R1.ix F.cl F.n6 Z Z ⟨a.no,_,Z,R1.hn,λr hr=>?_⟩);generalize c_:upd H1 r _=Hv;obtain⟨sv,ev⟩:=yG c_ hr;refine⟨r,a.no,sJ s.no,Z,ev,sv _ _ R1.hn,(by have:=wZ s.no;lia),λl ys H2 s2 fl hl pr=>?_⟩;have S2:=sv.trans s2;have R2:=R1.same S2;have nl:H l=ak:=zH (s1.trans sv) fl;rw[X4 h3] at pr;have pn:=zeV pr;have R2':=R2.ix;unfold zhU at R2';cases hw:s.why with
  |some w =>
   rw[hw] at R2';refine(zZ R2' F.cl F.n3 Z Z ⟨Z,_,Z,yE Z (zZ R2' F.cl F.n3 Z Z ⟨by show 2<=Bb;rw[bN];decide,λp hp=>?_⟩)⟩);generalize c1:upd H2 p _=H3;obtain⟨t1,e1⟩:=yG c1 hp;refine⟨_,Z,(),λg hg=>?_⟩;generalize c2:upd H3 g _=H4;obtain⟨t2,e2⟩:=yG c2 hg;refine⟨by show 3<=Bb;rw[bN];decide,λr2 hr2=>?_⟩;have t3:=sQ (o:=HO.tup [V.ref p,V.ref l,V.ref g]) r2 hr2;have T3:=t1.trans (t2.trans t3);refine q2 r2 (.ref p) l g [] _ ho (s1.trans (S2.trans T3)) nl (zH (s1.trans (S2.trans t1)) hg) (λz=>by rw[<-z,t1 _ _ hl] at hg;cases hg) zi ?_ ⟨ys,T3 _ _ hl,Xl T3 pn⟩ ⟨[],t3 _ _ e2,.nil⟩ ?_
   ·unfold zdD;rw[hw];exact⟨p,Z,(t2.trans t3) _ _ e1⟩
   ·unfold Zd;rw[hw]
  |none =>
   rw[hw] at R2';refine(zZ R2' F.cl F.n3 Z Z ⟨Z,_,Z,ym Z (zZ R2' F.cl F.n7 Z Z ⟨a.sa,_,Z,.inl ⟨aT.of R2.ha,λy hy=>?_⟩⟩)⟩);generalize c1:upd H2 y _=H3;obtain⟨t1,e1⟩:=yG c1 hy;refine⟨by show 2<=Bb;rw[bN];decide,λp hp=>?_⟩;generalize c2:upd H3 p _=H4;obtain⟨t2,e2⟩:=yG c2 hp;have T2:=t1.trans t2;have R3:=R2.same T2;refine⟨_,Z,zZ R3.ix F.cl F.n5 Z Z ⟨a.gi,_,Z,R3.hg,λr3 hr3=>?_⟩⟩;generalize c3:upd H4 r3 _=H5;obtain⟨t4,e4⟩:=yG c3 hr3;refine⟨r3,a.gi,s.gi,Z,e4,t4 _ _ R3.hg,(by have:=wZ s.gi;lia),λg zs srt H6 s6 fg hg ps ri mi=>⟨by show 3<=Bb;rw[bN];decide,λr2 hr2=>?_⟩⟩;have t5:=sQ (o:=HO.tup [V.ref p,V.ref l,V.ref g]) r2 hr2;have T5:=(t4.trans s6).trans t5;have fg3:H4 g=ak:=zH t4 fg;refine q2 r2 (.ref p) l g srt _ ho (s1.trans (S2.trans (T2.trans T5))) nl (zH (s1.trans (S2.trans T2)) fg3) (λz=>by rw[<-z,T2 _ _ hl] at fg3;cases fg3) zi ?_ ⟨ys,(T2.trans T5) _ _ hl,Xl (T2.trans T5) pn⟩ ⟨zs,t5 _ _ hg,Xl t5 ps⟩ ?_
   ·unfold zdD;rw[hw];exact⟨p,y,Z,T5 _ _ e2,T5 _ _ (t2 _ _ e1)⟩
   ·unfold Zd;rw[hw];exact⟨ri,mi⟩
theorem JJ{vs:List V}{_E:XK}(F:RnF K t)(h:kX t vs H Q _E) :
  Xe K t (sH Q) (L2.start ["self","place","worth"] vs) H:=by
 obtain⟨x,q,p,w,a,C,s,rfl,R,h2,h3,k⟩:=h;have g1:sR H a.gi (.ref q) ((zD s.gi p).map V.int):=.inr ⟨sJ s.gi,zy p,q,.inl R.hg,Z,h2,(wq _ _).symm⟩;have g2:sR H a.no (.ref q) ((zD s.no p).map V.int):=.inr ⟨sJ s.no,zy p,q,.inl R.hn,Z,h2,(wq _ _).symm⟩;unfold kh VC at k;cases hg:zD s.gi p with
 |some i =>
  rw[hg,aq (.inl Z)] at k;rw[hg] at g1;exact⟨_,Z,zZ R.ix F.cl F.n5 Z Z ⟨a.gi,_,Z,g1,_,Z,yE Z (zZ R.ix F.cl F.n5 Z Z ⟨_,Z,a.gi,_,Z,g1,k H (.of_same λ_ _ z=>z) R⟩)⟩⟩
 |none =>
  rw[hg] at k g1;refine⟨_,Z,zZ R.ix F.cl F.n5 Z Z ⟨a.gi,_,Z,g1,_,Z,ym Z ⟨_,Z,zZ R.ix F.cl F.n6 Z Z ⟨a.no,_,Z,g2,_,Z,?_⟩⟩⟩⟩;cases ho:zD s.no p with
  |some i =>
   rw[ho,aq (.inr Z)] at k;rw[ho] at g2;exact ym Z (zZ R.ix F.cl F.n6 Z Z ⟨_,Z,a.no,_,Z,g2,k H (.of_same λ_ _ z=>z) R⟩)
  |none =>
   rw[ho,am (λz=>z.elim () λz=>nomatch z)] at k;have ld:=wZ s.no;have ep:yI (sJ s.no) (zy p) (V.int w)=sJ (s.no++[(p,w)]):=(qP s.no (p,w)).symm;have Bp:=DPut.t (k:=zy p) (v:=V.int w) R.hn h2 (b6 (by lia:_<=900) ());rw[ep] at Bp;have R2:=R.putO (s.no++[(p,w)]);have K2:Kp x a H (upd H a.no (.dT (sJ (s.no++[(p,w)])))):=wV (.inr (.inr (.inr (.inl Z))));refine yE Z ⟨_,Z,zZ R.ix F.cl F.n6 Z Z ⟨_,Z,a.no,_,Z,Bp,zZ R2.ix F.cl F.n6 Z Z ⟨_,Z,a.no,V.int w,Z,?_,k _ K2 R2⟩⟩⟩;refine .inr ⟨_,zy p,q,.inl R2.hn,Z,K2 _ _ (R.notup h2) h2,?_⟩;rw[wq,zb7];rfl
end
theorem JK{vs:List V}{_E:XK}(h:wz vs H Q _E) :
  Xf K t (sH Q) (L2.start ["ranks_at","place","rank","ranks"] vs) H:=by
 obtain⟨rk,pl,ac,G,P,kk,q0,rfl,hr,fk,hp,hP,q⟩:=h;rcases hr.get q0 with ⟨a,rs,hk,hv,fa,ha,hs,hne,hi⟩|⟨_,_,hn⟩
 ·have hir:ac∈rs:=(hi ac).mpr hP;have ar:=za1 hr ha;refine⟨_,Z,_,Z,rk,.ref a,Z,(by rw[<-hv];exact .t hr.at_ hp),_,Z,.inl ⟨Z,_,aT.of ha⟩,_,Z,a,rs,ac,Z,Z,ha,hir,_,Z,(),λz hz=>?_⟩;have k2:=(gV.refl (G:=G) (rk:=rk) (H:=H)).lst (ys:=(rs.erase ac).map V.int) ha fa;have d2:Dm H (upd H a (.lst ((rs.erase ac).map V.int))):=Dm.upd λ_ z=>nomatch z
  have pa:pl≠a:=zJ hp ha ();have hp2:upd H a (.lst ((rs.erase ac).map V.int)) pl=U (.tup ((zy q0).map kV)):=by rw[zl pa];exact hp
  have hk2:upd H a (.lst ((rs.erase ac).map V.int)) rk=U (.dT kk):=by rw[zl ar];exact hr.at_
  generalize c_:upd _ z _=H3;obtain⟨s3,q3⟩:=yG c_ hz;refine⟨a,z,_,Z,Z,aT.of (s3 _ _ zi),aT.of q3,_,Z,?_⟩;by_cases e:rs.erase ac=[]
  ·refine yE (Bj (by rw[e];rfl)) ⟨_,Z,rk,Z,.inr ⟨_,.inl (s3 _ _ hk2)⟩,_,Z,kk,zy q0,pl,_,s3 _ _ hk2,Z,s3 _ _ hp2,hv,q _ (yp kk (zy q0)) ((k2.same s3).dct _) (d2.trans ((Dm.of_same s3).trans (Dm.upd λ_ z=>nomatch z))) ?_⟩;refine(hr.out2 (us:=(rs.erase ac).map V.int) hk ha hs hi e λp r=>sd).keep fk (λb o fb eb=>?_) (λ_ z=>z);by_cases hb:b=rk
   ·subst hb;rw[zi] at eb ⊢;exact eb
   ·rw[zl hb] at eb ⊢;exact s3 _ _ eb
  ·refine ym (Bk λz=>e (List.map_eq_nil_iff.mp z)) ?_;exact q _ kk (k2.same s3) (d2.trans (Dm.of_same s3)) ((hr.out1 hk ha hs hi e λp r=>sd).keep fk (λb o _ eb=>s3 _ _ eb) (λ_ z=>z))
 ·exact absurd hP (hn ac)
theorem zc3{m Bo dx gr wo rk:D}{ac low:Int}{ys:List V}{F:D->Prop}{P:Pl->Int->Prop}{gs:List aP}{kk:List (List aV×V)}{o3:Option V}(MF:MkF K t)(hm:H m=U (.ins t.q02 dx (YC gr low wo rk)))(hL:H Bo=U (.lst ys))(nL:¬ F Bo)(hy:Paired (zaH H) ys (sJ gs))(nd:(gs.map (·.1)).Nodup)(hP:∀r∈gs,P r.1 ac)(hr:sF H rk F P kk)(fk:F rk)
  (q:∀H' kk',gV F rk H H'->Dm H H'->sF H' rk F (λp r=>P p r/\¬ (r=ac/\p∈gs.map (·.1))) kk'->Q .non H') :
  vo K t (sH Q) [U (.ref m),U (.int ac),U (.ref Bo),o3] H:=by
 have mr:m≠rk:=zJ hm hr.at_ ();have ly:ys.length=gs.length:=by rw[bF hy,X4 nd,bf]
 refine⟨_,Z,Bo,Z,⟨_,aT.of hL⟩,xo ys (taI m Bo rk ac ys F P gs H) ⟨⟨_,Z⟩,gV.refl,Dm.refl,kk,hr.eqv λp r=>by simp⟩ (λi σ H' ⟨_,k,_⟩=>aT.of (k _ _ hL (λz=>nL (by rw[z];exact fk)) (.inr nL))) ?_ ?_⟩
 ·rintro i u σ H' hu ⟨⟨o3,rfl⟩,k,dm,kk',hr'⟩;obtain⟨kv,hkv,p,rfl,hp⟩:=Paired.getP hy hu;rw[X4 nd,bB] at hkv;obtain⟨r0,hr0,rfl⟩:=b9.mp hkv;have hp:H p=U (.tup ((zy r0.1).map kV)):=hp;have hp':H' p=U (.tup ((zy r0.1).map kV)):=k _ _ hp (zJ hp hr.at_ ()) (.inl λ_ z=>nomatch z);have hm':=k _ _ hm mr (.inl λ_ z=>nomatch z);have hno:r0.1 ∉ (gs.take i).map (·.1):=λz=>by
   obtain⟨j,hj⟩:=cK z;rw[bB,dP] at hj;split at hj
   ·rename_i hji;have a1:(gs.map (·.1))[j]?=U r0.1:=by rw[bB];exact hj
    have a2:(gs.map (·.1))[i]?=U r0.1:=by rw[bB,hr0];rfl
    have:=(gE (bo.mp a1).1 nd).mp (a1.trans a2.symm);lia
   ·cases hj
  have hPi:∀p r,((P p r/\¬ (r=ac/\p∈(gs.take i).map (·.1)))/\¬ (r=ac/\p=r0.1))↔(P p r/\¬ (r=ac/\p∈(gs.take (i+1)).map (·.1))):=λp r=>by
   rw[cq,hr0,bQ,bw];have:p∈ou (·.1) (U r0).toList↔p=r0.1:=by simp
   rw[this];exact⟨λ⟨⟨a,b⟩,c⟩=>⟨a,λd=>d.2.elim (λe=>b ⟨d.1,e⟩) λe=>c ⟨d.1,e⟩⟩,λ⟨a,b⟩=>⟨⟨a,λc=>b ⟨c.1,.inl c.2⟩⟩,λc=>b ⟨c.1,.inr c.2⟩⟩⟩
  refine zZ hm' MF.cl MF.r Z zfp ⟨_,Z,_,Z,rk,p,ac,F,_,kk',r0.1,Z,hr',fk,hp',⟨hP r0 (bT hr0),λz=>hno z.2⟩,λH2 kk2 k2 d2 r2=>⟨⟨_,Z⟩,k.trans k2,dm.trans d2,kk2,r2.eqv hPi⟩⟩
 ·rintro σ H' ⟨⟨o3,rfl⟩,k,dm,kk',hr'⟩;rw[ly,cM] at hr';exact q H' kk' k dm hr'
theorem ZX{vs:List V}{_E:XK}(MF:MkF K t)(h:yR t vs H Q _E) :
  je K t (sH Q) (L2.start ["self","rank"] vs) H:=by
 obtain⟨m,ac,F,g,lays,low,rfl,h1,q⟩:=h;obtain⟨dx,gr,wo,rk,wk,kk,M⟩:=h1.ex;refine zZ M.im MF.cl MF.w Z zgJ ⟨wo,Z,.inl ⟨_,.inl M.hw⟩,_,Z,λp hp=>?_⟩;generalize c_:upd _ p _=H1;obtain⟨s1,q1⟩:=yG c_ hp;have M1:=M.keep h1.me λb o _ e=>s1 _ _ e;by_cases hin:ac∈lays.map (·.1)
 ·obtain⟨y,hy,ey⟩:=bG.mp hin;obtain⟨r',gs⟩:=y;have ey:r'=ac:=ey;subst ey;obtain⟨d,v1,fd,nd,hd⟩:=Qp M1.wp h1.nd hy;have hg:=sR.k (k:=.inl r') M1.hw;rw[v1] at hg;refine⟨_,hg,d,sJ gs,Z,hd,λl ys hl pr=>?_⟩;have s3:=sQ (o:=HO.lst ys) l hl;exact q l ys gs _ (s1.trans s3) (zH s1 hl) zi (Paired.mapP pr λ_ _ ⟨p,e,h⟩=>⟨p,e,s3 _ _ h⟩) (.inl hy)
 ·have hg:=sR.k (k:=.inl ac) M1.hw;rw[Qq M1.wp hin] at hg;refine⟨_,hg,p,[],Z,q1,λl ys hl pr=>?_⟩;have s3:=sQ (o:=HO.lst ys) l hl;exact q l ys [] _ (s1.trans s3) (zH s1 hl) zi (Paired.mapP pr λ_ _ ⟨p,e,h⟩=>⟨p,e,s3 _ _ h⟩) (.inr ⟨hin,Z⟩)
theorem ZY{vs:List V}{_E:XK}(MF:MkF K t)(h:xW t vs H Q _E) :
  jf K t (sH Q) (L2.start ["self","rank","places","place"] vs) H:=by
 obtain⟨m,ac,F,g,lays,low,rfl,h1,q⟩:=h;obtain⟨dx,gr,wo,rk,wk,kk,M⟩:=h1.ex;refine xR M.im Z (v6 ()) ⟨_,Z,m,ac,F,g,lays,low,Z,h1,λBo ys gs H1 s1 fL hL hy ho=>?_⟩;have M1:=M.keep h1.me λb o _ e=>s1 _ _ e;have okf:∀y∈Jn lays ac,0<=y.1/\WJ y.2:=λy hy=>h1.ok y (b7.mp hy).1;have ndf:((Jn lays ac).map (·.1)).Nodup:=ii (fR _ cW) h1.nd;have nL:¬ F Bo:=λz=>by obtain⟨o,e⟩:=h1.own Bo z;rw[fL] at e;cases e
 have ownD:∀ {H2:Hp},Dm H1 H2->∀b,F b->∃o,H2 b=U o:=λdm b hb=>by
  obtain⟨o,e⟩:=h1.own b hb;obtain⟨o',e',_⟩:=dm b o (s1 _ _ e);exact⟨o',e'⟩
 refine zZ M1.im MF.cl MF.w Z zgJ ⟨wo,Z,.inl ⟨_,.inl M1.hw⟩,_,Z,wk,.inl ac,M1.hw,Z,λv hv=>?_,λhv=>?_⟩
 ·have hin:ac∈lays.map (·.1):=eC λz=>by rw[Qq M1.wp z] at hv;cases hv
  have hy0:(ac,gs)∈lays:=ho.resolve_right λz=>z.1 hin;have okg:=(h1.ok _ hy0).2;have wm:m≠wo:=zJ M1.im M1.hw ();have wg:gr≠wo:=zJ M1.hg M1.hw ();have wr:rk≠wo:=zJ M1.rr.at_ M1.hw ();have n2:∀b o,b≠wo->H1 b=U o->upd H1 wo (HO.dK (yp wk (.inl ac))) b=U o:=λb o n e=>by rw[zl n];exact e
  have w2:upd H1 wo (HO.dK (yp wk (.inl ac))) wo=U (HO.dK (yp wk (.inl ac))):=zi;have d2:Dm H1 (upd H1 wo (HO.dK (yp wk (.inl ac)))):=Dm.upd λ_ z=>nomatch z
  generalize upd H1 wo (HO.dK (yp wk (.inl ac)))=H2 at *
  have rr2:sF H2 rk F (v5 lays) kk:=M1.rr.keep2 (by rw[n2 _ _ wr M1.rr.at_,M1.rr.at_]) (λb xs _ e=>n2 _ _ (zJ e M1.hw ()) e) (λ_ z _=>z);refine zc3 MF (n2 _ _ wm M1.im) (n2 _ _ (zJ hL M1.hw ()) hL) nL (Paired.mapP hy λ_ _ ⟨p,e,h⟩=>⟨p,e,n2 _ _ (zJ h M1.hw ()) h⟩) okg.nd (λr hr=>⟨gs,hy0,bC hr⟩) rr2 M.fk λH' kk' k dm rr'=>?_;have wp3:Paired (zaO H2 rk F) (yp wk (.inl ac)) (Jn lays ac):=Paired.mapP (Qr M1.wp) λ_ _ ⟨e,d,e2,fd,nd,hd⟩=>⟨e,d,e2,fd,nd,n2 _ _ (zJ hd M1.hw ()) hd⟩;refine q H' F (λb o nf e=>KA M.fk k b o nf (n2 _ _ (λz=>nf (by rw[z];exact M.fw)) (s1 _ _ e))) (λb zs e=>k _ _ (n2 _ _ (zJ (s1 _ _ e) M1.hw ()) (s1 _ _ e)) (zJ (s1 _ _ e) M1.rr.at_ ()) (.inl λ_ z=>nomatch z)) ?_ (λ_ z=>.inl z) λ_ z=>z;exact zfq h1.me M.fg M.fw M.fk M.nr (n2 _ _ wm M1.im) (n2 _ _ wg M1.hg) w2 ⟨_,rr2.at_⟩ wp3 k (ownD (d2.trans dm)) (rr'.eqv (zfr h1.nd hy0)) ndf okf
 ·have hin:ac ∉ lays.map (·.1):=λz=>by
   obtain⟨y,hy,ey⟩:=bG.mp z;obtain⟨r',gs⟩:=y;have ey:r'=ac:=ey;subst ey;obtain⟨d,v1,_⟩:=Qp M1.wp h1.nd hy;rw[v1] at hv;cases hv
  have eg:gs=[]:=(ho.resolve_left λz=>hin (bG.mpr ⟨_,z,Z⟩)).2;subst eg;rw[zgL hin] at okf ndf q;refine zc3 (gs:=[]) MF M1.im hL nL hy cr (λr hr=>nomatch hr) M1.rr M.fk λH' kk' k dm rr'=>?_;refine q H' F (λb o nf e=>KA M.fk k b o nf (s1 _ _ e)) (λb zs e=>k _ _ (s1 _ _ e) (zJ (s1 _ _ e) M1.rr.at_ ()) (.inl λ_ z=>nomatch z)) ?_ (λ_ z=>.inl z) λ_ z=>z;exact zfq h1.me M.fg M.fw M.fk M.nr M1.im M1.hg M1.hw ⟨_,M1.rr.at_⟩ M1.wp k (ownD dm) (rr'.eqv λp r=>by simp) ndf okf
theorem zfO{Bp:Ja}{gv d m dx gr wo rk:D}{ac low:Int}{G:D->Prop}{gs:List aP}{l:List (Int×List aP)}{kk:List (List aV×V)}(MF:MkF K t)(hm:H m=U (.ins t.q02 dx (YC gr low wo rk)))(hd:H d=U (.dT (sJ gs)))(dr:d≠rk)(gf:WJ gs)(hr:sF H rk G (v5 l) kk)(hno:ac ∉ l.map (·.1))(ok:∀y∈l,WJ y.2)(hl:l.length<=200)(gk:G rk)(gn:∀b,H b=ak->G b)
  (q:∀H' o4 kk',gV G rk H H'->(∀b o,H b=U o->∃o',H' b=U o')->sF H' rk G (λp r=>v5 l p r\/(r=ac/\p∈gs.map (·.1))) kk'->Zq K t Bp [U (.ref m),U (.int ac),U (.ref gv),U (.ref d),o4] H') :
  Zr K t Bp [U (.ref m),U (.int ac),U (.ref gv),U (.ref d),ak] H:=by
 have mr:m≠rk:=zJ hm hr.at_ ();have md:m≠d:=zJ hm hd ();refine⟨d,_,sJ gs,hd,.inl Z,λob=>?_⟩;have f0:upd H d (.frz ob (.dT (sJ gs))) d=U (.frz ob (.dT (sJ gs))):=zi;have rr0:sF (upd H d (.frz ob (.dT (sJ gs)))) rk G (v5 l) kk:=hr.keep2 (by rw[zl dr.symm]) (λb xs _ e=>by rw[zl (zJ e hd ())];exact e) (λ_ z _=>z);have hm0:upd H d (.frz ob (.dT (sJ gs))) m=U (.ins t.q02 dx (YC gr low wo rk)):=by rw[zl md];exact hm
 have d0:Dm H (upd H d (.frz ob (.dT (sJ gs)))):=Dm.upd λ_ z=>nomatch z
 have back:∀ {H'},gV G rk (upd H d (.frz ob (.dT (sJ gs)))) H'->gV G rk H (upd H' d (.dT (sJ gs))):=λ{H'} k b o e n z=>by
  by_cases eb:b=d
  ·subst eb;rw[zi,<-hd];exact e
  ·rw[zl eb];exact k b o (by rw[zl eb];exact e) n z
 have gn0:∀b,upd H d (.frz ob (.dT (sJ gs))) b=ak->G b:=λb e=>gn b (by
  by_cases eb:b=d
  ·subst eb;rw[zi] at e;cases e
  ·rw[zl eb] at e;exact e)
 generalize upd H d (.frz ob (.dT (sJ gs)))=H0 at *
 have kd:∀ {H'},gV G rk H0 H'->H' d=U (.frz ob (.dT (sJ gs))):=λ{H'} k=>k _ _ f0 dr (.inl λ_ z=>nomatch z);refine⟨_,Z,d,ob,sJ gs,Z,f0,zbR (lyI m gv d rk ac G (v5 l) gs H0) ⟨⟨_,Z⟩,gV.refl,Dm.refl,kk,rr0.eqv λp r=>by simp⟩ (λi σ H' ⟨_,k,_⟩=>kd k) ?_ ?_⟩
 ·rintro i k v p σ H' hkv hp ⟨⟨o4,rfl⟩,ke,dm,kk',hr'⟩;rw[X4 gf.nd,bB] at hkv;obtain⟨r0,hr0,er⟩:=b9.mp hkv;cases er;have hm':=ke _ _ hm0 mr (.inl λ_ z=>nomatch z);have hnr:r0.1 ∉ (gs.take i).map (·.1):=λz=>by
   obtain⟨j,hj⟩:=cK z;rw[bB,dP] at hj;split at hj
   ·rename_i hji;have a1:(gs.map (·.1))[j]?=U r0.1:=by rw[bB];exact hj
    have a2:(gs.map (·.1))[i]?=U r0.1:=by rw[bB,hr0];rfl
    have:=(gE (bo.mp a1).1 gf.nd).mp (a1.trans a2.symm);lia
   ·cases hj
  have hPi:∀p r,((v5 l p r\/(r=ac/\p∈(gs.take i).map (·.1)))\/(r=ac/\p=r0.1))↔(v5 l p r\/(r=ac/\p∈(gs.take (i+1)).map (·.1))):=λp r=>by
   rw[cq,hr0,bQ,bw];have:p∈ou (·.1) (U r0).toList↔p=r0.1:=by simp
   rw[this,and_or_left,or_assoc]
  have hnP:¬ (v5 l r0.1 ac\/(ac=ac/\r0.1∈(gs.take i).map (·.1))):=λz=>z.elim (λ⟨g2,h2,_⟩=>hno (bG.mpr ⟨_,h2,Z⟩)) λy=>hnr y.2;have kl:kk'.length<=18900:=zfs (l:=(ac,gs)::l) hr' (λp r z=>z.elim (λ⟨g2,h2,h3⟩=>⟨g2,bq _ h2,h3⟩) λ⟨e,h3⟩=>⟨gs,by rw[e];exact br,(by
   obtain⟨x,hx,rfl⟩:=bG.mp h3;exact bC (dA hx))⟩) (λy hy=>by
   rcases bu.mp hy with rfl|hy
   ·exact gf
   ·exact ok y hy) (by rw[bW];lia)
  have gn1:∀b,H' b=ak->G b:=λb e=>gn0 b (by
   cases e0:H0 b with
   |none=>rfl
   |some o=>obtain⟨o',e',_⟩:=dm b o e0;rw[e] at e';cases e')
  have hrl:∀rs:List Int,rs.Pairwise (· < ·)->(∀r∈rs,v5 l r0.1 r\/(r=ac/\r0.1∈(gs.take i).map (·.1)))->rs.length<=300:=λrs hs hall=>by
   have rl:rs.length<=((ac,gs)::l).length:=zh8 (p:=r0.1) hs λr hr=>(hall r hr).elim (λ⟨g2,h2,h3⟩=>⟨g2,bq _ h2,h3⟩) λy=>absurd y.2 hnr;rw[bW] at rl;lia
  exact zZ hm' MF.cl MF.r Z zfp ⟨_,Z,_,Z,rk,p,ac,G,_,kk',r0.1,Z,hr',gk,gn1,hp,hnP,kl,hrl,λH2 kk2 k2 d2 r2=>⟨⟨_,Z⟩,ke.trans k2,dm.trans d2,kk2,r2.eqv hPi⟩⟩
 ·rintro σ H' ⟨⟨o4,rfl⟩,ke,dm,kk',hr'⟩;rw[X4 gf.nd,bf,cM] at hr';have D2:Dm H (upd H' d (.dT (sJ gs))):=(d0.trans dm).trans (Dm.upd λ_ z=>nomatch z);refine⟨kd ke,q _ o4 kk' (back ke) (λb o e=>let ⟨o',e',_⟩:=D2 b o e;⟨o',e'⟩) (hr'.keep2 (by rw[zl dr.symm]) (λb xs _ e=>by rw[zl (zJ e (kd ke) ())];exact e) (λ_ z _=>z))⟩
theorem zfP{m gv:D}{ac low:Int}{F:D->Prop}{g:List aP}{lays:List (Int×List aP)}{gs:List aP}(MF:MkF K t)(h1:sW t H m F g lays low)(h2:low<=ac)(h20:0<=ac)(h3:sL H gv gs)(hgv:¬ F gv)(h4:WJ gs)(h5:lays.length<=200)(q:∀H' F',(∀b o,¬ F b->H b=U o->H' b=U o)->(∀b zs,H b=U (.tup zs)->H' b=U (.tup zs))->sW t H' m F' g (xx lays ac gs) low->(∀b,F' b->F b\/H b=ak)->(∀b,F b->F' b)->Q .non H') :
  qe K t (sH Q) (L2.start ["self","rank","gifts","worths","place"] [.ref m,.int ac,.ref gv]) H:=by
 obtain⟨dx,gr,wo,rk,wk,kk,M⟩:=h1.ex;refine xR M.im Z (v6 ()) ⟨_,Z,m,_,_,_,_,Z,M.im,zh7,h2,λH1 s1=>?_⟩;have M1:=h1.keep (H':=H1) λb o _ e=>s1 _ _ e;refine xR (s1 _ _ M.im) Z (v6 ()) ⟨_,Z,m,ac,F,g,lays,low,Z,M1,λH2 F2 fr2 ts2 m2 ff2 fs2=>?_⟩;clear M wk kk gr wo rk dx;obtain⟨xs,hx,hp⟩:=h3;have hx2:=fr2 _ _ hgv (s1 _ _ hx);have hp2:Paired (PrAt H2) xs gs:=Paired.mapP hp λ_ _ ⟨r,p,e,e1,e2⟩=>⟨r,p,e,ts2 _ _ (s1 _ _ e1),ts2 _ _ (s1 _ _ e2)⟩;refine⟨_,Z,gv,xs,gs,Z,hx2,hp2,by have:=h4.le;lia,λd hd=>?_⟩;generalize c_:upd _ d _=H3;obtain⟨s3,q3⟩:=yG c_ hd;obtain⟨dx,gr,wo,rk,wk,kk,M2⟩:=m2.ex;have M3:=M2.keep m2.me λb o _ e=>s3 _ _ e;have ndF:¬ F2 d:=λz=>by obtain⟨o,e⟩:=m2.own d z;rw[hd] at e;cases e
 have dr:d≠rk:=λz=>ndF (by rw[z];exact M2.fk);have hl:(Jn lays ac).length<=200:=bO (nS _ _) h5;have fresh:∀b,H2 b=ak->H b=ak:=λb e=>by
  cases e2:H b with
  |none=>rfl
  |some o =>
   exfalso;by_cases fb:F b
   ·obtain⟨o',e'⟩:=m2.own b (fs2 b fb);rw[e] at e';cases e'
   ·have:=fr2 _ _ fb (s1 _ _ e2);rw[e] at this;cases this
 refine zfO (G:=λb=>F2 b\/H2 b=ak) MF M3.im q3 dr h4 (M3.rr.keep (F':=λb=>F2 b\/H2 b=ak) M3.fk (λb o _ e=>e) (λ_ z=>.inl z)) VQ (λy hy=>(m2.ok y hy).2) hl (.inl M2.fk) (λb e=>.inr (zH s3 e)) λH4 o4 kk' ke dm rr4=>?_;have im4:=ke _ _ M3.im (zJ M3.im M3.rr.at_ ()) (.inl λ_ z=>nomatch z);have hw4:=ke _ _ M3.hw (zJ M3.hw M3.rr.at_ ()) (.inl λ_ z=>nomatch z);have hg4:=ke _ _ M3.hg M3.nr (.inl λ_ z=>nomatch z);have hd4:=ke _ _ q3 dr (.inl λ_ z=>nomatch z);have wl:wk.length<=200:=by rw[bF M2.wp];exact hl
 refine⟨_,Z,zZ im4 MF.cl MF.w Z zgJ ⟨_,Z,wo,_,Z,(.k (k:=.inl ac) hw4 (by rw[bN];lia)),?_⟩⟩;rw[vS _ (Qq M3.wp VQ)];have mw:m≠wo:=zJ im4 hw4 ();have gw:gr≠wo:=zJ hg4 hw4 ();have rw_:rk≠wo:=zJ rr4.at_ hw4 ();have dw:d≠wo:=zJ hd4 hw4 ();have n5:∀b o,b≠wo->H4 b=U o->upd H4 wo (HO.dK (wk++[(.inl ac,V.ref d)])) b=U o:=λb o n e=>by rw[zl n];exact e
 have w5:upd H4 wo (HO.dK (wk++[(.inl ac,V.ref d)])) wo=U (HO.dK (wk++[(.inl ac,V.ref d)])):=zi;have dm5:∀b o,H3 b=U o->∃o',upd H4 wo (HO.dK (wk++[(.inl ac,V.ref d)])) b=U o':=λb o e=>by
  by_cases eb:b=wo
  ·subst eb;exact⟨_,w5⟩
  ·obtain⟨o',e'⟩:=dm b o e;exact⟨o',n5 _ _ eb e'⟩
 generalize upd H4 wo (HO.dK (wk++[(.inl ac,V.ref d)]))=H5 at *
 refine q H5 (λb=>F2 b\/(H2 b=ak/\∃o,H5 b=U o)) (λb o nf e=>?_) (λb zs e=>?_) ?_ (λb z=>?_) λb z=>.inl (fs2 b z)
 ·have e2:=fr2 _ _ nf (s1 _ _ e);have nf2:¬ F2 b:=λz=>(ff2 b z).elim nf λy=>by rw[s1 _ _ e] at y;cases y
  have nr:b≠rk:=λz=>nf2 (by rw[z];exact M2.fk);have nw:b≠wo:=λz=>nf2 (by rw[z];exact M2.fw);exact n5 _ _ nw (ke _ _ (s3 _ _ e2) nr (.inr λz=>z.elim nf2 λy=>by rw[e2] at y;cases y))
 ·have e2:=s3 _ _ (ts2 _ _ (s1 _ _ e));have e4:=ke _ _ e2 (zJ e2 M3.rr.at_ ()) (.inl λ_ z=>nomatch z);exact n5 _ _ (zJ e4 hw4 ()) e4
 ·refine⟨λb z=>z.elim (λf=>let ⟨o,e⟩:=m2.own b f;dm5 b o (s3 _ _ e)) λy=>y.2,.inl m2.me,?_,?_,dx,gr,wo,rk,_,kk',n5 _ _ mw im4,.inl M2.fg,.inl M2.fw,.inl M2.fk,M2.nr,n5 _ _ gw hg4,w5,?_,?_⟩
  ·unfold xx;rw[bQ,da];refine⟨m2.nd,by simp,λx hx y hy=>?_⟩;have:y=ac:=by simpa using hy
   rw[this];exact λz=>VQ (l:=lays) (r:=ac) (by have h:=hx;rw[z] at h;exact h)
  ·intro y hy;rcases bw.mp hy with hy|hy
   ·exact m2.ok y hy
   ·rw[bp.mp hy];exact⟨h20,h4⟩
  ·refine Paired.snocP (Paired.mapP M3.wp λ_ _ ⟨e,d',e2,fd,nd',hd'⟩=>?_) ⟨Z,d,Z,.inr ⟨hd,_,n5 _ _ dw hd4⟩,dr,n5 _ _ dw hd4⟩;have e4:=ke _ _ hd' nd' (.inl λ_ z=>nomatch z);exact⟨e,d',e2,.inl fd,nd',n5 _ _ (zJ e4 hw4 ()) e4⟩
  ·refine(rr4.keep2 (F':=λb=>F2 b\/(H2 b=ak/\∃o,H5 b=U o)) ((n5 _ _ rw_ rr4.at_).trans rr4.at_.symm) (λb xs _ e=>n5 _ _ (zJ e hw4 ()) e) (λb z ex=>z.imp id λy=>⟨y,ex⟩)).eqv λp r=>?_;unfold xx;constructor
   ·rintro(⟨g2,h6,h7⟩|⟨rfl,h7⟩)
    ·exact⟨g2,cp _ h6,h7⟩
    ·exact⟨gs,bJ _ (bp.mpr Z),h7⟩
   ·rintro⟨g2,h6,h7⟩;rcases bw.mp h6 with h6|h6
    ·exact .inl ⟨g2,h6,h7⟩
    ·cases bp.mp h6;exact .inr ⟨Z,h7⟩
 ·rcases z with z|z
  ·exact(ff2 b z).imp id λy=>zH s1 y
  ·exact .inr (fresh b z.1)
theorem V8{vs:List V}{_E:XK}(MF:MkF K t)(h:jP t vs H Q _E) :
  jQ K t (sH Q) (L2.start ["self","table"] vs) H:=by
 obtain⟨x,h,dx,aK,rfl,h1,h2,h3,q⟩:=h;obtain⟨xs,hx,hp⟩:=h2;obtain⟨lb,P,_⟩:=PO.init h1 ⟨_,h1⟩;unfold jQ zo;refine⟨_,Z,h,xs,aK,Z,hx,hp,(),P.so (.dT (sJ aK)) 4 () () Z MF.cl MF.g () λgr H1 lb1 P=>P.st Z MF.cl MF.f (by show 1<1000;decide) λH2 P=>P.so (.dK []) 5 () () Z MF.cl MF.w (by show 2<1000;decide) λwo H3 lb3 P=>P.so (.dT []) 6 () () Z MF.cl MF.r (by show 3<1000;decide) λrk H7 lb7 P=>?_⟩;have ob:∀n c o,(n,c,o)∈_->H7 c=U o/\lb7 c=n:=λn c o z=>(P.ob (n,c,o) z).2;have o6:=ob 6 rk _ (.head _);have o5:=ob 5 wo _ (.tail _ (.head _));have o4:=ob 4 gr _ (.tail _ (.tail _ (.head _)));refine q H7 (λb=>lb7 b≠0) P.kp ⟨P.ow,(by rw[P.lx];decide),cr,(λ_ h=>(nomatch h)),dx,gr,wo,rk,[],[],P.hx,(by rw[o4.2];decide),(by rw[o5.2];decide),(by rw[o6.2];decide),(λz=>by rw[z,o6.2] at o4;exact absurd o4.2 ()),o4.1,o5.1,.nil,o6.1,cr,cr,λ_ h=>(nomatch h),λp r ⟨_,h,_⟩=>(nomatch h)⟩ λb z=>?_;rcases P.fr b z with y|y|y
 ·exact .inl y
 ·exact .inl y
 ·exact .inr y
theorem JL{m gv:D}{ac:Int}{F:D->Prop}{g:List aP}{lays:List (Int×List aP)}{gs:List aP}(MF:MkF K t)(h1:sS t H m F g lays)(h2:0<=ac)(h3:sL H gv gs)(hgv:¬ F gv)(h4:WJ gs)(h5:lays.length<=200)(q:∀H' F',(∀b o,¬ F b->H b=U o->H' b=U o)->(∀b zs,H b=U (.tup zs)->H' b=U (.tup zs))->sS t H' m F' g (xx lays ac gs)->(∀b,F' b->F b\/H b=ak)->(∀b,F b->F' b)->Q .non H') :
  qe K t (sH Q) (L2.start ["self","rank","gifts","worths","place"] [.ref m,.int ac,.ref gv]) H:=zfP MF h1 h2 h2 h3 hgv h4 h5 q
theorem vF{p:Prop} [Decidable p]{A Bn:Prop}(a:p->A)(b:¬ p->Bn):if decide p=af then A else Bn:=by
 by_cases h:p
 ·exact yE (Bj h) (a h)
 ·exact ym (Bk h) (b h)
theorem QH{i:Int}(hK:zgt K)(q:∀H',aL H H'->Q (.bl (sP i)) H') :
  Zn K t (sH Q) (L2.start ["thing"] [.int i]) H:=by
 have q:=q H (aL.refl H);unfold Zn zo yc tOr Wz;have e30:(10:Int)^(30:Int).toNat=1000000000000000000000000000000:=by lia
 refine vE Z (.int i) (xI _) (ym Z (vE Z (.int i) hK (ym Z ⟨_,_,Z,Z,zfh () (),_,Z,_,Z,_,_,Z,Z,_,Z,vF (λc=>⟨_,_,Z,Z,zfh () (),_,_,Z,Z,?_⟩) λc=>?_⟩)))
 ·rw[e30] at c ⊢;have e:sP i=decide (i<=1000000000000000000000000000000):=by
   unfold sP;by_cases h:i<=1000000000000000000000000000000
   ·rw[Bj h,Bj ⟨c,h⟩]
   ·rw[Bk h,Bk λz=>h z.2]
  rw[e] at q;exact q
 ·rw[e30] at c;have e:sP i=ao:=Bk λz=>c z.1;rw[e] at q;exact q
theorem zbf{vs:List V}{E:XK}(h:Yz t vs H Q E) :
  VE K t E (sH Q) (L2.start ["word","first","second"] vs) H:=by
 obtain⟨w,a,b,rfl,hw,ha,hb,q⟩:=h;have q:=q H (aL.refl H);have Bn:=K3 hb;refine⟨_,Z,Z,_,Z,vF (λc=>?_) λc=>?_⟩
 ·rw[aq (V.int.inj c)] at q;exact⟨_,Z,_,Z,(),λy=>⟨by show 1<=Bb;rw[bN];decide,q⟩⟩
 ·have c:b≠0:=λz=>c (congrArg V.int z);rw[am c] at q;refine⟨_,Z,Z,_,Z,vF (λe=>?_) λe=>?_⟩
  ·rw[aq (V.str.inj e)] at q;exact⟨_,Z,_,Z,_,_,Z,Z,⟨c,Bn⟩,q⟩
  ·rw[am λz=>e (congrArg V.str z)] at q;exact⟨_,Z,_,Z,_,_,Z,Z,c,q⟩
theorem zbg{vs:List V}{E:XK}(h:YA t vs H Q E) :
  VF K t E (sH Q) (L2.start ["word","first","second"] vs) H:=by
 obtain⟨w,a,b,rfl,hw,ha,hb,q⟩:=h;have A:=K3 ha;have Bn:=K3 hb;have nd:¬ Vl w->Q (.int (Vk w a b)) H:=λh=>by
  have q:=q H (aL.refl H);rw[am λz=>h z.1] at q;exact q
 unfold Vk at nd q;refine⟨_,Z,Z,_,Z,vF (λc=>?_) λc1=>⟨_,Z,Z,_,Z,vF (λc=>?_) λc2=>⟨_,Z,Z,_,Z,vF (λc=>?_) λc3=>⟨_,Z,Z,_,Z,vF (λc=>?_) λc4=>⟨_,Z,Z,_,Z,vF (λc=>?_) λc5=>?_⟩⟩⟩⟩⟩
 ·cases c;exact⟨_,Z,_,Z,_,_,Z,Z,by have q:=nd λz=>z.1 rfl;rw[aq rfl] at q;exact q⟩
 ·cases c;exact⟨_,Z,_,Z,_,_,Z,Z,by have q:=nd λz=>z.2.1 rfl;rw[am (λz=>c1 (congrArg V.str z)),aq rfl] at q;exact q⟩
 ·cases c;exact⟨_,Z,_,Z,_,_,Z,Z,⟨A,Bn⟩,by have q:=nd λz=>z.2.2.1 rfl;rw[am (λz=>c1 (congrArg V.str z)),am (λz=>c2 (congrArg V.str z)),aq rfl] at q;exact q⟩
 ·cases c;have q:=nd λz=>z.2.2.2.1 rfl;rw[am (λz=>c1 (congrArg V.str z)),am (λz=>c2 (congrArg V.str z)),am (λz=>c3 (congrArg V.str z)),aq rfl] at q;refine⟨_,Z,_,Z,_,_,Z,Z,_,Z,vF (λd=>?_) λd=>?_⟩
  ·rw[aq d] at q;exact q
  ·rw[am d] at q;exact q
 ·cases c;have q:=nd λz=>z.2.2.2.2 rfl;rw[am (λz=>c1 (congrArg V.str z)),am (λz=>c2 (congrArg V.str z)),am (λz=>c3 (congrArg V.str z)),am (λz=>c4 (congrArg V.str z)),aq rfl] at q;refine⟨_,Z,_,Z,Z,_,Z,vF (λd=>?_) λd=>?_⟩
  ·rw[aq (V.int.inj d)] at q;exact q
  ·rw[am λz=>d (congrArg V.int z)] at q;exact q
 ·have c1:w≠"plus":=λz=>c1 (congrArg V.str z);have c2:w≠"minus":=λz=>c2 (congrArg V.str z);have c3:w≠"times":=λz=>c3 (congrArg V.str z);have c4:w≠"under":=λz=>c4 (congrArg V.str z);have c5:w≠"same":=λz=>c5 (congrArg V.str z);refine⟨_,Z,_,Z,_,Z,w,a,b,Z,hw,ha,hb,λH' s=>?_⟩;have q:=q H' s;have hd:Vl w:=⟨c1,c2,c3,c4,c5⟩;refine YV (λd=>?_) λd=>?_
  ·rw[aq ⟨hd,d⟩] at q;exact q
  ·rw[am λz=>d z.2,am c1,am c2,am c3,am c4,am c5] at q;exact q
theorem zce{vs:List V}{E:XK}(h:XW t vs H Q E) :
  Kl K t E (sH Q) (L2.start ["word","first","second","worth"] vs) H:=by
 obtain⟨w,a,b,rfl,hw,ha,hb,q⟩:=h;unfold j7 at q;refine⟨_,Z,_,Z,_,Z,w,a,b,Z,hw,ha,hb,λH1 s1=>YV (λc=>?_) λc=>⟨_,Z,_,Z,λH2 s2=>⟨_,Z,?_⟩⟩⟩
 ·have q:=q H1 s1;rw[aq c] at q;exact q
 ·have q:=q H2 (s1.trans s2);rw[am c] at q;by_cases d:sP (Vk w a b)=af
  ·rw[aq d] at q;exact ym (by rw[d];rfl) ⟨_,Z,q⟩
  ·rw[am d] at q;exact yE (by rw[eo.mpr d];rfl) ⟨_,Z,_,Z,(),λy=>⟨by show 1<=Bb;rw[bN];decide,q⟩⟩
theorem X9{vs:List V}{_E:XK}(h:yk K vs H Q _E) :
  qA K t (sH Q) (L2.start ["script","k"] vs) H:=by
 obtain⟨a,ns,k,rfl,hS,hl,hb,q⟩:=h;refine⟨_,Z,_,Z,.ref a,ns.length,Z,.inl ⟨_,hS,(bf ..).symm⟩,_,_,Z,Z,_,Z,vF (λe=>?_) λe=>q _ _ (aL.refl _) (Cb.of ())⟩;obtain⟨v,h1,h2⟩:=zaV (xs:=ns.map V.int) (i:=(k:Int)) () (by rw[bf];lia);obtain⟨x,hx,rfl⟩:=bG.mp h2;exact⟨_,Z,_,Z,a,_,_,_,Z,Z,hS,h1,q _ _ (aL.refl _) (hb x hx)⟩
theorem zbh{v:V}{r:dl}(h1:RlAt Jg H v r)(h2:WI 6 r)(h3:(zY r 0).length<=500)(q:∀l xs H',aL H H'->H l=ak->H' l=U (.lst xs)->Paired (sT H') xs (zY r 0)->Q (.ref l) H') :
  VJ K t (sH Q) (L2.start ["rows"] [v]) H:=⟨_,Z,v,r,0,Z,h1,h2,(),q⟩
section
variable {E:XK}{x:D}{a:RAd}{C:List Cs}{s:aX}
theorem QI{vs:List V}{_E:XK}(F:RnF K t)(h:we t vs H Q _E) :
  Wn K t (sH Q) (L2.start ["self"] vs) H:=by
 obtain⟨x,a,C,s,rfl,R,q⟩:=h;obtain⟨xs,hx,pr⟩:=R.hc;have lx:=bF pr;have q:=q H λ_ _ z=>z;refine(zZ R.ix F.cl F.n3 Z Z ⟨Z,_,Z,?_⟩);cases hw:s.why with
 |some w =>
  have e:yq C s=af:=by unfold yq;rw[hw];rfl
  rw[e] at q;exact yE Z q
 |none =>
  refine ym Z (zZ R.ix F.cl F.n2 Z Z (zZ R.ix F.cl F.n1 Z Z ⟨.ref a.co,xs.length,Z,.inl ⟨_,aT.of hx,Z⟩,_,_,Z,Z,?_⟩));have e:yq C s=decide ((xs.length:Int)<=(s.n:Int)):=by unfold yq;rw[hw,lx];simp
  rw[e] at q;exact q
theorem Wa{tm:D}{e:List V}(F:RnF K t)(R:hV t H x a C s)(h2:xc s.sl)(h3:H tm=U (.tup e))(h4:aZ e)
  (q:∀H',aL H H'->fin t (rk s.sl e) Q E H'):qw K t E (sH Q) (L2.start ["self","term"] [.ref x,.ref tm]) H :=
 ⟨_,Z,zZ R.ix F.cl F.n4 Z Z ⟨s.sl,tm,a.sl,e,_,Z,h3,R.hs,h4.good s.sl,h4.2.1,h4.2.2,h2,q⟩⟩
theorem Wb{vs:List V}(F:RnF K t)(h:yT t vs H Q E) :
  qx K t E (sH Q) (L2.start ["self","due"] vs) H:=by
 obtain⟨x,p,xs,sh,te,e,a,C,s,rfl,R,h2,h3,h4,h5,h6,h7,q1,q2⟩:=h;refine XS Z h3 h4 (xR R.ix Z Z (XS Z h3 h5 ⟨x,te,e,a,C,s,Z,R,h2,h6,h7,λH1 s1=>?_⟩));cases hk:rk s.sl e with
 |error er=>exact tI.mpr (q2 er H1 hk s1)
 |ok n =>
  refine fin_ok.mpr ⟨by show 2<=Bb;rw[bN];decide,λp hp=>?_⟩;exact q1 n p _ hk (s1.trans (sQ (o:=HO.tup [V.str sh,V.int n]) p hp)) zi
end
theorem ZZ{m dx:D}{fs:List (Str×V)}{low ac:Int}(MF:MkF K t)(h1:H m=U (.ins t.q02 dx fs))(h2:fs.lookup (bg "folded")=U (.int low))(h3:low<=ac)(q:∀H',aL H H'->Q .non H') :
  v9 K t (sH Q) (L2.start ["self","rank"] [.ref m,.int ac]) H:=⟨_,Z,zZ h1 MF.cl MF.f Z h2 ⟨_,_,Z,Z,_,Z,ym (Bk ()) (q H (aL.refl H))⟩⟩
theorem WS{vs:List V}{_E:XK}(h:xi vs H Q _E) :
  Zl K t (sH Q) (L2.start ["number"] vs) H:=by
 obtain⟨n,rfl,h1,h2,q⟩:=h;have P3:=zfh (j:=30) () ();have e30:(10:Int)^(30:Int).toNat=1000000000000000000000000000000:=by lia
 have e3:(1000000007:Int)^(3:Int).toNat=1000000021000000147000000343:=by lia
 refine⟨_,Z,_,_,Z,Z,by show (0:Int)<4;decide,Z,_,Z,vF (λ_=>⟨_,Z,_,_,Z,Z,⟨(),(),()⟩,_,_,Z,Z,mB () () (by rw[e3];lia) (by rw[e3];lia),_,_,Z,Z,P3,_,_,Z,Z,mB () () (by rw[e30];lia) (by rw[e30];lia),_,_,Z,Z,_,_,Z,Z,by rw[e30];show (0:Int)<2*1000000000000000000000000000000+1;decide,_,_,Z,Z,P3,_,_,Z,Z,?_⟩) λ_=>⟨_,Z,_,_,Z,Z,dB,_,_,Z,Z,by show (0:Int)<6;decide,_,_,Z,Z,q _ _ (tU.mpr ()) (aL.refl _)⟩⟩;rw[e30,e3];exact q _ _ zia (aL.refl _)
theorem YK{vs:List V}{_E:XK}(h:yu vs H Q _E) :
  jA K t (sH Q) (L2.start ["word"] vs) H:=by
 obtain⟨w,rfl,h,q⟩:=h;obtain⟨h1,h2,_⟩:=id h;refine⟨_,Z,by show 9<=Bb;rw[bN];decide,λp hp=>⟨p,wl,Z,.inr (sN.of zi),Z,(),_,Z,?_⟩⟩;have s1:=sQ (o:=HO.tup wl) p hp;have z1:(bg "z").length=1:=by lia
 by_cases c:inV (.str w) wl=af
 ·exact yE c ⟨_,Z,_,_,Z,Z,y7 (),q _ _ (ziQ (by rw[zcS,c,Bool.or_true])) s1⟩
 refine ym (eo.mpr c) ⟨_,Z,by show 7<=Bb;rw[bN];decide,λp2 hp2=>⟨p2,jw,Z,.inr (sN.of zi),Z,(),_,Z,?_⟩⟩;have s2:=s1.trans (sQ (o:=HO.tup jw) p2 hp2);by_cases c2:inV (.str w) jw=af
 ·exact yE c2 ⟨_,Z,_,_,Z,Z,y7 (),q _ _ (ziQ (by rw[zcS,c2,Bool.true_or])) s2⟩
 ·exact ym (eo.mpr c2) ⟨_,Z,q _ _ (zgO h (eo.mpr c2) (eo.mpr c)) s2⟩
section
variable {x:Str}{c:Int}
theorem zdU{o2:Option V}(hx:yP x=af)(q:∀nm ws H',aL H H'->H nm=ak->sE H' nm ws->ws.length=2->Q (.ref nm) H') :
  Zj K t (sH Q) [U (.int c),U (.str "abcdefghijklmnopqrstuvwxyz"),o2,U (.str x),ak,ak] H:=by
 obtain⟨h1,h2,h3⟩:=zcT hx;have g1:=cP (c/6) (b:=(x.length:Int)) ();have g2:=cg (c/6) (b:=(x.length:Int)) ();have sx:x.length<=Bb:=y7 ();refine⟨_,Z,_,_,Z,Z,dB,_,Z,.str x,x.length,Z,⟨sx,Z⟩,_,_,Z,Z,by show (0:Int)<x.length;lia,?_⟩;obtain⟨k,ek⟩:∃k:Nat,c/6%(x.length:Int)=k:=⟨(c/6%(x.length:Int)).toNat,(lL g1).symm⟩;dsimp only;rw[ek] at g1 g2 ⊢;obtain⟨y,hy,my⟩:=zaV (xs:=x.cps.toList) (i:=(k:Int)) g1 (by rw[<-YZ];exact g2);have sz:(bg "abcdefghijklmnopqrstuvwxyz").length<=Bb:=by lia
 have f1:=cP (zcA (bg "abcdefghijklmnopqrstuvwxyz") ⟨#[y]⟩+1+c/36%25) (b:=26) ();have f2:=cg (zcA (bg "abcdefghijklmnopqrstuvwxyz") ⟨#[y]⟩+1+c/36%25) (b:=26) ();obtain⟨d,hd,ld⟩:=zfu f1 f2;exact⟨_,Z,_,Z,Z,_,Z,_,Z,x,k,y,Z,Z,sx,hy,_,_,Z,Z,_,_,Z,Z,_,Z,_,_,Z,Z,dB,_,_,Z,Z,by show (0:Int)<25;decide,_,_,Z,Z,_,_,Z,Z,by show (0:Int)<26;decide,_,_,d,Z,Z,sz,hd,zdF (t:=t) hx () ld q⟩
end
section
variable {p a b sp tp:D}{Hb:Hp}{kd:Int}{sh sl:Str}{e0 f:List V}
theorem zfQ{y1:Int}(od:okD y1)(hp:∃xs,H p=U (.lst xs)/\tL xs 1=U (.int y1))(nsh:yP sh=af)(nsl:yP sl=af)(te:aZ e0)(pe:tmP e0)(hs:H sp=U (.tup e0))(fs:Hb sp=ak)(tf:aZ f)(pf:tmP f)(ht:H tp=U (.tup f))(ft:Hb tp=ak)(S:aL Hb H)
  (q:∀v r H',aL Hb H'->hU (λb=>Hb b=ak) H' v r->rwW r->Q v H') :
  Ye K t (sH Q) [U (.ref p),U (.ref a),U (.ref b),U (.int kd),U (.str sh),U (.str sl),U (.ref sp),U (.ref tp)] H:=by
 obtain⟨ts,ps⟩:=Xn (u:=.str sl) (.inr ⟨sl,Z,nsl⟩);obtain⟨xs,h1,h2⟩:=hp;refine⟨_,Z,_,_,Z,Z,_,Z,vF (λ_=>⟨_,Z,_,Z,_,Z,by show 4<=Bb;rw[bN];decide,λr hr=>?_⟩) λ_=>⟨_,Z,_,_,Z,Z,_,Z,vF (λ_=>⟨_,Z,_,Z,_,Z,by show 4<=Bb;rw[bN];decide,λr hr=>?_⟩) λ_=>⟨_,Z,Z,_,Z,vF (λ_=>⟨_,Z,_,Z,by show 3<=Bb;rw[bN];decide,λr hr=>?_⟩) λ_=>⟨_,Z,Z,_,Z,vF (λ_=>⟨_,Z,by show 2<=Bb;rw[bN];decide,λr hr=>?_⟩) λ_=>⟨_,Z,Jx Z h1 h2 ⟨_,_,Z,Z,by show (0:Int)<3;decide,_,_,Z,Z,by show 3<=Bb;rw[bN];decide,λp2 hp2=>⟨by show 2<=Bb;rw[bN];decide,λr hr=>?_⟩⟩⟩⟩⟩⟩⟩
 ·exact q _ (.take sh e0 sl) _ (S.trans (sQ r hr)) ⟨r,sp,Z,zH S hr,fs,zi,sQ r hr _ _ hs⟩ ⟨trivial,⟨ZQ nsh,pe,ZQ nsl⟩,te⟩
 ·exact q _ (.give sh e0 f) _ (S.trans (sQ r hr)) ⟨r,sp,tp,Z,zH S hr,fs,ft,zi,sQ r hr _ _ hs,sQ r hr _ _ ht⟩ ⟨trivial,⟨ZQ nsh,pe,pf⟩,⟨te,tf⟩⟩
 ·exact q _ (.lt sl f) _ (S.trans (sQ r hr)) ⟨r,tp,Z,zH S hr,ft,zi,sQ r hr _ _ ht⟩ ⟨trivial,⟨ZQ nsl,pf⟩,tf⟩
 ·exact q _ (.say f) _ (S.trans (sQ r hr)) ⟨r,tp,Z,zH S hr,ft,zi,sQ r hr _ _ ht⟩ ⟨trivial,pf,tf⟩
 ·have s3:=sQ (o:=HO.tup [V.str sl,V.int (y1%3+1),V.str (bg "same")]) p2 hp2;have jw:wdJ (bg "same"):=⟨(),(),()⟩;obtain⟨t2,p3⟩:=Xn (u:=.int (y1%3+1)) (.inl ⟨_,Z,tU.mpr ()⟩);exact q _ (.off ([.str sl]++[.int (y1%3+1)]++[.str (bg "same")])) _ (S.trans (s3.trans (sQ r hr))) ⟨r,p2,Z,zH (S.trans s3) hr,zH S hp2,zi,sQ r hr _ _ zi⟩ ⟨trivial,(by unfold Vu;exact zcP ps p3 jw),(by unfold qQ;exact Kx ts t2 jw (by simp))⟩
end
section
variable {c:Int}{p a b:D}{ds:List Int}{us ws:List Str}
theorem JM{vs:List V}{_E:XK}(h:vL vs H Q _E) :
  k9 K t (sH Q) (L2.start ["cell","letters","word","one","at","letter"] vs) H:=by
 obtain⟨c,rfl,q⟩:=h;simp only[k9,Zk,xq,yu,L2.start,XN,zo,zT,zw,aN,B,tC,zd,zk,tBM,tyV,zV,qq,zai,zbF,x9,zd6,rI,rI0,ou,iG,fG,dU,gh,fj,eO,ig,fA,exists_eq_left',V.int.injEq,V.ref.injEq,V.str.injEq,gy,and_true,true_and,and_assoc,exists_and_left,pO,List.set_cons_succ,Nat.reduceSub,Nat.reduceAdd,if_true];have g1:=cP c (b:=6) ();have g2:=cg c (b:=6) ();obtain⟨m,em⟩:∃m:Nat,1+c%6=m:=⟨(1+c%6).toNat,()⟩;rw[em];refine⟨(),m,Z,(),λl ds H1 s1 fl hl ld od=>⟨⟨_,aT.of hl⟩,λBp hD=>?_⟩⟩;have lm:(ds.map V.int).length=ds.length:=bf ..;refine zej (J:=Itl K l) ds.length () (λτ=>∃o,τ=[o,U (.str "abcdefghijklmnopqrstuvwxyz")]) (λi v=>zi4 v) ⟨_,Z⟩ (λi H s h=>⟨_,_,aT.of (s _ _ hl),bb (by rw[lm];exact h)⟩) (λH s=>⟨_,aT.of (s _ _ hl),by rw[lm];exact bn _⟩) hD ?_ ?_
 ·rintro i v τ H2 H' ⟨o,rfl⟩ s hi ⟨rfl,hv⟩;have hv:=hv _ (aT.of (s _ _ hl));obtain⟨e,_,rfl⟩:=bG.mp (bT hv);simp only[eO,ig,fA,exists_eq_left',V.int.injEq,V.str.injEq,gy,and_true,pO];have f1:=cP e (b:=26) ();have f2:=cg e (b:=26) ();obtain⟨d,hd,ld⟩:=zfu f1 f2;exact⟨(),(),d,hd,⟨_,Z⟩,⟨d,Z,ld⟩,aL.refl _⟩
 ·intro ys H2 hly hv s hq;obtain⟨ls,rfl,hp⟩:=zcO (P:=λx=>∃c,x=⟨#[c]⟩/\inL c=af) (ys:=ys) λv hv2=>by
   obtain⟨i,hi⟩:=cK hv2;obtain⟨c,e,h⟩:=hv i v hi;exact⟨_,e,c,Z,h⟩
  rw[bf] at hly;obtain⟨j1,j2,j3⟩:=za3 hp;have jc:=zen ls;have jl:(J9 (bg "") ls).length=ls.length:=by rw[YZ,jc,j1]
  have sl:=KZ (bg "") ls 0;refine⟨ls,aT.of hq,?_,⟨(),(),by unfold Xb;rw[jc];exact j2⟩,λx H3 hx s3=>?_⟩
  ·unfold zem;rw[sl,j3,show (bg "").length=0 from by lia];exact y7 ()
  ·exact zdU hx λnm ws H' s' fn hn l2=>q nm ws H' (s1.trans (s.trans (s3.trans s'))) (zH s1 (zH s (zH s3 fn))) hn l2
theorem QJ{vs:List V}{_E:XK}(h:Zi vs H Q _E) :
  Zw K t (sH Q) (L2.start ["xs","shelves","slots","kind","shelf","slot","spot","term"] vs) H:=by
 obtain⟨p,a,b,ds,us,ws,rfl,h1,h2,h3,h4,h5,h6,h7,q⟩:=h
 match ds,h2 with
 |[x0,x1,x2],_ =>
 have o1:=h3 x1 (.tail _ (.head _));have o2:=h3 x2 (.tail _ (.tail _ (.head _)));unfold Zw zo zT zw;refine Qt (λ_ q=>Jx Z h1 Z q) () λk _ _=>?_;refine Qu h4 h5 Z (λ_ q=>Jx Z h1 Z ⟨_,_,Z,Z,dB,q⟩) λsh nsh=>?_;refine Qu h6 h7 Z (λ_ q=>Jx Z h1 Z ⟨_,_,Z,Z,dB,q⟩) λsl nsl=>?_;refine Jx Z h1 Z ⟨_,Z,_,_,ws,Z,o1,h6,h7,λsp e H1 s1 fs hs te pe=>?_⟩;refine Jx Z (s1 _ _ h1) Z ⟨_,Z,_,_,ws,Z,o2,h6.same s1,h7,λtp f H2 s2 ft ht tf pf=>?_⟩;have S:=s1.trans s2;exact zfQ (t:=t) o1 ⟨_,S _ _ h1,Z⟩ nsh nsl te pe (s2 _ _ hs) fs tf pf ht (zH s1 ft) S q
end
end
abbrev Ba(P:au)(w:aw)(K:bx)(mg:Str->Option ae)(base:av):=mt P w K mg base (tQ P w)
section
variable {P:au}{w:aw}{K:bx}{mg:Str->Option ae}{base:av}{t:bv}(T:Txt K mg t)
include T
theorem xC:Ba P w K mg base 1 t.a0 t.d0 ["word"] (yu):=by
 refine T.g0.f.okA Y8 λvs H Q E h=>⟨?_,λ_ _ _ _ hr=>⟨jA K t,(ze (zM (zt XD (L 0) (zX (kL (x:="take") (kL (x:="give") (kL (x:="let") (kL (x:="say") (kL (x:="off") (kL (x:="if") (kL (x:="else") (kL (x:="end") (kL (x:="as") zf)))))))))) (by with_unfolding_all rfl)) (zh (zq (zm wL (L 0) zI)))
   zB)
  (ze (zM (zt XD (L 0) (zX (za zI (za zI (za zI (za zI (za zI (za zI (za zI zf)))))))) (by with_unfolding_all rfl)) (zh (zq (zm wL (L 0) zI)))
    zB)
  (zh (zq (L 0))))),YK h⟩⟩
 obtain⟨w,rfl,_⟩:=h;rfl
theorem jT:Ba P w K mg base 1 t.a1 t.d1 ["cell","many"] (xq):=by
 refine T.g1.f.okA q0g λvs H Q E h=>⟨?_,λ_ _ _ _ hr=>⟨Z6 K t,(ze (zu q0g.nd (yH zf))
  (ze (zu q0g.nd (zm yb (zm zQ (L 0) zg) zg))
  (ze (zu q0g.nd (zm yb (zm zQ (zm zU (L 0) zg) zg) zg))
  (ze (xO cx Z (ZH Z T.q0w (za (L 1) zf)) (yn q0g.nd) (ze (zu q0g.nd (zm zQ (zm yb (zm yb (zm wY (L 3) (L 3)) (zm wY zg (L 4))) (L 5)) zg))
  (ze (zu q0g.nd (zm zQ (zm yb (zm yb (zm wY (L 4) (L 3)) (zm wY zg (L 3))) zg) zg))
  (zh (zK (vC bV cH cI xn (L 2) (za (zm yb (zm wY (L 3) zg) (L 4)) zf)))))))
  (zh (zq (L 2))))))),VS h⟩⟩
 obtain⟨c,m,rfl,_⟩:=h;rfl
theorem Xv:Ba P w K mg base 2 t.a2 t.d2 ["cell"] (vL):=by
 refine T.g2.f.okA q0j λvs H Q E h=>⟨?_,λ_ _ _ _ hr=>⟨k9 K t,(ze (Yh (i:=1) q0j.nd Z (oI Z) zI)
  (ze (zu q0j.nd (vC nN PySem.F.slot_str_join PySem.F.type_str_join zgb zI (za (YY Z (osc:=zj jp) (N:=["cell","letters","word","one","at","letter"]) (xs:=["number"]) (ix:=[1]) () (xa (sU (jT T) T.g1 hr zp (za (L 0) (za (zm yb zg (zm zQ (L 0) zg)) zf)))) (λ_ _ _ _=>(jk (i:=0) (show gU (["number","letters"]:List Str) from ()) Z (lU Z) (.inr Z))) (λ_ _ _ _=>ZM) (λ_ _ _ _=>(zA zbz (L 1) (zm zQ (L 0) zg)))) zf)))
  (ze (zu q0j.nd (sU (xC T) T.g0 hr zp (za (L 2) zf)))
  (ze (zu q0j.nd (zm zQ (zm zU (L 0) zg) (zF zW Z T.q04 yB (za (L 3) zf))))
  (ze (zu q0j.nd (zA zbz (L 1) (zm zQ (zm yb (zm yb (vC nN PySem.F.slot_str_find PySem.F.type_str_find zga (L 1) (za (zA zbz (L 3) (L 4)) zf)) zg) (zm zQ (zm zU (L 0) zg) zg)) zg)))
  (ze (zM (PW.pt (XB (zt yA (zm zQ (zm zU (L 0) zg) zg) zg (zE _)) (ZG (zt jm (zF zW Z T.q04 yB (za (L 3) zf)) zg (zE _))))) (zh (zq (yH (za (L 3) (za (sU (xC T) T.g0 hr zp (za (zm wL (L 3) (L 5)) zf)) zf)))))
    zB)
  (ze (zM (PW.pt (XB (zt yA (zm zQ (zm zU (L 0) zg) zg) zg (zE _)) (ZG (zt jm (zF zW Z T.q04 yB (za (L 3) zf)) zg (zE _))))) (zh (zq (yH (za (sU (xC T) T.g0 hr zp (za (zm wL (L 5) (L 3)) zf)) (za (L 3) zf)))))
    zB)
  (zh (zq (yH (za (L 3) (za (sU (xC T) T.g0 hr zp (za (zm wL (zm wL (xF zee (L 3) kF (xj (L 4))) (L 5)) (xF zee (L 3) (xj (zm yb (L 4) zg)) kF)) zf)) zf)))))))))))),JM h⟩⟩
 obtain⟨c,rfl,_⟩:=h;rfl
theorem wH:Ba P w K mg base 1 t.a3 t.d3 ["number"] (xi):=by
 refine T.g3.f.okA Vy λvs H Q E h=>⟨?_,λ_ _ _ _ hr=>⟨Zl K t,(ze (zM (zt yA (zm zQ (L 0) zg) zg (zE _)) (zh (zq (zm jH (zm zQ (zm wY (L 0) (zm W7 zg zg)) (zm yb (zm wY zg (zm W7 zg zg)) zg)) (zm W7 zg zg))))
   zB)
  (zh (zq (zm jH (zm zQ (zm zU (L 0) zg) zg) zg)))),WS h⟩⟩
 obtain⟨n,rfl,_⟩:=h;rfl
theorem JN:Ba P w K mg base 2 t.a4 t.d4 ["cell","shelves"] (jO):=by
 refine T.g4.f.okA q0m λvs H Q E h=>⟨?_,λ_ _ _ _ hr=>⟨Z7 K t,(ze (zu q0m.nd (sU (jT T) T.g1 hr zp (za (L 0) (za zg zf))))
  (ze (Yh (i:=3) q0m.nd Z (oI Z) jX)
  (ze (xO cx Z (ZH Z T.q0w (za (zm zQ (L 0) zg) zf)) (yn q0m.nd) (ze (zu q0m.nd (sU (wH T) T.g3 hr zp (za (zA zO (L 2) (zm yb (L 4) zg)) zf)))
  (zh (zM (zt YS (L 5) zg (zE _)) (zh (wX (yC hr) (L 3) (zX (za (zA zO (L 1) (zm zQ (zA zO (L 2) (L 4)) zg)) (za (zm zQ (zm zU (zA zO (L 2) (L 4)) zg) zg) zf))) (L 5) Z))
    zB))))
  (zh (zq (YY Z (osc:=zj vJ) (N:=["cell","shelves","xs","found","k","worth"]) (xs:=["place"]) (ix:=[3]) () (xa (zF (Y4 Z) Z T.q0x ZN (za (L 3) zf))) (λ_ _ _ _=>(jk (i:=0) (show gU (["place","found"]:List Str) from ()) Z (lU Z) (.inr Z))) (λ_ _ _ _=>ZM) (λ_ _ _ _=>(zX (za (L 0) (za (wj (yC hr) (L 1) (L 0) (λ_ _=>rfl)) zf)))))))))),VT h⟩⟩
 obtain⟨c,a,ws,rfl,_⟩:=h;rfl
theorem JO:Ba P w K mg base 1 t.a5 t.d5 ["self","table"] (jP t):=by
 refine T.q1n.ok0 Ji (λvs H Q E h=>?_) (λcdv A outer s H vs Q E hr h=>?_)
 ·obtain⟨x,h,dx,aK,rfl,_⟩:=h;rfl
 exact⟨jQ K t,(ze (yy (f:="ground") (L 0) (yv (vt Z (hu3 hr)) Z T.q16 KU (za (L 1) zf)) Z)
  (ze (yy (f:="folded") (L 0) zg Z)
  (ze (yy (f:="worths") (L 0) qK Z)
  (zh (yy (f:="ranks") (L 0) jX Z))))),V8 (mkF T) h⟩
theorem QK:Ba P w K mg base 1 t.a6 t.d6 ["self","makes"] (k8 t):=by
 refine T.q1p.ok0 Qe (λvs H Q E h=>?_) (λcdv A outer s H vs Q E hr h=>?_)
 ·obtain⟨x,m,dx,rfl,_⟩:=h;rfl
 exact⟨qc K t,(ze (yy (f:="makes") (L 0) (L 1) Z)
  (ze (yy (f:="laid") (L 0) qK Z)
  (ze (yy (f:="readers") (L 0) jX Z)
  (zh (yy (f:="doubted") (L 0) qK Z))))),JF (dkF T) h⟩
theorem ql:Ba P w K mg base 3 t.a7 t.d7 ["self","table","hands","way","first"] (xM t):=by
 refine T.q1r.ok0 Qf (λvs H Q E h=>?_) (λcdv A outer s H vs Q E hr h=>?_)
 ·obtain⟨x,l,w,dx,dw,n,f,wo,g,rfl,_⟩:=h;rfl
 exact⟨qd K t,(ze (yy (f:="hands") (L 0) (L 2) Z)
  (ze (yy (f:="way") (L 0) (L 3) Z)
  (ze (yy (f:="first") (L 0) (L 4) Z)
  (ze (yy (f:="codes") (L 0) (yH zf) Z)
  (ze (yy (f:="waiting") (L 0) (yH zf) Z)
  (ze (yy (f:="held") (L 0) qK Z)
  (ze (yy (f:="makes") (L 0) (WY T.mk_Makes (mt.mono (JO T) ()) hr Z T.g_Makes T.q1o .nil zp (za (L 1) zf)) Z)
  (ze (yy (f:="jobs") (L 0) (WY T.mk_Jobs (mt.mono (QK T) ()) hr Z T.g_Jobs T.q1q .nil zp (za (zx (L 0) Z) zf)) Z)
  (zh (yy (f:="ended") (L 0) (yH zf) Z)))))))))),JG (dkF T) h⟩
theorem WT:Ba P w K mg base 1 t.a8 t.d8 ["self"] (qt t):=by
 refine T.q1s.ok0 WD (λvs H Q E h=>?_) (λcdv A outer s H vs Q E hr h=>?_)
 ·obtain⟨x,dx,rfl,_⟩:=h;rfl
 obtain⟨x,dx,rfl,h1,q⟩:=h;exact⟨qu K t,(zh (yy (f:="times") (L 0) zg Z)),X6 (dkF T) h1 q⟩
theorem Xw:Ba P w K mg base 5 t.a9 t.d9 ["table","hands","kind"] (vO t):=by
 refine T.g9.f.okA Qg λvs H Q E h=>⟨?_,λ_ _ _ _ hr=>⟨Xd K t,(ze (zM (zt yA (L 2) zg (zE _)) (zh (zq (Vv T.mk_Desk (mt.mono (ql T) ()) hr Z T.g_Desk T.bd_Desk_init zp (za (yv yW Z T.q0b xb (za (L 0) zf)) (za (L 1) (za (zaI T.mo_Highest Z T.g_Highest) zf))))))
   zB)
  (ze (zM (zt yA (L 2) zg (zE _)) (zh (zq (Vv T.mk_Desk (mt.mono (ql T) ()) hr Z T.g_Desk T.bd_Desk_init zp (za (yv yW Z T.q0b xb (za (L 0) zf)) (za (L 1) (za (zd4 T.mk_Turning (mt.mono (WT T) ()) hr Z T.g_Turning T.q1t .nil zp) zf))))))
    zB)
  (zh (zq (Vv T.mk_Desk (mt.mono (ql T) ()) hr Z T.g_Desk T.bd_Desk_init zp (za (yv yW Z T.q0b xb (za (L 0) zf)) (za (L 1) (za (zaI T.mo_Way Z T.g_Way) zf)))))))),JH h⟩⟩
 obtain⟨tl,n,k,g,rfl,_⟩:=h;rfl
theorem jj:Ba P w K mg base 1 t.a10 t.d10 ["self"] (xH t):=by
 refine T.g10.f.okA Vz λvs H Q E h=>⟨?_,λ_ _ _ _ hr=>⟨Zm K t,(zh (zq (YY Z (osc:=zj w6) (N:=["self"]) (xs:=["paper"]) (ix:=[]) () (xa (zx (L 0) Z)) (λ_ _ _ _=>(jk (i:=0) (show gU (["paper"]:List Str) from ()) Z (lU Z) (.inr Z))) (λ_ _ _ _=>ZM) (λ_ _ _ _=>(zX (za (zA ye (L 0) zg) (za (yv yW Z T.q0b xb (za (zA ye (L 0) zg) zf)) (za (yv yW Z T.q0b xb (za (zA ye (L 0) zg) zf)) zf)))))))),WR (dkF T) h⟩⟩;obtain⟨d,a,lb,n,f,g,CC,S,rfl,_⟩:=h;rfl
theorem xm:Ba P w K mg base 1 t.a11 t.d11 ["self"] (yU t):=by
 refine T.g11.f.okA WE λvs H Q E h=>?_;obtain⟨d,dx,a,n,f,en,rfl,h1,h2,q⟩:=h;exact⟨Z,λ_ _ _ _ hr=>⟨qv K t,(zh (zq (zm yb (zx (L 0) Z) (zF zW Z T.q04 yB (za (zx (L 0) Z) zf))))),X5 (dkF T) h1 h2 q⟩⟩
theorem jF:Ba P w K mg base 1 t.a12 t.d12 ["self"] (wB t):=by
 refine T.g12.f.okA Y9 λvs H Q E h=>?_;obtain⟨d,dx,a,n,f,cs,rfl,h1,h2,q⟩:=h;exact⟨Z,λ_ _ _ _ hr=>⟨jB K t,(zh (zq (zm yb (zx (L 0) Z) (zF zW Z T.q04 yB (za (zx (L 0) Z) zf))))),YG (dkF T) h1 h2 q⟩⟩
theorem jG:Ba P w K mg base 1 t.a13 t.d13 ["self"] (we t):=by
 refine T.g13.f.okA zaJ λvs H Q E h=>⟨?_,λ_ _ _ _ hr=>⟨Wn K t,(zh (zq (ziq (ZI WW (zx (L 0) Z) xD (zE _)) (KG (ZI zg0 (zx (L 0) Z) (zF zW Z T.q04 yB (za (zx (L 0) Z) zf)) (zE _)))))),QI (rnF T) h⟩⟩;obtain⟨x,a,C,s,rfl,_⟩:=h;rfl
theorem zcf:Ba P w K mg base 1 t.a14 t.d14 ["word","first","second"] (Yz t):=by
 refine T.g14.f.okB zb2 λvs H Q E h=>⟨?_,λ_ _ _ _ hr=>⟨VE K t E,(ze (zM (zt yA (L 2) zg (zE _)) (zh (zak Z T.q2r zcy Z T.g_Nought (za (zcz (L 0)) zf)))
   zB)
  (zh (zq (vR (zt yA (L 0) zI (zE _)) (zm zeo (L 1) (L 2)) (zm zfV (L 1) (L 2)))))),zbf h⟩⟩
 obtain⟨w,a,b,rfl,_⟩:=h;rfl
theorem zcg:Ba P w K mg base 2 t.a15 t.d15 ["word","first","second"] (YA t):=by
 refine T.g15.f.okB zb3 λvs H Q E h=>⟨?_,λ_ _ _ _ hr=>⟨VF K t E,(ze (zM (zt yA (L 0) zI (zE _)) (zh (zq (zm yb (L 1) (L 2))))
   zB)
  (ze (zM (zt yA (L 0) zI (zE _)) (zh (zq (zm jH (L 1) (L 2))))
    zB)
  (ze (zM (zt yA (L 0) zI (zE _)) (zh (zq (zm wY (L 1) (L 2))))
    zB)
  (ze (zM (zt yA (L 0) zI (zE _)) (zh (zq (vR (zt jm (L 1) (L 2) (zE _)) zg zg)))
    zB)
  (ze (zM (zt yA (L 0) zI (zE _)) (zh (zq (vR (zt yA (L 1) (L 2) (zE _)) zg zg)))
    zB)
  (zh (zq (sU (zcf T) T.g14 hr vT (za (L 0) (za (L 1) (za (L 2) zf))))))))))),zbg h⟩⟩
 obtain⟨w,a,b,rfl,_⟩:=h;rfl
theorem zbi:Ba P w K mg base 1 t.a16 t.d16 ["thing"] (Wk):=by
 refine T.g16.f.okA zaK λvs H Q E h=>?_;obtain⟨i,rfl,q⟩:=h;exact⟨Z,λ_ _ _ _ hr=>⟨Zn K t,(ze (zM (PW.pt (YR (kC (xE (zF xg Z T.q0d yd (za (L 0) (za (xJ Z T.b_int zed Z) zf))))) (kB (xE (zF xg Z T.q0d yd (za (L 0) (za (xJ Z T.q1l zcx Z) zf))))))) (zh (zq (YQ (b:=ao))))
   zB)
  (zh (zq (zd1 zgZ zgZ (zgY zdY (zm W7 zg zg)) (L 0) (zm W7 zg zg))))),QH (kf K).i_b q⟩⟩
theorem zdV:Ba P w K mg base 3 t.a17 t.d17 ["word","first","second"] (XW t):=by
 refine T.g17.f.okB q18 λvs H Q E h=>⟨?_,λ_ _ _ _ hr=>⟨Kl K t E,(ze (zu q18.nd (sU (zcg T) T.g15 hr vT (za (L 0) (za (L 1) (za (L 2) zf)))))
  (ze (zM (kC (xE (sU (zbi T) T.g16 hr vT (za (L 3) zf)))) (zh (zak Z T.q2u zcy Z T.g_Great (za (zcz (L 0)) zf)))
    zB)
  (zh (zq (L 3))))),zce h⟩⟩
 obtain⟨w,a,b,rfl,_⟩:=h;rfl
theorem zbj:Ba P w K mg base 4 t.a18 t.d18 ["term","slots"] (Wl t):=by
 refine T.g18.f.okB q0n λvs H Q E h=>?_;obtain⟨aJ,tm,sl,ps,r,rfl,h1,h2,h3,h4,h5,h6,q⟩:=h;exact⟨Z,λ_ _ _ _ hr=>⟨Wo K t E,(ze (zu q0n.nd (yH zf))
  (ze (xO ziZ Z (zhw (L 0)) (yn q0n.nd) (zh (zM (zt XD (L 3) (zfT Z T.g_JOINING Z) (by with_unfolding_all rfl)) (ze (zu q0n.nd (zbA bV iQ iR zbC (L 2)))
  (ze (zu q0n.nd (zbA bV iQ iR zbC (L 2)))
  (zh (zK (vC bV cH cI xn (L 2) (za (sU (zdV T) T.g17 hr vT (za (L 3) (za (L 5) (za (L 4) zf)))) zf))))))
   (zh (zK (vC bV cH cI xn (L 2) (za (vR (xE (zF xg Z T.q0d yd (za (L 3) (za (xJ Z T.q17 zbG Z) zf)))) (jY (yC hr) (L 1) (L 3) zg ⟨Z,Z,Z,Z⟩) (L 3)) zf)))))))
  (zh (zq (zbA bV iQ iR zbC (L 2)))))),QE (kf K).i_s T.q1z h1 h2 h3 h4 h5 h6 q⟩⟩
theorem yV:Ba P w K mg base 5 t.a19 t.d19 ["self","term"] (yw t):=by
 refine T.g19.f.okB WF λvs H Q E h=>?_;obtain⟨x,tm,e,a,C,s,rfl,h1,h2,h3,h4,q⟩:=h;exact⟨Z,λ_ _ _ _ hr=>⟨qw K t E,(zh (zq (sU (zbj T) T.g18 hr vT (za (L 1) (za (zx (L 0) Z) zf))))),Wa (rnF T) h1 h2 h3 h4 q⟩⟩
theorem vA:Ba P w K mg base 6 t.a20 t.d20 ["self","due"] (yT t):=by
 refine T.g20.f.okB WG λvs H Q E h=>⟨?_,λ_ _ _ _ hr=>⟨qx K t E,(zh (zq (zX (za (zA ye (L 1) zg) (za (tF (L 0) T.q07 (yV T) T.g19 hr vT (za (zA ye (L 1) zg) zf)) zf))))),Wb (rnF T) h⟩⟩;obtain⟨x,p,xs,sh,te,e,a,C,s,rfl,_⟩:=h;rfl
theorem zbk:Ba P w K mg base 7 t.a21 t.d21 ["self"] (Zf t):=by
 refine T.g21.f.okA q19 λvs H Q E h=>⟨?_,λ_ _ _ _ hr=>⟨Wp K t,(ze (zM (PW.pt (YR (xE (jJ (L 0) T.q07 (jG T) T.g13 hr zp)) (kB (zt YS (zA ye (zA zO (zx (L 0) Z) (zx (L 0) Z)) zg) zI (zE _))))) (zh (zq xD))
   zB)
  (ze (zgr (And.intro rfl rfl) rfl (zf6 (i:=1) q19.nd rfl (lU rfl) (zaz (L 0) T.q07 T.g20.me (mt.mono (vA T) ()) hr T.g20.b (za (zA zO (zx (L 0) rfl) (zx (L 0) rfl)) zf))) rfl T.g_Great rfl T.g_Nought (λ_=>(zh (zq xD))))
  (ze (zM (PW.pt (YR (zt (WZ (yC hr)) (L 1) (zx (L 0) Z) (by with_unfolding_all rfl)) (kB (zt (WZ (yC hr)) (L 1) (zx (L 0) Z) (by with_unfolding_all rfl))))) (zh (zq xD))
    zB)
  (zh (zq (L 1)))))),QB T h⟩⟩
 obtain⟨x,a,C,s,rfl,_⟩:=h;rfl
theorem x6:Ba P w K mg base 1 t.a22 t.d22 ["self","rank"] (xk t):=by
 refine T.g22.f.okA Yw λvs H Q E h=>?_;obtain⟨m,dx,fs,low,ac,rfl,h1,h2,h3,q⟩:=h;exact⟨Z,λ_ _ _ _ hr=>⟨v9 K t,(zh (zM (zt jm (L 1) (zx (L 0) Z) (zE _)) (zh QV)
   zB)),ZZ (mkF T) h1 h2 h3 q⟩⟩
theorem xv:Ba P w K mg base 1 t.a23 t.d23 ["ranks","rank"] (yK):=by
 refine T.g23.f.okA q0k λvs H Q E h=>⟨?_,λ_ _ _ _ hr=>⟨Z8 K t,(ze (zu q0k.nd zg)
  (ze (zu q0k.nd (zF zW Z T.q04 yB (za (L 0) zf)))
  (ze (QW cx (zt jm (L 2) (L 3) (zE _)) (ze (zu q0k.nd (zm zU (zm yb (L 2) (L 3)) zg))
  (zh (zM (zt jm (zA zO (L 0) (L 4)) (L 1) (zE _)) (zh (zu q0k.nd (zm yb (L 4) zg)))
    (zh (zu q0k.nd (L 4)))))))
  (zh (zq (L 2)))))),V6 h⟩⟩
 obtain⟨a,rs,ac,rfl,_⟩:=h;rfl
theorem jU:Ba P w K mg base 2 t.a24 t.d24 ["self","place","rank"] (va t):=by
 refine T.g24.f.okA q0y λvs H Q E h=>?_;obtain⟨m,p,ac,F,g,lays,q0,rfl,h1,h2,h3,q⟩:=h;exact⟨Z,λ_ _ _ _ hr=>⟨jR K t,(ze (zK (tF (L 0) T.q0c (x6 T) T.g22 hr zp (za (L 2) zf)))
  (ze (zu q0y.nd (jY (yC hr) (zx (L 0) Z) (L 1) (yH zf) ⟨Z,Z,Z,Z⟩))
  (ze (zu q0y.nd (sU (xv T) T.g23 hr zp (za (L 3) (za (L 2) zf))))
  (ze (zM (zt yA (L 4) zg (zE _)) (zh (zq (jY (yC hr) (zx (L 0) Z) (L 1) zg ⟨Z,Z,Z,Z⟩)))
    zB)
  (zh (zq (wj (yC hr) (wj (yC hr) (zx (L 0) Z) (zA zO (L 3) (zm jH (L 4) zg)) (λ_ _=>rfl)) (L 1) (λ_ _=>rfl)))))))),V7 (mkF T) h1 h2 h3 q⟩⟩
theorem QL:Ba P w K mg base 1 t.a25 t.d25 ["self","place","worth"] (kX t):=by
 refine T.g25.f.okA Qh λvs H Q E h=>⟨?_,λ_ _ _ _ hr=>⟨Xe K t,(ze (zM (zt (WZ (yC hr)) (L 1) (zx (L 0) Z) (by with_unfolding_all rfl)) (zh (zq (wj (yC hr) (zx (L 0) Z) (L 1) (λ_ _=>rfl))))
   zB)
  (ze (zM (zt (Vq (yC hr)) (L 1) (zx (L 0) Z) (by with_unfolding_all rfl)) (zh (wX (yC hr) (zx (L 0) Z) (L 1) (L 2) Z))
    zB)
  (zh (zq (wj (yC hr) (zx (L 0) Z) (L 1) (λ_ _=>rfl)))))),JJ (rnF T) h⟩⟩
 obtain⟨x,q,p,w,a,C,s,rfl,_⟩:=h;rfl
theorem zbl:Ba P w K mg base 7 t.a26 t.d26 ["self","due","worth"] (Ze t):=by
 refine T.g26.f.okB q1a λvs H Q E h=>⟨?_,λ_ _ _ _ hr=>⟨Wq K t E,(zh (zM (zt yA (zA ye (L 1) zg) zI (zE _)) (zh (wX (yC hr) (zx (L 0) Z) (zA ye (L 1) zg) (tF (L 0) T.q07 (QL T) T.g25 hr vT (za (tF (L 0) T.q07 (vA T) T.g20 hr vT (za (L 1) zf)) (za (L 2) zf))) Z))
   (zh (zM (zt yA (zA ye (L 1) zg) zI (zE _)) (ze (zu q1a.nd (tF (L 0) T.q07 (vA T) T.g20 hr vT (za (L 1) zf)))
  (zh (wX (yC hr) (zx (L 0) Z) (L 3) (tF (L 0) T.q07 (yV T) T.g19 hr vT (za (zA ye (L 1) zg) zf)) Z)))
   (zh (zM (zt yA (zA ye (L 1) zg) zI (zE _)) (zh (wX (yC hr) (zx (L 0) Z) (zA ye (L 1) zg) (tF (L 0) T.q07 (yV T) T.g19 hr vT (za (zA ye (L 1) zg) zf)) Z))
   (zh (zK (vC bV cH cI xn (zx (L 0) Z) (za (tF (L 0) T.q07 (yV T) T.g19 hr vT (za (zA ye (L 1) zg) zf)) zf)))))))))),QA (rnF T) h⟩⟩
 obtain⟨x,v,r,w,m,a,C,s,rfl,_⟩:=h;rfl
theorem JP:Ba P w K mg base 8 t.a27 t.d27 ["self","due","worth"] (jN t):=by
 refine T.g27.f.okB Jj λvs H Q E h=>⟨?_,λ_ _ _ _ hr=>⟨Ya K t E,(ze (zM (zt yA (zA ye (L 1) zg) zI (zE _)) (zh (zq (zA ye (L 1) zg)))
   zB)
  (ze (zM (zt yA (zA ye (L 1) zg) zI (zE _)) (zh (zq (vR (zt yA (tF (L 0) T.q07 (yV T) T.g19 hr vT (za (zA ye (L 1) zg) zf)) zg (zE _)) (zA ye (L 1) zg) (zm yb (zx (L 0) Z) zg))))
    zB)
  (ze (zM (zt yA (zA ye (L 1) zg) zI (zE _)) (zh (zM (zt YS (tF (L 0) T.q07 (yV T) T.g19 hr vT (za (zA ye (L 1) zg) zf)) zg (zE _)) (zh (yy (f:="why") (L 0) zI Z))
    zB))
    (zh (zK (tF (L 0) T.q07 (zbl T) T.g26 hr vT (za (L 1) (za (L 2) zf))))))
  (zh (zq (zm yb (zx (L 0) Z) zg)))))),V5 (rnF T) h⟩⟩
 obtain⟨x,v,c,w,m,a,C,s,rfl,_⟩:=h;rfl
theorem Wx:Ba P w K mg base 9 t.a28 t.d28 ["self","worth"] (jt t):=by
 refine T.q1u.ok0 zaL (λvs H Q E h=>?_) (λcdv A outer s H vs Q E hr h=>?_)
 ·obtain⟨x,w,m,a,C,s,rfl,_⟩:=h;rfl
 exact⟨Wr K t,(ze (zM (xE (jJ (L 0) T.q07 (jG T) T.g13 hr zp)) (zh zfU)
   zB)
  (zh (zeL (And.intro rfl rfl) rfl (zgq (f:="at") (L 0) (zaz (L 0) T.q07 T.g27.me (mt.mono (JP T) ()) hr T.g27.b (za (zA zO (zx (L 0) rfl) (zx (L 0) rfl)) (za (L 1) zf))) rfl) rfl T.g_Great rfl T.g_Nought (λ_=>(zh (yy (f:="why") (L 0) zI rfl))) (λ_=>(zh (yy (f:="why") (L 0) zI rfl)))))),QC T h⟩
theorem ZD:Ba P w K mg base 3 t.a29 t.d29 ["self","rank"] (vh t):=by
 refine T.g29.f.okA q0s λvs H Q E h=>?_;obtain⟨d,a,lb,Bo,la,g,lays,PP,cs,CC,ac,r,no,gi,rfl,h1,h2,h3,h4,h5,h6,q1,q2⟩:=h;exact⟨Z,λ_ _ _ _ hr=>⟨vi K t,(ze (xO cx Z (xa (zA ye (wj (yC hr) (zx (L 0) Z) (L 1) (λ_ _=>rfl)) zg)) (KI Z (vc (yn q0s.nd) (vc (yn q0s.nd) WV))) (ze (zu q0s.nd (tF (zx (L 0) Z) T.q0c (jU T) T.g24 hr zp (za (L 2) (za (L 1) zf))))
  (zh (zM (zt YS (L 4) (L 3) (zE _)) (zh (zq (zX (za (L 2) (za (L 3) (za (L 4) zf))))))
    zB))))
  (zh (zq xD))),qF (dkF T) h1 h2 h3 h4 h5 h6 q1 q2⟩⟩
theorem qm:Ba P w K mg base 4 t.a30 t.d30 ["self"] (wA t):=by
 refine T.g30.f.okA q0t λvs H Q E h=>?_;obtain⟨⟨d,a,lb,n,f,wo,cs,ws,kv,la,db,en,g,lays,ld,CC⟩,rfl,h1,h2,h3,h4,h5,h6,q1,q2⟩:=h;exact⟨Z,λ_ _ _ _ hr=>⟨wC K t,(ze (zu q0t.nd (zF (Qd Z) Z T.q0x ZN (za (zx (L 0) Z) zf)))
  (ze (xO cx Z (xa (L 1)) (yn q0t.nd) (ze (zu q0t.nd (tF (L 0) T.q0i (ZD T) T.g29 hr zp (za (L 2) zf)))
  (ze (zM (zt WW (L 3) xD (zE _)) (zh (zq (zm zco (zX (za (L 2) zf)) (L 3))))
    zB)
  (zh (zK (Vd (zx (L 0) Z) (L 2) ⟨Z,Z,Z,Z⟩))))))
  (zh (zq xD)))),kz (dkF T) h1 h2 h3 h4 h5 h6 q1 q2⟩⟩
theorem Xx:Ba P w K mg base 1 t.a31 t.d31 ["ranks_at","place","rank"] (wz):=by
 refine T.g31.f.okA q1b λvs H Q E h=>⟨?_,λ_ _ _ _ hr=>⟨Xf K t,(ze (zu q1b.nd (wj (yC hr) (L 0) (L 1) (λ_ _=>rfl)))
  (ze (zK (vC bV mK mL Ki (L 3) (za (L 2) zf)))
  (zh (zM (zt (zam (zgc hr)) (L 3) (yH zf) (zE _)) (zh (zK (ze7 (yC hr) (L 0) (L 1) ⟨Z,Z,Z,Z⟩)))
    zB)))),JK h⟩⟩
 obtain⟨rk,pl,ac,G,P,kk,q0,rfl,_⟩:=h;rfl
theorem kA:Ba P w K mg base 2 t.a32 t.d32 ["self","rank"] (wT t):=by
 refine T.g32.f.okA q0u λvs H Q E h=>?_;obtain⟨⟨d,a,lb,n,f,wo,cs,ws,kv,la,db,en,g,lays,ld,CC⟩,ac,s,gi,rfl,h1,h2,h3,h4,h5,h6,q⟩:=h;exact⟨Z,λ_ _ _ _ hr=>⟨ko K t,(ze (zu q0u.nd (Vd (zx (L 0) Z) (L 1) ⟨Z,Z,Z,Z⟩))
  (ze (zK (zae (zx (L 0) Z) (L 1) xD ⟨Z,Z,Z,Z⟩))
  (ze (xO cx Z (xa (zA ye (L 2) zg)) (KI Z (vc (yn q0u.nd) (vc (yn q0u.nd) WV))) (zh (zK (sU (Xx T) T.g31 hr zp (za (zx (L 0) Z) (za (L 3) (za (L 1) zf)))))))
  (zh (zq (L 2)))))),Xq (dkF T) h1 h2 h3 h4 h5 h6 q⟩⟩
theorem Xy:Ba P w K mg base 1 t.a33 t.d33 ["self","ranks"] (jv t):=by
 refine T.g33.f.okA Xa λvs H Q E h=>?_;obtain⟨x,l,ws,rfl,h1,h2,q⟩:=h;exact⟨Z,λ_ _ _ _ hr=>⟨jC K t,(zh (zq (zA zO (L 1) (zgY zdY zg)))),YH  h1 h2 q⟩⟩
theorem Xz:Ba P w K mg base 1 t.a34 t.d34 ["self","ranks"] (jx t):=by
 refine T.g34.f.okA q1c λvs H Q E h=>?_;obtain⟨x,l,dw,ws,k,rfl,h1,h2,h3,q⟩:=h;exact⟨Z,λ_ _ _ _ hr=>⟨jD K t,(ze (zu q1c.nd (zm zQ (zx (L 0) Z) (zF zW Z T.q04 yB (za (L 1) zf))))
  (ze (zde (f:="times") (L 0) zg zhA)
  (zh (zq (zA zO (L 1) (L 2)))))),YI (dkF T) h1 h2 h3 q⟩⟩
theorem JQ:Ba P w K mg base 1 t.a35 t.d35 ["self","ranks"] (Z5 t):=by
 refine T.g35.f.okA Jk λvs H Q E h=>?_;obtain⟨x,l,ws,rfl,h1,h2,q⟩:=h;exact⟨Z,λ_ _ _ _ hr=>⟨Yb K t,(zh (zq (zA zO (L 1) zg))),VZ  h1 h2 q⟩⟩
theorem zbm:Ba P w K mg base 1 t.a36 t.d36 ["self","code"] (Wm t):=by
 refine T.q1w.ok0 zaM (λvs H Q E h=>?_) (λcdv A outer s H vs Q E hr h=>?_)
 ·obtain⟨x,l,dx,xs,C,rfl,_⟩:=h;rfl
 obtain⟨x,l,dx,xs,C,rfl,h1,h2,h3,q⟩:=h;exact⟨Zo K t,(ze (yy (f:="code") (L 0) (yv yW Z T.q0b xb (za (L 1) zf)) Z)
  (ze (yy (f:="at") (L 0) zg Z)
  (ze (yy (f:="why") (L 0) xD Z)
  (ze (yy (f:="slots") (L 0) qK Z)
  (ze (yy (f:="gifts") (L 0) jX Z)
  (ze (yy (f:="notes") (L 0) jX Z)
  (zh (yy (f:="sayings") (L 0) (yH zf) Z)))))))),JE (rnF T) h1 h2 h3 q⟩
theorem Wc:Ba P w K mg base 3 t.a37 t.d37 ["self","hand"] (wU t):=by
 refine T.g37.f.okA q1d λvs H Q E h=>⟨?_,λ_ _ _ _ hr=>⟨kq K t,(ze (zu q1d.nd (zfc (zx (L 0) Z) (Qc (zfb T.q29 T.g33.me (mt.mono (Xy T) ()) hr T.g33.b) (Qc (zfb T.q1m T.g34.me (mt.mono (Xz T) ()) hr T.g34.b) (Qc (zfb T.q2q T.g35.me (mt.mono (JQ T) ()) hr T.g35.b) zhT))) zp (za (yv yW Z T.q0b xb (za (zx (L 0) Z) zf)) zf)))
  (ze (zK (vC bV mK mL Ki (zx (L 0) Z) (za (L 2) zf)))
  (ze (wX (yC hr) (zx (L 0) Z) (L 1) (zX (za (L 2) (za (WY T.mk_Run (mt.mono (zbm T) ()) hr Z T.g_Run T.q1x .nil zp (za (zA zO (zx (L 0) Z) (zm jH (L 2) (zx (L 0) Z))) zf)) zf))) Z)
  (zh (zq (zX (za zI (za (L 1) (za (L 2) zf))))))))),Xs (dkF T) h⟩⟩
 obtain⟨d,a,lb,n,f,h,g,CC,S,rfl,_⟩:=h;rfl
theorem YL:Ba P w K mg base 5 t.a38 t.d38 ["self","hand"] (xX t):=by
 refine T.g38.f.okA q0z λvs H Q E h=>⟨?_,λ_ _ _ _ hr=>⟨jd K t,(ze (zu q0z.nd (jJ (L 0) T.q05 (xm T) T.g11 hr zp))
  (ze (zu q0z.nd (jJ (zx (L 0) Z) T.q0i (qm T) T.g30 hr zp))
  (ze (zM (PW.pt (XB (zt (WZ (yC hr)) (L 2) (zx (zx (L 0) Z) Z) (by with_unfolding_all rfl)) (ZG (PW.pt (YR (zt zbw (L 3) xD (zE _)) (kB (zt YS (zA ye (L 3) zg) (L 2) (zE _)))))))) (ze (zK (vC bV cH cI xn (zx (L 0) Z) (za (tF (zx (L 0) Z) T.q0i (kA T) T.g32 hr zp (za (L 2) zf)) zf)))
  (zh (zq (zX (za zI (za (L 1) (za (L 2) zf)))))))
   zB)
  (ze (zM (zt WW (L 3) xD (zE _)) (ze (zK (tF (zx (L 0) Z) T.q0i (kA T) T.g32 hr zp (za (zA ye (L 3) zg) zf)))
  (ze (zK (vC bV mM mO Kh (zx (L 0) Z) (za (sU (xv T) T.g23 hr zp (za (zx (L 0) Z) (za (zA ye (L 3) zg) zf))) (za (zA ye (L 3) zg) zf))))
  (zh (zq (zm zco (zX (za zI (za (L 1) zf))) (L 3))))))
   zB)
  (ze (zM (zt (ze1 (zgc hr)) (zx (L 0) Z) (yH zf) (zE _)) (zh (zq (tF (L 0) T.q05 (Wc T) T.g37 hr zp (za (L 1) zf))))
    zB)
  (zh (zq (zX (za zI (za (L 1) zf)))))))))),ZW (dkF T) h⟩⟩
 obtain⟨d,a,lb,n,f,h,g,CC,S,rfl,_⟩:=h;rfl
theorem x8:Ba P w K mg base 1 t.a39 t.d39 ["self","rank"] (yR t):=by
 refine T.g39.f.okA Yx λvs H Q E h=>⟨?_,λ_ _ _ _ hr=>⟨je K t,(zh (zq (yv (vW Z) Z T.q0b xb (za (jY (yC hr) (zx (L 0) Z) (L 1) jX ⟨Z,Z,Z,Z⟩) zf)))),ZX (mkF T) h⟩⟩;obtain⟨m,ac,F,g,lays,low,rfl,_⟩:=h;rfl
theorem YM:Ba P w K mg base 2 t.a40 t.d40 ["self","rank"] (xW t):=by
 refine T.g40.f.okA q10 λvs H Q E h=>⟨?_,λ_ _ _ _ hr=>⟨jf K t,(ze (zu q10.nd (tF (L 0) T.q0c (x8 T) T.g39 hr zp (za (L 1) zf)))
  (ze (zK (zae (zx (L 0) Z) (L 1) xD ⟨Z,Z,Z,Z⟩))
  (zh (xO cx Z (xa (L 2)) (yn q10.nd) (zh (zK (sU (Xx T) T.g31 hr zp (za (zx (L 0) Z) (za (L 3) (za (L 1) zf)))))))))),ZY (mkF T) h⟩⟩
 obtain⟨m,ac,F,g,lays,low,rfl,_⟩:=h;rfl
theorem Wy:Ba P w K mg base 2 t.a41 t.d41 ["ranks_at","place","rank"] (ju):=by
 refine T.g41.f.okA q1e λvs H Q E h=>⟨?_,λ_ _ _ _ hr=>⟨Ws K t,(ze (zu q1e.nd (ze8 (yC hr) (L 0) (L 1) (yH zf) ⟨Z,Z,Z,Z⟩))
  (zh (zK (vC bV mM mO Kh (L 3) (za (sU (xv T) T.g23 hr zp (za (L 3) (za (L 2) zf))) (za (L 2) zf)))))),QD h⟩⟩
 obtain⟨rk,pl,ac,G,P,kk,q0,rfl,_⟩:=h;rfl
theorem QN:Ba P w K mg base 3 t.a42 t.d42 ["self","rank","gifts"] (Xc t):=by
 refine T.g42.f.okA q11 λvs H Q E h=>?_;obtain⟨m,ac,gv,F,g,lays,gs,rfl,h1,h2,h3,h4,h5,h6,q⟩:=h;exact⟨Z,λ_ _ _ _ hr=>⟨qe K t,(ze (zK (tF (L 0) T.q0c (x6 T) T.g22 hr zp (za (L 1) zf)))
  (ze (zK (tF (L 0) T.q0c (YM T) T.g40 hr zp (za (L 1) zf)))
  (ze (zu q11.nd (yv (vt Z (hu3 hr)) Z T.q16 KU (za (L 2) zf)))
  (ze (zhM (xO cx Z (zeG (L 3)) (yn q11.nd) (zh (zK (sU (Wy T) T.g41 hr zp (za (zx (L 0) Z) (za (L 4) (za (L 1) zf))))))))
  (zh (wX (yC hr) (zx (L 0) Z) (L 1) (L 3) Z)))))),JL (mkF T) h1 h2 h3 h4 h5 h6 q⟩⟩
theorem Z0:Ba P w K mg base 2 t.a43 t.d43 ["self","place","rank"] (xQ t):=by
 refine T.g43.f.okA q12 λvs H Q E h=>⟨?_,λ_ _ _ _ hr=>⟨vD K t,(ze (zu q12.nd (jY (yC hr) (zx (L 0) Z) (L 1) (yH zf) ⟨Z,Z,Z,Z⟩))
  (ze (zu q12.nd (sU (xv T) T.g23 hr zp (za (L 3) (za (zm yb (L 2) zg) zf))))
  (zh (zq (vR (zt yA (L 4) (zF zW Z T.q04 yB (za (L 3) zf)) (zE _)) xD (zA zO (L 3) (L 4))))))),ZB (mkF T) h⟩⟩
 obtain⟨m,p,ac,F,g,lays,q0,rfl,_⟩:=h;rfl
theorem JR:Ba P w K mg base 3 t.a44 t.d44 ["self","place","rank"] (Z4 t):=by
 refine T.g44.f.okA q0o λvs H Q E h=>?_;obtain⟨⟨d,a,lb,n,f,wo,cs,ws,kv,la,db,en,g,lays,ld,CC⟩,p,ac,q0,rfl,h1,h2,h3,h4,q⟩:=h;exact⟨Z,λ_ _ _ _ hr=>⟨Yc K t,(ze (zu q0o.nd (jY (yC hr) (zx (L 0) Z) (L 1) (yH zf) ⟨Z,Z,Z,Z⟩))
  (ze (zu q0o.nd (tF (zx (L 0) Z) T.q0c (Z0 T) T.g43 hr zp (za (L 1) (za (L 2) zf))))
  (ze (zu q0o.nd (vR (zt zbw (L 4) xD (zE _)) (zF zW Z T.q04 yB (za (L 3) zf)) (sU (xv T) T.g23 hr zp (za (L 3) (za (zm yb (L 4) zg) zf)))))
  (zh (xO cx Z (xa (xF vH (L 3) (xj (sU (xv T) T.g23 hr zp (za (L 3) (za (zm yb (L 2) zg) zf)))) (xj (L 5)))) (yn q0o.nd) (zh (wX (yC hr) (zx (L 0) Z) (L 6) (YQ (b:=af)) Z))))))),VY (dkF T) h1 h2 h3 h4 q⟩⟩
theorem Wd:Ba P w K mg base 4 t.a45 t.d45 ["self","rank","paper"] (kj t):=by
 refine T.g45.f.okA q0p λvs H Q E h=>?_;obtain⟨⟨d,a,lb,n,f,wo,cs,ws,kv,la,db,en,g,lays,ld,CC⟩,r,ac,s,gi,rfl,h1,h2,h3,h4,h5,h6,h7,h8,h9,h10,q⟩:=h;exact⟨Z,λ_ _ _ _ hr=>⟨kr K t,(ze (zu q0p.nd (tF (zx (L 0) Z) T.q0c (x8 T) T.g39 hr zp (za (L 1) zf)))
  (ze (zK (tF (zx (L 0) Z) T.q0c (QN T) T.g42 hr zp (za (L 1) (za (zA ye (L 2) zg) zf))))
  (ze (xO cx Z (xa (zm qI (L 3) (tF (zx (L 0) Z) T.q0c (x8 T) T.g39 hr zp (za (L 1) zf)))) (yn q0p.nd) (zh (zK (tF (L 0) T.q0i (JR T) T.g44 hr zp (za (L 4) (za (L 1) zf))))))
  (ze (wX (yC hr) (zx (L 0) Z) (L 1) (L 2) Z)
  (ze (wX (yC hr) (zx (L 0) Z) (L 1) (YQ (b:=af)) Z)
  (zh (xO cx Z (xa (zA ye (L 2) zg)) (KI Z (vc (yn q0p.nd) (vc (yn q0p.nd) WV))) (zh (zK (sU (Wy T) T.g41 hr zp (za (zx (L 0) Z) (za (L 4) (za (L 1) zf))))))))))))),Xr (dkF T) h1 h2 h3 h4 h5 h6 h7 h8 h9 h10 q⟩⟩
theorem QO:Ba P w K mg base 2 t.a46 t.d46 ["self"] (kY t):=by
 refine T.g46.f.okA q1f λvs H Q E h=>⟨?_,λ_ _ _ _ hr=>⟨Xg K t,(ze (zM (kC (xE (jJ (L 0) T.q07 (jG T) T.g13 hr zp))) (zh (zq xD))
   zB)
  (ze (zu q1f.nd (yv (WB Z) Z T.q0b xb (za (zaA (zx (L 0) Z)) zf)))
  (ze (zM (zt WW (zx (L 0) Z) xD (zE _)) (zh (zq (zX (za (zX (za zI (za (zx (L 0) Z) zf))) (za (L 1) (za (yH zf) zf))))))
    zB)
  (zh (zq (zX (za (zX (za zI (za (yv Je Z T.b_tuple Vg (za (zx (L 0) Z) zf)) zf))) (za (L 1) (za (zF (Y7 Z (hu3 hr)) Z T.q0x ZN (za (zaA (zx (L 0) Z)) zf)) zf))))))))),JI (rnF T) h⟩⟩
 obtain⟨x,a,C,s,rfl,_⟩:=h;rfl
theorem qo:Ba P w K mg base 10 t.a47 t.d47 ["self","hand"] (xN t):=by
 refine T.g47.f.okA q0q λvs H Q E h=>⟨?_,λ_ _ _ _ hr=>⟨Xh K t,(ze (zM (PW.pt (YR (zt jm (L 1) zg (zE _)) (kB (zt zg0 (L 1) (zx (L 0) Z) (zE _))))) (zh QV)
   zB)
  (ze (zM (zt (Vq (yC hr)) (L 1) (zx (L 0) Z) (by with_unfolding_all rfl)) (zh (zq (tF (L 0) T.q05 (YL T) T.g38 hr zp (za (L 1) zf))))
    zB)
  (ze (zu q0q.nd (zA ye (wj (yC hr) (zx (L 0) Z) (L 1) (λ_ _=>rfl)) zg))
  (ze (zu q0q.nd (zA ye (wj (yC hr) (zx (L 0) Z) (L 1) (λ_ _=>rfl)) zg))
  (ze (zM (xE (jJ (L 3) T.q07 (jG T) T.g13 hr zp)) (ze (zK (Vd (zx (L 0) Z) (L 1) ⟨Z,Z,Z,Z⟩))
  (ze (zK (tF (zx (L 0) Z) T.q0i (Wd T) T.g45 hr zp (za (L 2) (za (jJ (L 3) T.q07 (QO T) T.g46 hr zp) zf))))
  (zh (zq (zX (za zI (za (L 1) (za (L 2) zf))))))))
   zB)
  (ze (zu q0q.nd (jJ (L 3) T.q07 (zbk T) T.g21 hr zp))
  (ze (zM (zt zbw (L 4) xD (zE _)) (ze (zK (zdA (L 3) T.q07 T.me_Run_step (mt.mono (Wx T) ()) hr T.bd_Run_step zp))
  (zh (zq (zX (za zI (za (L 1) (za (L 2) zf)))))))
   zB)
  (ze (zu q0q.nd (tF (zx (L 0) Z) T.q0c (jU T) T.g24 hr zp (za (L 4) (za (L 2) zf))))
  (ze (zK (zcn (L 3) T.q07 T.me_Run_step (mt.mono (Wx T) ()) hr T.q1v .nil zp (za (L 5) zf)))
  (zh (zq (zX (za zI (za (L 1) (za (L 2) (za (L 4) (za (L 5) zf))))))))))))))))),JC (dkF T) h⟩⟩
 obtain⟨d,a,lb,n,f,h,g,CC,S,rfl,_⟩:=h;rfl
theorem ZE:Ba P w K mg base 11 t.a48 t.d48 ["self"] (xG t):=by
 refine T.g48.f.okA q1g λvs H Q E h=>⟨?_,λ_ _ _ _ hr=>⟨Zu K t,(ze (zu q1g.nd (yH zf))
  (ze (QW cx (zt jm (jJ (L 0) T.q05 (xm T) T.g11 hr zp) (jJ (L 0) T.q05 (jF T) T.g12 hr zp) (zE _)) (zh (zK (vC bV cH cI xn (L 1) (za (tF (L 0) T.q05 (qo T) T.g47 hr zp (za (zm zQ (zF zW Z T.q04 yB (za (L 1) zf)) (zx (L 0) Z)) zf)) zf)))))
  (zh (zq (L 1))))),WQ (dkF T) h⟩⟩
 obtain⟨d,a,lb,n,f,g,CC,S,J,rfl,_⟩:=h;rfl
theorem zbn:Ba P w K mg base 1 t.a49 t.d49 ["rows"] (Zh):=by
 refine T.g49.f.okA q1h λvs H Q E h=>⟨?_,λ_ _ _ _ hr=>⟨Wt K t,(ze (Yh (i:=1) q1h.nd Z (oI Z) (yv (vt Z (hu3 hr)) Z T.q16 KU (za (L 0) zf)))
  (zh (zq (YY Z (osc:=zj kT) (N:=["rows","worths"]) (xs:=["place"]) (ix:=[1]) () (xa (zF (Y4 Z) Z T.q0x ZN (za (L 1) zf))) (λ_ _ _ _=>(jk (i:=0) (show gU (["place","worths"]:List Str) from ()) Z (lU Z) (.inr Z))) (λ_ _ _ _=>(zf4 (zt YS (wj (yC hr) (L 1) (L 0) (λ_ _=>rfl)) zg (zE _)))) (λ_ _ _ _=>(zX (za (L 0) (za (wj (yC hr) (L 1) (L 0) (λ_ _=>rfl)) zf)))))))),Qv h⟩⟩
 obtain⟨a,aK,rfl,_⟩:=h;rfl
theorem YN:Ba P w K mg base 3 t.a50 t.d50 ["self","rank"] (xY t):=by
 refine T.g50.f.okA q1i λvs H Q E h=>⟨?_,λ_ _ _ _ hr=>⟨jg K t,(ze (zK (tF (L 0) T.q0c (x6 T) T.g22 hr zp (za (L 1) zf)))
  (ze (zu q1i.nd (zm qI (yv (vW Z) Z T.q0b xb (za (zx (L 0) Z) zf)) (yv (vW Z) Z T.q0b xb (za (zx (L 0) Z) zf))))
  (zh (zq (sU (zbn T) T.g49 hr zp (za (YY Z (osc:=zj xA) (N:=["self","rank","places"]) (xs:=["place"]) (ix:=[0,1]) () (xa (L 2)) (λ_ _ _ _=>(jk (i:=0) (show gU (["place","self","rank"]:List Str) from ()) Z (lU Z) (.inr Z))) (λ_ _ _ _=>ZM) (λ_ _ _ _=>(zX (za (L 0) (za (tF (L 1) T.q0c (jU T) T.g24 hr zp (za (L 0) (za (L 2) zf))) zf))))) zf)))))),ZV (mkF T) h⟩⟩
 obtain⟨m,ac,F,g,lays,rfl,_⟩:=h;rfl
theorem Yg:Ba P w K mg base 4 t.a51 t.d51 ["self"] (vb t):=by
 refine T.g51.f.okA Jl λvs H Q E h=>⟨?_,λ_ _ _ _ hr=>⟨Yd K t,(zh (zq (tF (zx (L 0) Z) T.q0c (YN T) T.g50 hr zp (za (jJ (L 0) T.q05 (xm T) T.g11 hr zp) zf)))),V2 (dkF T) h⟩⟩;obtain⟨d,a,lb,n,f,g,CC,S,rfl,_⟩:=h;rfl
theorem yF:Ba P w K mg base 1 t.a52 t.d52 ["script","k"] (yk K):=by
 refine T.g52.f.okA WH λvs H Q E h=>⟨?_,λ_ _ _ _ hr=>⟨qA K t,(ze (zM (zt jm (L 1) (zF zW Z T.q04 yB (za (L 0) zf)) (zE _)) (zh (zq (zA zO (L 0) (L 1))))
   zB)
  (zh (zq zg))),X9 h⟩⟩
 obtain⟨a,ns,k,rfl,_⟩:=h;rfl
theorem V9(n:Nat)(IH:Ba P w K mg base (2+2*n) t.a54 t.d54 ["rows","first"] (wd n)):Ba P w K mg base (2+2*n+1) t.a53 t.d53 ["row","at"] (Zc n):=by
 refine T.g53.f.okA q0v (k:=2+2*n) λvs H Q E h=>?_;obtain⟨v,e,a,b,k,rfl,h1,h2,h3,h4,q⟩:=h;exact⟨Z,λ_ _ _ _ hr=>⟨Zv K t n,(ze (zu q0v.nd (YT (mt.mono IH ()) hr Z T.g54.m T.g54.f.kp T.g54.b .nil zp (za (zA ye (L 0) zg) (za (zm yb (L 1) zg) zf))))
  (ze (zu q0v.nd (zm yb (zm yb (L 1) zg) (zF zW Z T.q04 yB (za (L 2) zf))))
  (ze (zM (zt (zam (zgc hr)) (zA ye (L 0) zg) (yH zf) (zE _)) (zh (zq (zm qI (yH (za (zX (za zI (za (zA ye (L 0) zg) (za (L 3) zf)))) zf)) (L 2))))
    zB)
  (ze (zu q0v.nd (YT (mt.mono IH ()) hr Z T.g54.m T.g54.f.kp T.g54.b .nil zp (za (zA ye (L 0) zg) (za (zm yb (L 3) zg) zf))))
  (zh (zq (zm qI (zm qI (zm qI (yH (za (zX (za zI (za (zA ye (L 0) zg) (za (zm yb (L 3) zg) zf)))) zf)) (L 2)) (yH (za (zX (za zI (za (zm yb (zm yb (L 3) zg) (zF zW Z T.q04 yB (za (L 4) zf))) zf))) zf))) (L 4)))))))),WP h1 h2 h3 h4 q⟩⟩
theorem zbo:∀n,mt P w K mg base (tQ P w) (2+2*n) t.a54 t.d54 ["rows","first"] (wd n):=by
 intro n;induction n with
 |zero=>exact⟨λvs H Q E h=>(Xj h).elim,λA outer s H args us vs Q E hr he hb hv h=>(Xj h).elim⟩
 |succ n IH =>
 refine T.g54.f.okA q13 (k:=2+2*n+1) λvs H Q E h=>?_;obtain⟨v,r,k,rfl,h1,h2,h3,q⟩:=h;exact⟨Z,λ_ _ _ _ hr=>⟨Wu K t n,(ze (zu q13.nd (yH zf))
  (ze (xO cx Z (xa (L 0)) (yn q13.nd) (zh (zM (zt yA (zA ye (L 3) zg) zI (zE _)) (zh (zK (vC bV PySem.F.slot_list_extend PySem.F.type_list_extend zdh (L 2) (za (YT (mt.mono (V9 T n IH) ()) hr Z T.g53.m T.g53.f.kp T.g53.b .nil zp (za (L 3) (za (zm yb (L 1) (zF zW Z T.q04 yB (za (L 2) zf))) zf))) zf))))
    (zh (zK (vC bV cH cI xn (L 2) (za (L 3) zf)))))))
  (zh (zq (L 2))))),Qm h1 h2 h3 q⟩⟩
theorem zch:Ba P w K mg base 15 t.a55 t.d55 ["rows"] (VB):=by
 refine T.g55.f.okA zb4 λvs H Q E h=>?_;obtain⟨v,r,rfl,h1,h2,h3,q⟩:=h;exact⟨Z,λ_ _ _ _ hr=>⟨VJ K t,(zh (zq (sU (zbo T 6) T.g54 hr zp (za (L 0) (za zg zf))))),zbh h1 h2 h3 q⟩⟩
theorem ZF:Ba P w K mg base 2 t.a56 t.d56 ["self","code"] (wf t):=by
 refine T.g56.f.okA q1j λvs H Q E h=>⟨?_,λ_ _ _ _ hr=>⟨Wv K t,(ze (zu q1j.nd (jJ (L 0) T.q05 (jF T) T.g12 hr zp))
  (ze (zK (vC bV cH cI xn (zx (L 0) Z) (za (yv yW Z T.q0b xb (za (L 1) zf)) zf)))
  (ze (zK (vC bV cH cI xn (zx (L 0) Z) (za (L 2) zf)))
  (zh (zq (L 2)))))),Qx (dkF T) h⟩⟩
 obtain⟨d,v,a,lb,n,f,g,CC,C,S,rfl,_⟩:=h;rfl
theorem QP:Ba P w K mg base 2 t.a57 t.d57 ["number","slots"] (kZ):=by
 refine T.g57.f.okA q1k λvs H Q E h=>⟨?_,λ_ _ _ _ hr=>⟨qf K t,(ze (zu q1k.nd (zm zQ (L 0) zg))
  (ze (zM (zt jm (L 2) zg (zE _)) (zh (zq (zX (za (zm zQ (zm zU (L 0) zg) zg) zf))))
    zB)
  (ze (zM (zt yA (L 2) zg (zE _)) (zh (zq (zX (za (zA zO (L 1) (zm zQ (zm zU (L 0) zg) zg)) zf))))
    zB)
  (ze (zM (PW.pt (XB (zt yA (L 2) zg (zE _)) (ZG (zt yA (zm zQ (zm zU (L 0) zg) zg) zg (zE _))))) (zh (zq (zX (za zg (za (zA zO (L 1) (zm zQ (zm zU (L 0) zg) zg)) (za zI zf))))))
    zB)
  (ze (zM (zt yA (L 2) zg (zE _)) (zh (zq (zX (za (zA zO (L 1) (zm zQ (zm zU (L 0) zg) zg)) (za zg (za zI zf))))))
    zB)
  (zh (zq (zX (za (sU (wH T) T.g3 hr zp (za (zm zU (L 0) zg) zf)) zf))))))))),Jy h⟩⟩
 obtain⟨n,a,ws,rfl,_⟩:=h;rfl
theorem XA:Ba P w K mg base 2 t.a58 t.d58 ["number","slots"] (vM):=by
 refine T.g58.f.okA q14 λvs H Q E h=>⟨?_,λ_ _ _ _ hr=>⟨qg K t,(ze (zu q14.nd (yH (za zI (za zI (za zI (za zI (za zI (za zI (za zI zf)))))))))
  (ze (zu q14.nd (zm zQ (L 0) zg))
  (ze (zM (zt yA (L 3) zg (zE _)) (zh (zq (zX (za (sU (wH T) T.g3 hr zp (za (zm zU (L 0) zg) zf)) zf))))
    zB)
  (ze (zM (zt yA (L 3) zg (zE _)) (zh (zq (zX (za (zA zO (L 1) (zm zQ (zm zU (L 0) zg) zg)) zf))))
    zB)
  (ze (zM (zt yA (zm zQ (zm zU (L 0) zg) zg) zg (zE _)) (zh (zq (zX (za (zA zO (L 1) (zm zQ (zm zU (L 0) zg) zg)) (za (sU (wH T) T.g3 hr zp (za (zm zU (L 0) zg) zf)) (za (zA zO (L 2) (zm jH (L 3) zg)) zf))))))
    zB)
  (zh (zq (zX (za (zA zO (L 1) (zm zQ (zm zU (L 0) zg) zg)) (za (zA zO (L 1) (zm zQ (zm zU (L 0) zg) zg)) (za (zA zO (L 2) (zm jH (L 3) zg)) zf))))))))))),Jz h⟩⟩
 obtain⟨n,a,ws,rfl,_⟩:=h;rfl
theorem zbp:Ba P w K mg base 3 t.a59 t.d59 ["xs","shelves","slots"] (Zi):=by
 refine T.g59.f.okA q0l λvs H Q E h=>⟨?_,λ_ _ _ _ hr=>⟨Zw K t,(ze (zu q0l.nd (zm zQ (zA zO (L 0) zg) zg))
  (ze (zu q0l.nd (zA zO (L 1) (zm zQ (zm zU (zA zO (L 0) zg) zg) zg)))
  (ze (zu q0l.nd (zA zO (L 2) (zm zQ (zm zU (zA zO (L 0) zg) zg) zg)))
  (ze (zu q0l.nd (sU (QP T) T.g57 hr zp (za (zA zO (L 0) zg) (za (L 2) zf))))
  (ze (zu q0l.nd (sU (XA T) T.g58 hr zp (za (zA zO (L 0) zg) (za (L 2) zf))))
  (ze (zM (zt jm (L 3) zg (zE _)) (zh (zq (zX (za zI (za (L 4) (za (L 6) (za (L 5) zf)))))))
    zB)
  (ze (zM (zt jm (L 3) zg (zE _)) (zh (zq (zX (za zI (za (L 4) (za (L 6) (za (L 7) zf)))))))
    zB)
  (ze (zM (zt yA (L 3) zg (zE _)) (zh (zq (zX (za zI (za (L 5) (za (L 7) zf))))))
    zB)
  (ze (zM (zt yA (L 3) zg (zE _)) (zh (zq (zX (za zI (za (L 7) zf)))))
    zB)
  (zh (zq (zX (za zI (za (zX (za (L 5) (za (zm yb (zm zQ (zA zO (L 0) zg) zg) zg) (za zI zf)))) zf)))))))))))))),QJ h⟩⟩
 obtain⟨p,a,b,ds,us,ws,rfl,_⟩:=h;rfl
theorem QQ:Ba P w K mg base 4 t.a60 t.d60 ["cell","shelves","slots"] (k7):=by
 refine T.g60.f.okA q0h λvs H Q E h=>⟨?_,λ_ _ _ _ hr=>⟨Xi K t,(ze (Yh (i:=3) q0h.nd Z (oI Z) (sU (jT T) T.g1 hr zp (za (L 0) (za zg zf))))
  (ze (Vf (j:=4) q0h.nd Z Z (lU Z) (osc:=zj jq) (N:=["cell","shelves","slots","xs","rows","at","to","row"]) (xs:=["k"]) (ix:=[3,1,2]) () (ZH Z T.q0w (za (zm zQ (L 0) zg) zf)) (λ_ _ _ _=>(jk (i:=0) (show gU (["k","xs","shelves","slots"]:List Str) from ()) Z (lU Z) (.inr Z))) (λ_ _ _ _=>ZM) (λ_ _ _ _=>(sU (zbp T) T.g59 hr zp (za (xF vH (L 1) (xj (zm wY zg (L 0))) (xj (zm yb (zm wY zg (L 0)) zg))) (za (L 2) (za (L 3) zf))))))
  (ze (zM (zt yA (zm zQ (zm zU (L 0) zg) zg) zg (zE _)) (ze (zu q0h.nd (zm zQ (zA zO (L 3) zg) (zm yb (zF zW Z T.q04 yB (za (L 4) zf)) zg)))
  (ze (zu q0h.nd (zm yb (L 5) (zm zQ (zA zO (L 3) zg) (zm jH (zm yb (zF zW Z T.q04 yB (za (L 4) zf)) zg) (L 5)))))
  (ze (zu q0h.nd (zX (za zI (za (sU (XA T) T.g58 hr zp (za (zA zO (L 3) zg) (za (L 2) zf))) (za (xF vH (L 4) (xj (L 5)) (xj (L 6))) (za (xF vH (L 4) kF (xj (zm zQ (zA zO (L 3) zg) zg))) zf))))))
  (zh (zu q0h.nd (zm qI (zm qI (xF vH (L 4) kF (xj (L 5))) (yH (za (L 7) zf))) (xF vH (L 4) (xj (L 6)) kF)))))))
   zB)
  (zh (zq (L 4)))))),JA h⟩⟩
 obtain⟨c,a,b,us,ws,rfl,_⟩:=h;rfl
theorem jV:∀n,mt P w K mg base (tQ P w) (1+n) t.a61 t.d61 ["found","due"] (xt n):=by
 intro n;induction n with
 |zero=>exact⟨λvs H Q E h=>(Zz h).elim,λA outer s H args us vs Q E hr he hb hv h=>(Zz h).elim⟩
 |succ n IH =>
 refine T.g61.f.okA q15 (k:=1+n) λvs H Q E h=>?_;obtain⟨v,u,rfl,h1,q⟩:=h;exact⟨Z,λ_ _ _ _ hr=>⟨jS K t n,(ze (zM (PW.pt (YR (xE (zF xg Z T.q0d yd (za (L 1) (za (xJ Z T.q0b xb Z) zf)))) (kB (xE (zF xg Z T.q0d yd (za (L 1) (za (xJ Z T.b_tuple Vg Z) zf))))))) (ze (zM (PW.pt (XB (kC (xE (zF xg Z T.q0d yd (za (L 0) (za (xJ Z T.q0b xb Z) zf))))) (ZG (kC (xE (zF xg Z T.q0d yd (za (L 0) (za (xJ Z T.b_tuple Vg Z) zf)))))))) (zh (zq (YQ (b:=ao))))
   zB)
  (ze (zM (PW.pt (YR (zt YS (zF xg Z T.q0d yd (za (L 0) (za (xJ Z T.q0b xb Z) zf))) (zF xg Z T.q0d yd (za (L 1) (za (xJ Z T.q0b xb Z) zf))) (zE _)) (kB (zt YS (zF zW Z T.q04 yB (za (L 0) zf)) (zF zW Z T.q04 yB (za (L 1) zf)) (zE _))))) (zh (zq (YQ (b:=ao))))
    zB)
  (ze (xO cx Z (zgp Z T.b_zip (za (L 0) (za (L 1) zf))) (KI Z (vc (yn q15.nd) (vc (yn q15.nd) WV))) (zh (zM (kC (xE (YT (mt.mono IH ()) hr Z T.g61.m T.g61.f.kp T.g61.b .nil zp (za (L 2) (za (L 3) zf))))) (zh (zq (YQ (b:=ao))))
    zB)))
  (zh (zq (YQ (b:=af)))))))
   zB)
  (ze (zM (xE (zF xg Z T.q0d yd (za (L 1) (za (xJ Z T.q17 zbG Z) zf)))) (zh (zq (KH (zF xg Z T.q0d yd (za (L 0) (za (xJ Z T.q17 zbG Z) zf))) (KG (ZI yA (L 0) (L 1) (zE _))))))
    zB)
  (zh (zq (KH (zF xg Z T.q0d yd (za (L 0) (za (xJ Z T.b_int zed Z) zf))) (KH (zht (zF xg Z T.q0d yd (za (L 0) (za (xJ Z T.q1l zcx Z) zf)))) (KG (ZI yA (L 0) (L 1) (zE _))))))))),VV (kf K) h1 q⟩⟩
theorem ok_law:Ba P w K mg base 16 t.a62 t.d62 ["script"] (sp_law K):=by
 refine T.q1y.ok0 q09 (λvs H Q E h=>?_) (λcdv A outer s H vs Q E hr h=>?_)
 ·obtain⟨a,ns,rfl,_⟩:=h;rfl
 exact⟨zfg K t,(ze (Yh (i:=1) q09.nd Z (oI Z) (sU (Xv T) T.g2 hr zp (za (sU (yF T) T.g52 hr zp (za (L 0) (za zg zf))) zf)))
  (ze (Yh (i:=2) q09.nd Z (oI Z) (sU (Xv T) T.g2 hr zp (za (sU (yF T) T.g52 hr zp (za (L 0) (za zg zf))) zf)))
  (ze (zu q09.nd (sU (JN T) T.g4 hr zp (za (zm zU (sU (yF T) T.g52 hr zp (za (L 0) (za zg zf))) zg) (za (L 1) zf))))
  (ze (Vf (j:=4) q09.nd Z Z (lU Z) (osc:=zj Vx) (N:=["script","shelves","slots","table","codes","hands","others","one","other","code","added","k","back","early","papers"]) (xs:=["cell"]) (ix:=[1,2]) () (xa (xF vH (L 0) (xj zg) (xj zg))) (λ_ _ _ _=>(jk (i:=0) (show gU (["cell","shelves","slots"]:List Str) from ()) Z (lU Z) (.inr Z))) (λ_ _ _ _=>ZM) (λ_ _ _ _=>(sU (zch T) T.g55 hr zp (za (sU (QQ T) T.g60 hr zp (za (L 0) (za (L 1) (za (L 2) zf)))) zf))))
  (ze (zu q09.nd (zm yb zg (zm zQ (sU (yF T) T.g52 hr zp (za (L 0) (za zg zf))) zg)))
  (ze (zu q09.nd (zm yb zg (zm zQ (zm zU (sU (yF T) T.g52 hr zp (za (L 0) (za zg zf))) zg) zg)))
  (ze (zu q09.nd (sU (Xw T) T.g9 hr zp (za (L 3) (za (L 5) (za (zm zQ (zm zU (sU (yF T) T.g52 hr zp (za (L 0) (za zg zf))) zg) zg) zf)))))
  (ze (zu q09.nd (sU (Xw T) T.g9 hr zp (za (L 3) (za (L 6) (za (zm zQ (zm zU (sU (yF T) T.g52 hr zp (za (L 0) (za zg zf))) zg) zg) zf)))))
  (ze (xO cx Z (xa (L 4)) (yn q09.nd) (zh (zK (tF (L 7) T.q05 (ZF T) T.g56 hr zp (za (L 9) zf)))))
  (ze (zu q09.nd zg)
  (ze (xO cx Z (ZH Z T.q0w (za (zF zW Z T.q04 yB (za (L 0) zf)) zf)) (yn q09.nd) (ze (zK (tF (L 7) T.q05 (qo T) T.g47 hr zp (za (zm zQ (zm zU (zA zO (L 0) (L 11)) zg) (L 5)) zf)))
  (ze (zu q09.nd (zA zO (L 0) (zm jH (zm jH (zF zW Z T.q04 yB (za (L 0) zf)) zg) (L 11))))
  (ze (zM (PW.pt (XB (zt jm (zm zQ (L 12) zg) zg (zE _)) (ZG (zt jm (L 10) (zF zW Z T.q04 yB (za (L 4) zf)) (zE _))))) (ze (zK (tF (L 8) T.q05 (ZF T) T.g56 hr zp (za (zA zO (L 4) (L 10)) zf)))
  (zh (zhu (i:=10) q09.nd Z (lU Z) zg zhv)))
   zB)
  (zh (zK (tF (L 8) T.q05 (qo T) T.g47 hr zp (za (zm zQ (zm zU (L 12) zg) (L 6)) zf))))))))
  (ze (zu q09.nd (jJ (L 7) T.q05 (jj T) T.g10 hr zp))
  (ze (xO cx Z (xa (xF vH (L 4) (xj (L 10)) kF)) (yn q09.nd) (zh (zK (tF (L 8) T.q05 (ZF T) T.g56 hr zp (za (L 9) zf)))))
  (ze (zK (jJ (L 8) T.q05 (ZE T) T.g48 hr zp))
  (ze (zu q09.nd (jJ (L 8) T.q05 (jj T) T.g10 hr zp))
  (ze (zu q09.nd (jJ (L 8) T.q05 (Yg T) T.g51 hr zp))
  (ze (zK (jJ (L 7) T.q05 (ZE T) T.g48 hr zp))
  (ze (zM (PW.pt (YR (zt YS (zF zW Z T.q04 yB (za (L 14) zf)) (zF zW Z T.q04 yB (za (L 4) zf)) (zE _)) (kB (kC (xE (sU (jV T 6) T.g61 hr zp (za (jJ (L 7) T.q05 (jj T) T.g10 hr zp) (za (L 14) zf)))))))) (zh (zq (YQ (b:=ao))))
    zB)
  (ze (zM (PW.pt (YR (kC (xE (sU (jV T 6) T.g61 hr zp (za (L 13) (za (xF vH (L 14) kF (xj (zF zW Z T.q04 yB (za (L 13) zf)))) zf))))) (kB (kC (xE (sU (jV T 6) T.g61 hr zp (za (jJ (L 7) T.q05 (Yg T) T.g51 hr zp) (za (L 3) zf)))))))) (zh (zq (YQ (b:=ao))))
    zB)
  (zh (zq (KH (ZI yA (jJ (L 7) T.q05 (xm T) T.g11 hr zp) (zF zW Z T.q04 yB (za (L 4) zf)) (zE _)) (KG (ZI yA (jJ (L 8) T.q05 (xm T) T.g11 hr zp) (zF zW Z T.q04 yB (za (L 4) zf)) (zE _))))))))))))))))))))))))),zgV h⟩
end
end K47
open PySem PySem.W PyProof.Rows
local macro_rules|`(#where)=>do
 let f:=λ(s:String)(l:List Nat)=>l.map λi=>Lean.Name.str `PySem.Challenge.cw_forerun_k47_whole_two_weavings_holds s!"{s}_{i}"
 return Lean.mkNullNode (←(f "heap" [39,46,707]++f "tree" [47,70,85,100,115,156,240,241,300,338,425,426,526,570,592,642,706]++f "view" [39]++f "sts" [49,71,86,101,116,157,241,243,301,339,426,428,527,571,593,643]++f "o" (List.range' 43 664)++f "env" [41]++[`PySem.Challenge.pw_forerun_k47_whole_two_weavings,`PySem.Challenge.rw_forerun_k47_whole_two_weavings]).toArray.mapM λn=>do return (←`(command|def $(Lean.mkIdent (.str `PySem.W.Fast s!"tw{n.hash}")):ident :=Nat)).raw)
#where
set_option maxRecDepth 100000 in
set_option maxHeartbeats 0 in
theorem PySem.Challenge.cw_forerun_k47_whole_two_weavings_holds : PySem.Challenge.rw_forerun_k47_whole_two_weavings.Holds := by
 w_on; o_law; k_head; (case hw => w_witness2)
 k_fill
 refine L2.walk_ofXB (l := PySem.Challenge.rw_forerun_k47_whole_two_weavings) (n := 63) (k := 16) (x := "script") (sp := K47.sp_law) Z (by decide) Z ⟨Z,by decide,by decide⟩ (fun w h Y => PySem.W.kIn_of Y) ?F ?S
 case F =>
  intro w mg fa h KX G hmg;have T : ∃ t,K47.Txt (L2.KOf KX) mg t := by
   dsimp only [L2.KOf];refine' K47.txt_mk KX G ?h0 ?h1 ?h2 ?h3 ?h4 ?qa5 ?qi5 ?ql5 ?qc5 ?qk5 ?qa6 ?qi6 ?ql6 ?qc6 ?qk6 ?qa7 ?qi7 ?ql7 ?qc7 ?qk7 ?qd7 ?qa8 ?qi8 ?ql8 ?qc8 ?qk8 ?h9 ?h10 ?h11 ?h12 ?h13 ?h14 ?h15 ?h16 ?h17 ?h18 ?h19 ?h20 ?h21 ?h22 ?h23 ?h24 ?h25 ?h26 ?h27 ?qa28 ?qi28 ?ql28 ?qc28 ?qk28 ?qd28 ?h29 ?h30 ?h31 ?h32 ?h33 ?h34 ?h35 ?qa36 ?qi36 ?ql36 ?qc36 ?qk36 ?h37 ?h38 ?h39 ?h40 ?h41 ?h42 ?h43 ?h44 ?h45 ?h46 ?h47 ?h48 ?h49 ?h50 ?h51 ?h52 ?h53 ?h54 ?h55 ?h56 ?h57 ?h58 ?h59 ?h60 ?h61 ?qa62 ?ql62 ?qc62 ?qk62 ?qz0 ?qz1 ?qz2 ?qz3 ?qz4 ?qz5 ?qz6 ?qz7 ?qz8 ?qz9 ?qz10 ?qg0 ?qh0 ?qv0 ?qv1 ?qv2 ?qv3 ?qv4 ?qv5 ?qv6 ?qv7 ?qv8 ?pg0 ?pd0 ?po0 ?pe0 ?pm0_ ?pk0 ?pn0_0 ?pn0_1 ?pn0_2 ?pn0_3 ?pn0_4 ?pn0_5 ?pn0_6 ?pn0_7 ?pn0_8 ?pi2 ?pg2 ?pd2 ?po2 ?pe2 ?pm2_ ?pk2 ?pg3 ?pd3 ?po3 ?pe3 ?pm3_ ?pk3 ?pn3_0 ?pn3_1 ?pn3_2 ?pn3_3 ?pg4 ?pd4 ?po4 ?pe4 ?pm4_ ?pk4 ?pn4_0 ?pn4_1 ?pn4_2 ?pn4_3 ?pg6 ?pd6 ?po6 ?pe6 ?pm6_ ?pk6 ?pn6_0 ?pn6_1 ?pn6_2 ?pn6_3 ?pn6_4 ?pn6_5 ?pn6_6 ?pg7 ?pd7 ?po7 ?pe7 ?pm7_ ?pk7 ?pn7_0 ?pi8 ?pg8 ?pd8 ?po8 ?pe8 ?pm8_ ?pk8 ?rx0 ?ry0 ?re0_0 ?re0_1 ?rm0_0 ?rx1 ?ry1 ?re1_0 ?re1_1 ?rm1_0
   (case qv0 | qv1 | qv2 | qv3 | qv4 | qv5 | qv6 | qv7 | qv8 => k_is)
   (case h0 | h1 | h2 | h3 | h4 => exact ⟨_,by k_is,_,_,_,_,_,_,_,_,_,by k_is,by k_is,by k_is⟩)
   (case qa5 | qi5 | ql5 | qc5 | qk5 | qa6 | qi6 | ql6 | qc6 | qk6 | qa7 | qi7 | ql7 | qc7 | qk7 | qd7 | qa8 | qi8 | ql8 | qc8 | qk8 => k_is)
   (case h9 => exact ⟨_,by k_is,_,_,_,_,_,_,_,_,_,by k_is,by k_is,by k_is⟩)
   (case h10 | h11 | h12 | h13 => exact ⟨_,by k_is,by k_is,_,_,_,_,_,_,_,_,_,by k_is,by k_is,by k_is⟩)
   (case h14 | h15 | h16 | h17 | h18 => exact ⟨_,by k_is,_,_,_,_,_,_,_,_,_,by k_is,by k_is,by k_is⟩)
   (case h19 | h20 | h21 | h22 => exact ⟨_,by k_is,by k_is,_,_,_,_,_,_,_,_,_,by k_is,by k_is,by k_is⟩)
   (case h23 => exact ⟨_,by k_is,_,_,_,_,_,_,_,_,_,by k_is,by k_is,by k_is⟩)
   (case h24 | h25 | h26 | h27 => exact ⟨_,by k_is,by k_is,_,_,_,_,_,_,_,_,_,by k_is,by k_is,by k_is⟩)
   (case qa28 | qi28 | ql28 | qc28 | qk28 | qd28 => k_is)
   (case h29 | h30 => exact ⟨_,by k_is,by k_is,_,_,_,_,_,_,_,_,_,by k_is,by k_is,by k_is⟩)
   (case h31 => exact ⟨_,by k_is,_,_,_,_,_,_,_,_,_,by k_is,by k_is,by k_is⟩)
   (case h32 | h33 | h34 | h35 => exact ⟨_,by k_is,by k_is,_,_,_,_,_,_,_,_,_,by k_is,by k_is,by k_is⟩)
   (case qa36 | qi36 | ql36 | qc36 | qk36 => k_is)
   (case h37 | h38 | h39 | h40 => exact ⟨_,by k_is,by k_is,_,_,_,_,_,_,_,_,_,by k_is,by k_is,by k_is⟩)
   (case h41 => exact ⟨_,by k_is,_,_,_,_,_,_,_,_,_,by k_is,by k_is,by k_is⟩)
   (case h42 | h43 | h44 | h45 | h46 | h47 | h48 => exact ⟨_,by k_is,by k_is,_,_,_,_,_,_,_,_,_,by k_is,by k_is,by k_is⟩)
   (case h49 => exact ⟨_,by k_is,_,_,_,_,_,_,_,_,_,by k_is,by k_is,by k_is⟩)
   (case h50 | h51 => exact ⟨_,by k_is,by k_is,_,_,_,_,_,_,_,_,_,by k_is,by k_is,by k_is⟩)
   (case h52 | h53 | h54 | h55 => exact ⟨_,by k_is,_,_,_,_,_,_,_,_,_,by k_is,by k_is,by k_is⟩)
   (case h56 => exact ⟨_,by k_is,by k_is,_,_,_,_,_,_,_,_,_,by k_is,by k_is,by k_is⟩)
   (case h57 | h58 | h59 | h60 | h61 => exact ⟨_,by k_is,_,_,_,_,_,_,_,_,_,by k_is,by k_is,by k_is⟩)
   (case qa62 | ql62 | qc62 | qk62 | qz0 | qz1 | qz2 | qz3 | qz4 | qz5 | qz6 | qz7 | qz8 | qz9 | qz10 | qg0 | qh0 | pg0 | pd0 | po0 | pe0 | pm0_ | pk0 | pn0_0 | pn0_1 | pn0_2 | pn0_3 | pn0_4 | pn0_5 | pn0_6 | pn0_7 | pn0_8 | pi2 | pg2 | pd2 | po2 | pe2 | pm2_ | pk2 | pg3 | pd3 | po3 | pe3 | pm3_ | pk3 | pn3_0 | pn3_1 | pn3_2 | pn3_3 | pg4 | pd4 | po4 | pe4 | pm4_ | pk4 | pn4_0 | pn4_1 | pn4_2 | pn4_3 | pg6 | pd6 | po6 | pe6 | pm6_ | pk6 | pn6_0 | pn6_1 | pn6_2 | pn6_3 | pn6_4 | pn6_5 | pn6_6 | pg7 | pd7 | po7 | pe7 | pm7_ | pk7 | pn7_0 | pi8 | pg8 | pd8 | po8 | pe8 | pm8_ | pk8 => k_is)
   (case rx0 => k_exc)
   (case ry0 => exact ⟨_,by k_is,by k_is,by k_is,by k_is,by k_is,by k_is,by k_is,by k_is⟩)
   (case re0_0 | re0_1 | rm0_0 => kernel_rfl)
   (case rx1 => k_exc)
   (case ry1 => exact ⟨_,by k_is,by k_is,by k_is,by k_is,by k_is,by k_is,by k_is,by k_is⟩)
   (case re1_0 | re1_1 | rm1_0 => kernel_rfl)
  obtain ⟨t,T⟩ := T;have e0 := hmg.symm.trans T.m_law;cases e0;exact ⟨_,T.w_law,fun base _ _ => K47.ok_law T⟩
 case S => exact fun K H a ns hl hb _ hS => ⟨a,ns,rfl,hS,hl,hb,fun _ => rfl⟩
