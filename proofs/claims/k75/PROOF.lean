import PyProof.Rows.All
import Wide.All
import OpenK.AllK
import PySem.Challenge.RW_forerun_k75_houses_apart
set_option Elab.async false
set_option linter.all false
local macro_rules|`(#where)=>do
 let f:=λ(s:String)(l:List Nat)=>l.map λi=>Lean.Name.str `hdT s!"{s}_{i}"
 return Lean.mkNullNode (←(f "heap" [39,46,1242]++f "tree" [47,91,106,121,143,158,173,188,203,218,266,346,347,406,476,499,586,587,689,768,820,878,901,959,975,1068,1091,1113,1163,1241]++f "view" [39]++f "sts" [49,92,107,122,144,159,174,189,204,219,267,347,349,407,477,500,587,589,690,769,821,879,902,960,976,1069,1092,1114,1164]++f "o" (List.range' 43 1199)++f "env" [41]++[`PySem.Challenge.pw_forerun_k75_houses_apart,`PySem.Challenge.rw_forerun_k75_houses_apart]).toArray.mapM λn=>do return (←`(command|def $(Lean.mkIdent (.str `PySem.W.Fast s!"tw{n.hash}")):ident:=Nat)).raw)
#where
section
open PySem PySem.W PyProof.Rows
set_option maxRecDepth 100000
set_option maxHeartbeats 0
open_top hdT for PySem.Challenge.rw_forerun_k75_houses_apart
end
open Array renaming length_toList->bW,getElem?_toList->ce,getElem?_eq_getElem->ck,getElem?_eq_none->e9,getD_eq_getD_getElem?->fW,perm_iff_toList_perm->iU,getElem?_eq_some_iff->iV,size_eq_one_iff->mW,toList_push->oU,toList_inj->pN,mem_iff_getElem->rN,mem_toList_iff->se,toList_extract->sw,forIn_toList->tE,size_map->uE
open Array.Perm renaming mem_iff->sZ,trans->ug,refl->uD
open Bool renaming false_ne_true->bM,and_eq_true->bY,false_eq_true->cH,not_eq_true'->dH,eq_false_iff->fe,or_eq_false_iff->gG,eq_iff_iff->nI,not_eq_false'->sW,or_false->sX,or_eq_true->uB
open Break.runK renaming match_1->gq
open Char renaming toNat->uH
open Classical renaming byContradiction->cp,not_not->tN
open False renaming elim->fP
open ForInStep renaming yield->fV
open Iff renaming rfl->tW
open Int renaming toNat_natCast->cy,emod_lt_of_pos->cN,emod_nonneg->du,lt_or_le->mM,toNat_of_nonneg->nT,le_total->rT,zero_add->rX,natCast_nonneg->tG
open Int.ofNat renaming inj->uM
open LawfulMonad renaming pure_bind->uz
open List renaming getElem?_eq_getElem->bd,length_map->bh,mem_cons->bn,getElem?_eq_some_iff->bp,getElem?_map->br,mem_cons_self->bu,mem_cons_of_mem->bw,length_append->bx,getD_eq_getElem?_getD->bA,mem_singleton->bB,map_cons->bC,length_cons->bG,mem_map->bH,size_toArray->bJ,mem_map_of_mem->bL,mem_append->bP,mem_of_getElem?->bU,getElem?_eq_none->bV,not_mem_nil->bZ,map_append->b7,getElem?_cons_zero->ca,length_take->cf,mem_append_right->cw,nodup_cons->cx,take_of_length_le->cB,lookup_cons->cC,append_assoc->cF,range->cG,all_eq_true->cI,append_nil->cL,getElem?_take_of_lt->cM,getElem?_of_mem->cQ,getElem?_append_left->cR,ext_getElem?->cY,getElem_mem->c9,mem_filter->da,length_singleton->dz,getElem?_append_right->dA,lookup->dC,eq_nil_of_length_eq_zero->dD,replicate->dF,length->dQ,map_congr_left->dR,nodup_nil->dU,take_add_one->dY,getElem?_cons_succ->dZ,Nodup->eG,mem_append_left->eX,filter_cons->eY,map_map->fm,length_drop->fD,cons_append->fE,nodup_append->fS,foldl_cons->fU,filter_sublist->fX,nil_append->fY,take_length->f8,sum_cons->gj,pairwise_iff_getElem->gD,filter_cons_of_neg->gP,filter_cons_of_pos->gQ,getElem_inj->gW,mem_range->gZ,getElem?_take->ik,set_cons_zero->io,set_cons_succ->ip,length_replicate->iu,find?_cons->iw,take_append_drop->iH,all_cons->iK,pairwise_map->iQ,drop_eq_getElem_cons->i8,filter_eq_self->lC,map_nil->lE,any_cons->lO,eraseIdx_cons_succ->lP,length_nil->lQ,getElem?_set_self->lW,drop_of_length_le->lZ,eraseIdxIfInBounds_toArray->mf,getElem?_inj->ms,length_range->mz,length_filter_le->mI,getElem?_toArray->mV,mem_flatMap->mZ,take_append_of_le_length->m6,getElem?_set_ne->m7,mem_of_mem_take->nu,dropLast_concat_getLast->nC,filterMap_cons->nH,forIn_cons->nK,getElem?_range->nR,length_eraseIdx_of_lt->nZ,toArray->om,pairwise_cons->on,getElem?_drop->oy,map->oz,drop_zero->oA,extract_eq_take_drop->oH,length_erase_of_mem->oP,idxOf_lt_length_iff->oR,getElem?_replicate->pq,nodup_range->pO,drop_eq_nil_of_le->pY,length_pos_of_mem->p6,not_of_lt_findIdx->p9,of_mem_zip->rq,range_succ->rO,filterMap_append->rS,perm_append_comm->rW,mem_of_mem_drop->sy,take_succ->sE,length_pos_iff->sQ,flatMap_append->sR,getElem_idxOf->tz,take_sublist->tK,foldl_append->tQ,drop_sublist->tU,flatMap_cons->tV,all_map->ua,any_eq_true->ud,zipIdx_cons->uf,mem_reverse->uh,ext_getElem->uj,drop_append->ul,perm_middle->um,zipIdx_nil->uC
open List.Nodup renaming sublist->ii
open List.Pairwise renaming nil->iM,imp->oO
open List.Perm renaming refl->fN,trans->iI,swap->sC
open List.Sublist renaming map->gY
open List.cons renaming injEq->cW,inj->iN
open Nat renaming le_refl->bo,ne_of_lt->bK,zero_le->bQ,le_trans->b9,lt_of_lt_of_le->cb,le_add_right->dE,lt_of_le_of_lt->dN,ne_of_gt->dP,min_eq_left->eC,lt_or_ge->fM,lt_succ_of_lt->fR,lt_irrefl->gb,zero_add->gy,eq_zero_or_pos->gA,le_succ->gO,le_of_eq->ir,le_of_lt_succ->iR,reduceSub->iS,reduceAdd->iT,lt_succ_self->i9,succ_le_succ->lf,add_right_comm->lR,mod_lt->mh,le_of_lt->mH,strongRecOn->nO,succ_pos->ot,toDigits->rD,sub_self->rV,add_sub_cancel->tD,lt_trans->t9,min_eq_right->ue
open Ne renaming symm->eh
open Option renaming map_eq_some_iff->cm,isSome_iff_exists->gJ,map_some->nJ,isSome_map->oK,isNone_some->tw,getD_none->uc
open Option.some renaming inj->bX,injEq->cz
open Or renaming inl->iy,inr->uF
open Prod renaming ext->tq
open Prod.mk renaming inj->sL
open PyProof.Rows renaming callWith_type1->dq,entry_proto_collect'->m8,entry_list_sort->nS,slot_list_sort->oC,args_list_sort->oE,reads_newData->pG,entry_list_iadd'->pP,subscriptTail_builtinR->pW,plain_sorted->rE,entry_sorted->rF,args_sorted1->rG,lt_int->sG,kind_sorted->sK,listUpdate_at->tj
open PyProof.Rows.F renaming plain_set_update_loop->fO,entry_set_update_loop->i7
open PySem renaming wpAny_bind->ba,wpAny_pure->bm,wpAny_setField_rec->cg,wpAny_callSpecial?_slot->cq,wpAny_call_entry->cr,sizeLine_eq->cu,wpAny_newObj_type->cA,wpAny_field->cO,wpAny_holding->c8,codeAny_builtin->dt,wpAny_setState_of->dJ,wpAny_truthy_bool->dW,wpAny_dictEntries->eE,wpAny_seqItems->eM,tupleKind_room_in1->eN,wpAny_attempt->eP,plainId_quiet->eQ,wpAny_typeNameOfWhole_itemiter->fo,wpAny_typeNameOfWhole_keyiter->fG,call_meets->fQ,mem_of_lookup->fT,wpAny_mono->f6,codeAny_mono->gg,wpAny_Call_Name_kw->gh,wpAny_notOrdered_dict->gu,wpAny_fieldsOf->gC,wpAny_typeNameOf_itemiter->gE,wpAny_passesOwn->gH,wpAny_typeNameOf_keyiter->gL,wpAny_setEntries_of->gS,wpAny_isInstance->gX,wpAny_setField->ic,wpAny_execs_nil->iq,wpAny_dictEpoch->iB,wpAny_loadPart'->iC,wpAny_updateSeq->iE,wpAny_ite_split->iF,wpAny_pyIter_list->iJ,wpAny_Call_method->iL,wpAny_rule->iP,typeIs_str->lF,wpAny_isOneOf_itemiter->lY,wpAny_letGo->mj,wpAny_pyIter_slot->mn,wpAny_pyIter_enum->my,wpAny_newTuple->mF,isSubtype_stop->mG,call_meetsIn->mJ,wpAny_typeOf->mR,builtinLookup_eq_fast->mT,wpAny_pyIter_zip->mX,wpAny_handled->nD,wpAny_newList->nE,wpAny_of_eq->nP,wpAny_letOwnedTupleGo_enum->nX,wpAny_pyIter_tuple->n9,wpAny_letOwnedTupleGo_zip->oB,wpAny_runValue->oF,wpAny_load->oI,wpAny_comprehension_free->oM,wpAny_Call_method0_late->pB,wpAny_throw->pI,wpAny_execs_cons->pM,wpAny_forIn_list->pQ,wpAny_askSetting->pR,wpAny_pyNext_list_item->pS,wpAny_pyNext_range_end->pT,wpAny_pyIter_rangeiter->pU,wpAny_pyNext_list_end->rj,wpAny_specialOf->rA,wpAny_isOneOf_keyiter->rH,typeLookup_type->rJ,size_of_entries->rM,wpAny_isSame_ref_self->rP,call->r6,wpAny_loadName_local->r9,wpAny_pyIter_revIter->sf,wpAny_updateSeq_pair->sg,wpAny_pyIter_keyiter->si,wpAny_updateDictKeys->sn,codeAny_call_builtin->ss,intText_digits->sB,isSubtype_type->sF,evalArgs_none->sH,wpAny_onRaise->sY,wpAny_call->tJ,rule->tO,unsupported->tP,Within->tX
open PySem.Around renaming under_plainId->cK,under->tY
open PySem.Builtin.Dict renaming showsAll->iA,keyAndDefault->nY,updateFrom->pJ,takeOut->sk
open PySem.Builtin.Dict_items renaming ownsTuple->eI,ownedTupleFields->lA,ownedTupleIsFree->lB,pairFromOwner->lU
open PySem.Builtin.Int renaming intBits->nM
open PySem.Builtin.List renaming listExtendWith->cV,listSameRef->gM,listTooLong->lG,listLengthHint->nU,listItems->p8
open PySem.Builtin.Range renaming rangeSize->lM,small->sM
open PySem.Builtin.SmallTypes renaming nextOf->cS,ownedTupleIsFree->cU,ownedTupleHandOut->eD
open PySem.Builtin.Str renaming occurrences->dX,strSub->eW,lastOccurrence->eZ,subAt->gK,tooLong->lz,strSliceIndices->nN,strKind->sN,glued->tM
open PySem.Calls renaming callWith_builtin->dL,spliced_cons->eA,evalArgs_plain->fI,spliced_nil->gI,call_function_entry->iZ,Name_function_global->nV
open PySem.Code renaming isFrame->tZ
open PySem.Data renaming fields->ut
open PySem.F renaming plainAttrs_list->bD,slot_list_append->bR,type_list_append->bT,plainAttrs_str->cX,plain_extend_loop->dI,slot_str_split->eB,plainAttrs_dict->eO,plain_list_iadd->eT,slot_dict_pop->fi,slot_str_ascii_iterator_next->fq,slot_list_pop->fu,type_list_pop->fA,slot_dict_itemiterator_next->fH,slot_dict_keyiterator_next->fK,type_str_split->fZ,plain_proto_collect->iD,slot_enumerate_next->iG,slot_list_extend->lH,type_list_extend->lJ,args_str_ascii_iterator_next_1->lV,entry_dict_pop->lX,args_dict_itemiterator_next_1->mq,entry_str_ascii_iterator_next->mD,slot_dict_get->mK,type_dict_pop->mL,args_dict_keyiterator_next_1->mQ,entry_dict_itemiterator_next->mU,entry_dict_keyiterator_next->mY,slot_dict_setdefault->nG,slot_zip_next->nQ,slot_tuple_iterator_next->nW,args_str_split_2->oq,entry_extend_loop->oG,args_tuple_add_2->oJ,entry_str_split->oQ,slot_list_remove->oV,type_list_remove->oW,slot_list_insert->oX,type_list_insert->oY,entry_tuple_add->pA,args_dict_pop_2->pC,args_dict_pop_3->pD,args_dict_get_3->pE,slot_dict_items->pK,args_enumerate_next_1->pL,slot_tuple_add->pV,entry_dict_get->pX,slot_dict_items_iter->p7,entry_enumerate_next->rg,slot_tuple_lt->rK,plain_set_new->rQ,slot_set_iter->rR,slot_str_join->rY,type_str_join->rZ
open PySem.Heap renaming get?_push_of_some->bg,get?_push_size->bq,lt_size->bF,SameBut->cv,get?_update_self->cZ,get?_update_other->dM,size_push->eK,get?_push_cases->iW,ExtBut->pH
open PySem.Heap.SameBut renaming update->cP
open PySem.NameKind renaming free->dO,cell->pF
open PySem.Obj renaming mapSeq->dG,data_mapFields->gp,data_mapDictKeys->iX,isFreed_of_fields->mP,cls_mapFields->oN,putSet->oS,isFreed_of_dict->sO
open PySem.Paired renaming length->bO
open PySem.PassesOwn renaming never->cn
open PySem.PyData renaming depthAll->fj,canLay0->gB,strOk->gN,canLayAll0->iO,eqv->mo,depth->mO,eqvAll->nF
open PySem.SeqAt renaming noMixAll->mE,shaped->mN,noMix->sJ
open PySem.SeqAt.EqAt renaming str_str->lN,int_int->og,int_str->sS,str_int->sT
open PySem.SetTable renaming Probe->dy,leap->eV,turns->fh,bits->gR,below->ie,runEnd->lT,insertAt_perm->rc,grown->sD,sameMemory->sP,sizeAbove->tF,layClean->tR,has->ub,advance->ui,tooFull->uk,slot->uN,laid->uO,fits->uP,fill->uQ
open PySem.SetTable.below renaming go->tT
open PySem.SetTable.layClean renaming free->ig
open PySem.SetTable.probe renaming go->mC
open PySem.Shared renaming TypeIs->tu
open PySem.Spec renaming sameAll->oh,same->uA
open PySem.Str renaming ofString->bb,join->eU,length->f7,ofString_eq_toList->pZ,empty->rm
open PySem.StrLaws renaming glued_eq_join->rL,found_one->tL
open PySem.Txt renaming split->fJ,slice->rC
open PySem.Value renaming ref->bN,none->cE,type->fB,int->f9,str->lL,bool->ma,float->uq
open PySem.W renaming Frag->bE,emptyDict->fc,findIn->gc,kitOne->gF,instObj->gU,kia_one->iY,keepIn->pc,callWith_K->ro,methodCall_KW->rp,plainGet_of->sU,callWith_K0->sV,plainGet->tI,codeIn->uo,methodObj->ur,hasDictIn->uu,makesIn->uv,specialIn->uw,fnOf->ux,OpenLaw->uy,lookIn->uI,mroIn->uJ
open PySem.W.KatTups renaming cons->uR
open PySem.Walks renaming list->uG
open Sum renaming inl->lK,inr->tH
open Sum.inl renaming inj->oZ,injEq->uL
open Sum.inr renaming injEq->uK
open True renaming intro->fC
open Bool renaming true->ae,false->ah
open Option renaming some->Y,none->af
open PySem renaming Addr->B,Shared->ak,Value->am,Stmt->ap,Program->aq,Heap->au,Expr->av,Around->aw,World->ax,Scope->aA,Result->aB,sizeLine->Bb,FuncData->Bc,mainGlobals->Bd,starEach->Be,wpAny->Bf,model->Bg,bootBuiltins->Bh,compareOp->Bi,Paired->Bl
set_option Elab.async false
set_option linter.all false
set_option maxRecDepth 100000
theorem Bj{p:Prop}[Decidable p](h:p):decide p=true:=decide_eq_true h
theorem Bk{p:Prop}[Decidable p](h:¬p):decide p=false:=decide_eq_false h
set_option hygiene false
set_option compiler.extract_closed false
def zzzP:Nat->Lean.Syntax->Lean.MacroM (Lean.TSyntax `rcasesPat)
 |0,_=>Lean.Macro.throwUnsupported
 |n+1,s=>match s with
  |`(⟨$ps,*⟩)=>do
   let ls ← ps.getElems.mapM fun p=>do `(Lean.Parser.Tactic.rcasesPatLo|$(← zzzP n p):rcasesPat)
   `(rcasesPat|⟨$[$ls],*⟩)
  |`(#[$ps,*])=>do
   let ls ← ps.getElems.mapM fun p=>do `(Lean.Parser.Tactic.rcasesPatLo|$(← zzzP n p):rcasesPat)
   `(rcasesPat|⟨$[$ls],*⟩)
  |`($x:ident)=>`(rcasesPat|$x:ident)
  |_=>`(rcasesPat|_)
local macro_rules|`(match $x:term with|⟨$ps,*⟩=>$b)=>do
 if (b.raw.find? (·.isOfKind `Lean.Parser.Term.syntheticHole)).isSome then Lean.Macro.throwUnsupported
 let q ← zzzP 9 (← `(⟨$ps,*⟩))
 `(by rcases $x:term with $q;exact $b)
local macro_rules|`({$a:term,$as,*})=>`(⟨$a,$as,*⟩)
local macro_rules|`(tactic|have #[$p,*]:=$e:term)=>do
 let q ← zzzP 9 (← `(#[$p,*]))
 `(tactic|obtain $q:rcasesPat:=$e)
local macro_rules|`(tactic|lia)=>`(tactic|first|with_reducible (first|assumption|exact Nat.le_refl _|exact Nat.zero_le _|exact Nat.le_of_lt ‹_›|exact Nat.le_succ_of_le ‹_›|exact Nat.le_trans ‹_› ‹_›|exact Nat.lt_of_lt_of_le ‹_› ‹_›|exact Nat.lt_of_le_of_lt ‹_› ‹_›|exact Nat.ne_of_gt ‹_›|exact Nat.ne_of_lt ‹_›|exact Int.le_of_lt ‹_›|exact Nat.le_of_eq ‹_›|exact Nat.succ_le_succ ‹_›|exact Nat.lt_succ_of_le ‹_›|exact Eq.trans ‹_› ‹_›)|decide +kernel|exact Nat.le_of_ble_eq_true rfl|(intro _ z;cases z;done)|(intro z;cases z;done)|lia -abstractProof)
theorem ag{c:Prop}{h:Decidable c}(n:¬c){α:Sort u}{t e:α}:ite c t e=e:=if_neg n
theorem ao{c:Prop}{h:Decidable c}(n:c){α:Sort u}{t e:α}:ite c t e=t:=if_pos n
theorem ay{α:Sort u}{p:α->Prop}{a:α}:(∃x,a=x/\p x)↔p a:=exists_eq_left'
local macro_rules|`(())=>`(by lia)
theorem U{α:Sort u}{a:α}:a=a:=rfl
namespace L2
open PySem PySem.Spec PyProof.Rows
abbrev Bq(x:Str):Prop:=(x==("__debug__":Str))=ah
abbrev Key:=Sum Int Str
def QT:Key->am->Bool
 |.inl k,v=>Value.isInt k v
 |.inr x,v=>Value.isStrOf x v
def zoo(w:ax):Key->Int
 |.inl k=>hashInt k
 |.inr x=>hashStr w x
theorem y6:∀ {k:Key}{v:am},QT k v=ae->(∃i t,k=lK i/\v=f9 i t)\/(∃x t,k=tH x/\v=lL x t)
 |.inl i,v,h=>by have #[t,e]:=Value.isInt_shape (k:=i) (v:=v) h;exact .inl {i,t,U,e}
 |.inr x,v,h=>by have #[t,e]:=Value.isStrOf_shape (x:=x) (v:=v) h;exact .inr {x,t,U,e}
theorem zgr(i:Int)(t:Tok):QT (.inl i) (.int i t)=ae:=by simp[QT,Value.isInt]
theorem zgs(x:Str)(t:Tok):QT (.inr x) (.str x t)=ae:=by simp[QT,Value.isStrOf]
theorem zmj(a b:Int):decide ((lK a:Key)=lK b)=(a==b):=by
 by_cases e:a=b
 .subst e;simp
 .have h:¬ (lK a:Key)=lK b:=λq=>e (oZ q);rw[Bk h];exact(beq_eq_false_iff_ne.mpr e).symm
theorem zmk(a b:Str):decide ((tH a:Key)=tH b)=decide (a=b):=by
 by_cases e:a=b
 .subst e;simp
 .have h:¬ (tH a:Key)=tH b:=λq=>e (Sum.inr.inj q);rw[Bk h,Bk e]
theorem zml(a:Int)(b:Str):decide ((lK a:Key)=tH b)=ah:=Bk (λq=>nomatch q)
theorem zmm(a:Str)(b:Int):decide ((tH a:Key)=lK b)=ah:=Bk (λq=>nomatch q)
def yg(c:aq)(w:ax):PySem.KeyKind c w Key where
 is:=QT
 hash:=zoo w
 inj:=λv a b l f=>by
  obtain ⟨i,t,rfl,rfl⟩|⟨x,t,rfl,rfl⟩:=y6 l
  .obtain ⟨j,u,rfl,e⟩|⟨y,u,rfl,e⟩:=y6 f
   .injection e with e1 _;rw[e1]
   .exact nomatch e
  .obtain ⟨j,u,rfl,e⟩|⟨y,u,rfl,e⟩:=y6 f
   .exact nomatch e
   .injection e with e1 _;rw[e1]
 byValue:=λk v h=>by obtain ⟨i,t,rfl,rfl⟩|⟨x,t,rfl,rfl⟩:=y6 h <;> rfl
 pyHash:=λd h=>by
  obtain ⟨i,t,rfl,rfl⟩|⟨x,t,rfl,rfl⟩:=y6 d
  .exact wpAny_pyHash_int h
  .exact wpAny_pyHash_str h
 eqBool:=λg d h=>by
  obtain ⟨i,t,rfl,rfl⟩|⟨x,t,rfl,rfl⟩:=y6 g
  .obtain ⟨j,u,rfl,rfl⟩|⟨y,u,rfl,rfl⟩:=y6 d
   .rw[zmj] at h;exact wpAny_eqBool_int h
   .rw[zml] at h;exact sS i t y u _ _ _ _ h
  .obtain ⟨j,u,rfl,rfl⟩|⟨y,u,rfl,rfl⟩:=y6 d
   .rw[zmm] at h;exact sT x t j u _ _ _ _ h
   .rw[zmk] at h;exact wpAny_eqBool_str h
 «strs»:=λk x t v h=>by
  obtain ⟨i,u,rfl,e⟩|⟨y,u,rfl,e⟩:=y6 h
  .exact nomatch e
  .injection e with e1 _;subst e1;cases v <;> rfl
theorem W8(a:aq)(w:ax)(i:Int)(t:Tok):(yg a w).is (.inl i) (.int i t)=ae:=zgr i t
theorem W9(a:aq)(w:ax)(x:Str)(t:Tok):(yg a w).is (.inr x) (.str x t)=ae:=zgs x t
inductive V where
 |non|bl (b:Bool)|int (i:Int)|str (x:Str)|byt (b:Array UInt8)|flt (b:UInt64)|ref (a:B)|ty (n:String)
 deriving DecidableEq
def aR:V->am->Prop
 |.non,u=>u=cE
 |.bl b,u=>u=ma b
 |.int i,u=>∃t,u=f9 i t
 |.str x,u=>∃t,u=lL x t
 |.byt b,u=>∃t,u=Value.bytes b t
 |.flt b,u=>∃t,u=uq b t
 |.ref a,u=>u=bN a
 |.ty n,u=>u=fB n
abbrev LV:=List V
abbrev zS:=List am
abbrev aP:LV->zS->Prop:=Bl aR
theorem aP.length(r:aP xs us):xs.length=us.length:=bO r
theorem aP.get:∀ {a:LV}{b:zS}{i:Nat}{x:V},aP a b->a[i]?=Y x->∃u,b[i]?=Y u/\aR x u
 |_,_,_,_,.nil,e=>by simp at e
 |_,_,0,_,.cons r _,e=>by simp at e;subst e;exact{_,U,r}
 |_,_,i+1,x,.cons _ t,e=>by have #[u,d,c]:=aP.get (i:=i) (x:=x) t (by simpa using e);exact{u,by simpa using d,c}
theorem aP.append:∀ {b a:LV}{d c:zS},aP b d->aP a c->aP (b++a) (d++c)
 |_,_,_,_,.nil,s=>s
 |_,_,_,_,.cons r t,s=>.cons r (aP.append t s)
theorem aP.take:∀ {a:LV}{b:zS}(n:Nat),aP a b->aP (a.take n) (b.take n)
 |_,_,0,_=>.nil
 |_,_,_+1,.nil=>.nil
 |_,_,n+1,.cons r t=>.cons r (aP.take n t)
theorem aP.drop:∀ {a:LV}{b:zS}(n:Nat),aP a b->aP (a.drop n) (b.drop n)
 |_,_,0,r=>r
 |_,_,_+1,.nil=>.nil
 |_,_,n+1,.cons _ t=>aP.drop n t
def u9:Option V->Option am->Prop
 |some v,Y u=>aR v u
 |none,af=>True
 |_,_=>False
def KV{a:Type}:List (a×V)->List (a×am)->Prop:=Bl λ(p:a×V)(q:a×am)=>p.1=q.1/\aR p.2 q.2
def kV:Key->V
 |.inl i=>.int i
 |.inr x=>.str x
abbrev xt:=List Key
abbrev ya:=List (xt×V)
abbrev xN:=List (Key×V)
abbrev LSV:=List (Str×V)
inductive HO where
  |lst (xs:LV)
  |tup (xs:LV)
  |dK (aK:xN)|dT (aK:ya)
  |set (S:Int->Bool) (n:Nat)
  |ins (C dx:B) (fs:LSV)
  |own (x:B)
  |xd (fs:LSV)
  |met (f x:B)
  |rng (lo hi:Int)
  |frz (o:Obj) (u:HO)
  |tbl (ps:Array am)
  |ext (φ:au->Prop)
abbrev Hp:=B->Option HO
def upd(H:Hp)(a:B)(o:HO):Hp:=λb=>if b=a then Y o else H b
theorem zh{H:Hp} :upd H a o a=Y o:=by unfold upd;rw[ao rfl]
theorem zk{H:Hp}(h:b≠a):upd H a o b=H b:=by unfold upd;rw[ag h]
theorem Je{H:Hp} :upd (upd H a o) a u=upd H a u:=by funext b;unfold upd;split <;> rfl
theorem zJ{H:Hp}(h:H a=Y o)(c:H b=Y u)(d:o≠u):a≠b:=by intro e;subst e;rw[h] at c;exact d (bX c)
theorem zq{H:Hp}(h:H a=Y o)(c:H b=af):a≠b:=by intro e;subst e;rw[h] at c;cases c
section
variable (P:aq)(w:ax)
def aT(H:Hp)(h:au)(a:B):HO->Prop
 |.lst c=>c.length<=Bb/\∃(b:zS)(n:Nat),aP c b/\h.get? a=Y { cls:=.type "list",data:=.seq b.toArray n }
 |.tup c=>c.length<=Bb/\∃b:zS,aP c b/\IsTup h a b.toArray
 |.dK aK=>aK.length<=Bb/\(a==sysModules)=ah/\∃e,KV aK e/\h.DictOf (yg P w) a e
 |.dT aK=>aK.length<=Bb/\(a==sysModules)=ah/\∃c:List (xt×B×am),
   Bl (λ(p:xt×V)(q:xt×B×am)=>p.1=q.1/\H q.2.1=Y (.tup (p.1.map kV))/\aR p.2 q.2.2) aK c /\
   ∃o j k,h.get? a=Y o/\o.ExactDict/\o.data=.dict j k/\j.toList=c.map (entryOfKey (tupleKind (yg P w)))/\(c.map (·.1)).Nodup
 |.set S n=>h.SetOf (intKind P w) a S n
 |.ins C dx fs=>H dx=Y (.own a)/\fs.length<=1000/\dx≠a/\h.get? a=Y (gU C dx) /\
   ∃d,h.Ns1 dx d/\(∀f,u9 (fs.lookup f) (d f))/\tX d (fs.map (·.1))
 |.own _=>∃o,h.get? a=Y o
 |.xd fs=>∃d,h.Ns1 a d/\∀f,u9 (fs.lookup f) (d f)
 |.rng lo hi=>∃t u v,h.get? a=Y { cls:=.type "range",data:=.fields #[.int lo t,.int hi u,.int 1 v] }
 |.frz o u=>h.get? a=Y o/\aT H h a u
 |.tbl ps=>h.get? a=Y { cls:=.none,data:=.fields ps }
 |.met f x=>h.get? a=Y (ur (.ref f) (.ref x))
 |.ext φ=>φ h/\(∃o,h.get? a=Y o)/\∀i g:au,φ i->(∀o,i.get? a=Y o->g.get? a=Y o)->φ g
def As(H:Hp)(h:au):Prop:=∀a o,H a=Y o->aT P w H h a o
end
variable {P:aq}{w:ax}{H H':Hp}{h h':au}{a:B}
section
variable {o:HO}
theorem aT.lt(x:aT P w H h a o):a<h.objs.size:=by
 cases o with
 |lst xs=>have #[_,_,_,_,e]:=x;exact bF e
 |tup xs=>have #[_,_,_,p]:=x;exact p.lt
 |dK aK=>have #[_,_,_,_,o,_,_,e,_]:=x;exact bF e
 |dT aK=>have #[_,_,_,_,o,_,_,e,_]:=x;exact bF e
 |set S n=>have #[o,_,_,_,e,_]:=x;exact bF e
 |ins C dx fs=>have #[_,_,_,e,_]:=x;exact bF e
 |own y=>have #[_,e]:=x;exact bF e
 |xd fs=>have #[_,#[_,_,_,e,_],_]:=x;exact bF e
 |rng lo hi=>have #[_,_,_,e]:=x;exact bF e
 |frz ob u=>have #[e,_]:=x;exact bF e
 |tbl ps=>exact bF (show h.get? a=Y _ from x)
 |met f y=>exact bF (show h.get? a=Y _ from x)
 |ext φ=>have #[_,#[_,e],_]:=x;exact bF e
theorem Paired.mapP{g e:Type}{F G:g->e->Prop}:∀ {d:List g}{c:List e},Bl F d c->(∀a b,F a b->G a b)->Bl G d c
 |_,_,.nil,_=>.nil
 |_,_,.cons r t,f=>.cons (f _ _ r) (Paired.mapP t f)
theorem aT.stay(x:aT P w H h a o)(k:∀b u,(b=a\/H b=Y (.own a))->h.get? b=Y u->h'.get? b=Y u)(J:∀b,H b=Y (.own a)->H' b=Y (.own a))(I:∀b m,H b=Y (.tup m)->H' b=Y (.tup m)):aT P w H' h' a o:=by
 induction o with
 |lst m=>have #[z,l,n,r,e]:=x;exact{z,l,n,r,k _ _ (.inl U) e}
 |tup m=>have #[z,l,r,g,e,c]:=x;exact{z,l,r,g,k _ _ (.inl U) e,c}
 |dK aK=>have #[z,y,E,r,g,i,j,e,c]:=x;exact{z,y,E,r,g,i,j,k _ _ (.inl U) e,c}
 |dT aK=>
  have #[z,y,m,r,g,i,j,e,c]:=x;exact{z,y,m,Paired.mapP r λp q z=>{z.1,I _ _ z.2.1,z.2.2},g,i,j,k _ _ (.inl U) e,c}
 |set S n=>have #[g,i,j,t,e,c]:=x;exact{g,i,j,t,k _ _ (.inl U) e,c}
 |ins C dx fs=>
  have #[d,z,G,e,A,#[s,i,j,M,c],r]:=x;exact{J _ d,z,G,k _ _ (.inl U) e,A,{s,i,j,k _ _ (.inr d) M,c},r}
 |own y=>have #[g,e]:=x;exact{g,k _ _ (.inl U) e}
 |xd fs=>have #[A,#[s,i,j,e,c],r]:=x;exact{A,{s,i,j,k _ _ (.inl U) e,c},r}
 |rng lo hi=>have #[t,u,v,e]:=x;exact{t,u,v,k _ _ (.inl U) e}
 |frz g u ih=>have #[e,q]:=x;exact{k _ _ (.inl U) e,ih q}
 |tbl ps=>
  have e:h.get? a=Y { cls:=.none,data:=.fields ps }:=x;show h'.get? a=Y { cls:=.none,data:=.fields ps };exact k a _ (.inl U) e
 |met f y=>
  have e:h.get? a=Y (ur (.ref f) (.ref y)):=x;show h'.get? a=Y (ur (.ref f) (.ref y));exact k a _ (.inl U) e
 |ext φ=>have #[p,#[o,e],D]:=x;exact{D _ _ p λo q=>k _ _ (.inl U) q,{o,k _ _ (.inl U) e},D}
theorem As.lt(x:As P w H h)(e:H a=Y o):a<h.objs.size:=(x a o e).lt
theorem As.fresh(x:As P w H h)(e:h.objs.size<=a):H a=af:=by
 cases q:H a with
 |none=>rfl
 |some u=>exact absurd (cb (x.lt q) e) (gb _)
theorem As.kept(x:As P w H h)(k:∀b u,h.get? b=Y u->h'.get? b=Y u):As P w H h':=λa o e=>
 (x a o e).stay (λb u _ q=>k b u q) (λ_ q=>q) λ_ _ q=>q
theorem As.laid(x:As P w H h)(k:∀b u,h.get? b=Y u->h'.get? b=Y u)(g:h.objs.size<=a)(d:aT P w (upd H a o) h' a o):As P w (upd H a o) h':=λb u e=>by
 have f:=x.fresh g;by_cases hb:b=a
 .subst hb;rw[zh] at e;cases e;exact d
 .rw[zk hb] at e;exact(x b u e).stay (λc v _ q=>k c v q) (λc q=>by rw[zk (zq q f)];exact q) λc i q=>by rw[zk (zq q f)];exact q
end
def Rd(H:Hp)(a:B)(u:HO):Prop:=H a=Y u\/∃o,H a=Y (.frz o u)
theorem Rd.ok{H:Hp}(r:Rd H a u)(x:As P w H h):aT P w H h a u:=by
 obtain r|⟨o,r⟩:=r
 .exact x a u r
 .have #[_,q]:=x a _ r;exact q
def Mut:Option HO->Prop
 |some (.lst _)=>True
 |some (.dK _)=>True
 |some (.dT _)=>True
 |some (.set _ _)=>True
 |some (.ins _ _ _)=>True
 |some (.ext _)=>True
 |_=>False
variable {x:B}
section
variable {e:B}{o':HO}
theorem As.write(o:As P w H h)(i:Mut (H x))(n:e=x\/H e=Y (.own x))(k:∀b u,b≠e->h.get? b=Y u->h'.get? b=Y u)(l:∃u,h'.get? e=Y u)(j:aT P w (upd H x o') h' x o'):As P w (upd H x o') h':=λb u q=>by
 have d:∀c y,H c=Y (.own y)->c≠x:=λc y r z=>by subst z;rw[r] at i;exact i
 have f:∀c g,H c=Y (.tup g)->c≠x:=λc g r z=>by subst z;rw[r] at i;exact i
 by_cases hb:b=x
 .subst hb;rw[zh] at q;cases q;exact j
 .rw[zk hb] at q;by_cases hbe:b=e
  .have m:H b=Y (.own x):=by
    obtain z|z:=n
    .exact absurd (hbe.trans z) hb
    .rw[hbe];exact z
   rw[q] at m;cases m;have #[v,p]:=l;exact{v,by rw[hbe];exact p}
  .refine(o b u q).stay (λc v hc r=>k c v ?_ r) (λc r=>by rw[zk (d c b r)];exact r) λc g r=>by rw[zk (f c g r)];exact r
   obtain rfl|hc:=hc
   .exact hbe
   .rintro rfl;obtain z|z:=n
    .exact d c b hc z
    .rw[hc] at z;cases z;exact hb rfl
end
structure Un(fs ex:List B)(H H':Hp)(h h':au):Prop where
 keep:∀b o,h.get? b=Y o->H b=af->b ∉ fs->b ∉ ex->h'.get? b=Y o
 slot:∀b o,h.get? b=Y o->H b=af->b∈fs->b ∉ ex->∃sl,h'.get? b=Y { o with slots:=sl }
 free:∀b o,h.get? b=Y o->H b=af->b ∉ ex->H' b=af
 there:∀b o,h.get? b=Y o->b ∉ ex->∃o',h'.get? b=Y o'
 tups:∀b xs,H b=Y (.tup xs)->H' b=Y (.tup xs)
 frzs:∀b o u,H b=Y (.frz o u)->H' b=Y (.frz o u)
 tbls:∀b ps,H b=Y (.tbl ps)->∃more,H' b=Y (.tbl (ps++more))
section
variable {fs fs' ex ex':List B}{H1 H2:Hp}{h1 h2:au}{e:B}{o:HO}
theorem Un.any(u:Un fs ex H H1 h h1)(q:h.get? b=Y ob)(n:H b=af)(c:b ∉ ex):∃sl,h1.get? b=Y { ob with slots:=sl }:=by
 by_cases hb:b∈fs
 .exact u.slot b ob q n hb c
 .exact{ob.slots,u.keep b ob q n hb c}
theorem Un.kept(k:∀b u,h.get? b=Y u->h'.get? b=Y u):Un fs ex H H h h':=
 {λb c q _ _ _=>k b c q,λb c q _ _ _=>{c.slots,k b c q},λ_ _ _ n _=>n,λb c q _=>{c,k b c q},λ_ _ q=>q,λ_ _ _ q=>q,λ_ ps q=>{#[],by rw[q];simp}}
theorem Un.refl:Un fs ex H H h h:=Un.kept λ_ _ q=>q
theorem Un.laid(k:∀b u,h.get? b=Y u->h'.get? b=Y u)(d:h.objs.size<=a)(c:H a=af):Un fs ex H (upd H a o) h h' where
 keep:=λb u q _ _ _=>k b u q
 slot:=λb u q _ _ _=>{u.slots,k b u q}
 free:=λb u q n _=>by rw[zk (bK (cb (bF q) d))];exact n
 there:=λb u q _=>{u,k b u q}
 tups:=λb xs q=>by rw[zk (zq q c)];exact q
 frzs:=λb u xs q=>by rw[zk (zq q c)];exact q
 tbls:=λb ps q=>{#[],by rw[zk (zq q c),q];simp}
theorem Un.write(c:Mut (H x))(l:e=x\/H e=Y (.own x))(k:∀b u,b≠e->h.get? b=Y u->h'.get? b=Y u)(f:∃u,h'.get? e=Y u):Un fs ex H (upd H x o) h h':=by
 have g:∀b,H b=af->b≠x:=λb n z=>by subst z;rw[n] at c;exact c
 have i:∀b,H b=af->b≠e:=λb n z=>by
  subst z;obtain r|r:=l
  .exact g b n r
  .rw[n] at r;cases r
 have d:∀b u,H b=Y u->¬ Mut (Y u)->b≠x:=λb u q j z=>by subst z;rw[q] at c;exact j c
 refine{λb u q n _ _=>k b u (i b n) q,λb u q n _ _=>{u.slots,k b u (i b n) q},λb u q n _=>by rw[zk (g b n)];exact n,λb u q _=>?_,
  λb xs q=>by rw[zk (d b _ q λz=>z)];exact q,λb u xs q=>by rw[zk (d b _ q λz=>z)];exact q,λb ps q=>{#[],by rw[zk (d b _ q λz=>z),q];simp}}
 by_cases hbe:b=e
 .subst hbe;exact f
 .exact{u,k b u hbe q}
end
def trk(h:au)(H:Hp):List B:=(cG h.objs.size).filter λa=>(H a).isSome
def zaZ(h:au)(H:Hp):au:=W.hideAll h (trk h H)
theorem zgt(h:au)(H:Hp):(zaZ h H).objs.size=h.objs.size:=W.hideAll_size _ _
theorem zhJ{H:Hp}(e:h.get? b=Y o)(n:H b=af):(zaZ h H).get? b=Y o:=
 W.hideAll_get _ e λc=>by have q:(H b).isSome=ae:=(da.mp c).2;rw[n] at q;simp at q
theorem zkl{H:Hp}(e:(zaZ h H).get? b=Y o):h.get? b=Y o/\H b=af:=by
 have c:h.get? b=Y o:=W.of_hideAll (trk h H) e;refine{c,?_};cases q:H b with
 |none=>rfl
 |some x=>
  have d:b∈trk h H:=da.mpr {gZ.mpr (bF c),by simp[q]};have z:(zaZ h H).get? b=af:=W.hideAll_none (trk h H) d;rw[z] at e;cases e
abbrev uX:=List (B×Obj)
def zkm(g h:au)(b:B):uX:=(cG h.objs.size).filterMap λa=>if a=b\/(g.get? a).isSome=ae then af else (h.get? a).map λo=>(a,o)
def rest(g h:au)(b d:B):uX:=(zkm g h b).filter λp=>decide (p.1≠d)
abbrev Ak:=Str->Option am
structure Mod(K:bE)(mg:Ak)(base:au):Prop where
 kin:K.In base
 glob:base.Ns Bd mg
 blt:∃mb,base.Ns builtinsNs mb/\∀x:Str,x≠"__name__"->mb x=Bh x
 nolimit:base.NoLimit
abbrev zQ:=List Str
abbrev nA:=am->ak->Prop
abbrev LEv:=List Env
set_option genSizeOf false in
set_option genInjectivity false in
structure Cx where
 p:aq
 w:ax
 K:bE
 mg:Ak
 M:au
 A:aw
 N:zQ
 s₀:ak
 H₀:Hp
 e:Env
 J:LEv
 k:LEv
 ex:List B
 fn:Str->Bool
 c:Bool
 pn:uX
 xe:nA
def frs(l:LEv):List B:=l.filterMap (·.frame)
abbrev Cx.fs(X:Cx):List B:=frs X.J
def Vis(b:aA)(x:Str):Prop:=b.names.lookup x=Y .local\/b.names.lookup x=Y .cell\/b.names.lookup x=Y .free
def Loc(b:aA)(x:Str):Prop:=b.names.lookup x=Y .local\/b.names.lookup x=Y .cell
def zop(b:Env)(h:au)(m:Ak)(x:Str)(u:am):Prop:=
 (b.kindOf x=Y .local/\m x=Y u)\/((b.kindOf x=Y .cell\/b.kindOf x=Y .free)/\∃c,b.cells.lookup x=Y c/\h.IsCell c (Y u))
structure Cx.Ok(X:Cx):Prop where
 mod:Mod X.K X.mg X.M
 kind:X.e.scope.kind=.function
 glob:X.e.globals=Bd
 blt:X.e.builtins=builtinsNs
 above:X.s₀.heap.objs.size<=X.e.locals
 inj:∀x y c,X.e.cells.lookup x=Y c->X.e.cells.lookup y=Y c->x=y
 has:∀x,(X.e.kindOf x=Y .cell\/X.e.kindOf x=Y .free)->∃c,X.e.cells.lookup x=Y c
 cab:∀x c,X.fn x=ae->X.e.cells.lookup x=Y c->X.s₀.heap.objs.size<=c
 hd:X.c=ae->X.A.handled=af
 frames:X.A.frames=Y X.k
 stk:X.k=X.J\/(X.k=X.e::X.J/\X.e.frame=Y X.e.locals)
 exf:∀b∈X.ex,b≠X.e.locals/\∀x c,X.e.cells.lookup x=Y c->c≠b
 bs:∀b o,X.M.get? b=Y o->X.s₀.heap.get? b=Y o/\X.H₀ b=af
 bsz:X.M.objs.size<=X.s₀.heap.objs.size
 noex:∀b o,X.M.get? b=Y o->b ∉ X.ex
 exfs:∀b∈X.ex,b ∉ X.fs
 funs:X.s₀.heap.FunFrames X.M X.J
 frf:∀b∈X.fs,X.H₀ b=af
structure aN(X:Cx)(aa:uX)(σ:List (Option V))(H:Hp)(s:ak):Prop where
 ok:X.Ok
 os:s.os=X.s₀.os
 bare:AllBare s.gens
 base:Un X.fs X.ex X.H₀ H X.s₀.heap s.heap
 loc:∃m,s.heap.Ns X.e.locals m/\∀(i:Nat)(x:Str)(v:V),X.N[i]?=Y x->σ[i]?=Y (Y v)->Vis X.e.scope x->∃u,aR v u/\zop X.e s.heap m x u
 cell:∀x c,X.e.cells.lookup x=Y c->∃v,s.heap.IsCell c v
 free:H X.e.locals=af
 freeC:∀x c,X.e.cells.lookup x=Y c->H c=af
 pin:∀p∈X.pn++aa,s.heap.get? p.1=Y p.2/\H p.1=af/\p.1≠X.e.locals/\p.1 ∉ X.fs/\∀v,p.2.data≠.cell v
 hok:As X.p X.w H s.heap
 len:σ.length=X.N.length
variable {X:Cx}{aa:uX}{s:ak}
section
variable {σ:List (Option V)}
theorem Cx.Ok.nofr(d:X.Ok)(e:X.M.get? b=Y o):b ∉ X.fs:=λf=>by have:=(d.funs.mem f).1;rw[e] at this;cases this
theorem aN.bs(I:aN X aa σ H s):∀b o,X.M.get? b=Y o->s.heap.get? b=Y o/\H b=af:=λb o e=>
 {I.base.keep b o (I.ok.bs b o e).1 (I.ok.bs b o e).2 (I.ok.nofr e) (I.ok.noex b o e),I.base.free b o (I.ok.bs b o e).1 (I.ok.bs b o e).2 (I.ok.noex b o e)}
theorem aN.bk(I:aN X aa σ H s):∀b o,X.M.get? b=Y o->s.heap.get? b=Y o:=λb o e=>(I.bs b o e).1
theorem aN.mod(I:aN X aa σ H s):Mod X.K X.mg X.M:=I.ok.mod
theorem aN.kIn(I:aN X aa σ H s):X.K.In s.heap:=I.ok.mod.kin.keeps I.bk
theorem aN.lt(I:aN X aa σ H s):X.e.locals<s.heap.objs.size:=let ⟨_,hn,_⟩:=I.loc;hn.lt
theorem aN.sz(I:aN X aa σ H s):X.s₀.heap.objs.size<=s.heap.objs.size:=b9 I.ok.above (mH I.lt)
theorem aN.nofs(I:aN X aa σ H s)(h:s.heap.objs.size<=a):a ∉ X.fs:=λd=>by have #[_,o,b,_]:=I.ok.funs.mem d;exact absurd (cb (bF b) (b9 I.sz h)) (gb _)
theorem aN.cne(I:aN X aa σ H s):∀x c,X.e.cells.lookup x=Y c->c≠X.e.locals:=λx c e z=>by have #[v,o,f,g]:=I.cell x c e;have #[m,#[j,k,l,b,d,_],_]:=I.loc;rw[z,b] at f;cases f;rw[d] at g;cases g
theorem aN.funs(I:aN X aa σ H s):s.heap.FunFrames X.M X.J:=by
 have k:∀(l:LEv),(∀b∈frs l,b∈X.fs)->X.s₀.heap.FunFrames X.M l->s.heap.FunFrames X.M l:=by
  intro l;induction l with
  |nil=>intro _ _;trivial
  |cons env r ih=>
   intro n A;have #[C,#[d,o,f,y,t,D],q]:=A;have j:d∈X.fs:=n d (by unfold frs;rw[nH,f];exact bu);have #[E,e]:=I.base.slot d o t (I.ok.frf d j) j λz=>I.ok.exfs d z j;exact{C,{d,_,f,y,e,D},ih (λb g=>n b (by unfold frs;rw[nH,f];exact bw _ g)) q}
 exact k X.J (λ_ g=>g) I.ok.funs
theorem aN.stack(I:aN X aa σ H s):s.heap.FunFrames X.M X.k:=by
 obtain e|⟨e,hf⟩:=I.ok.stk
 .rw[e];exact I.funs
 .rw[e];have #[m,b,_]:=I.loc;refine .cons (by rw[I.ok.kind];decide) hf b ?_ I.funs;exact Heap.get?_none_of_le (b9 I.ok.bsz I.ok.above)
theorem aN.stkSub(I:aN X aa σ H s):∀b∈frs X.k,b∈X.e.locals::X.fs:=λb d=>by
 obtain e|⟨e,hf⟩:=I.ok.stk
 .rw[e] at d;exact bw _ d
 .rw[e] at d;unfold frs at d;rw[nH,hf] at d;exact d
theorem aN.stkFree(I:aN X aa σ H s):∀b∈frs X.k,H b=af:=λb hb=>by
 obtain e|hb:=bn.mp (I.stkSub b hb)
 .rw[e];exact I.free
 .have #[_,o,d,_]:=I.ok.funs.mem hb;exact I.base.free b o d (I.ok.frf b hb) λz=>I.ok.exfs b z hb
theorem aN.step{t':Nat}{d':Drawn}{ch:List B}(I:aN X aa σ H s)(t:∀b∈ch,(b∈X.ex\/X.s₀.heap.objs.size<=b)/\b≠X.e.locals/\(∀x c,X.e.cells.lookup x=Y c->c≠b)/\∀p∈X.pn++aa,p.1≠b)(j:∀b o,b≠X.e.locals->b ∉ X.fs->b ∉ ch->s.heap.get? b=Y o->H b=af->h'.get? b=Y o)(E:∀b o,b≠X.e.locals->b∈X.fs->b ∉ ch->s.heap.get? b=Y o->H b=af->∃sl,h'.get? b=Y { o with slots:=sl })(free:∀b o,b ∉ ch->s.heap.get? b=Y o->H b=af->H' b=af)(G:∀b o,b ∉ ch->s.heap.get? b=Y o->∃T,h'.get? b=Y T)(O:∀b D,H b=Y (.tup D)->H' b=Y (.tup D))(aj:∀b o u,H b=Y (.frz o u)->H' b=Y (.frz o u))(Q:∀b ps,H b=Y (.tbl ps)->∃ai,H' b=Y (.tbl (ps++ai)))(ns:∀m,s.heap.Ns X.e.locals m->h'.Ns X.e.locals m)(hok:As X.p X.w H' h')(hg:AllBare g') :
  aN X aa σ H' { s with heap:=h',gens:=g',drawn:=d',toks:=t' }:=by
 have ab:∀b o,X.s₀.heap.get? b=Y o->b≠X.e.locals:=λb o e=>bK (cb (bF e) I.ok.above);have A:∀b o,X.s₀.heap.get? b=Y o->b ∉ X.ex->b ∉ ch:=λb o e f J=>by
  rcases(t b J).1 with z|z
  .exact f z
  .exact absurd (cb (bF e) z) (gb _)
 have y:∀x c,X.e.cells.lookup x=Y c->∀v,s.heap.IsCell c v->h'.IsCell c v:=λx c e v ⟨o,M,hd⟩=>by
  have g:c ∉ ch:=λz=>(t c z).2.2.1 x c e rfl;by_cases hc:c∈X.fs
  .have #[sl,q]:=E c o (I.cne x c e) hc g M (I.freeC x c e);exact{_,q,hd}
  .exact{o,j c o (I.cne x c e) hc g M (I.freeC x c e),hd}
 refine{I.ok,I.os,hg,{λb o e n J f=>?_,λb o e n J f=>?_,λb o e n f=>?_,λb o e f=>?_,λb D e=>O b D (I.base.tups b D e),λb o D e=>aj b o D (I.base.frzs b o D e),λb ps e=>?_},?_,λx c e=>?_,?_,λx c e=>?_,λp hp=>?_,hok,I.len}
 .exact j b o (ab b o e) J (A b o e f) (I.base.keep b o e n J f) (I.base.free b o e n f)
 .have #[sl,C]:=I.base.slot b o e n J f;have #[al,e2]:=E b _ (ab b o e) J (A b o e f) C (I.base.free b o e n f);exact{al,e2}
 .have #[T,C]:=I.base.there b o e f;exact free b T (A b o e f) C (I.base.free b o e n f)
 .have #[T,C]:=I.base.there b o e f;exact G b T (A b o e f) C
 .have #[m1,C]:=I.base.tbls b ps e;have #[m2,e2]:=Q b _ C;exact{m1++m2,by rw[e2,Array.append_assoc]}
 .have #[m,hn,hl]:=I.loc;refine{m,ns m hn,λi x v C e2 e3=>?_};have #[u,r,l]:=hl i x v C e2 e3;refine{u,r,?_};obtain l|⟨k,c,e,z⟩:=l
  .exact .inl l
  .exact .inr {k,c,e,y x c e _ z}
 .have #[v,z]:=I.cell x c e;exact{v,y x c e v z}
 .have #[m,#[o,_,_,M,_],_]:=I.loc;exact free _ o (λz=>(t _ z).2.1 U) M I.free
 .have #[v,o,M,hd]:=I.cell x c e;exact free c o (λz=>(t c z).2.2.1 x c e U) M (I.freeC x c e)
 .have #[e,n,ne,nf,d]:=I.pin p hp;have g:p.1 ∉ ch:=λz=>(t p.1 z).2.2.2 p hp rfl;exact{j p.1 p.2 ne nf g e n,free p.1 p.2 g e n,ne,nf,d}
theorem aN.un(I:aN X aa σ H s)(u:Un X.fs [] H H' s.heap h')(hok:As X.p X.w H' h'):aN X aa σ H' { s with heap:=h',toks:=t' }:=by
 have #[m,#[o,C,D,k,r],_]:=id I.loc;have #[y,t]:=u.any k I.free (by simp);exact I.step (g':=s.gens) (d':=s.drawn) (ch:=[]) () (λb o _ f _ e n=>u.keep b o e n f (by simp)) (λb o _ f _ e n=>u.slot b o e n f (by simp)) (λb o _ e n=>u.free b o e n (by simp)) (λb o _ e=>u.there b o e (by simp)) u.tups u.frzs u.tbls (λA q=>by have #[z,g,j,d,l]:=q;rw[k] at d;cases d;exact{_,g,j,t,l}) hok I.bare
theorem aN.call(I:aN X aa σ H s)(u:Un (frs X.k) ch H H' s.heap h')(hok:As X.p X.w H' h')(A:AllBare g')(g:∀b∈ch,(b∈X.ex\/X.s₀.heap.objs.size<=b)/\b≠X.e.locals/\(∀x c,X.e.cells.lookup x=Y c->c≠b)/\∀p∈X.pn++aa,p.1≠b) :
  aN X aa σ H' { s with heap:=h',gens:=g',drawn:=d',toks:=t' }:=by
 have #[m,#[o,J,M,q,r],_]:=id I.loc;have #[D,j]:=u.any q I.free λz=>(g _ z).2.1 rfl;exact I.step (ch:=ch) g (λb o j C d e n=>u.keep b o e n (λz=>(bn.mp (I.stkSub b z)).elim j C) d) (λb o _ _ d e n=>u.any e n d) (λb o d e n=>u.free b o e n d) (λb o d e=>u.there b o e d) u.tups u.frzs u.tbls (λG y=>by have #[E,k,l,f,t]:=y;rw[q] at f;cases f;exact{_,k,l,j,t}) hok A
theorem aN.turned(I:aN X aa σ H s)(k:∀b o,b≠it->s.heap.get? b=Y o->h'.get? b=Y o)(l:H it=af)(g:it≠X.e.locals)(D:it∈X.ex\/X.s₀.heap.objs.size<=it)(C:∀x c,X.e.cells.lookup x=Y c->c≠it)(A:∀p∈X.pn++aa,p.1≠it):aN X aa σ H { s with heap:=h',toks:=t' }:=by
 have f:∀b u,H b=Y u->b≠it:=λb u e z=>by rw[z,l] at e;cases e
 refine I.step (g':=s.gens) (d':=s.drawn) (ch:=[it]) (λb y=>?_) (λb o _ _ d e _=>k b o (λz=>d (by simp[z])) e) (λb o _ _ d e _=>{o.slots,k b o (λz=>d (by simp[z])) e}) (λ_ _ _ _ n=>n)
  (λb o d e=>{o,k b o (λz=>d (by simp[z])) e}) (λ_ _ e=>e) (λ_ _ _ e=>e) (λb J e=>{#[],by rw[e];simp}) (λm t=>?_) (λb u e=>?_) I.bare
 .have e:b=it:=by simpa using y
  subst e;exact{D,g,C,A}
 .have #[o,E,G,j,r]:=t;exact{o,E,G,k _ o (eh g) j,r}
 .refine(I.hok b u e).stay (λc v d q=>k c v ?_ q) (λ_ q=>q) λ_ _ q=>q;obtain z|z:=d
  .rw[z];exact f b u e
  .exact f c _ z
theorem aN.tok(I:aN X aa σ H s)(t:Nat):aN X aa σ H { s with toks:=t }:=I.un (h':=s.heap) (t':=t) Un.refl I.hok
theorem aN.kept(I:aN X aa σ H s)(k:∀b u,s.heap.get? b=Y u->h'.get? b=Y u):aN X aa σ H { s with heap:=h',toks:=t' }:=I.un (Un.kept k) (I.hok.kept k)
theorem aN.laid(I:aN X aa σ H s)(k:∀b u,s.heap.get? b=Y u->h'.get? b=Y u)(e:s.heap.objs.size<=a)(d:aT X.p X.w (upd H a o) h' a o) :
  aN X aa σ (upd H a o) { s with heap:=h',toks:=t' }:=I.un (Un.laid k e (I.hok.fresh e)) (I.hok.laid k e d)
theorem aN.write(I:aN X aa σ H s)(g:Mut (H x))(j:e=x\/H e=Y (.own x))(k:∀b u,b≠e->s.heap.get? b=Y u->h'.get? b=Y u)(d:∃u,h'.get? e=Y u)(f:aT X.p X.w (upd H x o) h' x o):aN X aa σ (upd H x o) { s with heap:=h',toks:=t' }:=I.un (Un.write g j k d) (I.hok.write g j k d f)
theorem aN.pins_of(I:aN X aa σ H s)(h:∀p∈pins',s.heap.get? p.1=Y p.2/\H p.1=af/\p.1≠X.e.locals/\p.1 ∉ X.fs/\∀v,p.2.data≠.cell v):aN X pins' σ H s:=
 {I.ok,I.os,I.bare,I.base,I.loc,I.cell,I.free,I.freeC,λp b=>(bP.mp b).elim (λz=>I.pin p (eX _ z)) (h p),I.hok,I.len}
theorem zcc{N:zQ}(c:N.Nodup){i j:Nat}{x:Str}(a:N[i]?=Y x)(b:N[j]?=Y x):i=j:=by have #[g,e]:=bp.mp a;have #[f,d]:=bp.mp b;exact(gW c).mp (e.trans d.symm)
theorem QU{M:Model}{E:nA}{i:Nat}{x:Str}{Q:Unit->ak->Prop}(I:aN X aa σ H s)(hN:X.N.Nodup)(hi:X.N[i]?=Y x)(t:Loc X.e.scope x)(r:aR v u)(h:∀s',aN X aa (σ.set i (Y v)) H s'->(∃a,cv a s.heap s'.heap/\(a=X.e.locals\/X.e.cells.lookup x=Y a))->Q PUnit.unit s')(hf:X.fn x=ae\/X.e.scope.names.lookup x=Y .local:=by first|exact .inl rfl|exact .inr rfl|assumption):Bf M A (storeName X.e x u) Q E s:=by
 have #[m,hn,hl]:=id I.loc;have ai:(X.e.scope.kind==.class || (X.e.scope.kind==.module&&X.e.locals != X.e.globals))=ah:=by rw[I.ok.kind];rfl
 have G:i<σ.length:=by rw[I.len];exact(bp.mp hi).1
 have O:=I.cne;have g:∀ {a:B}{h':au},(∃o,s.heap.get? a=Y o/\H a=af)->cv a s.heap h'->As X.p X.w H h':=λ{a h'} ha f b ob e=>by
  have #[_,_,C]:=ha;refine(I.hok b ob e).stay (λc w' hc q=>(f.2 c ?_).trans q) (λ_ q=>q) λ_ _ q=>q;rintro rfl;obtain rfl|hc:=hc
  .rw[C] at e;cases e
  .rw[C] at hc;cases hc
 obtain hk|hk:=t
 .refine wpAny_storeName_local hk hn (λh' an f=>?_) ai;have #[oL,_,_,al,_]:=id hn;refine h _ {I.ok,I.os,I.bare,{λb o e n N t=>?_,λb o e n N t=>?_,I.base.free,λb o e t=>?_,I.base.tups,I.base.frzs,I.base.tbls},{_,an,λj y v' l D e3=>?_},λy c e=>?_,I.free,I.freeC,λp hp=>?_,g {oL,al,I.free} f,by simpa using I.len} {_,f,.inl U}
  .exact(f.2 b (bK (cb (bF e) I.ok.above))).trans (I.base.keep b o e n N t)
  .have #[sl,l]:=I.base.slot b o e n N t;exact{sl,(f.2 b (bK (cb (bF e) I.ok.above))).trans l}
  .have #[o',l]:=I.base.there b o e t;exact{o',(f.2 b (bK (cb (bF e) I.ok.above))).trans l}
  .by_cases hj:j=i
   .subst hj;rw[hi] at l;cases l;rw[lW G] at D;cases D;exact{u,r,.inl {hk,by simp}}
   .rw[m7 (eh hj)] at D;have #[u',r',q]:=hl j y v' l D e3;refine{u',r',?_};obtain ⟨k,e⟩|⟨k,c,e,z⟩:=q
    .refine .inl {k,?_};have:y≠x:=λe=>hj (zcc hN l (e ▸ hi));simp[this,e]
    .exact .inr {k,c,e,z.sameBut f (O y c e)}
  .have #[w',z]:=I.cell y c e;exact{w',z.sameBut f (O y c e)}
  .have #[e,n,ne,nf,d]:=I.pin p hp;exact{(f.2 p.1 ne).trans e,n,ne,nf,d}
 .have J:X.fn x=ae:=by
   obtain z|z:=hf
   .exact z
   .rw[z] at hk;cases hk
  have #[c,hc]:=I.ok.has x (.inl hk);have #[w',z]:=I.cell x c hc;refine wpAny_storeName_cell I.ok.kind hk hc z (λh' aj f=>?_);have #[oc,ab,T]:=id z;refine h { s with heap:=h' } {I.ok,I.os,I.bare,{λb o e n N t=>?_,λb o e n N t=>?_,I.base.free,λb o e t=>?_,I.base.tups,I.base.frzs,I.base.tbls},{m,hn.sameBut f (eh (O x c hc)),λj y v' l D e3=>?_},λy c' e=>?_,I.free,I.freeC,λp hp=>?_,g {oc,ab,I.freeC x c hc} f,by simpa using I.len} {c,f,.inr hc}
  .exact(f.2 b (bK (cb (bF e) (I.ok.cab x c J hc)))).trans (I.base.keep b o e n N t)
  .have #[sl,l]:=I.base.slot b o e n N t;exact{sl,(f.2 b (bK (cb (bF e) (I.ok.cab x c J hc)))).trans l}
  .have #[o',l]:=I.base.there b o e t;exact{o',(f.2 b (bK (cb (bF e) (I.ok.cab x c J hc)))).trans l}
  .by_cases hj:j=i
   .subst hj;rw[hi] at l;cases l;rw[lW G] at D;cases D;exact{u,r,.inr {.inl hk,c,hc,aj}}
   .rw[m7 (eh hj)] at D;have #[u',r',q]:=hl j y v' l D e3;refine{u',r',?_};obtain q|⟨k,c',e,z'⟩:=q
    .exact .inl q
    .refine .inr {k,c',e,z'.sameBut f ?_};rintro rfl;exact hj (zcc hN l (I.ok.inj _ _ _ e hc ▸ hi))
  .by_cases hcc:c'=c
   .subst hcc;exact{_,aj}
   .have #[w2,z2]:=I.cell y c' e;exact{w2,z2.sameBut f hcc}
  .have #[e,n,ne,nf,d]:=I.pin p hp;refine{(f.2 p.1 ?_).trans e,n,ne,nf,d};intro q;rw[q,ab] at e;have q':oc=p.2:=bX e;exact d w' (by rw[<-q'];exact T)
theorem Jt{M:Model}{E:nA}{i:Nat}{x:Str}{Q:Unit->ak->Prop}(I:aN X aa σ H s)(f:X.N.Nodup)(d:X.N[i]?=Y x)(c:Loc X.e.scope x)(r:aR v u)(h:∀b,aN X aa (σ.set i (Y v)) H b->Q PUnit.unit b)(e:X.fn x=ae\/X.e.scope.names.lookup x=Y .local:=by first|exact .inl rfl|exact .inr rfl|assumption):Bf M A (storeName X.e x u) Q E s:=
 QU I f d c r (λb g _=>h b g) e
theorem aN.call'(I:aN X aa σ H s)(g:s'.os=s.os)(u:Un (frs X.k) ch H H' s.heap s'.heap)(hok:As X.p X.w H' s'.heap)(j:AllBare s'.gens)(d:∀b∈ch,(b∈X.ex\/X.s₀.heap.objs.size<=b)/\b≠X.e.locals/\(∀x c,X.e.cells.lookup x=Y c->c≠b)/\∀p∈X.pn++aa,p.1≠b):aN X aa σ H' s':=by have #[h',g',d',t',f]:=s';have e:f=s.os:=g;subst e;exact I.call (g':=g') (t':=t') (d':=d') u hok j d
end
abbrev XK:=am->Option B->Hp->Prop
abbrev St:=List (Option V)
abbrev VK:=V->Hp->Prop
abbrev TE:=St->Hp->VK->Prop
abbrev TT:=St->Hp->(Bool->Hp->Prop)->Prop
abbrev TA:=St->Hp->(LV->Hp->Prop)->Prop
abbrev uU:=St->Hp->Prop
set_option genSizeOf false in
set_option genInjectivity false in
structure VT where
 nx:uU
 rt:VK
 bk:uU:=λ_ _=>False
 ct:uU:=λ_ _=>False
abbrev TS:=VT->uU
inductive EP(X:Cx)(aa:uX)(σ:St)(Q:VK)(u:am)(s':ak):Prop
 |mk (v H':_):aN X aa σ H' s'->aR v u->Q v H'->EP X aa σ Q u s'
def TP(X:Cx)(aa:uX)(c:St)(Q:Bool->Hp->Prop)(b:Bool)(d:ak):Prop:=∃H',aN X aa c H' d/\Q b H'
inductive AP(X:Cx)(aa:uX)(σ:St)(Q:LV->Hp->Prop)(us:zS)(s':ak):Prop
 |mk (vs H':_):aN X aa σ H' s'->aP vs us->Q vs H'->AP X aa σ Q us s'
inductive IvP(X:Cx)(aa:uX)(N:uU)(s':ak):Prop
 |mk (σ' H':_):aN X aa σ' H' s'->N σ' H'->IvP X aa N s'
inductive RtP(X:Cx)(aa:uX)(R:VK)(u:am)(s':ak):Prop
 |mk (v σ' H':_):aN X aa σ' H' s'->aR v u->R v H'->RtP X aa R u s'
def SP(X:Cx)(aa:uX)(D:VT)(f:Flow)(b:ak):Prop:=
 match f with
 |.next=>IvP X aa D.nx b
 |.brk=>IvP X aa D.bk b
 |.cont=>IvP X aa D.ct b
 |.ret u=>RtP X aa D.rt u b
def PE(X:Cx)(e:av)(t:TE):Prop:=
 ∀(aa:uX)(s:ak)(b:St)(H:Hp)(Q:VK),aN X aa b H s->t b H Q->Bf (Bg X.p X.w) X.A (eval e X.e) (EP X aa b Q) X.xe s
def PT(X:Cx)(e:av)(t:TT):Prop:=
 ∀(aa:uX)(s:ak)(b:St)(H:Hp)(Q:Bool->Hp->Prop),aN X aa b H s->t b H Q->Bf (Bg X.p X.w) X.A (isTrue e X.e (eval e X.e)) (TP X aa b Q) X.xe s
def PW(X:Cx)(e:av)(t:TT):Prop:=
 ∀(b:Sem am)(aa:uX)(s:ak)(c:St)(H:Hp)(Q:Bool->Hp->Prop),aN X aa c H s->t c H Q->Bf (Bg X.p X.w) X.A (isTrue e X.e b) (TP X aa c Q) X.xe s
theorem PW.pt(h:PW X e t):PT X e t:=h _
def PA(X:Cx)(d:List av)(t:TA):Prop:=
 ∀(c:Pos)(aa:uX)(s:ak)(b:St)(H:Hp)(Q:LV->Hp->Prop),aN X aa b H s->t b H Q->Bf (Bg X.p X.w) X.A (spliced (backTo c (Be d X.e))) (AP X aa b Q) X.xe s
def PS(X:Cx)(st:ap)(t:TS):Prop:=
 ∀(aa:uX)(s:ak)(b:St)(H:Hp)(D:VT),aN X aa b H s->t D b H->Bf (Bg X.p X.w) X.A (exec st X.e) (SP X aa D) X.xe s
def PSs(X:Cx)(st:List ap)(t:TS):Prop:=
 ∀(aa:uX)(s:ak)(b:St)(H:Hp)(D:VT),aN X aa b H s->t D b H->Bf (Bg X.p X.w) X.A (execs st X.e) (SP X aa D) X.xe s
theorem aW{b:Type}{t:Sem b}{Q c:b->ak->Prop}{M:Model}{E:nA}(h:Bf M A t Q E s)(d:∀a s,Q a s->c a s):Bf M A t c E s:=f6 h d λ_ _ x=>x
variable {b:av}{ta tb:TE}{pos:Pos}
section
inductive ze(i:Nat)(σ:St)(H:Hp)(Q:VK):Prop
 |mk (v:_):σ[i]?=Y (Y v)->Q v H->ze i σ H Q
def tC(v:V):TE:=λ_ H Q=>Q v H
theorem zmn{x:Str}{pos:Pos}(p:X.N[i]?=Y x)(k:Vis X.e.scope x)(f:Bq x:=by lia)(g:(x==("__classdict__":Str))=ah:=by lia):PE X (.Name x pos) (ze i):=by
 intro aa s j H Q I h;have #[v,e,h]:=h;have #[m,n,o]:=I.loc;have #[u,r,l]:=o i x v p e k;have d:EP X aa j Q u s:={v,H,I,r,h};obtain ⟨hk,hm⟩|⟨hk,c,hc,hcell⟩:=l
 .exact wpAny_Name (r9 I.ok.kind hk n hm d) f
 .obtain hk|hk:=hk
  .exact wpAny_Name (wpAny_loadName_cell I.ok.kind hk hc hcell d) f
  .exact wpAny_Name (wpAny_loadName_free I.ok.kind hk hc hcell d g) f
theorem zg{i j pos}:PE X (.Constant (.int i) j pos) (tC (.int i)):=λ_ _ _ H _ I h=>wpAny_Constant_int {.int i,H,I.tok _,{_,U},h}
theorem wL{b j pos}:PE X (.Constant (.bool b) j pos) (tC (.bl b)):=λ_ _ _ H _ I h=>Constant_bool {.bl b,H,I,U,h}
theorem wa{j pos}:PE X (.Constant .none j pos) (tC .non):=λ_ _ _ H _ I h=>Constant_none {.non,H,I,U,h}
theorem zI{x j pos}:PE X (.Constant (.str x) j pos) (tC (.str x)):=λ_ _ _ H _ I h=>Calls.Constant_str {.str x,H,I.tok _,{_,U},h}
def Gl(X:Cx)(x:Str):Prop:=X.e.kindOf x=Y .globalImplicit
theorem Xb{E:nA}{aa:uX}{s:ak}{c:St}{H:Hp}{x:Str}{u:am}{pos:Pos}{Q:nA}(I:aN X aa c H s)(e:Gl X x)(d:X.mg x=Y u)(h:Q u s)(f:Bq x:=by lia):Bf (Bg X.p X.w) X.A (eval (.Name x pos) X.e) Q E s:=
 nV I.ok.kind e (Calls.loadGlobal_global (by rw[I.ok.glob];exact I.mod.glob.keeps I.bk) d h) f
theorem qo{E:nA}{aa:uX}{s:ak}{c:St}{H:Hp}{x:Str}{u:am}{pos:Pos}{Q:nA}(I:aN X aa c H s)(g:Gl X x)(f:X.mg x=af)(d:Bh x=Y u)(h:Q u s)(e:x≠"__name__":=by lia)(i:Bq x:=by lia):Bf (Bg X.p X.w) X.A (eval (.Name x pos) X.e) Q E s:=by have #[l,k,j]:=I.mod.blt;exact nV I.ok.kind g (Calls.loadGlobal_builtin (by rw[I.ok.glob];exact I.mod.glob.keeps I.bk) f (by rw[I.ok.blt];exact k.keeps I.bk) ((j x e).trans d) h) i
theorem xv{x:Str}{pos:Pos}(d:Gl X x)(c:X.mg x=Y u)(r:aR v u)(e:Bq x:=by lia):PE X (.Name x pos) (tC v):=
 λ_ _ _ H _ I h=>Xb I d c {v,H,I,r,h} e
theorem xV{x:Str}{pos:Pos}(f:Gl X x)(e:X.mg x=af)(c:Bh x=Y u)(r:aR v u)(d:x≠"__name__":=by lia)(g:Bq x:=by lia):PE X (.Name x pos) (tC v):=
 λ_ _ _ H _ I h=>qo I f e c {v,H,I,r,h} d g
variable {a:av}
inductive tBk(Q:Bool->Hp->Prop)(x:V)(H:Hp):Prop
 |mk (c:_):x=.bl c->Q c H->tBk Q x H
def tB(t:TE):TT:=λc H Q=>t c H (tBk Q)
theorem yJ{e:av}{t:TE}(h:PE X e t)(k:∀c,isTrue e X.e c=(do let v <-c;standAt e.pos;holding [v] (truthy v)):=by intro _;rfl):PT X e (tB t):=by intro aa s f H Q I j;refine isTrue_plain (aW (h aa s f H _ I j) ?_) (k _);rintro v n ⟨x,m,l,g,i⟩;have #[d,rfl,q]:=i;cases g;exact dW {m,l,q}
variable {tA tB':TT}{rest:List av}
def zgu(t u:TT):TT:=λd H Q=>t d H λc e=>if c=ae then u d e Q else Q ah e
def tOr(t u:TT):TT:=λd H Q=>t d H λc e=>if c=ae then Q ae e else u d e Q
def Xc(t:TT):TT:=λd H Q=>t d H λc e=>Q (!c) e
theorem Xd(f:PT X a tA):PW X (.BoolOp .And [a] pos) tA:=by
 intro g aa s d H Q I h;refine isTrue_and (aW (f aa s d H Q I h) λc i e=>?_);cases c with
 |true=>exact isTrue_and_nil e
 |false=>exact e
theorem wC(f:PT X a tA):PW X (.BoolOp .Or [a] pos) tA:=by
 intro g aa s d H Q I h;refine isTrue_or (aW (f aa s d H Q I h) λc i e=>?_);cases c with
 |false=>exact isTrue_or_nil e
 |true=>exact e
theorem Wn(l:PT X a tA)(k:PW X (.BoolOp .And (b::rest) pos) tB'):PW X (.BoolOp .And (a::b::rest) pos) (zgu tA tB'):=by
 intro i aa s d H Q I h;refine isTrue_and (aW (l aa s d H _ I h) ?_);rintro c j ⟨g,f,e⟩;cases c with
 |true=>exact k i aa j d g Q f e
 |false=>exact{g,f,e}
theorem jm(l:PT X a tA)(k:PW X (.BoolOp .Or (b::rest) pos) tB'):PW X (.BoolOp .Or (a::b::rest) pos) (tOr tA tB'):=by
 intro i aa s d H Q I h;refine isTrue_or (aW (l aa s d H _ I h) ?_);rintro c j ⟨g,f,e⟩;cases c with
 |true=>exact{g,f,e}
 |false=>exact k i aa j d g Q f e
theorem wD(e:PT X a tA):PT X (.UnaryOp .Not a pos) (Xc tA):=by intro aa s d H Q I h;exact isTrue_not (e aa s d H (λc f=>Q (!c) f) I h)
def Va(ta tb:TE):TE:=λd H Q=>ta d H (tBk λc e=>if c=ae then tb d e Q else Q (.bl ah) e)
def zmo(ta tb:TE):TE:=λd H Q=>ta d H λx e=>∃c,x=.bl c/\if c=ae then Q (.bl ae) e else tb d e Q
def zlM(ta:TE):TE:=λd H Q=>ta d H λx e=>∃c,x=.bl c/\Q (.bl (!c)) e
theorem Wo{op}{t:TE}(h:PE X a t):PE X (.BoolOp op [a] pos) t:=λaa s c H Q I d=>BoolOp_one (h aa s c H Q I d)
theorem Wp(l:PE X a ta)(k:PE X (.BoolOp .And (b::rest) pos) tb):PE X (.BoolOp .And (a::b::rest) pos) (Va ta tb):=by
 intro aa s e H Q I h;refine BoolOp_and (aW (l aa s e H _ I h) ?_);rintro v i ⟨x,g,f,j,d⟩;have #[c,rfl,d]:=d;cases j;refine dW ?_;cases c with
 |true=>exact k aa i e g Q f d
 |false=>exact{.bl ah,g,f,U,d}
theorem zny(l:PE X a ta)(k:PE X (.BoolOp .Or (b::rest) pos) tb):PE X (.BoolOp .Or (a::b::rest) pos) (zmo ta tb):=by
 intro aa s e H Q I h;refine BoolOp_or (aW (l aa s e H _ I h) ?_);rintro v i ⟨x,g,f,j,d⟩;have #[c,rfl,d]:=d;cases j;refine dW ?_;cases c with
 |false=>exact k aa i e g Q f d
 |true=>exact{.bl ae,g,f,U,d}
theorem zmp(g:PE X a ta):PE X (.UnaryOp .Not a pos) (zlM ta):=by intro aa s e H Q I h;refine UnaryOp_ (aW (g aa s e H _ I h) ?_);rintro v k ⟨x,j,i,f,d⟩;have #[c,rfl,d]:=d;cases f;exact not_of (dW {.bl (!c),j,i,U,d})
def tIf(t:TT)(ta tb:TE):TE:=λd H Q=>t d H λc e=>if c=ae then ta d e Q else tb d e Q
theorem vX(k:PT X c tA)(m:PE X a ta)(l:PE X b tb):PE X (.IfExp c a b pos) (tIf tA ta tb):=by
 intro aa s e H Q I h;refine wpAny_IfExp (aW (k aa s e H _ I h) ?_);rintro d f ⟨j,i,g⟩;cases d with
 |true=>exact m aa f e j Q i g
 |false=>exact l aa f e j Q i g
end
def aM(K:bE)(H:Hp)(a:B)(d:LV):Prop:=
 Rd H a (.lst d) \/
  ∃(o:Obj)(c:Array am)(n:Nat),K.lookup a=Y o/\o.cls=.type "list"/\o.dict=af/\o.data=.seq c n/\c.size<=Bb/\aP d c.toList
def aX(K:bE)(H:Hp)(a:B)(d:LV):Prop:=
 Rd H a (.tup d) \/
  ∃(o:Obj)(c:Array am)(n:Nat),K.lookup a=Y o/\o.cls=.type "tuple"/\o.data=.seq c n/\c.size<=Bb/\aP d c.toList
def zoq:am->Option V
 |.none=>Y .non
 |.bool b=>Y (.bl b)
 |.int i _=>Y (.int i)
 |.str x _=>Y (.str x)
 |.bytes b _=>Y (.byt b)
 |.float b _=>Y (.flt b)
 |.ref a=>Y (.ref a)
 |.type n=>Y (.ty n)
 |_=>af
theorem aR.abs{x:V}(r:aR x u):zoq u=Y x:=by
 cases x with
 |non=>cases r;rfl
 |bl _=>cases r;rfl
 |int _=>have #[t,rfl]:=r;rfl
 |str _=>have #[t,rfl]:=r;rfl
 |byt _=>have #[t,rfl]:=r;rfl
 |flt _=>have #[t,rfl]:=r;rfl
 |ref _=>cases r;rfl
 |ty _=>cases r;rfl
theorem aR.inj{x y:V}(r:aR x u)(q:aR y u):x=y:=bX (r.abs.symm.trans q.abs)
theorem aP.inj:∀ {d c:LV}{e:zS},aP d e->aP c e->d=c
 |_,_,_,.nil,.nil=>rfl
 |_,_,_,.cons r t,.cons r' t'=>by rw[r.inj r',aP.inj t t']
variable {σ:St}
section
variable {xs ys:LV}
theorem aM.of{K:bE}(h:H a=Y (.lst xs)):aM K H a xs:=.inl (.inl h)
theorem aX.of{K:bE}(h:H a=Y (.tup xs)):aX K H a xs:=.inl (.inl h)
theorem aN.list(I:aN X aa σ H s)(h:aM X.K H a xs):∃d:zS,aP xs d/\PlainL s.heap a d.toArray/\xs.length<=Bb:=by
 obtain h|⟨o,d,n,hk,hc,hd,hs,hz,r⟩:=h
 .have #[z,d,n,r,e]:=h.ok I.hok;exact{d,r,{_,n,e,U,U,U},z}
 .refine{d.toList,r,{o,n,I.kIn a o hk,hc,hd,by simpa using hs},?_};have e:=r.length;simp only[bW] at e;lia
theorem aN.tuple(I:aN X aa σ H s)(h:aX X.K H a xs):∃d:zS,aP xs d/\IsTup s.heap a d.toArray/\xs.length<=Bb:=by
 obtain h|⟨o,d,n,hk,hc,hs,hz,r⟩:=h
 .have #[z,d,r,p]:=h.ok I.hok;exact{d,r,p,z}
 .refine{d.toList,r,{o,I.kIn a o hk,hc,n,by simpa using hs},?_};have e:=r.length;simp only[bW] at e;lia
theorem aN.list_inj(I:aN X aa σ H s)(h:aM X.K H a xs)(h':aM X.K H a ys):xs=ys:=by
 have #[f,r,#[o,n,e,_,_,d],_]:=I.list h;have #[its',k,#[l,q,g,_,_,j],_]:=I.list h';rw[e] at g;cases g;rw[d] at j;injection j with d1 _;have:f=its':=by simpa using congrArg Array.toList d1
 subst this;exact r.inj k
theorem aN.tuple_inj(I:aN X aa σ H s)(h:aX X.K H a xs)(h':aX X.K H a ys):xs=ys:=by
 have #[f,r,#[o,e,_,n,d],_]:=I.tuple h;have #[its',k,#[l,g,_,q,j],_]:=I.tuple h';rw[e] at g;cases g;rw[d] at j;injection j with d1 _;have:f=its':=by simpa using congrArg Array.toList d1
 subst this;exact r.inj k
end
abbrev Cx.wish(X:Cx)(E:nA):Cx:={ X with xe:=E }
abbrev Cx.nox(X:Cx):Cx:=X.wish λ_ _=>False
theorem Cx.Ok.wish(d:X.Ok)(E:nA):(X.wish E).Ok:=
 {d.mod,d.kind,d.glob,d.blt,d.above,d.inj,d.has,d.cab,d.hd,d.frames,d.stk,d.exf,d.bs,d.bsz,d.noex,d.exfs,d.funs,d.frf}
theorem Cx.Ok.unwish(d:(X.wish E).Ok):X.Ok:=
 {d.mod,d.kind,d.glob,d.blt,d.above,d.inj,d.has,d.cab,d.hd,d.frames,d.stk,d.exf,d.bs,d.bsz,d.noex,d.exfs,d.funs,d.frf}
variable {E:nA}
theorem aN.wish(I:aN X aa σ H s)(E:nA):aN (X.wish E) aa σ H s:={I.ok.wish E,I.os,I.bare,I.base,I.loc,I.cell,I.free,I.freeC,I.pin,I.hok,I.len}
theorem aN.unwish(I:aN (X.wish E) aa σ H s):aN X aa σ H s:={I.ok.unwish,I.os,I.bare,I.base,I.loc,I.cell,I.free,I.freeC,I.pin,I.hok,I.len}
theorem SP.unwish(h:SP (X.wish E) aa D f s'):SP X aa D f s':=by
 cases f with
 |next=>have #[c,H',I,q]:=h;exact{c,H',I.unwish,q}
 |brk=>have #[c,H',I,q]:=h;exact{c,H',I.unwish,q}
 |cont=>have #[c,H',I,q]:=h;exact{c,H',I.unwish,q}
 |ret u=>have #[v,c,H',I,r,q]:=h;exact{v,c,H',I.unwish,r,q}
theorem PSs.nox{c:List ap}{t:TS}(h:PSs X.nox c t):PSs X c t:=λaa s σ H D I d=>
 f6 (h aa s σ H D (I.wish _) d) (λ_ _ q=>q.unwish) λ_ _ z=>fP z
variable {e:av}{te:TE}
section
variable {st:ap}{rest:List ap}{t u:TS}
def ym:TS:=λD σ H=>D.nx σ H
def zB(t u:TS):TS:=λD σ H=>t { D with nx:=u D } σ H
theorem zA:PSs X [] ym:=λ_ _ σ H _ I h=>iq {σ,H,I,h}
theorem zb(i:PS X st t)(g:PSs X rest u):PSs X (st::rest) (zB t u):=by
 intro aa s σ H D I h;refine pM (aW (i aa s σ H { D with nx:=u D } I h) λf d q=>?_);cases f with
 |next=>
  have #[c,H',j,q]:=q;exact g aa d c H' D j q
 |ret v=>exact q
 |brk=>exact q
 |cont=>exact q
theorem zd(c:PS X st t):PSs X [st] t:=by
 intro aa s σ H D I h;refine pM (aW (c aa s σ H D I h) λf d q=>?_);cases f with
 |next=>exact iq q
 |ret v=>exact q
 |brk=>exact q
 |cont=>exact q
theorem aN.quiet{H:Hp}(I:aN X aa σ H s):interactive X.e=ah:=by simp[interactive,I.ok.kind]
def yL(te:TE):TS:=λD σ H=>te σ H λ_ c=>D.nx σ c
theorem zL(f:PE X e te)(d:swapsWith e af pos.line X.e=pure ah:=by rfl):PS X (.Expr e pos) (yL te):=by intro aa s σ H D I h;exact wpAny_Expr_any (aW (f aa s σ H _ I h) λv j ⟨x,i,g,k,c⟩=>{σ,i,g,c}) I.quiet d
def yw(te:TE):TS:=λD σ H=>te σ H D.rt
theorem zo(f:PE X e te):PS X (.Return (Y e) pos) (yw te):=by intro aa s σ H D I h;exact wpAny_Return_some (aW (f aa s σ H _ I h) λv j ⟨x,i,g,c,d⟩=>{x,σ,i,g,c,d})
def zlN:TS:=λD _ H=>D.rt .non H
theorem zkn:PS X (.Return af pos) zlN:=λ_ _ σ H _ I h=>wpAny_Return_none {.non,σ,H,I,U,h}
def yF(c:TT)(t u:TS):TS:=λD σ H=>c σ H λb d=>if b=ae then t D σ d else u D σ d
theorem zN{a b:List ap}(k:PT X c tc)(m:PSs X a t)(l:PSs X b u):PS X (.If c a b pos) (yF tc t u):=by
 intro aa s σ H D I h;refine wpAny_If (aW (k aa s σ H _ I h) ?_);rintro d f ⟨j,i,g⟩;cases d with
 |true=>exact m aa f σ j D i g
 |false=>exact l aa f σ j D i g
def xC:TS:=λ_ _ _=>False
theorem yh:PS X st xC:=λ_ _ _ _ _ _ h=>h.elim
end
abbrev TG:=V->St->Hp->uU->Prop
abbrev TGs:=LV->St->Hp->uU->Prop
def PG(X:Cx)(c:av)(t:TG):Prop:=
 ∀(aa:uX)(s:ak)(σ:St)(H:Hp)(v:V)(u:am)(Q:uU),aN X aa σ H s->aR v u->t v σ H Q ->
  Bf (Bg X.p X.w) X.A (assign c X.e u) (λ_ d=>IvP X aa Q d) X.xe s
def PGs(X:Cx)(f:List av)(t:TGs):Prop:=
 ∀(aa:uX)(s:ak)(σ:St)(H:Hp)(c:LV)(d:zS)(Q:uU),aN X aa σ H s->aP c d->t c σ H Q ->
  Bf (Bg X.p X.w) X.A (assignInOrder ((assignEach f X.e).map (·.2)) d) (λ_ g=>IvP X aa Q g) X.xe s
abbrev TIp:=V->V->Hp->VK->Prop
def PIp(X:Cx)(c:Operator)(t:TIp):Prop:=
 ∀(aa:uX)(s:ak)(σ:St)(H:Hp)(x y:V)(v u:am)(Q:VK),aN X aa σ H s->aR x v->aR y u->t x y H Q ->
  Bf (Bg X.p X.w) X.A (inplaceOp c v u) (EP X aa σ Q) X.xe s
def zG(i:Nat):TG:=λv σ H Q=>Q (σ.set i (Y v)) H
theorem xh{x:Str}(g:X.N.Nodup)(d:X.N[i]?=Y x)(c:Loc X.e.scope x)(f:X.fn x=ae\/X.e.scope.names.lookup x=Y .local:=by first|exact .inl rfl|exact .inr rfl|assumption):PG X (.Name x pos) (zG i):=by intro aa s σ H v u Q I r h;exact wpAny_assign_Name (Jt I g d c r (λk j=>{_,H,j,h}) f)
def za0:TGs:=λc σ H Q=>c=[]/\Q σ H
inductive zd6(R:V->LV->Prop)(vs:LV):Prop
 |mk (v r:_):vs=v::r->R v r->zd6 R vs
def vY(t:TG)(u:TGs):TGs:=λd σ H Q=>zd6 (λv r=>t v σ H λc H'=>u r c H' Q) d
theorem vP:PGs X [] za0:=by intro aa s σ H c d Q I r h;have #[e,h]:=h;subst e;cases r;exact assignInOrder_nil {σ,H,I,h}
theorem yE{e:av}{c:List av}{t:TG}{u:TGs}(k:PG X e t)(j:PGs X c u)(i:(assignEach (e::c) X.e).map (·.2)=assign e X.e::(assignEach c X.e).map (·.2):=by rfl):PGs X (e::c) (vY t u):=by
 intro aa s σ H o q Q I r h;have #[v,p,l,h]:=h;subst l;cases r with
 |cons r rr=>
  rw[i];refine assignInOrder_cons (aW (k aa s σ H _ _ _ I r h) ?_);rintro _ f ⟨d,n,m,g⟩;exact j aa f d n _ _ Q m rr g
def za1(K:bE)(n:Nat)(t:TGs):TG:=λv σ H Q=>∃a c,v=.ref a/\aX K H a c/\c.length=n/\t c σ H Q
theorem kt{c:List av}{k:Nat}{t:TGs}{n:Nat}(z:X.c=ae)(h:PGs X c t)(q:(assignEach c X.e).length=n:=by rfl)(f:(assignEach c X.e).findIdx? (·.1)=af:=by rfl):PG X (.Tuple c k pos) (za1 X.K n t):=by intro aa s σ H v u Q I r d;have #[a,i,A,p,y,d]:=d;subst A;cases r;have #[j,g,m,D]:=I.tuple p;refine assign_Tuple_tuple (I.ok.hd z) m (by simp[q,<-y,g.length]) f λh' l=>?_;have C:aN X aa σ H { s with heap:=h' }:=I.kept (t':=s.toks) λb o e=>l b o (bK (bF e)) e;exact h aa _ σ H i _ Q C (by simpa using g) d
def yp(te:TE)(g:TG):TS:=λD σ H=>te σ H λx c=>g x σ c D.nx
theorem zd7{i:Nat}{x:Str}{te:TE}{c:Pos}(n:X.N.Nodup)(k:X.N[i]?=Y x)(g:Loc X.e.scope x)(m:PE X e te)(j:swapsWith e (Y (.Name x c)) pos.line X.e=pure ah:=by rfl)(l:X.fn x=ae\/X.e.scope.names.lookup x=Y .local:=by first|exact .inl rfl|exact .inr rfl|assumption) :
  PS X (.Assign [.Name x c] e pos) (yp te (zG i)):=by intro aa s σ H D I h;refine wpAny_Assign_Name (aW (m aa s σ H _ I h) ?_) j;rintro v t ⟨y,q,p,d,f⟩;exact Jt p n k g d (λr o=>{_,q,o,f}) l
def znz(i:Nat)(te:TE)(c:TIp):TS:=λD σ H=>∃x,σ[i]?=Y (Y x)/\te σ H λy f=>c x y f λz d=>D.nx (σ.set i (Y z)) d
theorem zhK{i:Nat}{x:Str}{te:TE}{n:Operator}{p:TIp}{g:Pos}(hN:X.N.Nodup)(q:X.N[i]?=Y x)(o:Loc X.e.scope x)(he:PE X e te)(N:PIp X n p)(T:X.fn x=ae\/X.e.scope.names.lookup x=Y .local:=by first|exact .inl rfl|exact .inr rfl|assumption) :
  PS X (.AugAssign (.Name x g) n e pos) (znz i te p):=by
 intro aa s σ H D I h;have #[v,e1,h]:=h;have #[m,O,Q]:=I.loc;have j:Vis X.e.scope x:=by obtain k|k:=o;exact .inl k;exact .inr (.inl k)
 have #[u,r,l]:=Q i x v q e1 j;refine wpAny_AugAssign_Name ?_;have t:Bf (Bg X.p X.w) X.A (eval e X.e) (λw f=>Bf (Bg X.p X.w) X.A (inplaceOp n u w) (λr d=>Bf (Bg X.p X.w) X.A (storeName X.e x r) (λ_=>SP X aa D .next) X.xe d) X.xe f) X.xe s:=by refine aW (he aa s σ H _ I h) ?_;rintro w A ⟨y,H1,I1,G,M⟩;refine aW (N aa A σ H1 v y u w _ I1 r G M) ?_;rintro z s2 ⟨zv,H2,I2,C,J⟩;exact Jt I2 hN q o C (λs3 I3=>{_,H2,I3,J}) T
 obtain ⟨hk,hm⟩|⟨hk,c,hc,hcell⟩:=l
 .exact r9 I.ok.kind hk O hm t
 .obtain hk|hk:=hk
  .exact wpAny_loadName_cell I.ok.kind hk hc hcell t
  .obtain k|k:=o
   .have:X.e.scope.names.lookup x=Y .free:=hk;rw[k] at this;cases this
   .have:X.e.scope.names.lookup x=Y .free:=hk;rw[k] at this;cases this
def ipI(f:Int->Int->Int):TIp:=λx y H Q=>∃i j,x=.int i/\y=.int j/\Q (.int (f i j)) H
theorem zhL:PIp X .Add (ipI λi j=>i+j):=by intro aa s σ H x y v u Q I d c h;have #[i,j,g,f,q]:=h;subst g;subst f;have #[t,rfl]:=d;have #[k,rfl]:=c;exact iadd_int {.int _,H,I.tok _,{_,U},q}
def zhM(c:TT)(tb:TS):TS:=λD σ H=>∃W:Nat->uU,(∃m,W m σ H)/\∀m σ H,W m σ H ->
 c σ H λb g=>if b=ae then ∃N:uU,(∀d H',N d H'->∃f,f<m/\W f d H')/\tb { D with nx:=N,ct:=N,bk:=D.nx } σ g else D.nx σ g
theorem Ju{tb:TS}(u:PassesOwn (Bg X.p X.w) X.A X.e X.xe)(hc:PT X c tc)(hb:PSs X body tb):PS X (.While c body [] pos) (zhM tc tb):=by
 intro aa s σ H D I h;have #[W,#[T,J],j]:=h;refine wpAny_While (codeAny_whileLoop (λn Q=>∃i H',aN X aa i H' Q/\W n i H') ?_ T {σ,H,I,J});rintro n O ⟨g,C,I1,G⟩;refine gH u (aW (hc aa O g C _ I1 (j n g C G)) ?_);rintro b M ⟨A,z,m⟩;cases b with
 |true=>
  have #[N,y,m]:=m;rw[ao rfl];refine gH u (aW (hb aa M g A _ z m) λf s3 l=>?_);cases f with
  |next=>
   have #[d,k,t,p]:=l;have #[q,r,o]:=y d k p;exact{q,r,d,k,t,o}
  |cont=>
   have #[d,k,t,p]:=l;have #[q,r,o]:=y d k p;exact{q,r,d,k,t,o}
  |brk=>exact l
  |ret v=>exact l
 |false=>
  rw[ag bM];exact iq {g,A,z,m}
set_option genSizeOf false in
set_option genInjectivity false in
structure It where
 go:Nat->Hp->Prop
 yld:Nat->Hp->V->Hp->Prop
 stop:Nat->Hp->Prop
def ku(X:Cx)(aa:uX)(H:Hp)(b:B):Prop:=
 H b=af/\b≠X.e.locals/\b ∉ X.fs/\(b∈X.ex\/X.s₀.heap.objs.size<=b)/\(∀x c,X.e.cells.lookup x=Y c->c≠b)/\∀p∈X.pn++aa,p.1≠b
theorem aN.fpOk{aa:uX}{σ:St}{H H':Hp}{s:ak}{b:B}(I:aN X aa σ H s)(d:s.heap.objs.size<=b)(g:H' b=af):ku X aa H' b:=by
 refine{g,dP (cb I.lt d),I.nofs d,.inr (b9 I.sz d),λx c e z=>?_,λp f z=>?_}
 .have #[v,q]:=I.cell x c e;exact absurd (cb q.lt (by rw[z];exact d)) (gb _)
 .exact absurd (cb (bF (I.pin p f).1) (by rw[z];exact d)) (gb _)
structure VU(P:aq)(w:ax)(K:bE)(tg:av)(J:It)(fp:List B)(it:B)(tn:Nat->au->Prop):Prop where
 mem:it∈fp
 obj:∀i h,tn i h->∀b∈fp,∃o,h.get? b=Y o/\∀v,o.data≠.cell v
 keep:∀i h h',tn i h->(∀b∈fp,∀o,h.get? b=Y o->h'.get? b=Y o)->tn i h'
 item:∀(X:Cx),X.p=P->X.w=w->X.K=K->X.c=ae->∀(i:Nat)(aa:uX)(s:ak)(σ:St)(H:Hp)(E:nA),aN X aa σ H s->(∀b∈fp,ku X aa H b)->tn i s.heap->J.go i H ->
  Bf (Bg P w) X.A (pyNext (.ref it)) (λr s1=>∃u,r=Y u /\
   Bf (Bg P w) X.A (letOwnedTupleGo tg (.ref it) u) (λ_ s2=>∃x H',aN X aa σ H' s2/\aR x u/\J.yld i H x H'/\tn (i+1) s2.heap/\∀b∈fp,H' b=af) E s1) E s
 done:∀(X:Cx),X.p=P->X.w=w->X.K=K->X.c=ae->∀(i:Nat)(aa:uX)(s:ak)(σ:St)(H:Hp)(E:nA),aN X aa σ H s->(∀b∈fp,ku X aa H b)->tn i s.heap->J.stop i H ->
  Bf (Bg P w) X.A (pyNext (.ref it)) (λr s1=>r=af/\aN X aa σ H s1) E s
 self:∀(A:aw)(i:Nat)(s:ak)(Q:nA)(E:nA),tn i s.heap->Q (.ref it) s->Bf (Bg P w) A (pyIter (.ref it)) Q E s
abbrev TI:=St->Hp->(It->Hp->Prop)->Prop
def PIE(X:Cx)(aa:uX)(σ:St)(j:av)(R:It->Hp->Prop)(c:am)(f:ak):Prop:=
 ∃(g:B)(i:List B)(d:Nat->au->Prop)(J:It)(H':Hp),c=.ref g/\aN X aa σ H' f/\VU X.p X.w X.K j J i g d/\d 0 f.heap/\(∀b∈i,ku X aa H' b)/\R J H'
def PI(X:Cx)(f c:av)(d:TI):Prop:=
 ∀(aa:uX)(s:ak)(σ:St)(H:Hp)(R:It->Hp->Prop),aN X aa σ H s->d σ H R ->
  Bf (Bg X.p X.w) X.A (eval c X.e) (λv g=>Bf (Bg X.p X.w) X.A (pyIter v) (PIE X aa σ f R) X.xe g) X.xe s
theorem Jv{Q:Unit->ak->Prop}(d:s.heap.get? it=Y o)(i:o.cls=.type n)(g:o.data=.fields vs)(f:["enumerate","zip","dict_itemiterator","dict_reverseitemiterator","odict_iterator","itertools.zip_longest","itertools.pairwise"].contains n=ah)(c:Q PUnit.unit s):Bf M A (letOwnedTupleGo tg (.ref it) u) Q E s:=by
 unfold letOwnedTupleGo;cases tg <;> first
  |exact bm c
  | (cases u <;> first
      |exact bm c
      | (refine ba (oI d ?_)
         rw[i,g];show Bf M A (if (["enumerate","zip","dict_itemiterator","dict_reverseitemiterator","odict_iterator","itertools.zip_longest","itertools.pairwise"].contains n&&vs[0]?==Y (rawInt _))=ae then _ else _) Q E s;rw[ag (by intro h;rw[f,Bool.false_and] at h;cases h)];exact bm c))
def Itl(K:bE)(a:B):It:=
 {λi H=>∃c x,aM K H a c/\c[i]?=Y x,λi H x H'=>H'=H/\∀c,aM K H a c->c[i]?=Y x,λi H=>∃c,aM K H a c/\c.length<=i}
def Itt(K:bE)(a:B):It:=
 {λi H=>∃c x,aX K H a c/\c[i]?=Y x,λi H x H'=>H'=H/\∀c,aX K H a c->c[i]?=Y x,λi H=>∃c,aX K H a c/\c.length<=i}
def Itr(lo:Int)(n:Nat):It:={λi _=>i<n,λi H x H'=>H'=H/\x=.int (lo+i),λi _=>n<=i}
theorem zgv{P:aq}{w:ax}{K:bE}{T:av}(a it:B):VU P w K T (Itl K a) [it] it (λi h=>h.IsListIter it a i) where
 mem:=by simp
 obj:=λi h f b g=>by
  have e:b=it:=by simpa using g
  subst e;have #[o,e,c,d]:=f;exact{o,e,λv z=>by rw[d] at z;cases z}
 keep:=λi h h' f k=>f.at λo e=>k it (by simp) o e
 item:=by intro X A t C O i aa s σ H E I m f y;subst A t C;have #[Q,x,l,r]:=y;have #[q,n,p,hz]:=I.list l;have #[u,hu,ru]:=n.get r;have #[N,M,f2,J,G,D]:=m it (by simp);refine pS f p.isList (x:=u) (by simpa using hu) λh' j sb=>?_;have I1:aN X aa σ H { s with heap:=h' }:=I.turned (t':=s.toks) (λb o g e=>(sb.2 b g).trans e) N M J G D;have #[o,e,c,d]:=id j;exact{u,U,Jv (s:={ s with heap:=h' }) e c d () {x,H,I1,ru,{rfl,λys hy=>by rw[I.list_inj hy l];exact r},j,λb g=>(m b g).1}}
 done:=by intro X A t C O i aa s σ H E I m f y;subst A t C;have #[Q,l,r]:=y;have #[q,n,p,hz]:=I.list l;have #[N,M,f2,J,G,D]:=m it (by simp);have hl:=n.length;exact rj (I.ok.hd O) f p.isList (by simp;lia) λh' eb=>{U,I.turned (t':=s.toks) (λb o g e=>eb b o g e) N M J G D}
 self:=λ_ _ _ _ _ f h=>wpAny_pyIter_listiter f h
theorem zd8{P:aq}{w:ax}{K:bE}{T:av}(a it:B):VU P w K T (Itt K a) [it] it (λi h=>h.IsTupleIter it a i) where
 mem:=by simp
 obj:=λi h f b j=>by
  have e:b=it:=by simpa using j
  subst e;have #[o,e,c,d]:=f;exact{o,e,λv z=>by rw[d] at z;cases z}
 keep:=λi h h' f k=>f.at λo e=>k it (by simp) o e
 item:=by intro X A t C O i aa s σ H E I n f y;subst A t C;have #[Q,x,m,r]:=y;have #[g,q,p,hz]:=I.tuple m;have #[u,hu,ru]:=q.get r;have #[N,M,f2,J,G,D]:=n it (by simp);refine wpAny_pyNext_tuple_item f (show s.heap.IsTuple a g.toArray from p) (x:=u) (by simpa using hu) λh' l sb=>?_;have I1:aN X aa σ H { s with heap:=h' }:=I.turned (t':=s.toks) (λb o j e=>(sb.2 b j).trans e) N M J G D;have #[o,e,c,d]:=id l;exact{u,U,Jv (s:={ s with heap:=h' }) e c d () {x,H,I1,ru,{rfl,λys hy=>by rw[I.tuple_inj hy m];exact r},l,λb j=>(n b j).1}}
 done:=by intro X A t C O i aa s σ H E I n f y;subst A t C;have #[Q,m,r]:=y;have #[g,q,p,hz]:=I.tuple m;have #[N,M,f2,J,G,D]:=n it (by simp);have hl:=q.length;exact wpAny_pyNext_tuple_end (I.ok.hd O) f (show s.heap.IsTuple a g.toArray from p) (by simp;lia) λh' eb=>{U,I.turned (t':=s.toks) (λb o j e=>eb b o j e) N M J G D}
 self:=λ_ _ _ _ _ f h=>wpAny_pyIter_tupleiter f h
theorem zd9{P:aq}{w:ax}{K:bE}{J:av}(it:B)(lo:Int)(n:Nat):VU P w K J (Itr lo n) [it] it (λi h=>IsRangeIter h it (lo+(i:Nat)*1) ((n:Int)-(i:Nat)) 1) where
 mem:=by simp
 obj:=λi h c b d=>by
  have e:b=it:=by simpa using d
  subst e;exact{_,c,λv z=>by have G:ut _=Data.cell v:=z;cases G}
 keep:=λi h h' c k=>k it (by simp) _ c
 item:=by intro X p j q m i aa s σ H E I g c l;subst p j q;have #[C,A,O,y,u,r]:=g it (by simp);have W:=Walks.range (prog:=X.p) (w:=X.w) (I.ok.hd m) it lo 1 n;refine W.item i s _ _ l c λv h' D N f M=>?_;have #[t,rfl]:=N;have T:aN X aa σ H { s with heap:=h',toks:=D }:=I.turned (λb o d e=>M b o (by simpa using d) e) C A y u r;refine{_,U,Jv (s:={ s with heap:=h',toks:=D }) (n:="range_iterator") f rfl rfl () {.int (lo+i),H,T,{t,?_},{rfl,rfl},f,λb d=>(g b d).1}};rw[Int.mul_one]
 done:=by intro X p j q m i aa s σ H E I g c l;subst p j q;have #[C,A,O,y,u,r]:=g it (by simp);exact pT (I.ok.hd m) c (by have:n<=i:=l;lia) λh' Q=>{U,I.turned (t':=s.toks) (λb o d e=>Q b o d e) C A y u r}
 self:=λ_ _ _ _ _ c h=>pU c h
section
variable {tg:av}
inductive zea(K:bE)(R:It->Hp->Prop)(x:V)(H:Hp):Prop
 |mk (a:_):x=.ref a->(∃xs,aM K H a xs)->R (Itl K a) H->zea K R x H
def qS(K:bE)(c:TE):TI:=λσ H R=>c σ H (zea K R)
def zmq(K:bE)(f:TE):TI:=λσ H R=>f σ H λx c=>∃a,x=.ref a/\(∃d,aX K c a d)/\R (Itt K a) c
theorem yU{f:TE}(m:PE X l f):PI X tg l (qS X.K f):=by
 intro aa s σ H R I h;refine aW (m aa s σ H _ I h) ?_;rintro v c ⟨x,r,d,g,i⟩;have #[a,e,#[t,k],q]:=i;subst e;cases g;have #[j,u,p,y]:=d.list k;refine iJ p.isList ?_;refine{c.heap.objs.size,[c.heap.objs.size],_,_,r,U,d.kept (t':=c.toks) λb o e=>bg _ e,zgv a _,{_,bq _ U,U,U},λb n=>?_,q};have e:b=c.heap.objs.size:=by simpa using n
 subst e;exact d.fpOk (bo _) (d.hok.fresh (bo _))
theorem zeb{g:TE}(m:PE X l g):PI X tg l (zmq X.K g):=by
 intro aa s σ H R I h;refine aW (m aa s σ H _ I h) ?_;rintro v c ⟨x,r,d,i,j⟩;have #[a,e,#[t,k],q]:=j;subst e;cases i;have #[f,u,p,y]:=d.tuple k;refine n9 (show c.heap.IsTuple a f.toArray from p) ?_;refine{c.heap.objs.size,[c.heap.objs.size],_,_,r,U,d.kept (t':=c.toks) λb o e=>bg _ e,zd8 a _,{_,bq _ U,U,U},λb n=>?_,q};have e:b=c.heap.objs.size:=by simpa using n
 subst e;exact d.fpOk (bo _) (d.hok.fresh (bo _))
theorem zhN{H:Hp}{R:It->Hp->Prop}{lo c:Int}(I:aN X aa σ H s)(k:-(2^62)<=lo)(j:lo<2^62)(i:-(2^62)<=c)(g:c<2^62)(q:R (Itr lo (c-lo).toNat) H):Bf (Bg X.p X.w) X.A (pyIter (.ref s.heap.objs.size)) (PIE X aa σ tg R) E { s with heap:=s.heap.push { cls:=.type "range",data:=.fields #[.int lo t,.int c u,.int 1 v] },toks:=tk }:=by
 refine wpAny_pyIter_range (IsRange.new ..) (small_one k j i g) ?_;have d:aN X aa σ H { s with heap:=s.heap.push { cls:=.type "range",data:=.fields #[.int lo t,.int c u,.int 1 v] },toks:=tk }:=I.kept λb o e=>bg _ e;refine{(s.heap.push { cls:=.type "range",data:=.fields #[.int lo t,.int c u,.int 1 v] }).objs.size,[(s.heap.push { cls:=.type "range",data:=.fields #[.int lo t,.int c u,.int 1 v] }).objs.size],_,_,H,U,
  d.kept (t':=tk) λb o e=>bg _ e,zd9 _ lo (c-lo).toNat,?_,λb f=>?_,q}
 .have m:lo+((0:Nat):Int)*1=lo:=by simp
  have l:(((c-lo).toNat:Nat):Int)-((0:Nat):Int)=lM lo c 1:=by rw[rangeSize_one];split <;> lia
  show IsRangeIter _ _ (lo+((0:Nat):Int)*1) ((((c-lo).toNat:Nat):Int)-((0:Nat):Int)) 1;rw[m,l];exact bq _ rfl
 .have e:b=(s.heap.push { cls:=.type "range",data:=.fields #[.int lo t,.int c u,.int 1 v] }).objs.size:=by simpa using f
  subst e;exact d.fpOk (bo _) (d.hok.fresh (bo _))
def zcd(ta:TA):TI:=λσ H R=>ta σ H λc d=>∃j:Int,c=[.int j]/\-(2^62)<=j/\j<2^62/\R (Itr 0 j.toNat) d
theorem kN{a:av}{ta:TA}(k:Gl X "range")(i:X.mg "range"=af)(l:PA X [a] ta)(g:Be [a] X.e=[(ah,eval a X.e)]:=by rfl):PI X tg (.Call (.Name "range" p) [a] [] pos) (zcd ta):=by
 intro aa s σ H R I h;refine Call_ (qo I k i boot_range (dq (aW (l pos aa s σ H _ I h) ?_) g U));rintro o u ⟨n,v,m,d,c⟩;have #[j,e,c,f,q]:=c;subst e;cases d with
 |cons r rr=>
  cases rr;have #[t,rfl]:=r;exact call_range_1 (zhN m () () c f (by simpa using q))
def Zl(j:TI)(g:TG)(tb:TS):TS:=λD σ H=>j σ H λJ l=>∃W:Nat->Nat->uU,(∃m,W 0 m σ l)/\∀i m σ H,W i m σ H ->
 (J.stop i H/\D.nx σ H)\/(J.go i H/\∃N:uU,(∀c H',N c H'->∃f,f<m/\W (i+1) f c H')/\∀x H',J.yld i H x H'->g x σ H' λd k=>tb { D with nx:=N,ct:=N,bk:=D.nx } d k)
def Jw(c:List B)(h:au):uX:=c.filterMap λb=>(h.get? b).map λo=>(b,o)
theorem qp{h:au}{b:B}{o:Obj}(c:b∈fp)(e:h.get? b=Y o):(b,o)∈Jw fp h:=List.mem_filterMap.mpr {b,c,by rw[e];rfl}
theorem zgw(c:p∈Jw fp h):p.1∈fp/\h.get? p.1=Y p.2:=by
 have #[b,d,e]:=List.mem_filterMap.mp c;cases q:h.get? b with
 |none=>rw[q] at e;cases e
 |some o=>
  rw[q] at e;have f:(b,o)=p:=bX e;subst f;exact{d,q}
theorem aN.pinned{H:Hp}(I:aN X aa σ H s)(l:∀b∈fp,ku X aa H b)(k:∀b∈fp,∃o,s.heap.get? b=Y o/\∀v,o.data≠.cell v):aN X (aa++Jw fp s.heap) σ H s:=
 I.pins_of λp j=>(bP.mp j).elim (λz=>I.pin p (cw _ z)) λz=>by have #[f,e]:=zgw z;have #[r,q,n,_]:=l p.1 f;have #[o,g,d]:=k p.1 f;rw[e] at g;cases g;exact{e,r,q,n,d}
theorem aN.unpinned{H:Hp}(I:aN X (aa++pl) σ H s):aN X aa σ H s:=I.pins_of λp d=>I.pin p (cw _ (eX _ d))
theorem y8{wi:TI}{g:TG}{tb:TS}(O:PassesOwn (Bg X.p X.w) X.A X.e X.xe)(hc:X.c=ae)(hi:PI X tg iter wi)(hg:PG X tg g)(p:PSs X body tb)(hs:∀x,foldedSetIterable iter X.e x=pure x:=by intro _;rfl):PS X (.For tg iter body [] pos) (Zl wi g tb):=by
 intro aa s σ H D I h;refine wpAny_For (aW (hi aa s σ H _ I h) λv s1 h1=>aW h1 λan s2 h2=>?_) hs;have #[it,fp,tn,J,H2,e,I2,T,ai,f2,W,#[m0,w0],C]:=h2;subst e
 have l:∀ {H':Hp},(∀b∈fp,H' b=af)->∀b∈fp,ku X aa H' b:=λhn b p=>{hn b p,(f2 b p).2};refine codeAny_forLoop_any (λn s'=>∃i k H',aN X aa k H' s'/\tn i s'.heap/\(∀b∈fp,H' b=af)/\W i n k H') ?_ m0 {0,σ,H2,I2,ai,λb p=>(f2 b p).1,w0};rintro n s3 ⟨i,j,H3,I3,G,Q,w3⟩;obtain ⟨stop,qn⟩|⟨go,N,hN,step⟩:=C i n j H3 w3
 .refine gH O (aW (T.done X U U U hc i aa s3 j H3 X.xe I3 (l Q) G stop) ?_);rintro r s4 ⟨hr,I4⟩;subst hr;exact iq {j,H3,I4,qn}
 .refine gH O (aW (T.item X U U U hc i aa s3 j H3 X.xe I3 (l Q) G go) ?_);rintro r s4 ⟨u,hr,h4⟩;subst hr;refine gH O (aW h4 ?_);rintro _ s5 ⟨x,H5,I5,r5,y5,A,aj⟩;have al:=I5.pinned (l aj) (T.obj _ _ A);refine gH O (aW (hg _ s5 j H5 x u _ al r5 (step x H5 y5)) ?_);rintro _ s6 ⟨ab,H6,I6,q6⟩;refine gH O (aW (p _ s6 ab H6 _ I6 q6) λf s7 z=>?_);have q:∀ {c:St}{y:Hp},aN X (aa++Jw fp s5.heap) c y s7->N c y->∃m,m<n/\∃i k H',aN X aa k H' s7/\tn i s7.heap/\(∀b∈fp,H' b=af)/\W i m k H':=λ{c y} t M=>by have #[m',hm,w7]:=hN c y M;refine{m',hm,i+1,c,y,t.unpinned,T.keep _ _ _ A λb p o e=>(t.pin (b,o) (cw _ (cw _ (qp p e)))).1,λb p=>?_,w7};have #[o,e,d]:=T.obj _ _ A b p;exact(t.pin (b,o) (cw _ (cw _ (qp p e)))).2.1
  cases f with
  |next=>have #[c,y,t,M]:=z;exact q t M
  |cont=>have #[c,y,t,M]:=z;exact q t M
  |brk=>have #[c,y,t,z]:=z;exact{c,y,t.unpinned,z}
  |ret v=>have #[x7,c,y,t,r7,z]:=z;exact{x7,c,y,t.unpinned,r7,z}
end
abbrev R2:=V->V->Hp->VK->Prop
def Ai(X:Cx)(f:am->am->Sem am)(r:R2):Prop:=
 ∀(aa:uX)(s:ak)(σ:St)(H:Hp)(x y:V)(v u:am)(Q:VK),aN X aa σ H s->aR x v->aR y u->r x y H Q ->
  Bf (Bg X.p X.w) X.A (f v u) (EP X aa σ Q) X.xe s
def UnR(X:Cx)(f:am->Sem am)(r:V->Hp->VK->Prop):Prop:=
 ∀(aa:uX)(s:ak)(σ:St)(H:Hp)(x:V)(v:am)(Q:VK),aN X aa σ H s->aR x v->r x H Q ->
  Bf (Bg X.p X.w) X.A (f v) (EP X aa σ Q) X.xe s
def wM(X:Cx)(f:am)(r:LV->Hp->VK->Prop):Prop:=
 ∀(aa:uX)(s:ak)(σ:St)(H:Hp)(c:LV)(d:zS)(Q:VK),aN X aa σ H s->aP c d->r c H Q ->
  Bf (Bg X.p X.w) X.A (call f d) (EP X aa σ Q) X.xe s
def aO(r:R2)(ta tb:TE):TE:=λσ H Q=>ta σ H λx d=>tb σ d λy c=>r x y c Q
def tUn(r:V->Hp->VK->Prop)(ta:TE):TE:=λσ H Q=>ta σ H λx c=>r x c Q
inductive rI(C:Int->Int->Prop)(g:Int->Int->V)(x y:V)(H:Hp)(Q:VK):Prop
 |mk (i j:_):x=.int i->y=.int j->C i j->Q (g i j) H->rI C g x y H Q
inductive rI0(g:Int->Int->V)(x y:V)(H:Hp)(Q:VK):Prop
 |mk (i j:_):x=.int i->y=.int j->Q (g i j) H->rI0 g x y H Q
inductive rU(g:Int->V)(x:V)(H:Hp)(Q:VK):Prop
 |mk (i:_):x=.int i->Q (g i) H->rU g x H Q
variable {tc:TE}
section
variable {a c:av}
theorem zmr(t:PE X a ta)(r:PE X b tb){aa:uX}{H:Hp}{R:V->V->Hp->Prop}(I:aN X aa σ H s)(h:ta σ H λx k=>tb σ k λy d=>R x y d){Q:nA}{f:am->am->Sem am}
  (q:∀v u j x y d,aN X aa σ d j->aR x v->aR y u->R x y d->Bf (Bg X.p X.w) X.A (f v u) Q X.xe j) :
  Bf (Bg X.p X.w) X.A (eval a X.e) (λv i=>Bf (Bg X.p X.w) X.A (eval b X.e) (λu g=>Bf (Bg X.p X.w) X.A (f v u) Q X.xe g) X.xe i) X.xe s:=by refine aW (t aa s σ H _ I h) ?_;rintro v l ⟨x,k,A,n,p⟩;refine aW (r aa l σ k _ A p) ?_;rintro u j ⟨y,d,z,m,o⟩;exact q v u j x y d z n m o
theorem zE{r:R2}(i:Ai X (binaryOp op) r)(k:PE X a ta)(j:PE X b tb):PE X (.BinOp a op b pos) (aO r ta tb):=by intro aa s σ H Q I h;exact wpAny_BinOp (zmr k j I h λv u d x y m l g f q=>i aa d σ m x y v u Q l g f q)
theorem Vb{r:V->Hp->VK->Prop}(i:UnR X (unaryOp op) r)(j:PE X a ta):PE X (.UnaryOp op a pos) (tUn r ta):=by intro aa s σ H Q I h;exact UnaryOp_ (aW (j aa s σ H _ I h) λv d ⟨x,l,k,f,g⟩=>i aa d σ l x v Q k f g)
theorem opI{f:am->am->Sem am}{C:Int->Int->Prop}{g:Int->Int->Int}
  (rule:∀(i j:Int)(t u:Tok)(s:ak)(Q:nA)(E:nA),C i j->Q (.int (g i j) s.toks) { s with toks:=s.toks+1 }->Bf (Bg X.p X.w) X.A (f (.int i t) (.int j u)) Q E s) :
  Ai X f (rI C λi j=>.int (g i j)):=by intro aa s σ H x y v u Q I l k h;have #[i,j,rfl,rfl,m,q]:=h;have #[t,rfl]:=l;have #[d,rfl]:=k;exact rule i j t d s _ _ m {.int (g i j),H,I.tok _,{_,U},q}
theorem znA{f:am->am->Sem am}{g:Int->Int->Int}
  (rule:∀(i j:Int)(t u:Tok)(s:ak)(Q:nA)(E:nA),Q (.int (g i j) s.toks) { s with toks:=s.toks+1 }->Bf (Bg X.p X.w) X.A (f (.int i t) (.int j u)) Q E s) :
  Ai X f (rI0 λi j=>.int (g i j)):=by intro aa s σ H x y v u Q I l k h;have #[i,j,rfl,rfl,q]:=h;have #[t,rfl]:=l;have #[d,rfl]:=k;exact rule i j t d s _ _ {.int (g i j),H,I.tok _,{_,U},q}
theorem zko{f:am->am->Sem am}{g:Int->Int->Bool}
  (rule:∀(i j:Int)(t u:Tok)(s:ak)(Q:nA)(E:nA),Q (.bool (g i j)) s->Bf (Bg X.p X.w) X.A (f (.int i t) (.int j u)) Q E s) :
  Ai X f (rI0 λi j=>.bl (g i j)):=by intro aa s σ H x y v u Q I l k h;have #[i,j,rfl,rfl,q]:=h;have #[t,rfl]:=l;have #[d,rfl]:=k;exact rule i j t d s _ _ {.bl (g i j),H,I,U,q}
def zhO(i j:Int):Prop:=0<=j/\j<=1000000/\i.natAbs<2^64
theorem yO:Ai X (binaryOp .Add) (rI0 λi j=>.int (i+j)):=znA λ_ _ _ _ _ _ _ q=>add_int q
theorem jD:Ai X (binaryOp .Sub) (rI0 λi j=>.int (i-j)):=znA λ_ _ _ _ _ _ _ q=>sub_int q
theorem yS:Ai X (binaryOp .Mod) (rI (λ_ j=>0<j) λi j=>.int (i%j)):=opI λi j _ _ _ _ _ d q=>by have f:(0:Int)<j:=d;exact mod_int' () (by rw[Int.fmod_eq_emod_of_nonneg i ()];exact q)
theorem Wq:Ai X (binaryOp .Pow) (rI zhO λi j=>.int (i^j.toNat)):=opI λ_ _ _ _ _ _ _ d q=>pow_int_small d.1 d.2.1 d.2.2 q
theorem unI{f:am->Sem am}{g:Int->Int}
  (rule:∀(i:Int)(t:Tok)(s:ak)(Q:nA)(E:nA),Q (.int (g i) s.toks) { s with toks:=s.toks+1 }->Bf (Bg X.p X.w) X.A (f (.int i t)) Q E s) :
  UnR X f (rU λi=>.int (g i)):=by intro aa s σ H x v Q I d h;have #[i,rfl,q]:=h;have #[t,rfl]:=d;exact rule i t s _ _ {.int (g i),H,I.tok _,{_,U},q}
theorem Zm:UnR X (unaryOp .USub) (rU λi=>.int (-i)):=unI λ_ _ _ _ _ q=>neg_int q
end
def zkp:V->V->Bool
 |.non,.non=>ae|.non,.int _=>ae|.int _,.non=>ae|.non,.bl _=>ae|.bl _,.non=>ae|.non,.str _=>ae|.str _,.non=>ae
 |.int _,.int _=>ae|.bl _,.bl _=>ae|.str _,.str _=>ae|.byt _,.byt _=>ae
 |.int _,.str _=>ae|.str _,.int _=>ae|.bl _,.str _=>ae|.str _,.bl _=>ae
 |_,_=>ah
inductive rEq(x y:V)(H:Hp)(Q:VK):Prop
 |mk:zkp x y=ae->Q (.bl (decide (x=y))) H->rEq x y H Q
inductive rNe(x y:V)(H:Hp)(Q:VK):Prop
 |mk:zkp x y=ae->Q (.bl (!decide (x=y))) H->rNe x y H Q
theorem zfn{i j:Int}:decide (V.int i=V.int j)=(i==j):=by rw[nI];simp
theorem zhP :decide (V.bl i=V.bl j)=(i==j):=by rw[nI];simp
theorem zfo :decide (V.str i=V.str j)=(i==j):=by rw[nI];simp
theorem zfp :decide (V.byt i=V.byt j)=(i.toList==j.toList):=by rw[nI];cases i;cases j;simp
section
variable {a c:av}
theorem yA{H:Hp}{Q:VK}(I:aN X aa σ H s)(q:Q (.bl k) H)(e:k=k'):EP X aa σ Q (.bool k') s:=by subst e;exact{.bl k,H,I,U,q}
theorem yI:Ai X (Bi .Eq) rEq:=by
 intro aa s σ H x y v u Q I k d h;have #[g,q]:=h;cases x with
 |non=>
  cases k;cases y with
  |non=>cases d;exact PySem.EqNone.eq_none_none (yA I q (by simp))
  |bl j=>cases d;exact PySem.EqNone.eq_none_bool (yA I q (by simp))
  |int j=>have #[f,rfl]:=d;exact PySem.EqNone.eq_none_int (yA I q (by simp))
  |str j=>have #[f,rfl]:=d;exact PySem.EqNone.eq_none_str (yA I q (by simp))
  |_=>exact absurd (show ah=ae from g) bM
 |bl i=>
  cases k;cases y with
  |non=>cases d;exact PySem.EqNone.eq_bool_none (yA I q (by simp))
  |bl j=>cases d;exact eq_bool (yA I q zhP)
  |str j=>have #[f,rfl]:=d;exact PySem.EqMixed.eq_bool_str (yA I q (by simp))
  |_=>exact absurd (show ah=ae from g) bM
 |int i=>
  have #[t,rfl]:=k;cases y with
  |non=>cases d;exact PySem.EqNone.eq_int_none (yA I q (by simp))
  |int j=>have #[f,rfl]:=d;exact eq_int (yA I q zfn)
  |str j=>have #[f,rfl]:=d;exact PySem.EqMixed.eq_int_str (yA I q (by simp))
  |_=>exact absurd (show ah=ae from g) bM
 |str i=>
  have #[t,rfl]:=k;cases y with
  |non=>cases d;exact PySem.EqNone.eq_str_none (yA I q (by simp))
  |bl j=>cases d;exact PySem.EqMixed.eq_str_bool (yA I q (by simp))
  |int j=>have #[f,rfl]:=d;exact PySem.EqMixed.eq_str_int (yA I q (by simp))
  |str j=>have #[f,rfl]:=d;exact eq_str (yA I q zfo)
  |_=>exact absurd (show ah=ae from g) bM
 |byt i=>
  have #[t,rfl]:=k;cases y with
  |byt j=>have #[f,rfl]:=d;exact W.eq_bytes (yA I q zfp)
  |_=>exact absurd (show ah=ae from g) bM
 |_=>cases y <;> exact absurd (show ah=ae from g) bM
theorem wN:Ai X (Bi .NotEq) rNe:=by
 intro aa s σ H x y v u Q I k d h;have #[g,q]:=h;cases x with
 |non=>
  cases k;cases y with
  |non=>cases d;exact PySem.EqNone.ne_none_none (yA I q (by simp))
  |bl j=>cases d;exact PySem.EqNone.ne_none_bool (yA I q (by simp))
  |int j=>have #[f,rfl]:=d;exact PySem.EqNone.ne_none_int (yA I q (by simp))
  |str j=>have #[f,rfl]:=d;exact PySem.EqNone.ne_none_str (yA I q (by simp))
  |_=>exact absurd (show ah=ae from g) bM
 |bl i=>
  cases k;cases y with
  |non=>cases d;exact PySem.EqNone.ne_bool_none (yA I q (by simp))
  |bl j=>cases d;exact ne_bool (yA I q (congrArg not zhP))
  |str j=>have #[f,rfl]:=d;exact PySem.EqMixed.ne_bool_str (yA I q (by simp))
  |_=>exact absurd (show ah=ae from g) bM
 |int i=>
  have #[t,rfl]:=k;cases y with
  |non=>cases d;exact PySem.EqNone.ne_int_none (yA I q (by simp))
  |int j=>have #[f,rfl]:=d;exact ne_int (yA I q (congrArg not zfn))
  |str j=>have #[f,rfl]:=d;exact PySem.EqMixed.ne_int_str (yA I q (by simp))
  |_=>exact absurd (show ah=ae from g) bM
 |str i=>
  have #[t,rfl]:=k;cases y with
  |non=>cases d;exact PySem.EqNone.ne_str_none (yA I q (by simp))
  |bl j=>cases d;exact PySem.EqMixed.ne_str_bool (yA I q (by simp))
  |int j=>have #[f,rfl]:=d;exact PySem.EqMixed.ne_str_int (yA I q (by simp))
  |str j=>have #[f,rfl]:=d;exact ne_str (yA I q (congrArg not zfo))
  |_=>exact absurd (show ah=ae from g) bM
 |byt i=>
  have #[t,rfl]:=k;cases y with
  |byt j=>have #[f,rfl]:=d;exact W.ne_bytes (yA I q (congrArg not zfp))
  |_=>exact absurd (show ah=ae from g) bM
 |_=>cases y <;> exact absurd (show ah=ae from g) bM
theorem Xe:Ai X (Bi .Lt) (rI0 λi j=>.bl (decide (i<j))):=zko λ_ _ _ _ _ _ _ q=>lt_int q
theorem zfq:Ai X (Bi .LtE) (rI0 λi j=>.bl (decide (i<=j))):=zko λ_ _ _ _ _ _ _ q=>le_int q
theorem zce:Ai X (Bi .Gt) (rI0 λi j=>.bl (decide (j<i))):=zko λ_ _ _ _ _ _ _ q=>gt_int q
theorem zfr:Ai X (Bi .GtE) (rI0 λi j=>.bl (decide (j<=i))):=zko λ_ _ _ _ _ _ _ q=>ge_int q
theorem QV:Ai X (Bi .In) (λx y H Q=>∃i j,x=.str i/\y=.str j/\Q (.bl (!(dX j i 0 j.length 1).isEmpty)) H):=by intro aa s σ H x y v u Q I f d h;have #[i,j,rfl,rfl,q]:=h;have #[t,rfl]:=f;have #[g,rfl]:=d;exact in_str (yA I q U)
theorem zec:Ai X (Bi .Is) (λx y H Q=>y=.non/\Q (.bl (decide (x=.non))) H):=by
 intro aa s σ H x y v u Q I d f h;have #[rfl,q]:=h;cases f;refine is_none_gen (yA I q ?_);cases x <;> first
  |(cases d;rfl)
  |(have #[t,rfl]:=d;rfl)
theorem Jf:Ai X (Bi .IsNot) (λx y H Q=>y=.non/\Q (.bl (!decide (x=.non))) H):=by
 intro aa s σ H x y v u Q I d f h;have #[rfl,q]:=h;cases f;refine isnot_none_gen (yA I q ?_);cases x <;> first
  |(cases d;rfl)
  |(have #[t,rfl]:=d;rfl)
theorem zC(b:av)(h:op≠.In:=by lia)(d:op≠.NotIn:=by lia):behindInMarks op b=ah:=by
 have g:(op==CmpOp.In)=ah:=by cases op <;> first|rfl|exact absurd U h
 have f:(op==CmpOp.NotIn)=ah:=by cases op <;> first|rfl|exact absurd U d
 cases b <;> simp[behindInMarks,g,f]
theorem vQ{r:R2}(i:Ai X (Bi op) r)(l:PE X a ta)(k:PE X b tb)(j:behindInMarks op b=ah):PE X (.Compare a [op] [b] pos) (aO r ta tb):=by intro aa s σ H Q I h;exact wpAny_Compare1 (zmr l k I h λv u d x y n m g f q=>i aa d σ n x y v u Q m g f q) j
def yb(t:TE):TT:=λσ H Q=>t σ H (tBk Q)
theorem zx{r:R2}(o:Ai X (Bi op) r)(t:PE X a ta)(q:PE X b tb)(p:behindInMarks op b=ah):PT X (.Compare a [op] [b] pos) (yb (aO r ta tb)):=by
 intro aa s σ H Q I h;refine wpAny_isTrue_Compare1 (aW (t aa s σ H _ I h) λv f ⟨x,M,D,j,n⟩=>aW (q aa f σ M _ D n) λu d ⟨y,J,C,i,m⟩=>
  aW (o aa d σ J x y v u _ C j i m) λc N ⟨z,G,A,g,k,e,l⟩=>?_) p
 subst e;cases g;exact dW {G,A,l}
def zed(r g:R2)(ta tb tc:TE):TE:=λσ H Q=>ta σ H λx l=>tb σ l λy j=>r x y j λz d=>∃k,z=.bl k /\
 (if k=ae then tc σ d λf i=>g y f i Q else Q (.bl ah) d)
theorem zhQ{r i:R2}(O:Ai X (Bi op) r)(f:Ai X (Bi op') i)(ha:PE X a ta)(hb:PE X b tb)(hc:PE X c tc)(T:lastMarks [op,op'] [b,c]=ah:=by with_unfolding_all rfl):PE X (.Compare a [op,op'] [b,c] pos) (zed r i ta tb tc):=by
 intro aa s σ H Q I h;refine Compare_chain (aW (ha aa s σ H _ I h) λv A ⟨x,H1,I1,G,N⟩=>chain_link (aW (hb aa A σ H1 _ I1 N) λu t ⟨y,H2,I2,g,M⟩=>
  aW (O aa t σ H2 x y v u _ I2 G g M) λd q ⟨z,m,l,D,k,e,j⟩=>?_)) T
 subst e;cases D;refine dW ?_;cases k with
 |false=>exact ite_ff {.bl ah,m,l,U,j}
 |true=>exact ite_tt (chain_last (aW (hc aa q σ m _ l j) λo p ⟨n,H4,I4,C,J⟩=>f aa p σ H4 y n u o Q I4 g C J))
theorem zhR{r i:R2}(ho:Ai X (Bi op) r)(f:Ai X (Bi op') i)(ha:PE X a ta)(hb:PE X b tb)(hc:PE X c tc)(hm:lastMarks [op,op'] [b,c]=ah:=by with_unfolding_all rfl):PT X (.Compare a [op,op'] [b,c] pos) (yb (zed r i ta tb tc)):=by
 intro aa s σ H Q I h;refine isTrue_chain (aW (ha aa s σ H _ I h) λv A ⟨x,H1,I1,J,T⟩=>test_link (aW (hb aa A σ H1 _ I1 T) λu t ⟨y,H2,I2,g,O⟩=>
  aW (ho aa t σ H2 x y v u _ I2 J g O) λd q ⟨z,m,l,G,k,e,j⟩=>?_)) hm
 subst e;cases G;refine dW ?_;cases k with
 |false=>
  have #[k',e',q']:=j;cases e';exact ite_ff {m,l,q'}
 |true=>
  refine ite_tt (test_last (aW (hc aa q σ m _ l j) λo p ⟨n,H4,I4,D,N⟩=>aW (f aa p σ H4 y n u o _ I4 g D N) ?_));rintro d' s5 ⟨z2,H5,I5,C,k2,e2,M⟩;subst e2;cases C;exact dW {H5,I5,M}
theorem zee:(Bb:Nat)<2^63:=by rw[cu];decide
theorem wE:Ai X (binaryOp .Add) (λx y H Q=>∃i j,x=.str i/\y=.str j/\i.length+j.length<=Bb/\Q (.str (i++j)) H):=by intro aa s σ H x y v u Q I g f h;have #[i,j,rfl,rfl,k,q]:=h;have #[t,rfl]:=g;have #[d,rfl]:=f;exact add_str (λd l=>{.str (i++j),H,I.tok _,{_,U},q}) k
theorem xL{x:V}(r:aP [x] us):∃u,us=[u]/\aR x u:=by
 cases r with
 |cons r1 r2=>cases r2;exact{_,U,r1}
theorem zlO{x y:V}(r:aP [x,y] us):∃u w',us=[u,w']/\aR x u/\aR y w':=by
 cases r with
 |cons r1 r2=>
  cases r2 with
  |cons r3 r4=>cases r4;exact{_,_,U,r1,r3}
theorem wS:wM X (.type "str") (λd H Q=>∃i,d=[.int i]/\i.natAbs.log2<1920/\Q (.str (toString i)) H):=by intro aa s σ H d g Q I r h;have #[i,rfl,f,q]:=h;have #[u,rfl,t,rfl]:=xL r;exact PySem.P.str_of_int f {.str _,H,I.tok _,{_,U},q}
theorem zhS:wM X (.builtin "ord") (λd H Q=>∃x,d=[.str x]/\x.length=1/\Q (.int (x.cps.getD 0 0:Nat)) H):=by intro aa s σ H d g Q I r h;have #[x,rfl,f,q]:=h;have #[u,rfl,t,rfl]:=xL r;exact ord_of_one f {.int _,H,I.tok _,{_,U},q}
def zms(K:bE)(x:V)(H:Hp)(n:Nat):Prop:=
 match x with
 |.str y=>y.length<=Bb/\n=y.length
 |.byt y=>y.size<=Bb/\n=y.size
 |.ref p=>(∃d,aM K H p d/\n=d.length)\/∃d,aX K H p d/\n=d.length
 |_=>False
inductive kO(K:bE)(xs:LV)(H:Hp)(Q:VK):Prop
 |mk (x n:_):xs=[x]->zms K x H n->Q (.int n) H->kO K xs H Q
inductive zef(K:bE)(xs:LV)(H:Hp)(Q:VK):Prop
 |mk (p ys:_):xs=[.ref p]->(aM K H p ys\/aX K H p ys)->(∀l,H l=af->Q (.ref l) (upd H l (.lst ys)))->zef K xs H Q
theorem yd:wM X (.builtin "len") (kO X.K):=by
 intro aa s σ H f v Q I r h;have #[x,n,rfl,e,q]:=h;have #[u,rfl,i]:=xL r;have A:=zee;have z:Bb=16777216:=cu;cases x with
 |str y=>
  have #[t,rfl]:=i;obtain⟨o,g⟩:y.length<=Bb/\n=y.length:=e;subst g;exact len_str () {.int _,H,I.tok _,{_,U},q}
 |byt y=>
  have #[t,rfl]:=i;obtain⟨o,g⟩:y.size<=Bb/\n=y.size:=e;subst g;exact W.len_bytes () {.int _,H,I.tok _,{_,U},q}
 |ref p=>
  cases i;have g:(∃f,aM X.K H p f/\n=f.length)\/∃f,aX X.K H p f/\n=f.length:=e;obtain ⟨f,hx,g⟩|⟨f,hx,g⟩:=g
  .subst g;have #[l,j,k,m]:=I.list hx;have d:=j.length;exact Calls.call_len_list k.isList (by simp only[bJ];lia) {.int f.length,H,I.tok _,{_,by simp only[bJ];rw[d]},q}
  .subst g;have #[l,j,k,m]:=I.tuple hx;have d:=j.length;exact len_tuple k (by simp only[bJ];lia) {.int f.length,H,I.tok _,{_,by simp only[bJ];rw[d]},q}
 |_=>exact(show False from e).elim
end
structure ObjM(h:au)(x dx C:B)(mA:Ak):Prop where
 obj:h.get? x=Y (gU C dx)
 ns:h.Ns1 dx mA
 ne:dx≠x
theorem zgx{g:Ak}(n:h.Ns1 dx g):∃f,h.get? dx=Y f/\∀c,uI c f=Y (g c):=by
 have #[o,i,u,k,p,m,_,l]:=n;refine{o,k,λc=>?_};have e:=l c;unfold nsFind findBy at e;rw[<-Array.find?_toList] at e;unfold uI;rw[p];dsimp only;split
 .rename_i y q;rw[q] at e;exact congrArg Y e
 .rename_i q;rw[q] at e;have a:i.toList.any (·.refKey)=ah:=by rw[List.any_eq_false];intro y j;have #[z,t,d]:=m y (se.mp j);simp[DictEntry.refKey,d]
  have r:¬ i.toList.any (·.refKey)=ae:=by rw[a];exact bM
  rw[ag r];exact congrArg Y e
theorem ObjM.look(I:ObjM h x dx C mA):∃d,W.InstAt h x (gU C dx) C (Y d)/\∀c,uI c d=Y (mA c):=
 let ⟨d,ho,hl⟩:=zgx I.ns
 {d,{I.obj,U,U,ho},hl}
variable {A:aw}{dx C f:B}
section
variable {prog:aq}{K:bE}{mA:Ak}{name:Str}{v:am}
theorem zkq{Q:nA}(X:K.In s.heap)(I:ObjM s.heap x dx C mA)(j:tI K C name=ae)(i:uu K C=ae)(k:gc K (.ref C) name=Y af)(d:mA name=Y v)(c:W.handedIn v=ae)(h:Q v { s with toks:=s.toks+1 }) :
  Bf (Bg prog w) A (getAttr (.ref x) name expr) Q E s:=by have #[l,J,g]:=I.look;exact W.get_value X J (sU j).1 (W.findObj_own i k U (by rw[g,d])) c h
theorem zhT{d:Sem Bool}{Q:am×zS->ak->Prop}(X:K.In s.heap)(I:ObjM s.heap x dx C mA)(c:tI K C name=ae)(l:gc K (.ref C) name=Y (Y (.ref f)))(j:W.isFn K (.ref f)=ae)(i:mA name=af)(h:Q (.ref f,[.ref x]) s) :
  Bf (Bg prog w) A (getMethod (.ref x) name d) Q E s:=by have #[g,J,k]:=I.look;exact W.method_fn X J (sU c).1 (sU c).2 l (beq_iff_eq.mp j) (by show (uI name g).map (·.isSome)=Y ah;rw[k,i];rfl) h
theorem zkr{l:zQ}{Q:Unit->ak->Prop}(X:K.In s.heap)(I:ObjM s.heap x dx C mA)(q:gc K (.ref C) "__setattr__"=Y (Y (.builtin "object.__setattr__")))(t:W.plainOver K C=ae)(o:W.takerIn K C name=Y af)(u:uu K C=ae)(n:tX mA l)(p:l.length<=Bb)(h:∀h',ObjM h' x dx C (λy=>if y=name then Y v else mA y)->cv dx s.heap h'->Q PUnit.unit { s with heap:=h',toks:=s.toks+2 }) :
  Bf (Bg prog w) A (setAttr (.ref x) name v) Q E s:=by have #[M,J,O]:=I.look;refine W.set_plain X J q (W.osa_open (s:={ s with toks:=s.toks+1 }) (r:=af) X J t o λb=>?_);have #[T,z,j]:=W.any_some u;have m:s.heap.get? x=Y {.ref C,Y dx,.plain,#[]}:=I.obj;refine ba (bm (ba (ba (wpAny_loadPart m (ba (W.Looks.here (s:={ s with toks:=s.toks+1 }) (W.looks_clsIn X z) ?_))))));rw[j];refine bm (a:=Y dx) (ba (bm (ba ?_)));refine wpAny_nsSet1 (s:={ s with toks:=s.toks+1 }) I.ns λh' d c=>?_;have #[N,D,G,g,i,k]:=d.count (PySem.Within.cons name v n);refine ba (wpAny_lookBehind g (by rw[i];exact pastItsLine_dict (b9 k (by rw[bG];lia))) ?_);exact bm (h _ {(c.2 _ (eh I.ne)).trans I.obj,d,I.ne} c)
theorem zhU{R:aB->ak->Prop}{i:zS}(X:K.In s.heap)(j:uv K C=ae)(k:gc K (.ref C) "__init__"=Y (Y (.ref f)))(l:W.typeIn K (.ref f)=Y (.type "function"))(h:codeAny (Bg prog w) (A.under (.builtin "type.__call__" {.ref C::i,kw})) (.call (.ref f) {.ref (s.heap.objs.size+1)::i,kw}) (W.InitBack (s.heap.objs.size+1) R)
   { s with heap:=(s.heap.push fc).push (gU C s.heap.objs.size) }) :
  codeAny (Bg prog w) A (.call (.ref C) {i,kw}) R s:=by have #[n,g,d,t,m]:=s;exact W.make_core (W.makes_of X j) (W.looks_findIn X k) (λc=>W.bind_fn X c l) (.inl U) h
theorem zgy{R:aB->ak->Prop}(X:K.In s.heap)(i:uv K C=ae)(j:gc K (.ref C) "__init__"=Y (Y (.builtin "object.__init__")))(k:∀c,W.Looks (Bg prog w) s.heap (bindSpecial (.builtin "object.__init__") c) (.builtin "object.__init__",[c]))(h:codeAny (Bg prog w) (A.under (.builtin "type.__call__" {[.ref C],[]})) (.call (.builtin "object.__init__") {[.ref (s.heap.objs.size+1)],[]}) (W.InitBack (s.heap.objs.size+1) R)
   { s with heap:=(s.heap.push fc).push (gU C s.heap.objs.size) }) :
  codeAny (Bg prog w) A (.call (.ref C) {[],[]}) R s:=by have #[m,g,d,t,l]:=s;exact W.make_core (W.makes_of X i) (W.looks_findIn X j) k (.inr {U,U}) h
end
def xW(f:Str)(v:V):LSV->LSV
 |[]=>[(f,v)]
 |(g,x)::r=>if g=f then (g,v)::r else (g,x)::xW f v r
theorem Vc(f g:Str)(v:V):∀d:LSV,(xW f v d).lookup g=if g=f then Y v else d.lookup g
 |[]=>by
  show dC g [(f,v)]=_;by_cases h:g=f
  .have c:(g==f)=ae:=beq_iff_eq.mpr h;simp only[dC,c,ao h]
  .have c:(g==f)=ah:=beq_eq_false_iff_ne.mpr h;simp only[dC,c,ag h]
 |(k,x)::r=>by
  have i:=Vc f g v r;rw[show xW f v ((k,x)::r)=(if k=f then (k,v)::r else (k,x)::xW f v r) from rfl];by_cases hk:k=f
  .rw[ao hk];by_cases h:g=k
   .have c:(g==k)=ae:=beq_iff_eq.mpr h;simp only[dC,c,ao (h.trans hk)]
   .have c:(g==k)=ah:=beq_eq_false_iff_ne.mpr h;simp only[dC,c,ag (λe:g=f=>h (e.trans hk.symm))]
  .rw[ag hk];by_cases h:g=k
   .have c:(g==k)=ae:=beq_iff_eq.mpr h;simp only[dC,c,ag (λe:g=f=>hk (h.symm.trans e))]
   .have c:(g==k)=ah:=beq_eq_false_iff_ne.mpr h;simp only[dC,c];exact i
theorem Wr(f:Str)(v:V):∀c:LSV,f∈(xW f v c).map (·.1)/\∀g,g∈c.map (·.1)->g∈(xW f v c).map (·.1)
 |[]=>{by simp[xW],λg h=>by simp at h}
 |(k,x)::r=>by
  have #[i,d]:=Wr f v r;rw[show xW f v ((k,x)::r)=(if k=f then (k,v)::r else (k,x)::xW f v r) from rfl];by_cases hk:k=f
  .rw[ao hk];subst hk;exact{by simp,λg h=>by simpa using h}
  .rw[ag hk];refine{?_,λg h=>?_}
   .rw[bC];exact bw _ i
   .rw[bC] at h ⊢;obtain e|e:=bn.mp h
    .exact bn.mpr (.inl e)
    .exact bw _ (d g e)
theorem Vd(f:Str)(v:V):∀c:LSV,(xW f v c).length<=c.length+1
 |[]=>by simp[xW]
 |(k,x)::r=>by
  have d:=Vd f v r;rw[show xW f v ((k,x)::r)=(if k=f then (k,v)::r else (k,x)::xW f v r) from rfl];by_cases hk:k=f
  .rw[ao hk,bG,bG];lia
  .rw[ag hk,bG,bG];lia
theorem u9.some_of(r:u9 (Y v) o):∃u,o=Y u/\aR v u:=by
 cases o with
 |none=>exact(show False from r).elim
 |some u=>exact{u,U,r}
theorem u9.none_of(r:u9 af o):o=af:=by
 cases o with
 |none=>rfl
 |some u=>exact(show False from r).elim
theorem zgz(r:aR v u):W.handedIn u=ae:=by
 cases v with
 |non=>cases (show u=cE from r);rfl
 |bl b=>cases (show u=ma b from r);rfl
 |int i=>have #[t,e]:=(show ∃t,u=f9 i t from r);cases e;rfl
 |str x=>have #[t,e]:=(show ∃t,u=lL x t from r);cases e;rfl
 |byt b=>have #[t,e]:=(show ∃t,u=Value.bytes b t from r);cases e;rfl
 |flt b=>have #[t,e]:=(show ∃t,u=uq b t from r);cases e;rfl
 |ref a=>cases (show u=bN a from r);rfl
 |ty n=>cases (show u=fB n from r);rfl
section
variable {fs fs':LSV}
theorem Jg(g:As P w H h)(e:H a=Y (.ins C dx fs)):∃c,ObjM h a dx C c/\(∀f,u9 (fs.lookup f) (c f))/\tX c (fs.map (·.1))/\fs.length<=1000/\H dx=Y (.own a):=by have #[d,z,j,i,c,n,r,q]:=(show aT P w H h a (.ins C dx fs) from g a _ e);exact{c,{i,n,j},r,q,z,d}
end
structure Ae(K:bE)(C:B):Prop where
 pg:tI K C rm=ae
 hd:uu K C=ae
 po:W.plainOver K C=ae
 sa:gc K (.ref C) "__setattr__"=Y (Y (.builtin "object.__setattr__"))
theorem Ae.get{K:bE}(c:Ae K C)(f:Str):tI K C f=ae:=c.pg
def aL(K:bE)(C:B)(f:Str):Prop:=gc K (.ref C) f=Y af
theorem aL.taker{K:bE}{C:B}{f:Str}(n:aL K C f):W.takerIn K C f=Y af:=by unfold W.takerIn;rw[show gc K (.ref C) f=Y af from n];rfl
structure zcf(K:bE)(C:B)(m:Str)(f:B):Prop where
 at_:gc K (.ref C) m=Y (Y (.ref f))
 fn:W.isFn K (.ref f)=ae
 kp:pc K (.ref f)=ae
section
variable {fs:LSV}{f:Str}{v:V}
theorem Jx{b:Bool}{Q:nA}(I:aN X aa σ H s)(e:H a=Y (.ins C dx fs))(c:Ae X.K C)(n:aL X.K C f)(l:fs.lookup f=Y v)(h:∀u d,aN X aa σ H d->aR v u->Q u d):Bf (Bg X.p X.w) A (getAttr (.ref a) f b) Q E s:=by have #[i,O,r,_,_,_]:=Jg I.hok e;have #[u,j,g]:=u9.some_of (v:=v) (o:=i f) (by rw[<-l];exact r f);exact zkq I.kIn O (c.get f) c.hd n j (zgz g) (h u _ (I.tok _) g)
theorem YC{d:Sem Bool}{Q:am×zS->ak->Prop}(I:aN X aa σ H s)(e:H a=Y (.ins C dx fs))(c:Ae X.K C)(k:zcf X.K C m g)(l:fs.lookup m=af)(h:Q (.ref g,[.ref a]) s):Bf (Bg X.p X.w) A (getMethod (.ref a) m d) Q E s:=by have #[i,O,r,_,_,_]:=Jg I.hok e;have j:i m=af:=u9.none_of (by rw[<-l];exact r m);exact zhT I.kIn O (c.get m) k.at_ k.fn j h
theorem Jy{Q:Unit->ak->Prop}(I:aN X aa σ H s)(e:H a=Y (.ins C dx fs))(c:Ae X.K C)(n:aL X.K C f)(M:fs.length<1000)(p:aR y u)(h:∀j,aN X aa σ (upd H a (.ins C dx (xW f y fs))) j->Q PUnit.unit j):Bf (Bg X.p X.w) A (setAttr (.ref a) f u) Q E s:=by
 have #[k,O,r,i,_,l]:=Jg I.hok e;have t:(fs.map (·.1)).length<=Bb:=by rw[bh,cu];lia
 refine zkr I.kIn O c.sa c.po n.taker c.hd i t λh' d m=>h _ ?_;have G:∃o,h'.get? dx=Y o:=let ⟨o,_,_,e',_⟩:=d.ns;{o,e'}
 refine I.write (x:=a) (e:=dx) (by rw[e];exact fC) (.inr l) (λb q J z=>(m.2 b J).trans z) G ?_;refine{by rw[zk O.ne];exact l,?_,O.ne,d.obj,_,d.ns,λg=>?_,λg D=>?_}
 .have:=Vd f y fs;lia
 .show u9 ((xW f y fs).lookup g) (if g=f then Y u else k g);rw[Vc];by_cases q:g=f
  .rw[ao q,ao q];exact p
  .rw[ag q,ag q];exact r g
 .by_cases q:g=f
  .rw[q];exact(Wr f y fs).1
  .refine(Wr f y fs).2 g (i g λz=>D ?_);show (if g=f then Y u else k g)=af;rw[ag q];exact z
theorem aN.made(I:aN X aa σ H s):aN X aa σ (upd (upd H s.heap.objs.size (.own (s.heap.objs.size+1))) (s.heap.objs.size+1) (.ins C s.heap.objs.size []))
  { s with heap:=(s.heap.push fc).push (gU C s.heap.objs.size) }:=by
 have g:(s.heap.push fc).get? s.heap.objs.size=Y fc:=bq s.heap rfl;have n:((s.heap.push fc).push (gU C s.heap.objs.size)).get? (s.heap.objs.size+1)=Y (gU C s.heap.objs.size):=by
  have:=bq (s.heap.push fc) (o:=gU C s.heap.objs.size) rfl
  rwa [eK] at this
 have l:(s.heap.push fc).Ns s.heap.objs.size (λ_=>af):={fc,#[],_,g,U,(λe k=>absurd k (by simp)),λ_=>rfl};have r:=I.laid (a:=s.heap.objs.size) (o:=.own (s.heap.objs.size+1)) (h':=s.heap.push fc) (t':=s.toks) (λb u q=>bg _ q) (bo _) {_,g};refine r.laid (a:=s.heap.objs.size+1) (o:=.ins C s.heap.objs.size []) (t':=s.toks) (λb u q=>bg _ q) (ir (eK _ _)) ?_;have d:s.heap.objs.size≠s.heap.objs.size+1:=bK (i9 _);refine{by rw[zk d,zh],bQ _,d,n,λ_=>af,(Heap.Ns1.of_empty l).at λo q=>bg _ q,λ_=>fC,λy j=>absurd U j}
theorem zks{c:Env}{f:Str}{pos:Pos}{Q:nA}(g:attributeBase e f c (eval e c)=eval e c)(h:Bf (Bg prog w) A (eval e c) (λo d=>Bf (Bg prog w) A (getAttr o f ae) Q E d) E s):Bf (Bg prog w) A (eval (.Attribute e f pos) c) Q E s:=
 Attribute_any_ h (by rw[arm_eval_Attribute,g])
end
inductive zfs(K:bE)(f:Str)(Q:VK)(x:V)(H:Hp):Prop
 |mk (a C dx fs v:_):x=.ref a->H a=Y (.ins C dx fs)->Ae K C->aL K C f->fs.lookup f=Y v->Q v H->zfs K f Q x H
def yR(K:bE)(ta:TE)(f:Str):TE:=λσ H Q=>ta σ H (zfs K f Q)
inductive zcg(K:bE)(f:Str)(N:Hp->Prop)(y x:V)(H:Hp):Prop
 |mk (a C dx fs:_):x=.ref a->H a=Y (.ins C dx fs)->Ae K C->aL K C f->fs.length<1000->N (upd H a (.ins C dx (xW f y fs)))->zcg K f N y x H
def xD(K:bE)(ta c:TE)(f:Str):TS:=λD σ H=>c σ H λy d=>ta σ d (zcg K f (D.nx σ) y)
def znB(X:Cx)(d:Operator)(c:V->V->Hp->VK->Prop):Prop:=
 ∀(aa:uX)(s:ak)(σ:St)(H:Hp)(x y:V)(u v:am)(Q:VK),aN X aa σ H s->aR x u->aR y v->c x y H Q->Bf (Bg X.p X.w) X.A (inplaceOp d u v) (EP X aa σ Q) X.xe s
def za2(K:bE)(ta k:TE)(l:V->V->Hp->VK->Prop)(f:Str):TS:=λD σ H=>ta σ H λx j=>∃a C dx g v,x=.ref a/\j a=Y (.ins C dx g)/\Ae K C/\aL K C f/\g.lookup f=Y v /\
 k σ j λy m=>l v y m λz i=>∃d c,i a=Y (.ins C d c)/\c.length<1000/\D.nx σ (upd i a (.ins C d (xW f z c)))
section
variable {o value:av}{f:Str}{pos' tpos:Pos}{tv:TE}
theorem zy(i:PE X e ta)(j:attributeBase e f X.e (eval e X.e)=eval e X.e):PE X (.Attribute e f pos) (yR X.K ta f):=by intro aa s σ H Q I h;refine zks j (aW (i aa s σ H _ I h) ?_);rintro u D ⟨x,t,r,d,a,C,dx,G,v,k,m,c,n,l,q⟩;subst k;obtain rfl:u=bN a:=d;exact Jx r m c n l λy z p g=>{v,t,p,g,q}
theorem yo(r:PE X o ta)(m:PE X value tv)(p:swapsWith value (Y (.Attribute o f pos')) pos.line X.e=pure ah):PS X (.Assign [.Attribute o f pos'] value pos) (xD X.K ta tv f):=by intro aa s σ H D I h;refine plainObj_wpAny_Assign_Attribute (aW (m aa s σ H _ I h) λu d ⟨y,M,J,g,q⟩=>aW (r aa d σ M _ J q) ?_) p;rintro k O ⟨x,T,G,i,a,C,dx,Q,t,v,c,n,l,j⟩;subst t;obtain rfl:k=bN a:=i;exact Jy G v c n l g λN z=>{σ,_,z,j}
theorem Ws{i:V->V->Hp->VK->Prop}(T:PE X o ta)(Q:PE X value tv)(d:znB X op i):PS X (.AugAssign (.Attribute o f tpos) op value pos) (za2 X.K ta tv i f):=by intro aa s σ H D I h;refine wpAny_AugAssign_AttributeAny (aW (T aa s σ H _ I h) ?_);rintro N s1 ⟨x,H1,I1,t,a,C,dx,fs,v,ex,ea,c,n,l,q⟩;subst ex;obtain rfl:N=bN a:=t;refine Jx I1 ea c n l λu m I2 G=>aW (Q aa m σ H1 _ I2 q) λj k ⟨y,H2,I3,r,M⟩=>aW (d aa k σ H2 v y u j _ I3 G r M) ?_;rintro w4 s4 ⟨z,H3,I4,p,ai,ab,g,O,J⟩;exact Jy I4 g c n O p λs5 I5=>{σ,_,I5,J}
def zmt:V->V->Hp->VK->Prop:=λx y H Q=>∃i j,x=.int i/\y=.int j/\Q (.int (i+j)) H
theorem zeg:znB X .Add zmt:=by rintro aa s σ H x y u v Q I g d ⟨i,j,rfl,rfl,q⟩;have #[t,rfl]:=(show ∃t,u=f9 i t from g);have #[c,rfl]:=(show ∃c,v=f9 j c from d);exact PyProof.Rows.iadd_int {.int (i+j),H,I.tok _,{_,U},q}
end
section
variable {Q:nA}{c:am}{b:Bool}
inductive YD(K:bE)(H:Hp):V->am->Prop where
 |non:YD K H .non (.type "NoneType")
 |bl (x:Bool):YD K H (.bl x) (.type "bool")
 |int (i:Int):YD K H (.int i) (.type "int")
 |str (x:Str):YD K H (.str x) (.type "str")
 |flt (x:UInt64):YD K H (.flt x) (.type "float")
 |lst {a:B} {xs:LV} (e:H a=Y (.lst xs)):YD K H (.ref a) (.type "list")
 |frz {a:B} {o:Obj} {xs:LV} (e:H a=Y (.frz o (.lst xs))):YD K H (.ref a) (.type "list")
 |tup {a:B} {xs:LV} (e:H a=Y (.tup xs)):YD K H (.ref a) (.type "tuple")
 |dK {a:B} {aK:xN} (e:H a=Y (.dK aK)):YD K H (.ref a) (.type "dict")
 |dT {a:B} {aK:ya} (e:H a=Y (.dT aK)):YD K H (.ref a) (.type "dict")
 |ins {a C dx:B} {fs:LSV} (e:H a=Y (.ins C dx fs)) (cl:Ae K C) (ha:gc K (.ref C) "__class__"=Y (Y (.builtin "object.__class__"))) (hn:uw K (.builtin "object.__class__") "__get__"=Y (Y (.builtin "getset_descriptor.__get__"))) (htk:W.takesIn K (.builtin "object.__class__")=Y ae) (hm:uJ K C (.type "object")=Y ae):YD K H (.ref a) (.ref C)
theorem zgA{x:V}(I:aN X aa σ H s)(d:aR x u)(l:YD X.K H x t)(e:gF X.K t c=Y b)(h:∀m,Q (.bool b) { s with toks:=m }) :
  Bf (Bg X.p X.w) A (call (.builtin "isinstance") [u,c]) Q E s:=by
 cases l with
 |non=>cases (show u=cE from d);exact iY W.kitx_none I.kIn fC e () h
 |bl y=>cases (show u=ma y from d);exact iY W.kitx_bool I.kIn fC e () h
 |int i=>have #[t,q]:=(show ∃t,u=f9 i t from d);cases q;exact iY W.kitx_int I.kIn fC e () h
 |str y=>have #[t,q]:=(show ∃t,u=lL y t from d);cases q;exact iY W.kitx_str I.kIn fC e () h
 |flt y=>have #[t,q]:=(show ∃t,u=uq y t from d);cases q;exact iY W.kitx_float I.kIn fC e () h
 |@lst a j ea=>
  cases (show u=bN a from d);have #[_,_,n,_,g]:=(show aT X.p X.w H s.heap a (.lst j) from I.hok a _ ea);exact iY W.kitx_list I.kIn {_,g,U} e () h
 |@frz a ob j ea=>
  cases (show u=bN a from d);have #[_,_,_,n,_,g]:=(show aT X.p X.w H s.heap a (.frz ob (.lst j)) from I.hok a _ ea);exact iY W.kitx_list I.kIn {_,g,U} e () h
 |@tup a j ea=>
  cases (show u=bN a from d);have #[_,_,_,p]:=(show aT X.p X.w H s.heap a (.tup j) from I.hok a _ ea);have #[o,g,k,_]:=p;exact iY W.kitx_tuple I.kIn {o,g,k} e () h
 |@dK a aK ea=>
  cases (show u=bN a from d);have #[_,_,z,_,p]:=(show aT X.p X.w H s.heap a (.dK aK) from I.hok a _ ea);have #[o,r,v,g,k,_]:=p;exact iY W.kitx_dict I.kIn {o,g,k.1} e () h
 |@dT a aK ea=>
  cases (show u=bN a from d);have #[_,_,j,_,o,r,v,g,k,_]:=(show aT X.p X.w H s.heap a (.dT aK) from I.hok a _ ea);exact iY W.kitx_dict I.kIn {o,g,k.1} e () h
 |@ins a C dx fs ea cl ha hn htk hm=>
  cases (show u=bN a from d);have #[G,O,_]:=Jg I.hok ea;have #[D,J,_]:=O.look;exact iY (W.kitx_own (cl.get _) cl.hd ha hn htk hm) I.kIn J e () h
end
structure hZ(k:Nat)(A:aw):Prop where
 hd:A.handled=af
 dp:A.depth+3*k+5<recursionLimit
 un:A.units+16*k+200<cLine
theorem hZ.mono(r:hZ k A)(h:j<=k):hZ j A:={r.hd,by have:=r.dp;lia,by have:=r.un;lia}
theorem hZ.deeper(r:hZ (k+1) A)(c:Env):hZ k (A.deeper c):=
 {r.hd,by have:=r.dp;show A.depth+1+3*k+5<_;lia,by have:=r.un;show A.units+3+16*k+200<_;lia}
theorem zeh{C:B}{c:zS}{d:List (Str×am)}:(A.under (.builtin "type.__call__" {.ref C::c,d})).depth=A.depth+1:=by first|rfl|simp[tY,Code.weight,Code.isCreation,Code.isGuard,Code.isCaller,Code.frames,tZ,guardIds]
theorem zei{C:B}{c:zS}{d:List (Str×am)}:(A.under (.builtin "type.__call__" {.ref C::c,d})).units=A.units+1:=by first|rfl|simp[tY,Code.cUnits,Code.frames,tZ]
theorem hZ.make(r:hZ (k+1) A)(C:B)(c:zS)(d:List (Str×am)):hZ k (A.under (.builtin "type.__call__" {.ref C::c,d})):=
 {r.hd,by have:=r.dp;rw[zeh];lia,by have:=r.un;rw[zei];lia}
theorem hZ.depth(r:hZ k A):A.depth<recursionLimit:=by have:=r.dp;lia
theorem hZ.units(r:hZ k A):A.units+64<cLine:=by have:=r.un;lia
def zm:TA:=λ_ H Q=>Q [] H
def zf(ta:TE)(d:TA):TA:=λσ H Q=>ta σ H λx i=>d σ i λc g=>Q (x::c) g
variable {es:List av}
section
variable {t:TA}
theorem zc:PA X [] zm:=λ_ _ _ _ H Q I h=>gI {[],H,I,.nil,h}
theorem L(n:PE X e te)(m:PA X es t)(l:Be (e::es) X.e=(ah,eval e X.e)::Be es X.e:=by rfl):PA X (e::es) (zf te t):=by intro pos aa s σ H Q I h;rw[l];show Bf _ _ (spliced ((ah,eval e X.e)::backTo pos (Be es X.e))) _ _ s;refine eA (aW (n aa s σ H _ I h) ?_);rintro u d ⟨x,r,p,i,k⟩;exact aW (m pos aa d σ r _ p k) λv y ⟨c,q,o,g,j⟩=>{x::c,q,o,.cons i g,j}
inductive zkt(f:LV->HO)(Q:VK)(xs:LV)(H:Hp):Prop
 |mk:xs.length<=Bb->(∀p,H p=af->Q (.ref p) (upd H p (f xs)))->zkt f Q xs H
def xO(t:TA):TE:=λσ H Q=>t σ H (zkt .tup Q)
def vj(t:TA):TE:=λσ H Q=>t σ H (zkt .lst Q)
theorem zR{x1}(h:PA X es t):PE X (.Tuple es x1 pos) (xO t):=by intro aa s σ H Q I k;refine wpAny_Tuple_spliced (aW (h pos aa s σ H _ I k) λj c ⟨i,g,d,r,z,q⟩=>{by rw[<-r.length];exact z,?_});have l:g c.heap.objs.size=af:=d.hok.fresh (bo _);refine{.ref c.heap.objs.size,upd g c.heap.objs.size (.tup i),d.laid (t':=c.toks) (λb u e=>bg _ e) (bo _) ?_,U,q _ l};exact{z,j,r,{_,bq _ U,U,_,U}}
theorem zT(h:PA X es t):PE X (.List es pos) (vj t):=by intro aa s σ H Q I k;refine wpAny_List_spliced (aW (h pos aa s σ H _ I k) λj c ⟨i,g,d,r,z,q⟩=>{by rw[<-r.length];exact z,?_});have l:g c.heap.objs.size=af:=d.hok.fresh (bo _);refine{.ref c.heap.objs.size,upd g c.heap.objs.size (.lst i),d.laid (t':=c.toks) (λb u e=>bg _ e) (bo _) ?_,U,q _ l};exact{z,j,0,r,bq _ U}
end
abbrev Sp:=LV->Hp->VK->XK->Prop
abbrev CXT:=LEv->Hp->ak->XK->nA
structure Env0(P:aq)(w:ax)(K:bE)(mg:Ak)(base:au)(A:aw)(outer:LEv)(s:ak)(H:Hp):Prop where
 frames:A.frames=Y outer
 mod:Mod K mg base
 bs:∀b o,base.get? b=Y o->s.heap.get? b=Y o/\H b=af
 bsz:base.objs.size<=s.heap.objs.size
 funs:s.heap.FunFrames base outer
 frf:∀b∈frs outer,H b=af
 hok:As P w H s.heap
 bare:AllBare s.gens
def CE(c:LEv)(P:aq)(w:ax)(H:Hp)(s:ak)(Q:VK)(u:am)(d:ak):Prop:=
 ∃v H',d.os=s.os/\AllBare d.gens/\Un (frs c) [] H H' s.heap d.heap/\As P w H' d.heap/\aR v u/\Q v H'
def CR(g:CXT)(c:LEv)(P:aq)(w:ax)(H:Hp)(s:ak)(Q:VK)(E:XK)(r:aB)(d:ak):Prop:=
 match r with
 |.ok (.ret u)=>CE c P w H s Q u d
 |.ok _=>False
 |.error e=>g c H s E e d
structure bv(P:aq)(w:ax)(K:bE)(mg:Ak)(base:au)(CX:CXT)(k:Nat)(f:B)(fd:Bc)(ps:zQ)(sp:Sp):Prop where
 len:∀vs H Q E,sp vs H Q E->vs.length=ps.length
 run:∀(A:aw)(outer:LEv)(s:ak)(H:Hp)(args:Args)(us:zS)(vs:LV)(Q:VK)(E:XK),hZ k A->Env0 P w K mg base A outer s H->BindsTo s fd args (ps.zip us)->aP vs us->sp vs H Q E ->
  codeAny (Bg P w) A (.call (.ref f) args) (CR CX outer P w H s Q E) s
theorem bv.mono{w:ax}{K:bE}{mg:Ak}{base:au}{CX:CXT}{j k:Nat}{f:B}{fd:Bc}{ps:zQ}{sp:Sp}(F:bv P w K mg base CX j f fd ps sp)(h:j<=k) :
  bv P w K mg base CX k f fd ps sp:={F.len,λA outer s H args us vs Q E c=>F.run A outer s H args us vs Q E (c.mono h)}
theorem Env0.make{w:ax}{K:bE}{mg:Ak}{base:au}{A:aw}{outer:LEv}{s:ak}{H:Hp}(e:Env0 P w K mg base A outer s H)(C:B)(c:zS)(d:List (Str×am)) :
  Env0 P w K mg base (A.under (.builtin "type.__call__" {.ref C::c,d})) outer s H:={by first|exact e.frames|(simpa[tY,Code.envs,tZ,pushEnvs] using e.frames),e.mod,e.bs,e.bsz,e.funs,e.frf,e.hok,e.bare}
section
variable {s':ak}
theorem aN.env0(I:aN X aa σ H s):Env0 X.p X.w X.K X.mg X.M X.A X.k s H:=
 {I.ok.frames,I.ok.mod,I.bs,b9 I.ok.bsz I.sz,I.stack,I.stkFree,I.hok,I.bare}
theorem aN.after{Q:VK}(I:aN X aa σ H s)(h:CE X.k X.p X.w H s Q u s'):EP X aa σ Q u s':=by have #[v,H',os,bare,un,hok,r,q]:=h;have #[k,g,d,t,j]:=s';obtain rfl:j=s.os:=os;exact{v,H',I.call (h':=k) (g':=g) (d':=d) (t':=t) (ch:=[]) un hok bare (λb z=>absurd z (by simp)),r,q}
end
def zZ(g:Sp)(c:LV)(E:XK)(t:TA):TE:=λσ H Q=>t σ H λd i=>g (d++c) i Q E
inductive zej(C:B)(m:Str)(R:VK)(x:V)(H:Hp):Prop
 |mk (a dx fs:_):x=.ref a->H a=Y (.ins C dx fs)->fs.lookup m=af->R x H->zej C m R x H
def yk(C:B)(m:Str)(g:Sp)(c:LV)(E:XK)(ta:TE)(t:TA):TE:=λσ H Q=>ta σ H (zej C m λx j=>t σ j λd i=>g (x::(d++c)) i Q E)
def Xf(C:B)(i:Sp)(c:LV)(E:XK)(t:TA):TE:=λσ H Q=>t σ H λg d=>∀x dx,d x=af->d dx=af->dx≠x ->
 i (.ref x::(g++c)) (upd (upd d dx (.own x)) x (.ins C dx [])) (λv j=>v=.non/\Q (.ref x) j) E
def hV(K:bE)(i:Bc)(d:zQ)(g:zS):Prop:=
 ∀(s:ak)(c:zS),K.In s.heap->(c++g).length=d.length->BindsTo s i {c,[]} (d.zip (c++g))
theorem hV.all{K:bE}{g:Bc}(h:∀c:zS,c.length=ps.length->bindArgs g {c,[]}=pure (ps.zip c)):hV K g ps []:=λs c _ d=>by rw[cL] at d ⊢;exact .of_eq (h c d)
def vE(d:CXT)(X:Cx)(E:XK):Prop:=∀(aa:uX)(σ:St)(H:Hp)(s:ak)(e:am)(c:ak),aN X aa σ H s->d X.k H s E e c->X.xe e c
variable {CX:CXT}{fd:Bc}{ps:zQ}{sp:Sp}{p gV:Pos}
section
variable {k:Nat}{dvs:LV}{ds:zS}{E:XK}{x m:Str}{o:av}{t:TA}
theorem za3{H:Hp}{Q:VK}(F:bv X.p X.w X.K X.mg X.M CX k f fd ps sp)(j:hZ k X.A)(q:hV X.K fd ps ds)(n:aP dvs ds)(i:vE CX X E)(I:aN X aa σ H s)(r:aP vs us)(h:sp (vs++dvs) H Q E):Bf (Bg X.p X.w) X.A (call (.ref f) us) (EP X aa σ Q) X.xe s:=by
 have d:aP (vs++dvs) (us++ds):=r.append n;have l:(us++ds).length=ps.length:=by rw[<-d.length];exact F.len _ _ _ _ h
 refine tJ (gg (F.run X.A X.k s H {us,[]} (us++ds) (vs++dvs) Q E j I.env0 (q s us I.kIn l) d h) λr g c=>?_);cases r with
 |error e=>exact i aa σ H s e g I c
 |ok fl=>
  cases fl with
  |ret u=>exact I.after c
  |next=>exact fP c
  |brk=>exact fP c
  |cont=>exact fP c
theorem zft(F:bv X.p X.w X.K X.mg X.M CX k f fd ps sp)(j:hZ k X.A)(u:Gl X x)(l:X.mg x=Y (.ref f))(n:pc X.K (.ref f)=ae)(z:hV X.K fd ps ds)(y:aP dvs ds)(i:vE CX X E)(D:PA X (e::es) t)(d:Bq x:=by lia)(v:Be (e::es) X.e=(ah,eval e X.e)::Be es X.e:=by rfl)(c:(backTo pos (Be es X.e)).any (·.1)=ah:=by rfl) :
  PE X (.Call (.Name x p) (e::es) [] pos) (zZ sp dvs E t):=by intro aa s σ H Q I h;refine gh (Xb I u l ?_ d);refine ro (h₀:=X.M) I.ok.mod.kin n (aW (D pos aa s σ H _ I h) λJ M ⟨G,N,g,r,q⟩=>{g.kIn,?_}) v c;exact za3 F j z y i g r q
theorem Jh{pl:Sem Bool}(N:PE X o ta)(c:Ae X.K C)(j:zcf X.K C m f)(F:bv X.p X.w X.K X.mg X.M CX k f fd ps sp)(M:hZ k X.A)(T:hV X.K fd ps ds)(O:aP dvs ds)(G:vE CX X E)(ha:PA X (e::es) t)(d:Be (e::es) X.e=(ah,eval e X.e)::Be es X.e:=by rfl)(g:(backTo pos (Be es X.e)).any (·.1)=ah:=by rfl)(J:eval (.Call (.Attribute o m gV) (e::es) [] pos) X.e=(do
   let i <-eval o X.e
   standAt gV.atName
   let (f,first) <-holding [i] (getMethod i m pl)
   callWith pos f first (backTo pos (Be (e::es) X.e)) (backToKw pos (keywordEach [] X.e))):=by rfl) :
  PE X (.Call (.Attribute o m gV) (e::es) [] pos) (yk C m sp dvs E ta t):=by intro aa s σ H Q I h;refine rp (pl:=pl) (aW (N aa s σ H _ I h) ?_) J;rintro u y ⟨x,H1,v,z,a,dx,fs,ex,ea,l,q⟩;subst ex;obtain rfl:u=bN a:=z;refine YC v ea c j l ?_;refine ro (first:=[.ref a]) (h₀:=X.M) I.ok.mod.kin j.kp (aW (ha pos aa y σ H1 _ v q) λus s2 ⟨vs,H2,n,r,D⟩=>{n.kIn,?_}) d g;exact za3 (us:=.ref a::us) (vs:=.ref a::vs) F M T O G n (.cons U r) D
theorem zch{pl:Sem Bool}(y:PE X o ta)(c:Ae X.K C)(i:zcf X.K C m f)(F:bv X.p X.w X.K X.mg X.M CX k f fd ps sp)(v:hZ k X.A)(D:hV X.K fd ps ds)(z:aP dvs ds)(n:vE CX X E)(r:eval (.Call (.Attribute o m gV) [] [] pos) X.e=(do
   let g <-eval o X.e
   standAt gV.atName
   let (f,first) <-holding [g] (getMethod g m pl)
   callWith pos f first (backTo pos (Be [] X.e)) (backToKw pos (keywordEach [] X.e))):=by rfl) :
  PE X (.Call (.Attribute o m gV) [] [] pos) (yk C m sp dvs E ta zm):=by intro aa s σ H Q I h;refine rp (pl:=pl) (aW (y aa s σ H _ I h) ?_) r;rintro u M ⟨x,O,d,j,a,dx,N,G,J,l,q⟩;subst G;obtain rfl:u=bN a:=j;refine YC d J c i l ?_;exact sV (first:=[.ref a]) d.kIn i.kp (za3 (us:=[.ref a]) (vs:=[.ref a]) F v D z n d (.cons U .nil) q)
structure Mk(K:bE)(C f:B):Prop where
 makes:uv K C=ae
 init:gc K (.ref C) "__init__"=Y (Y (.ref f))
 fn:W.isFn K (.ref f)=ae
 kp:pc K (.ref C)=ae
theorem zci{H:Hp}{Q:VK}(M:Mk X.K C f)(F:bv X.p X.w X.K X.mg X.M CX k f fd ps sp)(y:hZ (k+1) X.A)(G:hV X.K fd ps ds)(D:aP dvs ds)(q:vE CX X E)(I:aN X aa σ H s)(r:aP vs us)(h:∀x dx,H x=af->H dx=af->dx≠x->sp (.ref x::(vs++dvs)) (upd (upd H dx (.own x)) x (.ins C dx [])) (λv O=>v=.non/\Q (.ref x) O) E) :
  Bf (Bg X.p X.w) X.A (call (.ref C) us) (EP X aa σ Q) X.xe s:=by
 have i:=h (s.heap.objs.size+1) s.heap.objs.size (I.hok.fresh (gO _)) (I.hok.fresh (bo _)) (bK (i9 _));have d:=aN.made (C:=C) I;have g:aP (V.ref (s.heap.objs.size+1)::(vs++dvs)) (bN (s.heap.objs.size+1)::(us++ds)):=.cons U (r.append D);have z:(bN (s.heap.objs.size+1)::us++ds).length=ps.length:=by have e:=g.length;rw[F.len _ _ _ _ i] at e;exact e.symm
 refine tJ (zhU (f:=f) I.kIn M.makes M.init (beq_iff_eq.mp M.fn) (gg (F.run _ X.k _ _ {bN (s.heap.objs.size+1)::us,[]} (bN (s.heap.objs.size+1)::(us++ds)) _ _ E (y.make C us []) (d.env0.make C us []) (G _ (bN (s.heap.objs.size+1)::us) d.kIn z) g i) λr j c=>?_))
 cases r with
 |error e=>exact q aa σ _ _ e j d c
 |ok fl=>
  cases fl with
  |ret u=>
   have #[v,H',N,l,J,n]:=d.after c;subst J;exact{l,{V.ref (s.heap.objs.size+1),H',N,U,n}}
  |next=>exact fP c
  |brk=>exact fP c
  |cont=>exact fP c
theorem js(M:Mk X.K C f)(F:bv X.p X.w X.K X.mg X.M CX k f fd ps sp)(j:hZ (k+1) X.A)(n:Gl X x)(l:X.mg x=Y (.ref C))(y:hV X.K fd ps ds)(v:aP dvs ds)(i:vE CX X E)(z:PA X (e::es) t)(d:Bq x:=by lia)(u:Be (e::es) X.e=(ah,eval e X.e)::Be es X.e:=by rfl)(c:(backTo pos (Be es X.e)).any (·.1)=ah:=by rfl) :
  PE X (.Call (.Name x p) (e::es) [] pos) (Xf C sp dvs E t):=by intro aa s σ H Q I h;refine gh (Xb I n l ?_ d);refine ro (h₀:=X.M) I.ok.mod.kin M.kp (aW (z pos aa s σ H _ I h) λG J ⟨D,N,g,r,q⟩=>{g.kIn,?_}) u c;exact zci M F j y v i g r q
theorem zcj(M:Mk X.K C f)(F:bv X.p X.w X.K X.mg X.M CX k f fd ps sp)(g:hZ (k+1) X.A)(j:Gl X x)(i:X.mg x=Y (.ref C))(n:hV X.K fd ps ds)(l:aP dvs ds)(d:vE CX X E)(c:Bq x:=by lia):PE X (.Call (.Name x p) [] [] pos) (Xf C sp dvs E zm):=by intro aa s σ H Q I h;refine gh (Xb I j i ?_ c);exact sV I.kIn M.kp (zci (us:=[]) M F g n l d I .nil h)
end
structure aH(N P:zQ)(sc:aA):Prop where
 kind:sc.kind=.function
 co:sc.isCoroutine=ah
 gen:sc.isGenerator=ah
 nd:N.Nodup
 pre:N.take P.length=P
 par:∀x∈P,sc.names.lookup x=Y .local\/sc.names.lookup x=Y .cell
 nofree:∀y∈sc.names,y.2≠.free
theorem QW{d:Str->Option NameKind}{x:Str}:∀ {c:List (Str×am)}{m:Ak},(∀v,(x,v) ∉ c)->bindL d c m x=m x
 |[],_,_=>rfl
 |(n,v)::r,m,h=>by
  unfold bindL;rw[QW λw g=>h w (bw _ g)];split
  .have:x≠n:=by rintro rfl;exact h v bu
   simp[this]
  .rfl
theorem QY{d:Str->Option NameKind}{x:Str}:∀ {c:List (Str×am)}{m:Ak},(∀v,(x,v) ∉ c)->bindC d c m x=m x
 |[],_,_=>rfl
 |(n,v)::r,m,h=>by
  unfold bindC;rw[QY λw g=>h w (bw _ g)];split
  .rfl
  .have:x≠n:=by rintro rfl;exact h v bu
   simp[this]
theorem QZ{c:Str->Option NameKind}{x:Str}{v:am}:∀ {P:zQ}{d:zS}{i:Nat}{m:Ak},P.Nodup->P[i]?=Y x->d[i]?=Y v->c x=Y .local ->
  bindL c (P.zip d) m x=Y v
 |[],_,_,_,_,h,_,_=>by simp at h
 |_::_,[],_,_,_,_,h,_=>by simp at h
 |p::P,w::d,0,m,nd,h1,h2,hk=>by simp at h1 h2;subst h1;subst h2;show bindL c ((p,w)::P.zip d) m p=_;unfold bindL;rw[QW λv g=>(cx.mp nd).1 (rq g).1,ao hk];simp
 |p::P,w::d,i+1,m,nd,h1,h2,hk=>by show bindL c ((p,w)::P.zip d) m x=_;unfold bindL;exact QZ (i:=i) (cx.mp nd).2 (by simpa using h1) (by simpa using h2) hk
theorem Q5{c:Str->Option NameKind}{x:Str}{v:am}:∀ {P:zQ}{d:zS}{i:Nat}{m:Ak},P.Nodup->P[i]?=Y x->d[i]?=Y v->c x≠Y .local ->
  bindC c (P.zip d) m x=Y v
 |[],_,_,_,_,h,_,_=>by simp at h
 |_::_,[],_,_,_,_,h,_=>by simp at h
 |p::P,w::d,0,m,nd,h1,h2,hk=>by simp at h1 h2;subst h1;subst h2;show bindC c ((p,w)::P.zip d) m p=_;unfold bindC;rw[QY λv g=>(cx.mp nd).1 (rq g).1,ag hk];simp
 |p::P,w::d,i+1,m,nd,h1,h2,hk=>by show bindC c ((p,w)::P.zip d) m x=_;unfold bindC;exact Q5 (i:=i) (cx.mp nd).2 (by simpa using h1) (by simpa using h2) hk
def start(N:zQ)(c:LV):St:=c.map Y++dF (N.length-c.length) af
def Qa(CX:CXT)(P:aq)(w:ax)(K:bE)(mg:Ak)(base:au)(N:zQ)(d:Str)(c:aA)(f:B)(i:am)(A:aw)(outer:LEv)(s:ak)(H:Hp)(E:XK):Cx where
 p:=P
 w:=w
 K:=K
 mg:=mg
 M:=base
 A:=A.deeper (envOfC d c s.heap.objs.size f i)
 N:=N
 s₀:=s
 H₀:=H
 e:=envOfC d c s.heap.objs.size f i
 J:=outer
 k:=envOfC d c s.heap.objs.size f i::outer
 ex:=[]
 c:=ae
 fn:=λ_=>ae
 pn:=[]
 xe:=λe j=>Bf (Bg P w) (A.deeper (envOfC d c s.heap.objs.size f i)) (leaving (envOfC d c s.heap.objs.size f i) e) (λ_ g=>CX outer H s E e g) (λk g=>CX outer H s E k g) j
theorem zck{d:aA}{n:Nat}{x:Str}(h:d.names.lookup x=Y .cell):∃c,(cellsFrom n d.names []).lookup x=Y c:=by have q:=W.cellsFrom_some d.names n [] (.inl h);exact gJ.mp q
theorem zgB{CX:CXT}{P:aq}{w:ax}{K:bE}{T:Ak}{m:au}{N ps:zQ}{j:Str}{d:aA}{f:B}{O:am}{A:aw}{g:LEv}{s s1:ak}{H:Hp}{E:XK}{Q:zS}{t:LV}
  (S:aH N ps d) (hd:A.handled=af) (o:Env0 P w K T m A g s H) (hl:t.length=ps.length) (r:aP t Q) (x:InCallC s s.heap.objs.size (bindL (envOfC j d s.heap.objs.size f O).kindOf (ps.zip Q) λ_=>af) (cellsFrom (s.heap.objs.size+1) d.names []) (bindC (envOfC j d s.heap.objs.size f O).kindOf (ps.zip Q) λ_=>af) s1) :
  aN (Qa CX P w K T m N j d f O A g s H E) [] (start N t) H s1:=by
 have ab:ps.length<=N.length:=by have:=congrArg dQ S.pre;rw[cf] at this;lia
 have #[M,tk,rfl,hk]:=x.done;have D:∀b:B,b ∉ (Qa CX P w K T m N j d f O A g s H E).ex:=λb z=>absurd (show b∈([]:List B) from z) (by simp);refine{{o.mod,S.kind,U,U,bo _,λy z c M l=>?_,λy hy=>?_,λy c _ h=>?_,λ_=>hd,Around.frames_deeper o.frames,.inr {U,U},λb z=>absurd z (D b),o.bs,o.bsz,λb _ _=>D b,λb z=>absurd z (D b),o.funs,o.frf},
  rfl,o.bare,Un.kept hk,{_,x.toInCall.ns,λi y v M l h3=>?_},λy c h=>{_,x.cell y c h},o.hok.fresh (bo _),λy c h=>?_,λp I=>absurd (show p∈([]:uX) from I) (by simp),o.hok.kept hk,?_}
 .exact name_of_addr x.apart (fT M) (fT l)
 .have hy:d.names.lookup y=Y .cell\/d.names.lookup y=Y .free:=hy;obtain hy|hy:=hy
  .exact zck hy
  .exact absurd U (S.nofree _ (fT hy))
 .exact mH (x.above y c (fT h))
 .have J:i<t.length:=by
   unfold start at l;by_cases J:i<t.length
   .exact J
   .rw[dA (by simpa using J)] at l;rw[pq] at l;split at l <;> cases l
  have ha:t[i]?=Y v:=by
   unfold start at l;rw[cR (by simpa using J),br] at l;cases e:t[i]? with
   |none=>rw[e] at l;cases l
   |some a=>rw[e] at l;cases l;rfl
  have #[u,hu,rv]:=r.get ha;have I:ps[i]?=Y y:=by rw[<-S.pre,cM ()];exact M
  have G:ps.Nodup:=by rw[<-S.pre];exact S.nd.sublist (tK _ _)
  refine{u,rv,?_};obtain k|k:=S.par y (bU I)
  .exact .inl {k,QZ G I hu k}
  .have #[c,e]:=zck (n:=s.heap.objs.size+1) k;refine .inr {.inl k,c,e,?_};have q:=x.cell y c e;rw[Q5 G I hu (by show d.names.lookup y≠_;rw[k];decide)] at q;exact q
 .exact o.hok.fresh (mH (x.above y c (fT h)))
 .unfold start;show _=N.length;rw[bx,bh,iu];lia
theorem zlP{CX:CXT}{P:aq}{w:ax}{K:bE}{mg:Ak}{l:au}{k:Nat}{f:B}{G g:Str}{j:Arguments}{m:List ap}{c:aA}{dV kV al pm i ct oc:am}{an od:Option B}
  {ar:Array (Option am)} {N ps:zQ} {sp:Sp} (lk:K.lookup f=Y {oc,od,.func (ux G g j m c dV kV al pm an i ct),ar}) (az:uo K i g=ae) (S:aH N ps c) (ab:∀D H Q E,sp D H Q E->D.length=ps.length) (O:∀(A:aw)(d:LEv)(s:ak)(H:Hp)(D:LV)(Q:VK)(E:XK),hZ k (A.deeper (envOfC g c s.heap.objs.size f i))->sp D H Q E ->
   ∃t,PSs (Qa CX P w K mg l N g c f i A d s H E) m t/\t { nx:=λ_ H'=>Q .non H',rt:=Q } (start N D) H) :
  bv P w K mg l CX (k+1) f (ux G g j m c dV kV al pm an i ct) ps sp:=by
 refine{ab,λA d s H aK us D Q E hr e0 hb r ai=>?_};have hl:=ab _ _ _ _ ai;have KX:K.In s.heap:=e0.mod.kin.keeps λb o e=>(e0.bs b o e).1;have as:s.heap.NoLimit:=e0.mod.nolimit.keeps λb o e=>(e0.bs b o e).1;have M:∀y∈ps.zip us,c.names.lookup y.1=Y .local\/(c.names.lookup y.1=Y .cell/\((cellsFrom (s.heap.objs.size+1) c.names []).lookup y.1).isSome=ae):=λ⟨n,v⟩ hy=>by
  obtain q|q:=S.par n (rq hy).1
  .exact .inl q
  .exact .inr {q,W.cellsFrom_some _ _ _ (.inl q)}
 refine codeAny_call_function hr.depth (KX _ _ lk) U S.co S.gen U (W.codeRec_of KX az) (hb _ _ _ _ ?_);refine wpAny_newFunctionEnv_cells S.kind M λaQ he s1 x=>?_;subst he;refine{as.keeps x.toInCall.keep,codeAny_func ?_};have #[t,ht,hq]:=O A d s H D Q E (hr.deeper _) ai;have I:aN (Qa CX P w K mg l N g c f i A d s H E) [] (start N D) H s1:=zgB S hr.hd e0 hl r x;refine f6 (ht [] s1 (start N D) H _ I hq) (λfl s' T=>?_) λe s' T=>T;have aj:∀ {z:St}{H':Hp}{v:V}{u:am},aN (Qa CX P w K mg l N g c f i A d s H E) [] z H' s'->aR v u->Q v H'->CE d P w H s Q u s':=
  λ{z H' v u} J rv q=>{v,H',J.os,J.bare,J.base,J.hok,rv,q}
 cases fl with
 |ret u=>
  have #[v,z,H',J,rv,q]:=T;exact aj J rv q
 |next=>
  have #[z,H',J,q]:=T;exact aj (v:=V.non) (u:=cE) J U q
 |brk=>
  have #[_,_,_,q]:=T;exact fP q
 |cont=>
  have #[_,_,_,q]:=T;exact fP q
section
variable {x:Str}{t:TA}{id T:String}{r:LV->Hp->VK->Prop}
def uS(r:LV->Hp->VK->Prop)(t:TA):TE:=λσ H Q=>t σ H λc d=>r c d Q
theorem zK(v:wM X (.builtin id) r)(q:Gl X x)(o:X.mg x=af)(m:Bh x=Y (.builtin id))(y:PA X (e::es) t)(n:x≠"__name__":=by lia)(d:Bq x:=by lia)(u:Be (e::es) X.e=(ah,eval e X.e)::Be es X.e:=by rfl)(c:(backTo pos (Be es X.e)).any (·.1)=ah:=by rfl):PE X (.Call (.Name x p) (e::es) [] pos) (uS r t):=by intro aa s σ H Q I h;refine gh (qo I q o m ?_ n d);exact PyProof.Rows.callWith_builtin1 (aW (y pos aa s σ H _ I h) λi j ⟨g,D,z,k,l⟩=>v aa j σ D g i Q z k l) u c
theorem zW(v:wM X (.type T) r)(q:Gl X x)(o:X.mg x=af)(m:Bh x=Y (.type T))(y:PA X (e::es) t)(n:x≠"__name__":=by lia)(d:Bq x:=by lia)(u:Be (e::es) X.e=(ah,eval e X.e)::Be es X.e:=by rfl)(c:(backTo pos (Be es X.e)).any (·.1)=ah:=by rfl):PE X (.Call (.Name x p) (e::es) [] pos) (uS r t):=by intro aa s σ H Q I h;refine gh (qo I q o m ?_ n d);exact dq (aW (y pos aa s σ H _ I h) λi j ⟨g,D,z,k,l⟩=>v aa j σ D g i Q z k l) u c
end
end L2
namespace HT
open PySem PyProof.Rows
theorem rcLt_int(A:aw)(s:ak)(a:Int)(t:Tok)(c:Int)(u:Tok)(b:aq)(w:ax)(E:am->ak->Prop)(Q:am->ak->Prop)(h:Q (.bool (decide (a<c))) s) :
  Bf (Bg b w) A (richCompare .Lt (.int a t) (.int c u)) Q E s:=
 (sG h:Bf (Bg b w) A (Bi .Lt (.int a t) (.int c u)) Q E s)
section
variable {prog:aq}{w:ax}{A:aw}{E:am->ak->Prop}{s:ak}
theorem cat_tup{Q:am->ak->Prop}(u:IsTup s.heap t vs.toArray)(v:IsTup s.heap b ws.toArray)(m:vs≠[])(y:ws=[]->Q (.ref t) s)(x:ws≠[]->Q (.ref s.heap.objs.size) { s with heap:=s.heap.push { cls:=.type "tuple",data:=.seq (vs++ws).toArray } })(i:vs.length+ws.length<=Bb):Bf (Bg prog w) A (binaryOp .Add (.ref t) (.ref b)) Q E s:=by
 have #[#[cls,q,data,k],h,p,n,o]:=id u;have #[#[r,g,j,c],a,f,l,d]:=id v;simp only at p o f d;subst p o f d;have e:vs.toArray++ws.toArray=(vs++ws).toArray:=by simp
 by_cases hw:ws=[]
 .exact concat_meets {_,h,U} {_,a,U} noFill_tuple_add seq_tuple_add pV pA (oJ _ _) (tuple_addW1 t b vs.toArray ws.toArray n l q g k c (by simpa using m) (by simp[hw])) {h,a,y hw}
 .refine concat_meets {_,h,U} {_,a,U} noFill_tuple_add seq_tuple_add pV pA (oJ _ _) (tuple_addW2 t b vs.toArray ws.toArray n l q g k c (by simpa using m) (by simpa using hw) (by rw[bJ,bJ];exact i)) {h,a,?_}
  rw[e];exact x hw
def sIx(n d:Nat):Option Int->Nat
 |none=>d
 |some v=>if v<0 then (v+(n:Int)).toNat else min v.toNat n
theorem sIx_none(n d:Nat):sIx n d af=d:=rfl
theorem sIx_nat(n d k:Nat):sIx n d (Y (k:Int))=min k n:=by show (if (k:Int)<0 then ((k:Int)+(n:Int)).toNat else min (k:Int).toNat n)=min k n;rw[ag (),cy]
theorem sIx_le(n d:Nat)(a:d<=n)(o:Option Int):sIx n d o<=n:=by
 cases o with
 |none=>exact a
 |some v=>
  show (if v<0 then (v+(n:Int)).toNat else min v.toNat n)<=n;by_cases hv:v<0
  .rw[ao hv];lia
  .rw[ag hv];exact Nat.min_le_right _ _
end
end HT
namespace L2
open PySem PySem.Spec PyProof.Rows
abbrev TO:=St->Hp->(Option Int->Hp->Prop)->Prop
def PO(X:Cx)(e:Option av)(t:TO):Prop:=
 ∀(b:uX)(s:ak)(a:St)(H:Hp)(Q:Option Int->Hp->Prop),aN X b a H s->t a H Q ->
  Bf (Bg X.p X.w) X.A (evalPart e X.e) (λu d=>∃o c,aN X b a c d/\IsPart u o/\Q o c) X.xe s
def jV:TO:=λ_ H Q=>Q af H
inductive zek(Q:Option Int->Hp->Prop)(x:V)(H:Hp):Prop
 |mk (i:_):x=.int i->Q (Y i) H->zek Q x H
def qT(t:TE):TO:=λa H Q=>t a H (zek Q)
abbrev yz:=List Int
theorem zel{ns:yz}:∀ {a:zS},aP (ns.map V.int) a->IntsAre a ns:=by
 induction ns with
 |nil=>intro a r;rw[lE] at r;cases r;exact .nil
 |cons n ns ih=>
  intro a r;rw[bC] at r;cases r with
  |cons r1 r2=>
   have #[t,e]:=r1;subst e;exact .cons n t (ih r2)
variable {X:Cx}{e:av}{pos:Pos}
section
variable {te:TE}{lo hi:Option av}{tl th:TO}{p2:Pos}
theorem vR:PO X af jV:=by intro b s a H Q I h;rw[evalPart_none];exact bm {af,H,I,.none,h}
theorem xM(h:PE X e te):PO X (Y e) (qT te):=by intro f s a H Q I d;rw[evalPart_some];refine aW (h f s a H _ I d) ?_;rintro u k ⟨x,j,g,b,c⟩;have #[i,rfl,q]:=c;have #[t,rfl]:=b;exact{Y i,j,g,.int i t,q}
def SlR(X:Cx)(r:V->Option Int->Option Int->Hp->VK->Prop):Prop:=
 ∀(f:uX)(s:ak)(a:St)(H:Hp)(x:V)(v c b:am)(lo hi:Option Int)(d:B)(Q:VK),aN X f a H s->aR x v->s.heap.IsSliceOf d c b .none->IsPart c lo->IsPart b hi->r x lo hi H Q ->
  ∃T id,typeLookup (.type T) "__getitem__"=pure (Y (.builtin id))/\s.TypeIs v T/\Bf (Bg X.p X.w) X.A (getItem v (.ref d)) (EP X f a Q) X.xe s
def tSl(r:V->Option Int->Option Int->Hp->VK->Prop)(te:TE)(tl th:TO):TE:=λa H Q=>te a H λx d=>tl a d λl c=>th a c λu b=>r x l u b Q
theorem xF{r:V->Option Int->Option Int->Hp->VK->Prop}(A:SlR X r)(E:PE X e te)(C:PO X lo tl)(y:PO X hi th):PE X (.Subscript e (.Slice lo hi af p2) pos) (tSl r te tl th):=by intro d s c H Q I h;refine Subscript_ (aW (E d s c H _ I h) ?_);rintro v k ⟨x,H1,O,m,p⟩;refine wpAny_Slice (aW (C d k c H1 _ O p) λg j ⟨l,H2,N,w,o⟩=>aW (y d j c H2 _ N o) ?_);rintro f a ⟨u,i,M,t,n⟩;rw[evalPart_none];refine bm ?_;have J:aN X d c i { a with heap:=a.heap.push { cls:=.type "slice",data:=.fields #[g,f,.none] } }:=M.kept (t':=a.toks) λb ob q=>bg _ q;have #[T,id,G,z,D]:=A d { a with heap:=a.heap.push { cls:=.type "slice",data:=.fields #[g,f,.none] } } c i x v g f l u a.heap.objs.size Q J m (Heap.IsSliceOf.new ..) w t n;show Bf (Bg X.p X.w) X.A (subscriptTail e (.Slice lo hi af p2) v (.ref a.heap.objs.size)) (EP X d c Q) X.xe { a with heap:=a.heap.push { cls:=.type "slice",data:=.fields #[g,f,.none] } };exact tail_any (ops:=[.ref a.heap.objs.size,v]) z G D (by with_unfolding_all rfl)
def jU(a:LV)(lo hi:Option Int):LV:=(a.drop (HT.sIx a.length 0 lo)).take (HT.sIx a.length a.length hi-HT.sIx a.length 0 lo)
theorem zcl(a:LV)(lo hi:Option Int):(jU a lo hi).length<=a.length:=by unfold jU;rw[cf,fD];lia
def zcm(K:bE):R2:=λx y H Q=>∃a b d c,x=.ref a/\y=.ref b/\aX K H a d/\aX K H b c/\d≠[]/\d.length+c.length<=Bb /\
 (c=[]->Q (.ref a) H)/\(c≠[]->∀p,H p=af->Q (.ref p) (upd H p (.tup (d++c))))
theorem aP.nil_iff(r:aP xs us):us=[]↔xs=[]:=by
 cases r with
 |nil=>simp
 |cons _ _=>simp
theorem Ji:Ai X (binaryOp .Add) (zcm X.K):=by intro G s D H x y v u Q I l k h;have #[a,b,j,i,rfl,rfl,C,A,t,g,n,m]:=h;cases l;cases k;have #[r,d,p,_]:=I.tuple C;have #[f,c,p2,_]:=I.tuple A;refine HT.cat_tup p p2 (λz=>t (d.nil_iff.mp z)) (λz=>{.ref a,H,I,U,n (c.nil_iff.mp z)}) (λz=>?_) (by rw[<-d.length,<-c.length];exact g);refine{.ref s.heap.objs.size,_,I.laid (t':=s.toks) (o:=.tup (j++i)) (λb E q=>bg _ q) (bo _) ?_,U,m (λw=>z (c.nil_iff.mpr w)) _ (I.hok.fresh (bo _))};exact{by rw[bx];exact g,_,d.append c,IsTup.new _ _}
end
def ixN(n:Nat)(i:Int):Option Nat:=if 0<=i then (if i<n then Y i.toNat else af) else if -(n:Int)<=i then Y (i+n).toNat else af
def atI{α:Type}(a:List α)(i:Int):Option α:=(ixN a.length i).bind λj=>a[j]?
theorem zku{i:Int}(h:ixN n i=Y j):seqIndex? i n=Y j/\j<n/\-(n:Int)<=i/\i<n:=by
 unfold ixN at h;by_cases h0:0<=i
 .rw[ao h0] at h;by_cases h1:i<n
  .rw[ao h1] at h;have e:i.toNat=j:=bX h;exact{by rw[seqIndex_of h0 h1,e],(),(),h1}
  .rw[ag h1] at h;cases h
 .rw[ag h0] at h;by_cases h1:-(n:Int)<=i
  .rw[ao h1] at h;have e:(i+n).toNat=j:=bX h;exact{by rw[seqIndex_neg () h1,e],(),h1,()}
  .rw[ag h1] at h;cases h
theorem zfu{b:Type}{a:List b}{i:Int}{v:b}(h:atI a i=Y v):∃j,seqIndex? i a.length=Y j/\a[j]?=Y v/\j<a.length/\-(a.length:Int)<=i/\i<a.length:=by
 unfold atI at h;cases e:ixN a.length i with
 |none=>rw[e] at h;cases h
 |some j=>
  rw[e] at h;have #[g,f,d,c]:=zku e;exact{j,g,h,f,d,c}
theorem yy{b:Type}{a:List b}{j:Nat}{v:b}(h:a[j]?=Y v):atI a (j:Int)=Y v:=by
 have c:j<a.length:=(bp.mp h).1;have e:ixN a.length (j:Int)=Y j:=by unfold ixN;rw[ao (),ao ()];simp
 unfold atI;rw[e];exact h
theorem atI_last{b:Type}(a:List b)(v:b):atI (a++[v]) (-1)=Y v:=by
 have c:(a++[v]).length=a.length+1:=by simp
 have e:ixN (a++[v]).length (-1)=Y a.length:=by unfold ixN;rw[c,ag (),ao ()];congr 1;lia
 unfold atI;rw[e];show (a++[v])[a.length]?=Y v;simp
def zfv(b:av):Prop:=∀o i,subscripted b ah o i=operate [o,i] (getItem o i)
def IxR(X:Cx)(r:R2):Prop:=
 ∀(b a:av)(d:uX)(s:ak)(c:St)(H:Hp)(x y:V)(v u:am)(Q:VK),aN X d c H s->aR x v->aR y u->r x y H Q ->
  subscripted a ah v u=operate [v,u] (getItem v u)->Bf (Bg X.p X.w) X.A (subscriptTail b a v u) (EP X d c Q) X.xe s
def MtR(X:Cx)(id:String)(r:V->LV->Hp->VK->Prop):Prop:=
 ∀(d:uX)(s:ak)(a:St)(H:Hp)(x:V)(b:LV)(v:am)(c:zS)(Q:VK),aN X d a H s->aR x v->aP b c->r x b H Q ->
  Bf (Bg X.p X.w) X.A (call (.builtin id) (v::c)) (EP X d a Q) X.xe s
variable {gV nB:Pos}
section
variable {a b:av}{ta tb:TE}
theorem znD{r:R2}(j:IxR X r)(l:PE X a ta)(k:PE X b tb)(i:zfv b):PE X (.Subscript a b pos) (aO r ta tb):=by intro m s c H Q I h;exact Subscript_ (zmr l k I h λv u d x y o n g f q=>j a b m d c o x y v u Q n g f q (i _ _))
inductive y9(K:bE)(x y:V)(H:Hp)(Q:VK):Prop
 |mk (p xs i v:_):x=.ref p->y=.int i->aM K H p xs->atI xs i=Y v->Q v H->y9 K x y H Q
inductive wb(K:bE)(x y:V)(H:Hp)(Q:VK):Prop
 |mk (p xs i v:_):x=.ref p->y=.int i->aX K H p xs->atI xs i=Y v->Q v H->wb K x y H Q
theorem zH:IxR X (y9 X.K):=by
 intro f g D s o H x y v u Q I J G h A;have #[p,xs,i,z,rfl,rfl,M,O,q]:=h;cases J;have #[t,rfl]:=G;have #[m,r,l,hz]:=I.list M;have #[j,d,h2,h3,h4,T]:=zfu O;have #[w,C,k]:=r.get h2;have N:=r.length;have hn:=zee;have c:EP X D o Q w s:={z,H,I,k,q};by_cases h0:0<=i
 .have n:i.toNat=j:=by rw[seqIndex_of h0 T] at d;exact bX d
  exact item_listR l.isList h0 () (by rw[n];simpa using C) c A
 .have n:(i+(m.toArray.size:Int)).toNat=j:=by rw[seqIndex_neg () h4] at d;rw[bJ,<-N];exact bX d
  exact pW (x:=w) l.isList.typeIs slot_list_getitem.lookup
   (wpAny_getItem_list_neg (Q:=λr E=>r=w/\EP X D o Q r E) l.isList () (by rw[bJ] <;> lia) () (by rw[n];simpa using C) {U,c}) A
theorem zO:IxR X (wb X.K):=by
 intro c d m s k H x y v u Q I A o h D;have #[p,T,i,z,rfl,rfl,E,J,q]:=h;cases A;have #[t,rfl]:=o;have #[C,r,l,hz]:=I.tuple E;have #[j,N,M,h3,h4,h5]:=zfu J;have #[w,O,f]:=r.get M;have G:=r.length;have hn:=zee;have g:EP X m k Q w s:={z,H,I,f,q};exact pW (x:=w) l.typeIs slot_tuple_getitem.lookup
  (getItem_tuple (j:=j) (Q:=λr n=>r=w/\EP X m k Q r n) l () () (by rw[bJ,<-G];exact N) (by simpa using O) {U,g}) D
theorem za4(lo c:Option Int)(n:Nat):(sliceBounds lo c af n).1=((HT.sIx n 0 lo:Nat):Int)/\(sliceBounds lo c af n).2.1=((HT.sIx n n c:Nat):Int)/\(sliceBounds lo c af n).2.2=1:=by
 refine{?_,?_,U}
 .cases lo with
  |none=>simp[sliceBounds,HT.sIx]
  |some i=>
   simp only[sliceBounds,HT.sIx,uc,show (1:Int) > 0 by lia,if_true];by_cases h:i<0
   .simp only[h,if_true] <;> lia
   .simp only[h,if_false] <;> lia
 .cases c with
  |none=>simp[sliceBounds,HT.sIx]
  |some i=>
   simp only[sliceBounds,HT.sIx,uc,show (1:Int) > 0 by lia,if_true];by_cases h:i<0
   .simp only[h,if_true] <;> lia
   .simp only[h,if_false] <;> lia
theorem Qb(c:zS)(lo d:Option Int):slicePick c.toArray lo d af=((c.drop (HT.sIx c.length 0 lo)).take (HT.sIx c.length c.length d-HT.sIx c.length 0 lo)).toArray:=by have #[h,g,f]:=za4 lo d c.toArray.size;unfold slicePick;rw[h,g,f];simp only[sliceRange_one,pick_run,bJ] <;> rfl
inductive Qc(K:bE)(x:V)(lo hi:Option Int)(H:Hp)(Q:VK):Prop
 |mk (a xs:_):x=.ref a->aM K H a xs->(∀p,H p=af->Q (.ref p) (upd H p (.lst (jU xs lo hi))))->Qc K x lo hi H Q
theorem wT:SlR X (Qc X.K):=by intro C s u H x v y w f g z Q I j t l k h;have #[a,c,rfl,p,q]:=h;cases j;have #[m,r,i,n]:=I.list p;have d:=r.length;refine{"list",_,slot_list_getitem.lookup,i.isList.typeIs,?_};refine wpAny_getItem_list_slice i.isList t l k .none (by simp) ?_ (by rw[bJ] <;> lia);rw[Qb,<-d];refine{.ref s.heap.objs.size,_,I.laid (t':=s.toks) (o:=.lst (jU c f g)) (λb A q=>bg _ q) (bo _) ?_,U,q _ (I.hok.fresh (bo _))};exact{b9 (zcl c f g) n,_,0,(r.drop (HT.sIx c.length 0 f)).take (HT.sIx c.length c.length g-HT.sIx c.length 0 f),bq _ U}
def Ve:V->Bool
 |.non=>ae
 |.bl _=>ae
 |.int _=>ae
 |.str _=>ae
 |_=>ah
def eqV:V->V->Bool
 |.non,.non=>ae
 |.bl a,.bl b=>a==b
 |.bl a,.int b=>(if a then 1 else 0)==b
 |.int a,.bl b=>a==(if b then 1 else 0)
 |.int a,.int b=>a==b
 |.str a,.str b=>a==b
 |_,_=>ah
theorem zmu(f:aR y u)(c:aR x v)(h:Ve y=ae)(g:Ve x=ae):SeqAt.EqAt A s u v (eqV y x):=by
 cases y with
 |non=>
  cases f;cases x with
  |non=>cases c;exact SeqAt.EqAt.same _
  |bl b=>cases c;exact SeqAt.EqAt.none_bool b
  |int b=>have #[t,rfl]:=c;exact SeqAt.EqAt.none_int b t
  |str b=>have #[t,rfl]:=c;exact SeqAt.EqAt.none_str b t
  |_=>exact absurd (show ah=ae from g) bM
 |bl a=>
  cases f;cases x with
  |non=>cases c;exact SeqAt.EqAt.bool_none a
  |bl b=>cases c;exact SeqAt.EqAt.bool_bool a b
  |int b=>have #[t,rfl]:=c;exact SeqAt.EqAt.bool_int a b t
  |str b=>have #[t,rfl]:=c;exact SeqAt.EqAt.bool_str a b t
  |_=>exact absurd (show ah=ae from g) bM
 |int a=>
  have #[d,rfl]:=f;cases x with
  |non=>cases c;exact SeqAt.EqAt.int_none a d
  |bl b=>cases c;exact SeqAt.EqAt.int_bool a d b
  |int b=>have #[t,rfl]:=c;exact og a d b t
  |str b=>have #[t,rfl]:=c;exact sS a d b t
  |_=>exact absurd (show ah=ae from g) bM
 |str a=>
  have #[d,rfl]:=f;cases x with
  |non=>cases c;exact SeqAt.EqAt.str_none a d
  |bl b=>cases c;exact SeqAt.EqAt.str_bool a d b
  |int b=>have #[t,rfl]:=c;exact sT a d b t
  |str b=>have #[t,rfl]:=c;exact lN a d b t
  |_=>exact absurd (show ah=ae from g) bM
 |_=>exact absurd (show ah=ae from h) bM
def eqU(x:V)(u:am):Bool:=match u with
 |.none=>eqV .non x
 |.bool b=>eqV (.bl b) x
 |.int i _=>eqV (.int i) x
 |.str z _=>eqV (.str z) x
 |_=>ah
theorem zhV(r:aR y u)(f:Ve y=ae):eqU x u=eqV y x:=by
 cases y with
 |non=>cases r;rfl
 |bl b=>cases r;rfl
 |int i=>have #[t,rfl]:=r;rfl
 |str z=>have #[t,rfl]:=r;rfl
 |_=>exact absurd (show ah=ae from f) bM
theorem Xg{x:V}:∀ {c:LV}{d:zS},aP c d->c.all Ve=ae->d.any (eqU x)=c.any λy=>eqV y x
 |_,_,.nil,_=>rfl
 |y::c,u::d,.cons r t,f=>by rw[iK,bY] at f;rw[lO,lO,zhV r f.1,Xg t f.2]
theorem Zn{A:aw}{s:ak}{x:V}{v:am}(g:aR x v)(h:Ve x=ae):∀ {c:LV}{d:zS},aP c d->c.all Ve=ae->∀u∈d,SeqAt.EqAt A s u v (eqU x u)
 |_,_,.nil,_=>λu hu=>by cases hu
 |y::c,u::d,.cons r t,f=>λi hu=>by
  rw[iK,bY] at f;obtain rfl|hu:=bn.mp hu
  .rw[zhV r f.1];exact zmu r g f.1 h
  .exact Zn g h t f.2 i hu
def inV(x:V)(c:LV):Bool:=c.any λy=>eqV y x
def rIn(K:bE)(d:Bool):R2:=λx y H Q=>∃p c,y=.ref p/\(aM K H p c\/aX K H p c)/\Ve x=ae/\c.all Ve=ae/\Q (.bl (if d then !inV x c else inV x c)) H
theorem wO:Ai X (Bi .In) (rIn X.K ah):=by
 intro o s m H x y v u Q I i k h;have #[p,n,rfl,hq,j,d,q]:=h;cases k;obtain hq|hq:=hq
 .have #[c,r,f,l]:=I.list hq;refine SeqAt.in_listAt (eqU x) f.isList (λw g=>Zn i j r d w (by simpa using g)) {.bl _,H,I,U,?_};rw[show c.toArray.any (eqU x)=c.any (eqU x) by simp,Xg r d];exact q
 .have #[c,r,f,l]:=I.tuple hq;refine SeqAt.in_tupleAt (eqU x) f (λw g=>Zn i j r d w (by simpa using g)) {.bl _,H,I,U,?_};rw[show c.toArray.any (eqU x)=c.any (eqU x) by simp,Xg r d];exact q
theorem za5:Ai X (Bi .NotIn) (rIn X.K ae):=by
 intro o s m H x y v u Q I i k h;have #[p,n,rfl,hq,j,d,q]:=h;cases k;obtain hq|hq:=hq
 .have #[c,r,f,l]:=I.list hq;refine SeqAt.notIn_listAt (eqU x) f.isList (λw g=>Zn i j r d w (by simpa using g)) {.bl _,H,I,U,?_};rw[show c.toArray.any (eqU x)=c.any (eqU x) by simp,Xg r d];exact q
 .have #[c,r,f,l]:=I.tuple hq;refine SeqAt.notIn_tupleAt (eqU x) f (λw g=>Zn i j r d w (by simpa using g)) {.bl _,H,I,U,?_};rw[show c.toArray.any (eqU x)=c.any (eqU x) by simp,Xg r d];exact q
theorem yZ:wM X (.type "list") (zef X.K):=by
 intro C s z H D E Q I r h;have #[p,m,rfl,hq,q]:=h;have #[u,rfl,A]:=xL r;cases A;have l:∀(c:zS),aP m c->m.length<=Bb->∀(d:au)(g:Nat),(∀b y,s.heap.get? b=Y y->d.get? b=Y y) ->
   d.get? s.heap.objs.size=Y { cls:=.type "list",dict:=af,data:=.seq c.toArray g,slots:=#[] }->EP X C z Q (.ref s.heap.objs.size) { s with heap:=d }:=λc f j d g i e=>
  {.ref s.heap.objs.size,_,I.laid (t':=s.toks) i (bo _) (show aT X.p X.w _ d _ (.lst m) from {j,c,g,f,e}),U,q _ (I.hok.fresh (bo _))}
 obtain hq|hq:=hq
 .have #[c,f,t,j]:=I.list hq;have k:=f.length;have #[o,v,x,n,w]:=t.isList;exact call_list_seq p (.inl U) v x w (λd g i e=>l c f j d g i e) (by simp only[bJ] <;> lia)
 .have #[c,f,t,j]:=I.tuple hq;have k:=f.length;have #[o,v,x,n,w]:=t;exact call_list_seq p (.inr U) v x w (λd g i e=>l c f j d g i e) (by simp only[bJ] <;> lia)
theorem Yj:wM X (.type "tuple") (λk H Q=>∃p d,k=[.ref p]/\((aM X.K H p d/\∀l,H l=af->Q (.ref l) (upd H l (.tup d)))\/(aX X.K H p d/\Q (.ref p) H))):=by
 intro t s j H k z Q I r h;have #[p,d,rfl,h]:=h;have #[u,rfl,w]:=xL r;cases w;obtain ⟨hq,q⟩|⟨hq,q⟩:=h
 .have #[c,g,i,m]:=I.list hq;have n:=g.length;refine call_tuple_list i.isList (λf x=>?_) (by simp only[bJ] <;> lia);have v:aN X t j H { s with heap:=f }:=I.kept (t':=s.toks) x;have y:aN X t j (upd H f.objs.size (.tup d)) { s with heap:=f.push { cls:=.type "tuple",data:=.seq c.toArray } }:=
   v.laid (t':=s.toks) (λb o e=>bg _ e) (bo _) (show aT X.p X.w _ _ _ (.tup d) from {m,c,g,IsTup.new _ _})
  exact{.ref f.objs.size,_,y,U,q _ (v.hok.fresh (bo _))}
 .have #[c,g,i,m]:=I.tuple hq;exact call_tuple_same i {.ref p,H,I,U,q}
def tyV(K:bE)(T:String)(x:V)(H:Hp):Prop:=match x with
 |.str _=>T="str"
 |.int _=>T="int"
 |.ref p=>(T="list"/\∃d,aM K H p d)\/(T="tuple"/\∃o,K.lookup p=Y o/\o.cls=.type "tuple"/\o.dict=af) \/
   (T="dict"/\((∃c,H p=Y (.dK c))\/∃c,H p=Y (.dT c)))\/(T="set"/\∃S n,H p=Y (.set S n))
 |_=>False
theorem zhW{l:St}{H:Hp}{s:ak}{T:String}{x:V}{v:am}(I:aN X aa l H s)(r:aR x v)(f:tyV X.K T x H) :
  s.TypeIs v T/\∀a,v=.ref a->∃k,s.heap.get? a=Y k/\k.dict=af:=by
 cases x with
 |str z=>
  have #[t,rfl]:=r;cases (show T="str" from f);exact{lF s z t,λ_ e=>nomatch e}
 |int i=>
  have #[t,rfl]:=r;cases (show T="int" from f);exact{typeIs_int s i t,λ_ e=>nomatch e}
 |ref p=>
  cases r;obtain ⟨rfl,xs,hq⟩|⟨rfl,o,hk,hc,g⟩|⟨rfl,hk⟩|⟨rfl,S,n,hk⟩:=f
  .have #[m,_,j,_]:=I.list hq;refine{j.isList.typeIs,λa e=>?_};cases e;have #[o,n,e,c,g,_]:=j;exact{o,e,g}
  .refine{{o,I.kIn p o hk,hc},λa e=>?_};cases e;exact{o,I.kIn _ o hk,g}
  .have z:∃o,s.heap.get? p=Y o/\o.ExactDict:=by
    obtain ⟨aK,hk⟩|⟨aK,hk⟩:=hk
    .have #[_,_,_,_,o,_,_,e,d,_]:=I.hok p _ hk;exact{o,e,d}
    .have #[_,_,_,_,o,_,_,e,d,_]:=I.hok p _ hk;exact{o,e,d}
   have #[o,e,d]:=z;refine{{o,e,d.1},λa h=>?_};cases h;exact{o,e,d.2.1}
  .have #[o,_,_,_,e,d,_]:=I.hok p _ hk;refine{{o,e,d.1},λa h=>?_};cases h;exact{o,e,d.2.1}
 |_=>exact fP f
def zem(K:bE)(T:String)(r:V->LV->Hp->VK->Prop)(f:TE):TE:=λd H Q=>f d H λx c=>tyV K T x c/\r x [] c Q
def Av(K:bE)(T:String)(r:V->LV->Hp->VK->Prop)(g:TE)(t:TA):TE:=λc H Q=>g c H λx d=>tyV K T x d/\t c d λf h=>r x f h Q
variable {o:av}{es:List av}{to:TE}{t:TA}{name:Str}{T id:String}{r:V->LV->Hp->VK->Prop}
theorem Wt(q:PlainAttrs T)(f:Slot T name id)(g:typeOf (.builtin id)=pure (.type "method_descriptor"))(w:MtR X id r)(u:PE X o to)(d:attributeBase o name X.e (eval o X.e)=eval o X.e:=by rfl)(c:(gV.endLine==nB.line)=ae:=by rfl):PE X (.Call (.Attribute o name gV) [] [] nB) (zem X.K T r to):=by intro k s i H Q I h;refine pB d c (aW (u k s i H _ I h) ?_);rintro v n ⟨x,A,l,j,m,p⟩;have #[z,y]:=zhW l j m;exact{T,id,q,f,g,z,y,dL U (sH (w k n i A x [] v [] Q l j .nil p))}
theorem yG(E:PlainAttrs T)(g:Slot T name id)(k:typeOf (.builtin id)=pure (.type "method_descriptor"))(M:MtR X id r)(J:PE X o to)(N:PA X (e::es) t)(f:attributeBase o name X.e (eval o X.e)=eval o X.e:=by rfl)(i:((backTo nB (Be (e::es) X.e)).all (λx=>!x.1)&&(backToKw nB (keywordEach [] X.e)).all (λx=>x.1.isSome)
   && decide ((e::es).length+([]:List Keyword).length+(if ([]:List Keyword).isEmpty then 0 else 1)<30))=ae:=by rfl)(d:(gV.endLine==nB.line)=ae:=by rfl)(G:Be (e::es) X.e=(ah,eval e X.e)::Be es X.e:=by rfl)(c:(backTo nB (Be es X.e)).any (·.1)=ah:=by rfl) :
  PE X (.Call (.Attribute o name gV) (e::es) [] nB) (Av X.K T r to t):=by intro l s j H Q I h;refine wpAny_Call_method_late f i d U (aW (J l s j H _ I h) ?_);rintro v z ⟨x,H1,p,m,w,D⟩;have #[h1,O]:=zhW p m w;refine{T,id,E,g,k,h1,O,?_};have n:=N nB l z j H1 _ p D;rw[G] at n ⊢;refine dL (by show (ah || (backTo nB (Be es X.e)).any (·.1))=ah;rw[c] <;> rfl) (fI ?_);exact aW n λu y ⟨q,H2,I2,A,C⟩=>M l y j H2 x q v u Q I2 m A C
end
def MtM(X:Cx)(id:String)(r:V->LV->Hp->VK->Prop):Prop:=
 ∀(d:uX)(s:ak)(a:St)(H:Hp)(x:V)(b:LV)(v:am)(c:zS)(Q:VK),aN X d a H s->aR x v->aP b c->r x b H Q ->
  Bf (Bg X.p X.w) X.A (call (.builtin id) (v::c)) (EP X d a Q) X.xe s
theorem aP.one:∀ {x:V}{a:zS},aP [x] a->∃u,a=[u]/\aR x u
 |_,_,.cons r .nil=>{_,U,r}
theorem aP.zero:∀ {a:zS},aP [] a->a=[]
 |_,.nil=>rfl
theorem aP.dropLast(h:aP xs us):aP xs.dropLast us.dropLast:=by
 induction h with
 |nil=>exact .nil
 |cons r t ih=>
  cases t with
  |nil=>exact .nil
  |cons q t'=>exact .cons r ih
theorem aP.eraseIdx:∀ {a:LV}{b:zS}(i:Nat),aP a b->aP (a.eraseIdx i) (b.eraseIdx i)
 |_,_,_,.nil=>.nil
 |_,_,0,.cons _ t=>t
 |_,_,i+1,.cons r t=>.cons r (aP.eraseIdx i t)
theorem zen{c:Type}(l:List c):l.eraseIdx (l.length-1)=l.dropLast:=by
 induction l with
 |nil=>rfl
 |cons a r ih=>
  cases r with
  |nil=>rfl
  |cons b r=>
   have e:(a::b::r).length-1=((b::r).length-1)+1:=by have f:(a::b::r).length=r.length+2:=rfl;have d:(b::r).length=r.length+1:=rfl;lia
   rw[e,lP,ih]
   all_goals rfl
theorem Q6{a:Type}:∀(l:List a)(i:Nat),(l.eraseIdx i).length<=l.length
 |[],_=>bo _
 |_::_,0=>gO _
 |_::r,i+1=>lf (Q6 r i)
variable {aa:uX}{σ:St}{H:Hp}{s:ak}
section
variable {l b:B}{xs ys zs:LV}
theorem aN.lset{its its':zS}{n:Nat}{f:Array am->Array am}(I:aN X aa σ H s)(k:H l=Y (.lst xs))(e:s.heap.get? l=Y { cls:=.type "list",data:=.seq its.toArray n })(h:f its.toArray=its'.toArray)(d:aP ys its')(a:ys.length<=Bb) :
  aN X aa σ (upd H l (.lst ys)) { s with heap:=s.heap.update l (dG f),toks:=t' }:=by have q:=PySem.IsL.update e f;rw[h] at q;refine I.write (x:=l) (e:=l) (by rw[k];exact trivial) (.inl U) (λo u j g=>(dM s.heap (dG f) (eh j)).trans g) {_,q} ?_;exact{a,its',_,d,q}
theorem aN.lnew(I:aN X aa σ H s)(d:aP ys its)(a:ys.length<=Bb) :
  aN X aa σ (upd H s.heap.objs.size (.lst ys)) { s with heap:=s.heap.push { cls:=.type "list",data:=.seq its.toArray },toks:=t' }:=
 I.laid (λ_ _ q=>bg _ q) (bo _) {a,its,0,d,bq _ U}
theorem aN.fresh(I:aN X aa σ H s):H s.heap.objs.size=af:=I.hok.fresh (bo _)
theorem aN.lstM(I:aN X aa σ H s)(d:H l=Y (.lst xs)):xs.length<=Bb/\∃(a:zS)(n:Nat),aP xs a/\xs.length=a.length/\s.heap.get? l=Y { cls:=.type "list",data:=.seq a.toArray n }:=by have #[z,a,n,r,e]:=I.hok l _ d;exact{z,a,n,r,r.length,e}
theorem zhX(h:n<=Bb):lG n=ah:=by unfold lG;exact Bk ()
end
inductive za6(x:V)(vs:LV)(H:Hp)(Q:VK):Prop
 |mk (l xs y:_):x=.ref l->vs=[y]->H l=Y (.lst xs)->xs.length<Bb->Q .non (upd H l (.lst (xs++[y])))->za6 x vs H Q
theorem ye:MtM X "list.append" za6:=by intro aa s σ H x i v j Q I c d h;have #[l,g,y,rfl,rfl,b,k,q]:=h;cases c;have #[u,rfl,f]:=d.one;have #[z,a,n,r,m,e]:=I.lstM b;refine fQ F.slot_list_append {_,e,U} F.entry_list_append (F.args_list_append_2 _ _) (PySem.list_append l a.toArray n u (by rw[bJ];lia)) {e,?_};refine{.non,_,I.lset (its':=a++[u]) b e (by simp) (r.append (.cons f .nil)) ?_,U,q};rw[bx,dz];lia
def zfw:V->LV->Hp->VK->Prop:=λx d H Q=>∃l b c a,x=.ref l/\d=[.ref b]/\H l=Y (.lst c)/\H b=Y (.lst a)/\c.length+a.length<=Bb/\Q .non (upd H l (.lst (c++a)))
theorem Wu:MtM X "list.extend" zfw:=by
 intro aa s σ H x D v E Q I i j h;have #[l,b,C,y,rfl,rfl,g,t,G,q]:=h;cases i;have #[u,rfl,k]:=j.one;cases k;have #[z,c,n,r,J,e]:=I.lstM g;have #[A,a,o,m,p,w]:=I.lstM t;have f:c.toArray.size+a.toArray.size<=Bb:=by rw[bJ,bJ];lia
 have d:¬ (!c.toArray.isEmpty&&lG (c.toArray.size+a.toArray.size))=ae:=by rw[zhX f,Bool.and_false];exact bM
 refine fQ F.slot_list_extend {_,e,U} F.entry_list_extend (F.args_list_extend_2 _ _) (AutoSeq1.list_extend_list_list_0 l c.toArray n b a.toArray o d (by rw[bJ];lia) ()) {e,w,?_}
 refine{.non,_,I.lset (its':=c++a) g e (by simp) (r.append m) ?_,U,q};rw[bx];lia
def znE:V->LV->Hp->VK->Prop:=λx b H Q=>∃l a y,x=.ref l/\b=[]/\H l=Y (.lst a)/\a[a.length-1]?=Y y/\Q y (upd H l (.lst a.dropLast))
theorem Wv:MtM X "list.pop" znE:=by
 intro aa s σ H x p v t Q I f g h;have #[l,o,y,rfl,rfl,d,j,q]:=h;cases f;have c:=g.zero;subst c;have #[z,a,n,r,m,e]:=I.lstM d;have #[u,k,i]:=r.get j;have b:a.toArray[a.toArray.size-1]?=Y u:=by show a.toArray[a.length-1]?=Y u;rw[<-ce,<-m];exact k
 refine fQ F.slot_list_pop {_,e,U} F.entry_list_pop (F.args_list_pop_1 _) (MeetsSeq.list_pop_last l a.toArray n u b (by rw[bJ];lia)) {e,?_};refine{y,_,I.lset (its':=a.dropLast) d e ?_ r.dropLast ?_,i,q}
 .show a.toArray.eraseIdxIfInBounds (a.toArray.size-1)=a.dropLast.toArray;rw[bJ,mf,zen]
 .rw[List.length_dropLast];lia
inductive zmv(x y:V)(H:Hp)(Q:VK):Prop
 |mk (l b xs zs:_):x=.ref l->y=.ref b->H l=Y (.lst xs)->H b=Y (.lst zs)->xs.length+zs.length<=Bb->(∀p,H p=af->Q (.ref p) (upd H p (.lst (xs++zs))))->zmv x y H Q
theorem Zo:Ai X (binaryOp .Add) zmv:=by
 intro aa s σ H x y v u Q I f d h;have #[l,b,w,p,rfl,rfl,j,k,C,q]:=h;cases f;cases d;have #[z,c,n,r,D,e]:=I.lstM j;have #[t,a,A,g,i,o]:=I.lstM k;refine PySem.P.add_list e o ?_ (by rw[bJ,bJ];lia);have m:c.toArray++a.toArray=(c++a).toArray:=by simp
 rw[m];exact{.ref _,_,I.lnew (t':=s.toks) (r.append g) (by rw[bx];lia),U,q _ I.fresh}
variable {w:ax}{A:aw}{E:nA}
section
variable {prog:aq}
set_option maxRecDepth 100000 in
end
section
variable {κ:Type}[DecidableEq κ]
def yu(b:List (κ×V))(k:κ):Option V:=(b.find? λa=>decide (a.1=k)).map (·.2)
def xu(b:List (κ×V))(k:κ)(v:V):List (κ×V):=
 if (b.any λa=>decide (a.1=k))=ae then b.map (λa=>if a.1=k then (a.1,v) else a) else b++[(k,v)]
def yB(b:List (κ×V))(k:κ):List (κ×V):=b.filter λa=>decide (a.1≠k)
theorem zcn :yu ([]:List (κ×V)) k=af:=rfl
theorem xa{p:κ×V}{r:List (κ×V)}(e:p.1=k):yu (p::r) k=Y p.2:=by simp[yu,iw,e]
theorem xb{p:κ×V}{r:List (κ×V)}(e:¬ p.1=k):yu (p::r) k=yu r k:=by simp[yu,iw,e]
theorem vZ(k:κ):∀a:List (κ×V),(a.any λb=>decide (b.1=k))=(yu a k).isSome
 |[]=>rfl
 |p::r=>by
  rw[lO];by_cases e:p.1=k
  .simp only[xa e,Bj e,Bool.true_or,Option.isSome_some]
  .rw[xb e,Bk e,Bool.false_or];exact vZ k r
theorem zco(k j:κ)(y:V):∀c:List (κ×V),yu (c.map λa=>if a.1=k then (a.1,y) else a) j=(yu c j).map λx=>if j=k then y else x
 |[]=>rfl
 |p::r=>by
  have b:=zco k j y r;rw[bC];by_cases h:p.1=k
  .rw[ao h];by_cases e:p.1=j
   .rw[xa (p:=(p.1,y)) e,xa e,nJ,ao (e.symm.trans h)]
   .rw[xb (p:=(p.1,y)) e,xb e,b]
  .rw[ag h];by_cases e:p.1=j
   .rw[xa (p:=p) e,xa e,nJ,ag (λz=>h (e.trans z))]
   .rw[xb (p:=p) e,xb e,b]
theorem Q7(k j:κ)(y:V):∀a:List (κ×V),yu a k=af->yu (a++[(k,y)]) j=if j=k then Y y else yu a j
 |[],_=>by
  by_cases e:k=j
  .rw[ao e.symm];exact xa (p:=(k,y)) e
  .rw[ag (λz=>e z.symm)];exact xb (p:=(k,y)) e
 |p::r,hn=>by
  rw[fE];have b:¬ p.1=k:=λz=>by rw[xa z] at hn;cases hn
  rw[xb b] at hn;have c:=Q7 k j y r hn;by_cases e:p.1=j
  .rw[xa e,xa e,ag (λz=>b (e.trans z))]
  .rw[xb e,xb e,c]
theorem zhY(b:List (κ×V))(k j:κ)(y:V):yu (xu b k y) j=if j=k then Y y else yu b j:=by
 unfold xu;by_cases a:(b.any λc=>decide (c.1=k))=ae
 .rw[ao a,zco];rw[vZ] at a;by_cases e:j=k
  .have #[x,d]:=gJ.mp a;rw[ao e,e,d,nJ,ao rfl]
  .rw[ag e];cases yu b j with
   |none=>rfl
   |some x=>rw[nJ,ag e]
 .rw[ag a];refine Q7 k j y b ?_;rw[vZ] at a;cases q:yu b k with
  |none=>rfl
  |some x=>rw[q] at a;exact(a U).elim
theorem jW(a:List (κ×V))(k:κ)(v:V):(xu a k v).length<=a.length+1:=by
 unfold xu;split
 .rw[bh];lia
 .rw[bx,bG,lQ];lia
theorem jE{a:List (κ×V)}(v:V)(h:yu a k=af):xu a k v=a++[(k,v)]:=by unfold xu;rw[vZ,h];exact ag ()
theorem u9.isSome_eq(r:u9 o u):o.isSome=u.isSome:=by
 cases o with
 |none=>cases u with
  |none=>rfl
  |some _=>exact(show False from r).elim
 |some _=>cases u with
  |none=>exact(show False from r).elim
  |some _=>rfl
theorem u9.getD(r:u9 o u)(a:aR d d'):aR (o.getD d) (u.getD d'):=by
 cases o with
 |none=>cases u with
  |none=>exact a
  |some _=>exact(show False from r).elim
 |some _=>cases u with
  |none=>exact(show False from r).elim
  |some _=>exact r
theorem KV.val(r:KV aK vs)(k:κ):u9 (yu aK k) (valueAt vs k):=by
 unfold KV at r;induction r with
 |nil=>exact fC
 |@cons p q ps qs h t ih=>
  have #[c,d]:=h;by_cases e:p.1=k
  .have a:q.1=k:=c.symm.trans e;have b:valueAt (q::qs) k=Y q.2:=by simp[valueAt,iw,a]
   rw[xa e,b];exact d
  .have a:¬ q.1=k:=λz=>e (c.trans z);have b:valueAt (q::qs) k=valueAt qs k:=by simp[valueAt,iw,a]
   rw[xb e,b];exact ih
theorem KV.any(r:KV aK vs)(k:κ):(aK.any λa=>decide (a.1=k))=vs.any λa=>decide (a.1=k):=by
 unfold KV at r;induction r with
 |nil=>rfl
 |cons h t ih=>rw[lO,lO,ih,h.1]
theorem KV.repl(r:KV aK vs)(k:κ)(c:aR y u) :
  KV (aK.map λa=>if a.1=k then (a.1,y) else a) (vs.map λa=>if a.1=k then (a.1,u) else a):=by
 unfold KV at r ⊢;induction r with
 |nil=>exact .nil
 |@cons p q ps qs h t ih=>
  rw[bC,bC];refine .cons ?_ ih;have #[b,d]:=h;by_cases e:p.1=k
  .rw[ao e,ao (b.symm.trans e)];exact{b,c}
  .rw[ag e,ag (λz=>e (b.trans z))];exact{b,d}
theorem KV.put(r:KV aK vs)(k:κ)(a:aR y u):KV (xu aK k y) (stored vs k u):=by
 unfold xu stored;rw[r.any k];by_cases e:(vs.any λb=>decide (b.1=k))=ae
 .rw[ao e,ao e];exact r.repl k a
 .rw[ag e,ag e];exact Paired.snoc r {U,a}
theorem KV.drop(r:KV aK vs)(k:κ):KV (yB aK k) (without vs k):=by
 unfold KV at r ⊢;unfold yB without;induction r with
 |nil=>exact .nil
 |@cons p q ps qs h t ih=>
  have #[c,d]:=h;rw[eY,eY];by_cases e:p.1=k
  .have a:¬ decide (p.1≠k)=ae:=by simp[e]
   have b:¬ decide (q.1≠k)=ae:=by simp[c.symm.trans e]
   rw[ag a,ag b];exact ih
  .have f:¬ q.1=k:=λz=>e (c.trans z);have a:decide (p.1≠k)=ae:=by simp[e]
   have b:decide (q.1≠k)=ae:=by simp[f]
   rw[ao a,ao b];exact .cons {c,d} ih
theorem KV.length{a:List (κ×am)}(r:KV aK a):aK.length=a.length:=bO r
theorem zcp(a:List (κ×V))(k:κ):(yB a k).length<=a.length:=mI _ _
end
theorem Vf(r:aR (kV k) u):(yg P w).is k u=ae:=by
 cases k with
 |inl i=>have #[t,e]:=(show ∃t,u=f9 i t from r);subst e;exact W8 P w i t
 |inr x=>have #[t,e]:=(show ∃t,u=lL x t from r);subst e;exact W9 P w x t
theorem Ww{P:aq}{w:ax}:∀ {ks:xt}{a:zS},aP (ks.map kV) a->ItemsAre (yg P w) ks a
 |[],_,r=>by rw[lE] at r;cases r;exact .nil
 |k::ks,_,r=>by
  rw[bC] at r;cases r with
  |cons h t=>exact .cons (Vf h) (Ww t)
abbrev KT(H:Hp):ya->List (xt×B×am)->Prop:=Bl λp q=>p.1=q.1/\H q.2.1=Y (.tup (p.1.map kV))/\aR p.2 q.2.2
theorem KT.val{H:Hp}{f:ya}{c:List (xt×B×am)}(r:KT H f c)(k:xt):u9 (yu f k) ((atKey c k).map (·.2)):=by
 induction r with
 |nil=>exact fC
 |@cons p q ps qs h t ih=>
  have #[d,_,g]:=h;by_cases e:p.1=k
  .have a:q.1=k:=d.symm.trans e;have b:atKey (q::qs) k=Y q.2:=by simp[atKey,iw,a]
   rw[xa e,b];exact g
  .have a:¬ q.1=k:=λz=>e (d.trans z);have b:atKey (q::qs) k=atKey qs k:=by simp[atKey,iw,a]
   rw[xb e,b];exact ih
theorem KT.repl{H:Hp}(r:KT H aK xs)(k:xt)(d:aR y u) :
  KT H (aK.map λb=>if b.1=k then (b.1,y) else b) (xs.map (putAt k u)):=by
 induction r with
 |nil=>exact .nil
 |@cons p q ps qs h t ih=>
  rw[bC,bC];refine .cons ?_ ih;have #[a,c,f]:=h;unfold putAt;by_cases e:p.1=k
  .rw[ao e,ao (a.symm.trans e)];exact{a,c,d}
  .rw[ag e,ag (λz=>e (a.trans z))];exact{a,c,f}
theorem KT.put{H:Hp}(r:KT H aK xs)(k:xt)(d:H b=Y (.tup (k.map kV)))(a:aR y u) :
  KT H (xu aK k y) (storedH xs k b u):=by
 have e:(aK.any λc=>decide (c.1=k))=(atKey xs k).isSome:=by rw[vZ,(r.val k).isSome_eq,oK]
 unfold xu storedH;rw[e];by_cases q:(atKey xs k).isSome=ae
 .rw[ao q,ao q];exact r.repl k a
 .rw[ag q,ag q];exact Paired.snoc r {U,d,a}
theorem KT.keeps{H c:Hp}(r:KT H aK xs)(d:∀b a,H b=Y (.tup a)->c b=Y (.tup a)):KT c aK xs:=
 Paired.mapP r λ_ _ z=>{z.1,d _ _ z.2.1,z.2.2}
variable {a:B}
section
variable {P:aq}{h:au}
theorem zlQ(b:As P w H h)(e:Rd H a u):aT P w H h a u:=e.ok b
theorem Jz(b:As P w H h)(e:Rd H a (.dK aK)):aK.length<=Bb/\(a==sysModules)=ah/\∃vs,KV aK vs/\h.DictOf (yg P w) a vs:=
 show aT P w H h a (.dK aK) from zlQ b e
theorem zhZ(b:As P w H h)(e:H a=Y (.dK aK)):aK.length<=Bb/\(a==sysModules)=ah/\∃vs,KV aK vs/\h.DictOf (yg P w) a vs:=Jz b (.inl e)
theorem qq{b:xt}(d:As P w H h)(e:H a=Y (.tup (b.map kV))):(tupleKind (yg P w)).is h b a:=by have #[_,c,r,o,i,g,n,f]:=(show aT P w H h a (.tup (b.map kV)) from d a _ e);exact{o,c.toArray,n,i,g,f,by simpa using Ww r}
theorem JA(c:As P w H h)(e:Rd H a (.dT aK)):aK.length<=Bb/\(a==sysModules)=ah /\
  ∃xs,KT H aK xs/\h.DictOfH (tupleKind (yg P w)) a xs:=by
 have #[z,y,xs,r,o,k,n,j,i,g,f,d]:=(show aT P w H h a (.dT aK) from zlQ c e);refine{z,y,xs,r,o,k,n,j,i,g,f,λx hx=>?_,d};have b:∀ {l:ya}{m:List (xt×B×am)},KT H l m->∀x∈m,(tupleKind (yg P w)).is h x.1 x.2.1:=by
  intro l m q;induction q with
  |nil=>intro x hx;exact nomatch hx
  |@cons p q ps qs hq t ih=>
   intro x hx;obtain e|hx:=bn.mp hx
   .subst e;exact qq c (by rw[<-hq.1];exact hq.2.1)
   .exact ih x hx
 exact b r x hx
theorem zcq(b:As P w H h)(e:H a=Y (.dT aK)):aK.length<=Bb/\(a==sysModules)=ah /\
  ∃xs,KT H aK xs/\h.DictOfH (tupleKind (yg P w)) a xs:=JA b (.inl e)
end
def Am(H:Hp)(a:B)(y:V)(r:Option V):Prop:=
 (∃c k,Rd H a (.dK c)/\y=kV k/\r=yu c k)\/∃c k b,Rd H a (.dT c)/\y=.ref b/\H b=Y (.tup (k.map kV))/\r=yu c k
def DPut(H:Hp)(a:B)(y v:V)(d:Hp):Prop:=
 (∃c k,H a=Y (.dK c)/\y=kV k/\c.length<Bb/\d=upd H a (.dK (xu c k v))) \/
 ∃c k b,H a=Y (.dT c)/\y=.ref b/\H b=Y (.tup (k.map kV))/\c.length<Bb/\d=upd H a (.dT (xu c k v))
theorem Am.k{H:Hp}{k:Key}(e:H a=Y (.dK aK)):Am H a (kV k) (yu aK k):=.inl {aK,k,.inl e,U,U}
theorem Am.t{H:Hp}{c:ya}{k:xt}(e:H a=Y (.dT c))(d:H b=Y (.tup (k.map kV))):Am H a (.ref b) (yu c k):=.inr {c,k,b,.inl e,U,d,U}
theorem DPut.k{H:Hp}{k:Key}(e:H a=Y (.dK aK))(b:aK.length<Bb):DPut H a (kV k) v (upd H a (.dK (xu aK k v))):=.inl {aK,k,e,U,b,U}
theorem DPut.t{H:Hp}{c:ya}{k:xt}{v:V}(e:H a=Y (.dT c))(f:H b=Y (.tup (k.map kV)))(d:c.length<Bb) :
  DPut H a (.ref b) v (upd H a (.dT (xu c k v))):=.inr {c,k,b,e,U,f,d,U}
variable {y:V}{u r:am}
section
variable {v:V}{o:Option V}
theorem aN.big(I:aN X aa σ H s):sysModules<s.heap.objs.size:=by have h:Bd<s.heap.objs.size:=(I.mod.glob.keeps I.bk).lt;exact t9 () h
theorem zgC{Q:nA}(C:A.units+1<cLine)(I:aN X aa σ H s)(g:Am H a y (Y v))(q:aR y u)(h:∀f n,aN X aa σ H n->aR v f->Q f n) :
  Bf (Bg X.p X.w) A (getItem (.ref a) u) Q E s:=by
 obtain ⟨aK,k,e,ey,l⟩|⟨aK,k,b,e,ey,eb,l⟩:=g
 .subst ey;have #[z,G,x,d,m]:=Jz I.hok e;have #[f,i,c]:=u9.some_of (v:=v) (o:=valueAt x k) (by rw[l];exact d.val k);exact wpAny_getItem_of (Vf q) m.mapOf i (h f _ (I.tok _) c)
 .subst ey;cases (show u=bN b from q);have #[z,G,t,d,m]:=JA I.hok e;have #[f,i,c]:=u9.some_of (v:=v) (o:=(atKey t k).map (·.2)) (by rw[l];exact d.val k);have #[p,D,j]:=cm.mp i;refine wpAny_getItem_heap (eN C) (qq I.hok eb) m D ?_;rw[j];exact h f _ (I.tok _) c
theorem zos{Q:nA}(m:A.units+1<cLine)(I:aN X aa σ H s)(g:Am H a y o)(j:aR y u)(h:∀i,aN X aa σ H i->Q (.bool o.isSome) i) :
  Bf (Bg X.p X.w) A (Bi .In u (.ref a)) Q E s:=by
 obtain ⟨aK,k,e,ey,l⟩|⟨aK,k,b,e,ey,eb,l⟩:=g
 .subst ey;have #[z,d,p,c,f]:=Jz I.hok e;refine wpAny_in_of (Vf j) d f.mapOf ?_;rw[<-(c.val k).isSome_eq,<-l];exact h _ (I.tok _)
 .subst ey;cases (show u=bN b from j);have #[z,d,n,c,f]:=JA I.hok e;refine wpAny_in_heap (eN m) (qq I.hok eb) d f ?_;have q:=(c.val k).isSome_eq;rw[oK] at q;rw[<-q,<-l];exact h _ (I.tok _)
theorem zkv{Q:nA}(m:A.units+1<cLine)(I:aN X aa σ H s)(g:Am H a y o)(j:aR y u)(h:∀i,aN X aa σ H i->Q (.bool (!o.isSome)) i) :
  Bf (Bg X.p X.w) A (Bi .NotIn u (.ref a)) Q E s:=by
 obtain ⟨aK,k,e,ey,l⟩|⟨aK,k,b,e,ey,eb,l⟩:=g
 .subst ey;have #[z,d,p,c,f]:=Jz I.hok e;refine wpAny_notIn_of (Vf j) d f.mapOf ?_;rw[<-(c.val k).isSome_eq,<-l];exact h _ (I.tok _)
 .subst ey;cases (show u=bN b from j);have #[z,d,n,c,f]:=JA I.hok e;refine wpAny_notIn_heap (eN m) (qq I.hok eb) d f ?_;have q:=(c.val k).isSome_eq;rw[oK] at q;rw[<-q,<-l];exact h _ (I.tok _)
theorem Z7(I:aN X aa σ H s)(d:Mut (H a))(f:cv a s.heap h')(g:∃q,h'.get? a=Y q)(c:aT X.p X.w (upd H a ob) h' a ob) :
  aN X aa σ (upd H a ob) { s with heap:=h',toks:=t' }:=
 I.write (x:=a) (e:=a) d (.inl U) (λb q h z=>(f.2 b h).trans z) g c
theorem zh0{w:ax}{i:Hp}{f:au}{d:xN}{b:List (Key×am)}(z:d.length<=Bb)(g:(a==sysModules)=ah)(c:KV d b)(h:f.DictOf (yg P w) a b) :
  aT P w i f a (.dK d):={z,g,b,c,h}
theorem zgD{M:Hp}{Q:Unit->ak->Prop}(T:A.units+1<cLine)(I:aN X aa σ H s)(g:DPut H a y v M)(C:aR y u)(D:aR v r)(h:∀x,aN X aa σ M x->Q PUnit.unit x) :
  Bf (Bg X.p X.w) A (setItem (.ref a) u r) Q E s:=by
 obtain ⟨aK,k,e,ey,l,eH⟩|⟨aK,k,b,e,ey,eb,l,eH⟩:=g
 .subst ey eH;have #[z,p,O,d,t]:=zhZ I.hok e;have j:O.length<=Bb:=by rw[<-d.length];exact z
  have n:(xu aK k v).length<=Bb:=by have:=jW aK k v;lia
  refine wpAny_setItem_pairs (hsz:=j) (Vf C) t λG f m=>h _ ?_;have he:∃q,G.get? a=Y q:=let ⟨q,_,_,i,_⟩:=f;{q,i}
  exact Z7 I (by rw[e];exact fC) m he (zh0 n p (d.put k D) f)
 .subst ey eH;cases (show u=bN b from C);have #[z,p,N,d,t]:=zcq I.hok e;have j:N.length<=Bb:=by rw[<-bO d];exact z
  have n:(xu aK k v).length<=Bb:=by have:=jW aK k v;lia
  refine wpAny_setItem_heap (hsz:=j) (eN T) (qq I.hok eb) t λG f m=>h _ ?_;have #[q,es,ep,i,h2,h3,h4,_,h5]:=f;refine Z7 I (by rw[e];exact fC) m {q,i} {n,p,_,(d.put k eb D).keeps λc ys J=>?_,q,es,ep,i,h2,h3,h4,h5};rw[zk (zJ J e ())];exact J
end
variable {aK:xN}
section
variable {k:Key}
theorem zlR{b:zS}{Q:nA}(I:aN X aa σ H s)(e:H a=Y (.dK aK))(g:aR (kV k) u)(l:yu aK k=Y v)(p:b=[]\/∃x,b=[x])(h:∀d n,aN X aa σ (upd H a (.dK (yB aK k))) n->aR v d->Q d n):Bf (Bg X.p X.w) A (call (.builtin "dict.pop") (.ref a::u::b)) Q E s:=by
 have #[z,N,m,c,C]:=zhZ I.hok e;have #[d,D,j]:=u9.some_of (v:=v) (o:=valueAt m k) (by rw[<-l];exact c.val k);have J:(keyPart u).isSome=ae:=by
  cases k with
  |inl i=>have #[t,q]:=(show ∃t,u=f9 i t from g);subst q;rfl
  |inr x=>have #[t,q]:=(show ∃t,u=lL x t from g);subst q;rfl
 have O:argsOk "dict.pop" {.ref a::u::b,[]}:=by
  obtain q|⟨x,q⟩:=p
  .subst q;exact pC _ _
  .subst q;exact pD _ _ _
 refine mJ fi C.typeIs lX O (meets_dict_pop_there (yg X.p X.w) a (Vf g) b p J)
  {m,d,C,by rw[<-c.length];exact z,D,λT f G=>h d _ ?_ j}
 have M:∃q,T.get? a=Y q:=let ⟨q,_,_,hq,_⟩:=f;{q,hq}
 exact Z7 I (by rw[e];exact fC) G M (zh0 (b9 (zcp aK k) z) N (c.drop k) f)
theorem zmw{Q:nA}(I:aN X aa σ H s)(e:H a=Y (.dK aK))(b:aR (kV k) u)(l:yu aK k=af)(h:∀f,aN X aa σ H f->Q r f) :
  Bf (Bg X.p X.w) A (call (.builtin "dict.pop") [.ref a,u,r]) Q E s:=by
 have #[z,n,d,c,g]:=zhZ I.hok e;have m:valueAt d k=af:=u9.none_of (by rw[<-l];exact c.val k);have j:(keyPart u).isSome=ae:=by
  cases k with
  |inl i=>have #[t,q]:=(show ∃t,u=f9 i t from b);subst q;rfl
  |inr x=>have #[t,q]:=(show ∃t,u=lL x t from b);subst q;rfl
 exact mJ fi g.typeIs lX (pD _ _ _) (meets_dict_pop_default (yg X.p X.w) a (Vf b) n j r) {d,g,m,h _ (I.tok _)}
end
def znF(i:av):Prop:=∀b c,subscripted i ah b c=operate [b,c] (getItem b c)
theorem zkw{E:nA}{g:Env}{pos:Pos}{T id:String}{Q:nA}
  (n:typeLookup (.type T) "__getitem__"=pure (Y (.builtin id))) (m:znF slice) (h:Bf (Bg prog w) A (eval value g) (λo d=>Bf (Bg prog w) A (eval slice g) (λi s₂=>s₂.TypeIs o T/\Bf (Bg prog w) A (getItem o i) Q E s₂) E d) E s) :
  Bf (Bg prog w) A (eval (.Subscript value slice pos) g) Q E s:=by
 refine Subscript_ (f6 h (λo d k=>f6 k (λi s₂ b=>?_) λ_ _ x=>x) λ_ _ x=>x);have #[l,b]:=b;unfold subscriptTail;refine ba ?_;rw[getitemInPython_of_ne l.not_modules];refine ba (rA l n ?_);have f:Bf (Bg prog w) A (subscripted slice ah o i) (λr c=>Bf (Bg prog w) A (letTemporaryGo value o r >>= λ_=>pure r) Q E c) E s₂:=by rw[m o i];exact wpAny_operating (f6 b (λr c j=>ba (wpAny_letTemporaryGo (bm j))) λ_ _ x=>x)
 first
  |exact bm (ba f)
  |exact ba (bm (ba f))
  |exact ba f
theorem zcr{H:Hp}(I:aN X aa σ H s)(g:Am H a y o):s.TypeIs (.ref a) "dict":=by
 obtain ⟨aK,k,e,_,_⟩|⟨aK,k,b,e,_,_,_⟩:=g
 .have #[_,_,f,_,c]:=Jz I.hok e;exact c.typeIs
 .have #[_,_,d,_,c]:=JA I.hok e;exact c.typeIs
inductive zh1(Q:VK)(x y:V)(H:Hp):Prop
 |mk (a v:_):x=.ref a->Am H a y (Y v)->Q v H->zh1 Q x y H
def Q8(c b:TE):TE:=λσ H Q=>c σ H λx d=>b σ d (zh1 Q x)
inductive zh2(N:Hp->Prop)(x y v:V)(H:Hp):Prop
 |mk (a H4:_):x=.ref a->DPut H a y v H4->N H4->zh2 N x y v H
def Xh(d b c:TE):TS:=λD σ H=>c σ H λv h=>d σ h λx g=>b σ g λy f=>zh2 (D.nx σ) x y v f
variable {td ty:TE}
section
variable {o i value:av}{pos' tpos:Pos}{tv:TE}
theorem jt(m:X.A.units+1<cLine)(p:PE X o td)(q:PE X i ty)(n:znF i):PE X (.Subscript o i pos) (Q8 td ty):=by intro aa s σ H Q I h;refine zkw PySem.F.slot_dict_getitem.lookup n (aW (p aa s σ H _ I h) λu d ⟨x,G,C,j,l⟩=>aW (q aa d σ G _ C l) ?_);rintro O N ⟨y,D,c,f,a,v,t,g,k⟩;subst t;obtain rfl:u=bN a:=j;exact{zcr c g,zgC m c g f λJ M z b=>{v,D,z,b,k}}
theorem ju(p:X.A.units+1<cLine)(t:PE X o td)(z:PE X i ty)(n:PE X value tv)(q:swapsWith value (Y (.Subscript o i pos')) pos.line X.e=pure ah) :
  PS X (.Assign [.Subscript o i pos'] value pos) (Xh td ty tv):=by intro aa s σ H D I h;refine wpAny_Assign_Subscript (aW (n aa s σ H _ I h) λr c ⟨v,T,N,j,m⟩=>aW (t aa c σ T _ N m) λu b ⟨x,Q,M,f,l⟩=>aW (z aa b σ Q _ M l) ?_) q;rintro iv s3 ⟨y,H3,J,d,a,O,C,g,k⟩;subst C;obtain rfl:u=bN a:=f;exact zgD p J g d j λs4 G=>{σ,O,G,k}
end
theorem zh3{H:Hp}(h:au)(b:sysModules<h.objs.size):aT P w H (h.push { cls:=.type "dict",data:=.dict #[] }) h.objs.size (.dK []):=
 {bQ _,beq_eq_false_iff_ne.mpr (eh (bK b)),[],.nil,Heap.DictOf.new h}
theorem zcs{H:Hp}(h:au)(b:sysModules<h.objs.size):aT P w H (h.push { cls:=.type "dict",data:=.dict #[] }) h.objs.size (.dT []):=
 {bQ _,beq_eq_false_iff_ne.mpr (eh (bK b)),[],.nil,_,#[],0,bq _ U,{U,U,U},U,U,dU}
def Wx:TE:=λ_ H Q=>∀p,H p=af->Q (.ref p) (upd H p (.dK []))
def JB:TE:=λ_ H Q=>∀p,H p=af->Q (.ref p) (upd H p (.dT []))
theorem Zp:PE X (.Dict [] [] pos) Wx:=λaa s σ H Q I h=>
 wpAny_Dict_empty {.ref s.heap.objs.size,_,I.laid (a:=s.heap.objs.size) (o:=.dK []) (t':=s.toks) (λ_ _ q=>bg _ q) (bo _) (zh3 s.heap I.big),U,h _ (I.hok.fresh (bo _))}
theorem kP:PE X (.Dict [] [] pos) JB:=λaa s σ H Q I h=>
 wpAny_Dict_empty {.ref s.heap.objs.size,_,I.laid (a:=s.heap.objs.size) (o:=.dT []) (t':=s.toks) (λ_ _ q=>bg _ q) (bo _) (zcs s.heap I.big),U,h _ (I.hok.fresh (bo _))}
structure M1(X:Cx)(o:av)(m:Str)(gV:Pos)(e:av)(nB:Pos):Prop where
 base:attributeBase o m X.e (eval o X.e)=eval o X.e
 few:((backTo nB (Be [e] X.e)).all (λx=>!x.1)&&(backToKw nB (keywordEach [] X.e)).all (λx=>x.1.isSome)
  && decide (([e]:List av).length+([]:List Keyword).length+(if ([]:List Keyword).isEmpty then 0 else 1)<30))=ae
 line:(gV.endLine==nB.line)=ae
 trees:backTo nB (Be [e] X.e)=[(ah,eval e X.e)]
structure M2(X:Cx)(o:av)(m:Str)(gV:Pos)(e f:av)(nB:Pos):Prop where
 base:attributeBase o m X.e (eval o X.e)=eval o X.e
 few:((backTo nB (Be [e,f] X.e)).all (λx=>!x.1)&&(backToKw nB (keywordEach [] X.e)).all (λx=>x.1.isSome)
  && decide (([e,f]:List av).length+([]:List Keyword).length+(if ([]:List Keyword).isEmpty then 0 else 1)<30))=ae
 line:(gV.endLine==nB.line)=ae
 trees:backTo nB (Be [e,f] X.e)=[(ah,eval e X.e),(ah,eval f X.e)]
def IsD(H:Hp)(a:B):Prop:=(∃aK,Rd H a (.dK aK))\/∃aK,Rd H a (.dT aK)
theorem Wy{H:Hp}(I:aN X aa σ H s)(d:IsD H a) :
  s.TypeIs (.ref a) "dict"/\(∀b,bN a=.ref b->∃c,s.heap.get? b=Y c/\c.dict=af)/\(a==sysModules)=ah:=by
 obtain ⟨aK,e⟩|⟨aK,e⟩:=d
 .have #[_,g,k,_,f]:=Jz I.hok e;refine{f.typeIs,λb q=>?_,g};cases q;have #[c,_,_,i,h,_]:=f;exact{c,i,h.2.1}
 .have #[_,g,j,_,f]:=JA I.hok e;refine{f.typeIs,λb q=>?_,g};cases q;have #[c,_,_,i,h,_]:=f;exact{c,i,h.2.1}
section
variable {d:V}{o:Option V}
theorem zmy{Q:nA}(t:A.units+1<cLine)(I:aN X aa σ H s)(g:Am H a y o)(n:aR y u)(p:aR d r)(h:∀j m,aN X aa σ H m->aR (o.getD d) j->Q j m) :
  Bf (Bg X.p X.w) A (call (.builtin "dict.get") [.ref a,u,r]) Q E s:=by
 obtain ⟨aK,k,e,ey,l⟩|⟨aK,k,b,e,ey,eb,l⟩:=g
 .subst ey;have #[z,i,v,c,f]:=Jz I.hok e;refine mJ mK f.typeIs pX (pE _ _ _) (meets_dict_get_default (yg X.p X.w) a (Vf n) i r) {_,f.mapOf,h _ _ (I.tok _) ?_};rw[l];exact(c.val k).getD p
 .subst ey;cases (show u=bN b from n);have #[z,i,q,c,f]:=JA I.hok e;refine mJ mK f.typeIs pX (pE _ _ _) (meetsH_dict_get_default (tupleKind (yg X.p X.w)) a b i r) {eN t,k,q,qq I.hok eb,f,h _ _ (I.tok _) ?_};rw[l];exact(c.val k).getD p
end
def JC(td ty d:TE):TE:=λσ H Q=>td σ H λx c=>∃a,x=.ref a/\IsD c a/\ty σ c λy f=>d σ f λz b=>∃o,Am b a y o/\Q (o.getD z) b
def zeo(td ty:TE):TE:=λσ H Q=>td σ H λx c=>∃a,x=.ref a/\IsD c a/\ty σ c λy b=>∃aK k v,b a=Y (.dK aK)/\y=kV k/\yu aK k=Y v/\Q v (upd b a (.dK (yB aK k)))
def zmz(td ty d:TE):TE:=λσ H Q=>td σ H λx c=>∃a,x=.ref a/\IsD c a/\ty σ c λy f=>d σ f λz b=>∃aK k,b a=Y (.dK aK)/\y=kV k /\
 (∀v,yu aK k=Y v->Q v (upd b a (.dK (yB aK k))))/\(yu aK k=af->Q z b)
section
variable {o f:av}{tx:TE}
theorem kQ(D:X.A.units+1<cLine)(G:PE X o td)(M:PE X e ty)(J:PE X f tx)(m:M2 X o "get" gV e f nB):PE X (.Call (.Attribute o "get" gV) [e,f] [] nB) (JC td ty tx):=by
 intro aa s σ H Q I h;refine iL m.base m.few m.line eO mK PySem.F.type_dict_get (aW (G aa s σ H _ I h) ?_);rintro u l ⟨x,H1,c,q,a,N,d,C⟩;subst N;obtain rfl:u=bN a:=q;have #[j,i,_]:=Wy c d;refine{j,i,?_};rw[m.trees];refine dL U (fI (eA (aW (M aa l σ H1 _ c C) λiv k ⟨y,H2,I2,p,v⟩=>
  eA (aW (J aa k σ H2 _ I2 v) λfv s3 ⟨z,H3,T,n,ov,g,t⟩=>gI ?_))))
 exact zmy D T g p n λw' s4 O b=>{_,H3,O,b,t}
theorem JD(z:PE X o td)(C:PE X e ty)(m:M1 X o "pop" gV e nB):PE X (.Call (.Attribute o "pop" gV) [e] [] nB) (zeo td ty):=by intro aa s σ H Q I h;refine iL m.base m.few m.line eO fi mL (aW (z aa s σ H _ I h) ?_);rintro u j ⟨x,O,c,p,a,G,d,t⟩;subst G;obtain rfl:u=bN a:=p;have #[i,g,_]:=Wy c d;refine{i,g,?_};rw[m.trees];refine dL U (fI (eA (aW (C aa j σ O _ c t) λiv s2 ⟨y,H2,N,n,aK,k,v,J,D,l,q⟩=>gI ?_)));subst D;exact zlR N J n l (.inl U) λT s3 M b=>{v,_,M,b,q}
theorem zct(ho:PE X o td)(he:PE X e ty)(hf:PE X f tx)(m:M2 X o "pop" gV e f nB):PE X (.Call (.Attribute o "pop" gV) [e,f] [] nB) (zmz td ty tx):=by
 intro aa s σ H Q I h;refine iL m.base m.few m.line eO fi mL (aW (ho aa s σ H _ I h) ?_);rintro u D ⟨x,H1,n,J,a,ex,d,T⟩;subst ex;obtain rfl:u=bN a:=J;have #[q,p,_]:=Wy n d;refine{q,p,?_};rw[m.trees];refine dL U (fI (eA (aW (he aa D σ H1 _ n T) λiv C ⟨y,H2,I2,g,O⟩=>
  eA (aW (hf aa C σ H2 _ I2 O) λfv s3 ⟨z,H3,j,G,aK,k,i,ey,N,M⟩=>gI ?_))))
 subst ey;cases l:yu aK k with
 |some v=>exact zlR j i g l (.inr {fv,U}) λw' t c b=>{v,_,c,b,N v l}
 |none=>exact zmw j i g l λt c=>{z,H3,c,G,M l}
end
end L2
namespace Att
open PySem PySem.W PySem.Calls PyProof.Rows
theorem VV :∀(ns:List Int)(c:List am),WellAll P h c (ns.map WData.int)->IntsAre c ns:=by
 intro ns;induction ns with
 |nil=>
  intro c w;rw[lE] at w;cases w;exact .nil
 |cons n ns ih=>
  intro c w;rw[bC] at w;cases w with
  |cons a b=>
   cases a;exact .cons _ _ (ih _ b)
theorem Q9{l:OpenLaw}{n:Nat}(s:l.most=Y n){P:Params}{args:List WData}{c:List am}
  (e:l.row.toRowW.claim.pre args=ae) (j:WellAll P h c args) :
  ∃a m b,c=[bN a]/\args=[WData.list (b.map WData.int)]/\h.get? a=Y { cls:=.type "list",data:=.seq m.toArray }/\IntsAre m b/\b.length<=n:=by
 have k:WShape.hasAll [] args [.list .int]=ae:=(pre_splitW e).1;have o:l.pre.holds [] { args:=args }=ae:=(pre_splitW e).2;have #[d,r,rfl,v,u]:=hasAllW_cons k;obtain rfl:=hasAllW_nil u;have #[w,rfl,t]:=hasW_list v;have #[b,rfl]:=items_int t;have f:b.length<=n:=by
  unfold OpenLaw.pre at o;have i:(WTm.not (.lt (.lit (.int (n:Int))) (.len (.arg 0)))).holds [] { args:=[.list (b.map .int)] }=ae:=by have i:=(holds_andW o).1;rw[s] at i;exact i
  have g:=condW_of i (w_not (w_lt w_lit (w_len_list (w_arg U))));rw[bh] at g;refine Nat.le_of_not_lt λq=>?_;have p:(n:Int)<((b.length:Nat):Int):=by lia
  first
   |(rw[Bj p] at g;exact absurd g ())
   |(simp at g;lia)
 cases j with
 |cons w1 w2=>
  cases w2;cases w1 with
  |list ho hall=>exact{_,_,b,U,U,ho,VV b _ hall,f}
theorem zaa(l:OpenLaw)(args:List WData):l.row.toRowW.claim.post args (.bool ae) args=ae:=
 postW_of (r:=l.row.toRowW) (X:=(ae==ae))
  (show WShape.has [] (.bool ae) .bool=ae by first|rfl|decide|simp[WShape.has,WShape.arms,WShape.armsAll])
  (show (WTm.eq .res (.lit (.bool ae))).value [] { args:=args,res:=Y (.bool ae),after:=args }=Y (.bool (ae==ae)) from w_eq_bool (w_res U) w_lit) rfl
section
variable {prog:aq}{w:ax}{A:aw}{E:am->ak->Prop}{s:ak}{K:Frag}
end
end Att
namespace L2
open PySem PySem.Spec PyProof.Rows
theorem zab:∀ {a:zS}{b:yz},IntsAre a b->aP (b.map V.int) a
 |_,_,.nil=>.nil
 |_,_,.cons n t h=>.cons {t,U} (zab h)
def zgE(H:Hp):Prop:=∀b,H b=af\/∃o a,H b=Y (.frz o (.lst a))
theorem zcu{P:aq}{w:ax}{K:bE}{C mb:Ak}{CX:CXT}{k:Nat}{fa a:B}{fd:Bc}{x:Str}{sp:Sp}{s₁:ak}{p:zS}{A:yz}
  (KX:K.In s₁.heap) (I:s₁.heap.Ns Bd C) (f:s₁.heap.Ns builtinsNs mb) (ab:∀x:Str,x≠"__name__"->mb x=Bh x) (J:s₁.heap.NoLimit) (hg:s₁.gens=#[]) (Q:s₁.heap.get? a=Y { cls:=.type "list",data:=.seq p.toArray }) (hi:IntsAre p A) (hl:A.length<=Bb) (hr:hZ k callerA) (F:∀i:au,K.In i->i.Ns Bd C->bv P w K C i CX k fa fd [x] sp) (t:∀(s:ak)(u:am),BindsTo s fd {[u],[]} [(x,u)]) (aa:∀H:Hp,zgE H->aM K H a (A.map V.int)->sp [.ref a] H (λv _=>v=.bl ae) λ_ _ _=>False) (ai:∀H e g,CX [] H s₁ (λ_ _ _=>False) e g->False) :
  codeAny (Bg P w) callerA (.call (.ref fa) {[.ref a],[]}) (λr g=>r=.ok (.ret (.bool ae))/\OldK s₁.heap g.heap/\g.os=s₁.os/\AllBare g.gens) s₁:=by
 have rv:=zab hi;have D:=hi.length
 have l:∀H:Hp,zgE H->aM K H a (A.map V.int)->As P w H s₁.heap->(∀b,H b≠af->b=a)->(H a≠af->K.lookup a=af) ->
   codeAny (Bg P w) callerA (.call (.ref fa) {[.ref a],[]}) (λr g=>r=.ok (.ret (.bool ae))/\OldK s₁.heap g.heap/\g.os=s₁.os/\AllBare g.gens) s₁:=by
  intro H hO hS G hA hK;have c:∀ {b:B}{o:Obj},s₁.heap.get? b=Y o->H b=af->(zaZ s₁.heap H).get? b=Y o:=λe n=>zhJ e n;have T:∀ {b:B}{o:Obj}{N:Array DictEntry}{ep:Nat},s₁.heap.get? b=Y o->o.data=.dict N ep->H b=af:=λ{b o N ep} e d=>by
   cases q:H b with
   |none=>rfl
   |some u=>
    have e':b=a:=hA b (by rw[q];simp);subst e';rw[Q] at e;cases e;have d':Data.seq p.toArray _=Data.dict N ep:=d;cases d'
  have j:∀ {b:B}{m:Ak},s₁.heap.Ns b m->(zaZ s₁.heap H).Ns b m:=λ{b m} ⟨o,N,ep,e,d,r⟩=>{o,N,ep,c e (T e d),d,r};have M:K.In (zaZ s₁.heap H):=λb o e=>c (KX b o e) (by
   cases q:H b with
   |none=>rfl
   |some u=>
    have e':b=a:=hA b (by rw[q];simp);subst e';rw[hK (by rw[q];simp)] at e;cases e)
  have hM:Mod K C (zaZ s₁.heap H):={M,j I,{mb,j f,ab},let ⟨mc,h1,h2⟩:=J;{mc,j h1,h2}};have e0:Env0 P w K C (zaZ s₁.heap H) callerA [] s₁ H:={U,hM,λb o e=>zkl e,ir (zgt _ _),trivial,λb f=>absurd (show b∈([]:List B) from f) (by simp),G,.of_eq hg};refine gg ((F _ M (j I)).run callerA [] s₁ H {[.ref a],[]} [.ref a] [.ref a] _ _ hr e0 (t s₁ (.ref a)) (.cons U .nil) (aa H hO hS)) λr g h=>?_;cases r with
  |error e=>exact(ai H e g h).elim
  |ok fl=>
   cases fl with
   |next=>exact fP h
   |brk=>exact fP h
   |cont=>exact fP h
   |ret u=>
    have #[v,H',os,O,un,E,r',q]:=h;have q':v=.bl ae:=q;subst q';obtain rfl:u=ma ae:=r';refine{U,OldK.of_keep λb o e=>?_,os,O};cases q:H b with
    |none=>exact un.keep b o e q (by intro z;exact absurd (show b∈([]:List B) from z) (by simp)) (by simp)
    |some u=>
     obtain z|⟨ob,xs,z⟩:=hO b
     .rw[q] at z;cases z
     .have z2:=un.frzs b ob _ z;have #[e1,_]:=G b _ z;have #[e2,_]:=E b _ z2;rw[e] at e1;cases e1;exact e2
 cases hk:K.lookup a with
 |some o=>
  have e:=KX a o hk;rw[Q] at e;cases e;refine l (λ_=>af) (λ_=>.inl U) (.inr {_,p.toArray,_,hk,U,U,U,by rw[bJ,D];exact hl,by simpa using rv}) (λb u z=>by have y:(af:Option HO)=Y u:=z;cases y) (λb z=>absurd rfl z) λz=>absurd rfl z
 |none=>
  refine l (λb=>if b=a then Y (.frz { cls:=.type "list",data:=.seq p.toArray } (.lst (A.map V.int))) else af) (λb=>?_) (.inl (.inr {{ cls:=.type "list",data:=.seq p.toArray },ao U})) (λb u z=>?_) (λb z=>?_) λ_=>hk
  .by_cases f:b=a
   .exact .inr {_,_,ao f}
   .exact .inl (ag f)
  .by_cases f:b=a
   .have y:=(ao f).symm.trans z;cases y;subst f;exact{Q,by rw[bh];exact hl,p,_,rv,Q}
   .have y:=(ag f).symm.trans z;cases y
  .by_cases f:b=a
   .exact f
   .exact absurd (ag f) z
abbrev KOf{K:bE}{h:au}(_:K.In h):bE:=K
def zM(s:ap)(j:Nat):ap:=match s with
 |.ClassDef _ _ _ body _ _ _ _ _ _ _=>body.getD j (.Pass {0,0,0,0})
 |_=>.Pass {0,0,0,0}
def Z8(s:ap):Arguments:=match s with
 |.FunctionDef _ a _ _ _ _ _ _ _ _=>a
 |_=>{ posonlyargs:=[],args:=[],vararg:=af,kwonlyargs:=[],kw_defaults:=[],kwarg:=af,defaults:=[] }
def wU(s:ap):List ap:=match s with
 |.FunctionDef _ _ b _ _ _ _ _ _ _=>b
 |_=>[]
def zi(s:ap):aA:=match s with
 |.FunctionDef _ _ _ _ _ _ sc _ _ _=>sc
 |_=>{ kind:=.function,names:=[],isGenerator:=ah,isCoroutine:=ah }
abbrev E0:XK:=λ_ _ _=>False
structure Fun(K:bE)(x qual:Str)(st:ap)(f:B)(fd:Bc):Prop where
 ex:∃(oc:am)(od:Option B)(kV doc pm:am)(an:Option B)(cdv ct:am)(osl:Array (Option am)),
  fd=ux x qual (Z8 st) (wU st) (zi st) .none kV doc pm an cdv ct/\K.lookup f=Y {oc,od,.func fd,osl}/\uo K cdv qual=ae
 kp:pc K (.ref f)=ae
section
variable {P:aq}{w:ax}{K:bE}{mg:Ak}{base:au}
theorem fun_mk{b:ap}{f:B}{m:am}{j i:Option B}{e:Array (Option am)}{kV d g a h:am}(l:K.lookup f=Y {m,j,.func (ux x qual (Z8 b) (wU b) (zi b) .none kV d g i a h),e})(c:uo K a qual=ae)(k:pc K (.ref f)=ae):Fun K x qual b f (ux x qual (Z8 b) (wU b) (zi b) .none kV d g i a h):={{m,j,kV,d,g,i,a,h,e,U,l,c},k}
end
theorem xc(a:hZ k A):A.units+1<cLine:=dN (Nat.add_le_add_left (by lia:1<=64) _) a.units
variable {X:Cx}
theorem Z(i:Nat){a:Pos}(e:X.N[i]?=Y x:=by rfl)(c:Vis X.e.scope x:=by first|exact iy rfl|exact uF (iy U)|exact uF (uF U))(d:Bq x:=by lia)(b:(x==("__classdict__":Str))=ah:=by lia):PE X (.Name x a) (ze i):=zmn e c d b
theorem zou{c A Bo:Prop}[Decidable c](b:c->A)(a:¬ c->Bo):if c then A else Bo:=by
 by_cases h:c
 .rw[ao h];exact b h
 .rw[ag h];exact a h
def aJ(H a:Hp):Prop:=∀b o,H b=Y o->a b=Y o
theorem aJ.refl(H:Hp):aJ H H:=λ_ _ h=>h
theorem aJ.trans{H d H2:Hp}(a:aJ H d)(b:aJ d H2):aJ H H2:=λc o h=>b c o (a c o h)
theorem aJ.free{H a:Hp}(e:aJ H a)(h:a l=Option.none):H l=Option.none:=by
 cases q:H l with
 |none=>rfl
 |some o=>
  rw[e l o q] at h;cases h
section
variable {κ:Type}[DecidableEq κ]
theorem zcv{a:List (κ×V)}{k:κ}(h:yu a k=af):¬ k∈a.map (·.1):=by intro m;have #[p,c,e]:=bH.mp m;have q:(a.any λb=>decide (b.1=k))=ae:=ud.mpr {p,c,Bj e};rw[vZ,h] at q;exact absurd q (by simp)
theorem zfy{a:List (κ×V)}{k:κ}{v:V}(h:yu a k=Y v):k∈a.map (·.1):=by
 have q:(a.any λb=>decide (b.1=k))=ae:=by
  rw[vZ,h]
  all_goals rfl
 have #[p,c,e]:=List.any_eq_true.mp q;exact bH.mpr {p,c,of_decide_eq_true e}
theorem zfz:∀ {l:List κ}{k:κ},l.Nodup->¬ k∈l->(l++[k]).Nodup
 |[],k,_,_=>by simp
 |a::r,k,h,hk=>by
  have #[c,b]:=cx.mp h;show (a::(r++[k])).Nodup;refine cx.mpr {λm=>?_,zfz b λm=>hk (bn.mpr (uF m))};obtain q|q:=bP.mp m
  .exact c q
  .exact hk (bn.mpr (iy (bB.mp q).symm))
theorem zkx{a:List (κ×V)}{k:κ}(v:V)(b:(a.map (·.1)).Nodup)(h:yu a k=af):((xu a k v).map (·.1)).Nodup:=by rw[jE v h,b7];exact zfz b (zcv h)
theorem zac{p:κ×V}{r:List (κ×V)}(e:p.1=k):yB (p::r) k=yB r k:=by unfold yB;rw[eY,ag (by simp[e])]
theorem Wz{p:κ×V}{r:List (κ×V)}(e:¬ p.1=k):yB (p::r) k=p::yB r k:=by unfold yB;rw[eY,ao (by simp[e])]
theorem zgF{aK:List (κ×V)}{p:κ×V}(h:p∈yB aK k):p∈aK:=(da.mp h).1
end
end L2
set_option Elab.async false
set_option linter.all false
set_option maxRecDepth 100000
set_option maxHeartbeats 4000000
namespace L2
open PySem PySem.Spec PyProof.Rows
def Cx.comp(X:Cx)(a:aA)(c:List (Str×B))(C:B)(N:zQ)(b:List B)(s:ak)(H:Hp):Cx:=
 { X with e:=compEnvC a c C X.e,N:=N,s₀:=s,H₀:=H,J:=X.k,ex:=b,fn:=λ_=>ah,pn:=[],xe:=λ_ _=>False }
abbrev xo:=List Nat
structure Z9(X:Cx)(scope:aA)(cl:List (Str×B))(ix:xo):Prop where
 clos:closureFor scope X.e=pure cl
 nocell:∀y∈scope.names,y.2≠.cell
 kind:scope.kind=.function
 names:∀y∈scope.names,y.2=.local->scope.names.lookup y.1=Y .local
 sub:∀y c,cl.lookup y=Y c->X.e.cells.lookup y=Y c
 has:∀y,((relabel scope X.e).names.lookup y=Y .cell\/(relabel scope X.e).names.lookup y=Y .free)->∃c,cl.lookup y=Y c
 cap:∀i∈ix,∃y,X.N[i]?=Y y/\(X.e.kindOf y=Y .cell\/X.e.kindOf y=Y .free)/\((relabel scope X.e).names.lookup y=Y .cell\/(relabel scope X.e).names.lookup y=Y .free)
def Zq(a:aA)(b:Env):List (Str×B):=a.names.foldl (λc y=>if y.2==.free then (y.1,(b.cells.lookup y.1).getD 0)::c else c) []
def zfA(a:aA)(N:zQ)(b:aA)(c:xo):Bool:=
 b.kind==.function&&b.names.all (λy=>y.2 != .cell&&(y.2 != .local || b.names.lookup y.1==Y .local)&&(y.2 != .free || a.names.lookup y.1==Y .cell || a.names.lookup y.1==Y .free)) &&
  c.all λi=>match N[i]? with
   |some y=>b.names.lookup y==Y .free
   |none=>ah
theorem v3{l:List (Str×NameKind)}{y:Str}(h:l.lookup y=Y k):(y,k)∈l:=fT h
theorem qt{a:Env}:∀ {b:List (Str×NameKind)}{x:Str}{k:NameKind},(b.map λ(n,k)=>if (k==dO&&a.scope.kind==.function&&a.kindOf n==Y .cell) then (n,pF) else (n,k)).lookup x=Y k ->
  ∃c,b.lookup x=Y c/\(c=.free\/c=k)
 |[],_,_,h=>by simp at h
 |(n,c)::r,x,k,h=>by
  have f:=@qt a r x k;rw[bC] at h;cases hx:x==n with
  |true=>
   by_cases hc:(c==dO&&a.scope.kind==.function&&a.kindOf n==Y .cell)=ae
   .have e:c=.free:=by have:=(bY _ _ ▸ (bY _ _ ▸ hc).1).1;simpa using this
    exact{c,by simp[cC,hx],.inl e}
   .simp only[ag hc,cC,hx] at h;exact{c,by simp[cC,hx],.inr (bX h)}
  |false=>
   have g:(r.map λ(n,k)=>if (k==dO&&a.scope.kind==.function&&a.kindOf n==Y .cell) then (n,pF) else (n,k)).lookup x=Y k:=by
    by_cases hc:(c==dO&&a.scope.kind==.function&&a.kindOf n==Y .cell)=ae
    .simp only[ao hc,cC,hx] at h;exact h
    .simp only[ag hc,cC,hx] at h;exact h
   have #[q,e,d]:=f g;exact{q,by simp only[cC,hx];exact e,d}
theorem Xi{a:Env}:∀ {b:List (Str×NameKind)}{x:Str},b.lookup x=Y .free ->
  ((b.map λ(n,k)=>if (k==dO&&a.scope.kind==.function&&a.kindOf n==Y .cell) then (n,pF) else (n,k)).lookup x=Y .cell \/
   (b.map λ(n,k)=>if (k==dO&&a.scope.kind==.function&&a.kindOf n==Y .cell) then (n,pF) else (n,k)).lookup x=Y .free)
 |[],_,h=>by simp at h
 |(n,k')::r,x,h=>by
  have c:=@Xi a r x;rw[bC];cases hx:x==n with
  |true=>
   simp only[cC,hx] at h;cases h;by_cases hc:(dO==dO&&a.scope.kind==.function&&a.kindOf n==Y .cell)=ae
   .left;simp only[ao hc,cC,hx]
   .right;simp only[ag hc,cC,hx]
  |false=>
   simp only[cC,hx] at h;by_cases hc:(k'==dO&&a.scope.kind==.function&&a.kindOf n==Y .cell)=ae
   .simp only[ao hc,cC,hx];exact c h
   .simp only[ag hc,cC,hx];exact c h
theorem zad{a:Env}:∀(l:List (Str×NameKind))(d:List (Str×B)),(∀y∈l,y.2=.free->∃c,a.cells.lookup y.1=Y c) ->
  (∀y c,d.lookup y=Y c->a.cells.lookup y=Y c)->∀y c,(l.foldl (λd y=>if y.2==.free then (y.1,(a.cells.lookup y.1).getD 0)::d else d) d).lookup y=Y c->a.cells.lookup y=Y c
 |[],_,_,h,y,c,e=>h y c e
 |z::r,d,hl,h,y,c,e=>by
  rw[fU] at e;refine zad r _ (λy j=>hl y (bw _ j)) (λg n b=>?_) y c e;by_cases hz:z.2=.free
  .have #[m,i]:=hl z bu hz;have f:(z.2==dO)=ae:=by simpa using hz
   rw[ao f,i,cC] at b;cases hq:g==z.1 with
   |true=>
    rw[hq] at b;have k:g=z.1:=by simpa using hq
    cases b;rw[k];exact i
   |false=>rw[hq] at b;exact h _ _ b
  .have f:(z.2==dO)=ah:=by simpa using hz
   rw[f] at b;exact h _ _ b
theorem zcw{b:Env}:∀(l:List (Str×NameKind))(a:List (Str×B))(y:Str),((∃c,a.lookup y=Y c)\/(y,dO)∈l) ->
  ∃c,(l.foldl (λa y=>if y.2==.free then (y.1,(b.cells.lookup y.1).getD 0)::a else a) a).lookup y=Y c
 |[],_,_,h=>h.elim id nofun
 |z::r,a,y,h=>by
  rw[fU];refine zcw r _ y ?_;obtain ⟨c,h⟩|h:=h
  .left
   by_cases hz:(z.2==dO)=ae
   .rw[ao hz,cC];cases y==z.1 with
    |true=>exact{_,U}
    |false=>exact{c,h}
   .rw[ag hz];exact{c,h}
  .obtain h|h:=bn.mp h
   .left
    subst h;rw[ao (by rfl),cC];simp
   .exact .inr h
theorem za7{a:Env}:∀(l:List (Str×NameKind))(b:List (Str×B)),(∀y∈l,y.2=.free->∃c,a.cells.lookup y.1=Y c) ->
  forIn (m:=Sem) l b (λx r=>match x with|(name,kind)=>if (kind==dO)=ae then do let c <-cellOf a name;pure (fV ((name,c)::r)) else pure (fV r)) =
   pure (l.foldl (λb y=>if y.2==.free then (y.1,(a.cells.lookup y.1).getD 0)::b else b) b)
 |[],_,_=>rfl
 |(n,k)::r,b,h=>by
  rw[nK,fU];by_cases hz:(k==dO)=ae
  .have #[c,f]:=h (n,k) bu (by simpa using hz);have e:cellOf a n=pure c:=by unfold cellOf;rw[f]
   simp only[hz,if_true,e,uz];rw[za7 r _ λy d=>h y (bw _ d)];simp only[f,Option.getD_some]
  .simp only[hz,if_false,uz];exact za7 r _ λy d=>h y (bw _ d)
theorem Xj(k:X.Ok)(h:zfA osc N scope ix=ae)(n:X.e.scope=osc)(r:X.N=N):Z9 X scope (Zq scope X.e) ix:=by
 subst n r;unfold zfA at h;rw[bY,bY,cI,cI] at h;have #[#[v,u],t]:=h;have p:∀y∈scope.names,y.2≠.cell/\(y.2=.local->scope.names.lookup y.1=Y .local)/\(y.2=.free->X.e.kindOf y.1=Y .cell\/X.e.kindOf y.1=Y .free):=λy hy=>by
  have q:=u y hy;rw[bY,bY] at q;have #[#[j,d],b]:=q;refine{by simpa using j,λe=>?_,λe=>?_}
  .rw[e] at d;simpa using d
  .rw[e] at b;have a:X.e.scope.names.lookup y.1=Y .cell\/X.e.scope.names.lookup y.1=Y .free:=by simpa using b
   exact a
 have f:∀y∈scope.names,y.2=.free->∃c,X.e.cells.lookup y.1=Y c:=λy hy e=>k.has y.1 ((p y hy).2.2 e);refine{?_,λy hy=>(p y hy).1,by simpa using v,λy hy=>(p y hy).2.1,λy c e=>zad scope.names [] f (λ_ _ z=>by simp at z) y c e,λy hy=>?_,λi o=>?_}
 .have e:=za7 scope.names [] f;unfold closureFor Zq;refine Eq.trans (congrArg (λm=>m >>= λs=>(pure s:Sem (List (Str×B)))) e) ?_;rw[uz]
 .refine zcw scope.names [] y (.inr ?_);obtain hy|hy:=hy
  .obtain⟨l,e,z|z⟩:=qt hy
   .subst z;exact v3 e
   .subst z;exact absurd U (p _ (v3 e)).1
  .obtain⟨l,e,z|z⟩:=qt hy
   .subst z;exact v3 e
   .subst z;exact v3 e
 .have q:=t i o;cases hy:X.N[i]? with
  |none=>rw[hy] at q;cases q
  |some y=>
   rw[hy] at q;have g:scope.names.lookup y=Y .free:=by simpa using q
   exact{y,U,(p _ (v3 g)).2.2 U,Xi g}
def zep(b:xo)(a:St):St:=b.map λi=>(a[i]?).getD af
def kR(a:xo)(N:zQ):zQ:=a.map λi=>(N[i]?).getD ""
variable {X:Cx}{aa:uX}{σ:St}{H:Hp}{s:ak}{scope:aA}{cl:List (Str×B)}{C:B}{xs:zQ}
section
variable {ix:xo}{fp:List B}
theorem aN.compOk(I:aN X aa σ H s)(S:Z9 X scope cl ix)(g:C=s.heap.objs.size)(d:∀b∈fp,ku X aa H b)(k:∀b∈fp,b<s.heap.objs.size)(n:zQ) :
  (X.comp scope cl C n fp s H).Ok where
 mod:=I.ok.mod
 kind:=S.kind
 glob:=I.ok.glob
 blt:=I.ok.blt
 above:=ir g.symm
 inj:=λx y c f l=>I.ok.inj x y c (S.sub x c f) (S.sub y c l)
 has:=λx j=>S.has x j
 cab:=λx c f _=>nomatch f
 hd:=I.ok.hd
 frames:=I.ok.frames
 stk:=.inl rfl
 exf:=λb a=>{λz=>absurd (k b a) (by rw[z];show ¬ C<_;rw[g];exact gb _),λx c h=>(d b a).2.2.2.2.1 x c (S.sub x c h)}
 bs:=I.bs
 bsz:=b9 I.ok.bsz I.sz
 noex:=λb o e a=>by
  rcases(d b a).2.2.2.1 with z|z
  .exact I.ok.noex b o e z
  .exact absurd (cb (bF e) (b9 I.ok.bsz z)) (gb _)
 exfs:=λb a z=>by
  obtain e|e:=bn.mp (I.stkSub b z)
  .exact(d b a).2.1 e
  .exact(d b a).2.2.1 e
 funs:=I.stack
 frf:=I.stkFree
theorem aN.comp{d:au}{f:Ak}{t':Nat}(I:aN X aa σ H s)(S:Z9 X scope cl ix)(E:C=s.heap.objs.size)(hf:∀b∈fp,ku X aa H b)(hl:∀b∈fp,b<s.heap.objs.size)(T:d.Ns C f)(n:∀b o,s.heap.get? b=Y o->d.get? b=Y o) :
  aN (X.comp scope cl C (xs++kR ix X.N) fp s H) [] (dF xs.length af++zep ix σ) H { s with heap:=d,toks:=t' } where
 ok:=I.compOk S E hf hl _
 os:=rfl
 bare:=I.bare
 base:=Un.kept n
 loc:=by
  refine{f,T,λi y v e1 g e3=>?_};by_cases hi:i<xs.length
  .rw[cR (by simpa using hi),pq,ao hi] at g;cases g
  .have a:(xs++kR ix X.N)[i]?=Y y:=e1;rw[dA ()] at a;rw[dA (by rw[iu];lia),iu] at g;generalize i-xs.length=j at a g;unfold kR at a;unfold zep at g;rw[br] at a g;cases hj:ix[j]? with
   |none=>rw[hj] at a;cases a
   |some k=>
    rw[hj] at a g;have #[t,M,J,G]:=S.cap k (bU hj);have ey:t=y:=by have q:(X.N[k]?).getD ""=y:=bX a;rw[M] at q;exact q
    subst ey;have ev:σ[k]?=Y (Y v):=by
     have q:(σ[k]?).getD af=Y v:=bX g;cases hs:σ[k]? with
     |none=>rw[hs] at q;cases q
     |some o=>rw[hs] at q;exact congrArg Y q
    have #[m,hm,O]:=I.loc;have #[u,r,l]:=O k t v M ev (J.elim (λz=>.inr (.inl z)) λz=>.inr (.inr z));refine{u,r,.inr {G,?_}};obtain ⟨l1,_⟩|⟨_,c,lc,⟨o,A,D⟩⟩:=l
    .obtain z|z:=J <;> (rw[l1] at z;cases z)
    .have #[c',h]:=S.has t G;have e:=S.sub _ _ h;rw[lc] at e;cases e;exact{c,h,o,n _ _ A,D}
 cell:=λx c e=>by have #[v,o,A,D]:=I.cell x c (S.sub x c e);exact{v,o,n _ _ A,D}
 free:=I.hok.fresh (ir E.symm)
 freeC:=λx c e=>I.freeC x c (S.sub x c e)
 pin:=λp Q=>absurd (show p∈([]:uX) from Q) (by simp)
 hok:=I.hok.kept n
 len:=by show (dF xs.length af++zep ix σ).length=(xs++kR ix X.N).length;rw[bx,bx,iu,zep,kR,bh,bh]
theorem aN.uncomp{j:St}{h:Hp}{O:zQ}{r:au}(I:aN X aa σ H s)(A:C=s.heap.objs.size)(z:∀b∈fp,ku X aa H b)(J:aN (X.comp scope cl C O fp s H) [] j h s')(g:cv C s'.heap r):aN X aa σ h { s' with heap:=r }:=by
 have lt:∀b o,s.heap.get? b=Y o->b≠C:=λb o e=>by rw[A];exact bK (bF e)
 have a:Un (frs X.k) fp H h s.heap s'.heap:=J.base;refine I.call' (s':={ s' with heap:=r }) (ch:=fp) J.os ?_ ?_ J.bare ?_
 .exact{λb o e n f l=>(g.2 b (lt b o e)).trans (a.keep b o e n f l),λb o e n f l=>by
   have #[t,q]:=a.slot b o e n f l;exact{t,(g.2 b (lt b o e)).trans q},a.free,λb o e f=>by have #[y,q]:=a.there b o e f;exact{y,(g.2 b (lt b o e)).trans q},a.tups,a.frzs,a.tbls}
 .intro b o e;refine(J.hok b o e).stay (λc u hc q=>(g.2 c ?_).trans q) (λ_ q=>q) λ_ _ q=>q;have d:h C=af:=J.free;rintro rfl;obtain rfl|hc:=hc
  .rw[d] at e;cases e
  .rw[d] at hc;cases hc
 .intro b k;have #[T,M,Q,G,E,D]:=z b k;exact{G,M,E,D}
end
def PTs(X:Cx)(a:List av)(t:TT):Prop:=
 ∀(aa:uX)(s:ak)(σ:St)(H:Hp)(Q:Bool->Hp->Prop),aN X aa σ H s->t σ H Q ->
  Bf (Bg X.p X.w) X.A (forIn a ae λc r=>if r=ae then do let b <-isTrue c X.e (eval c X.e);pure (fV b) else pure (fV r)) (TP X aa σ Q) X.xe s
def Qd:TT:=λ_ H Q=>Q ae H
theorem wu :PTs X [] Qd:=λ_ _ _ H _ I h=>wpAny_tests_nil {H,I,h}
theorem zky(h:PT X c t):PTs X [c] t:=λaa s σ H Q I q=>wpAny_tests_one (h aa s σ H Q I q)
variable {prog:aq}{w:ax}{A:aw}{R:aB->ak->Prop}
theorem za8{u a l:av}{t:List av}{scope:aA}{D:Pos}{O y:am}{b:Env}(W:Nat->ak->Prop){EE:nA}
  (T:∀e N,EE e N->notedBy (Bg prog w) A b (λe N=>R (.error e) N) e N) (z:∀n s,W n s->Bf (Bg prog w) A (pyNext O) (λr f=>match r with
   |none=>R (.ok .next) f
   |some v=>Bf (Bg prog w) A (letOwnedTupleGo a O v) (λ_ g=>Bf (Bg prog w) A (assign a b v) (λ_ k=>
     Bf (Bg prog w) A (forIn t ae λc r=>if r=ae then do let E <-isTrue c b (eval c b);pure (fV E) else pure (fV r)) (λE d=>
      if E=ae then Bf (Bg prog w) A (eval u b) (λx j=>Bf (Bg prog w) A (call (.builtin "list.append") [y,x]) (λ_ i=>∃m,m<n/\W m i) EE j) EE d
      else ∃m,m<n/\W m d) EE k) EE g) EE f) EE s) (n:Nat) (h:W n s):codeAny (Bg prog w) A (.compLoop (.ListComp u [{a,l,t,0}] scope D) 0 O y b) R s:=by
 refine codeAny_loop U W (λn s Q=>?_) n h;show Bf _ A ((compTurn (.ListComp u [{a,l,t,0}] scope D) 0 O y b).onRaise (λx=>do noteFrame x b;theTreesLotGoes x)) _ _ s;refine wpAny_noted (f6 ?_ (λ_ _ q=>q) T);rw[compTurn_list];refine ba (wpAny_standAt (ba (aW (z n s Q) λr f p=>?_)));cases r with
 |none=>exact bm p
 |some v=>
  refine ba (aW p λ_ g G=>?_);refine ba (aW G λ_ k M=>ba (aW M λE d o=>?_));cases E with
  |false=>exact bm {U,o}
  |true=>exact ba (ba (aW o λx j J=>ba (aW J λ_ i I=>bm (bm {U,I}))))
def kS(o:TI)(g:TG)(p:TT)(q:TE)(k:Nat)(r:xo):TE:=λσ H Q=>o σ H λJ n=>∀D,n D=af ->
 ∃W:Nat->Nat->LV->uU,(∃m,W 0 m [] (dF k af++zep r σ) (upd n D (.lst [])))/\∀i m e h H,W i m e h H->H D=Y (.lst e) /\
  ((J.stop i H/\Q (.ref D) H)\/(J.go i H/\e.length<Bb/\∃N:V->uU,
   (∀v a d,N v a d->d D=Y (.lst e)/\∃f,f<m/\W (i+1) f (e++[v]) a (upd d D (.lst (e++[v]))))/\∃j:uU,(∀a d,j a d->∃f,f<m/\W (i+1) f e a d) /\
   ∀x d,J.yld i H x d->g x h d λc u=>p c u λb l=>if b=ae then q c l λv t=>N v c t else j c l))
variable {tg:av}{pos:Pos}{te:TE}
section
variable {elt iter:av}{ifs:List av}{ix:xo}{wi:TI}{g:TG}{tt:TT}
theorem JE(S:Z9 X scope cl ix)(hc:X.c=ae)(hi:PI X tg iter wi)(hg:∀C f s H,PG (X.comp scope cl C (xs++kR ix X.N) f s H) tg g)(ht:∀C f s H,PTs (X.comp scope cl C (xs++kR ix X.N) f s H) ifs tt)(he:∀C f s H,PE (X.comp scope cl C (xs++kR ix X.N) f s H) elt te)
  {H:Hp} {Q:VK} (I:aN X aa σ H s) (h:kS wi g tt te xs.length ix σ H Q) {RR:am->B->aB->ak->Prop}
  (hR:∀v u O C,aR v u->(∃H',Q v H'/\(∃m,O.heap.Ns C m)/\(∀h',cv C O.heap h'->aN X aa σ H' { O with heap:=h' })/\ku X aa H' C)->RR u C (.ok .next) O) :
  Bf (Bg X.p X.w) X.A (eval iter X.e) (λx az=>Bf (Bg X.p X.w) X.A (pyIter x) (λit as=>Bf (Bg X.p X.w) X.A (newList []) (λa6 ar=>
   Bf (Bg X.p X.w) X.A (newFunctionEnv scope X.e.globals cl [] X.e.qual af .none (Y X.e)) (λab an=>
    codeAny (Bg X.p X.w) X.A (.compStart (.ListComp elt [{tg,iter,ifs,0}] scope pos) 0 it a6 { ab with scope:=relabel scope X.e }) (RR a6 ab.locals) an) X.xe ar) X.xe as) X.xe az) X.xe s:=by
 refine aW (hi aa s σ H _ I h) λv s1 h1=>aW h1 λbk a h2=>?_;have #[it,f,tn,J,H2,e,I2,T,a0,f2,hW]:=h2;subst e;refine cA (wpAny_newFunctionEnv S.nocell (λy hy=>nomatch hy) (λh₁ k j=>?_) S.kind);dsimp only at k j ⊢;have #[W,#[m0,w0],al]:=hW a.heap.objs.size I2.fresh;have I3:=I2.lnew (t':=a.toks) (ys:=[]) (its:=[]) .nil (bQ _);have a4:∀b∈f,b<a.heap.objs.size:=λb c=>by have #[o,e,_]:=T.obj _ _ a0 b c;exact bF e
 generalize hs3:({ a with heap:=a.heap.push { cls:=.type "list",data:=.seq ([]:zS).toArray },toks:=a.toks }:ak)=s3 at I3;have G:s3.heap=a.heap.push { cls:=.type "list",data:=.seq ([]:zS).toArray }:=by rw[<-hs3]
 have a7:s3.heap.objs.size=a.heap.objs.size+1:=by rw[G,eK]
 have f3:∀b∈f,ku X aa (upd H2 a.heap.objs.size (.lst [])) b:=λb c=>by have #[q0,q]:=f2 b c;exact{by rw[zk (bK (a4 b c))];exact q0,q}
 have a3:∀b∈f,b<s3.heap.objs.size:=λb c=>by rw[a7];exact fR (a4 b c)
 rw[<-G] at k j ⊢;have hk:∀b o,s3.heap.get? b=Y o->h₁.get? b=Y o:=λb o e=>(j.2 b (bK (bF e))).trans (bg _ e);have a9:∀b o,a.heap.get? b=Y o->s3.heap.get? b=Y o:=λb o e=>by rw[G];exact bg _ e
 have J0:=I3.comp (xs:=xs) (t':=a.toks) (C:=s3.heap.objs.size) S U f3 a3 k hk;have aS:tn 0 h₁:=T.keep _ _ _ a0 λb _ o e=>hk b o (a9 b o e);have a2:∀t,codeAny (Bg X.p X.w) X.A (.compLoop (.ListComp elt [{tg,iter,ifs,0}] scope pos) 0 (.ref it) (.ref a.heap.objs.size) (compEnvC scope cl s3.heap.objs.size X.e)) (RR (.ref a.heap.objs.size) s3.heap.objs.size) { s3 with heap:=h₁,toks:=t }:=by
  intro t;refine za8 (EE:=λ_ _=>False) (λn O=>∃i ys M H',aN (X.comp scope cl s3.heap.objs.size (xs++kR ix X.N) f s3 (upd H2 a.heap.objs.size (.lst []))) [] M H' O/\tn i O.heap/\(∀b∈f,H' b=af)/\W i n ys M H')
   (λ_ _ z=>z.elim) ?_ m0 {0,[],_,_,J0.tok t,aS,λb c=>(f3 b c).1,w0}
  rintro n O ⟨i,ys,M,H',I',a1,a5,w'⟩;have D:∀ {H':Hp},(∀b∈f,H' b=af)->∀b∈f,ku (X.comp scope cl s3.heap.objs.size (xs++kR ix X.N) f s3 (upd H2 a.heap.objs.size (.lst []))) [] H' b:=λhn b c=>
   {hn b c,(I'.ok.exf b c).1,I'.ok.exfs b c,.inl c,(I'.ok.exf b c).2,λp hp=>absurd (show p∈([]:uX) from hp) (by simp)}
  obtain⟨hD,⟨aK,q⟩|⟨go,hz,N,hN,Nf,be,aQ⟩⟩:=al i n ys M H' w'
  .refine aW (T.done (X.comp scope cl s3.heap.objs.size (xs++kR ix X.N) f s3 (upd H2 a.heap.objs.size (.lst []))) U U U hc i [] O M H' _ I' (D a5) a1 aK) ?_;rintro r s4 ⟨hr,I4⟩;subst hr;refine hR (.ref a.heap.objs.size) _ s4 _ U {H',q,?_,λh' c=>I3.uncomp U f3 I4 c,I3.fpOk (bo _) I4.free};have #[m,hn,_]:=I4.loc;exact{m,hn}
  .refine aW (T.item (X.comp scope cl s3.heap.objs.size (xs++kR ix X.N) f s3 (upd H2 a.heap.objs.size (.lst []))) U U U hc i [] O M H' _ I' (D a5) a1 go) ?_;rintro r s4 ⟨u,hr,h4⟩;subst hr;refine aW h4 ?_;rintro _ s5 ⟨x,H5,I5,r5,y5,aj,bi⟩;have bj:=I5.pinned (D bi) (T.obj _ _ aj);refine aW (hg _ _ _ _ _ s5 M H5 x u _ bj r5 (aQ x H5 y5)) ?_;rintro _ s6 ⟨l,H6,I6,q6⟩;refine aW (ht _ _ _ _ _ s6 l H6 _ I6 q6) ?_;rintro ok s7 ⟨H7,I7,q7⟩;have ai:∀ {s8:ak}{H8:Hp}{m:Nat}{zs:LV},aN (X.comp scope cl s3.heap.objs.size (xs++kR ix X.N) f s3 (upd H2 a.heap.objs.size (.lst []))) ([]++Jw f s5.heap) l H8 s8->W (i+1) m zs l H8 ->
     ∃i ys M H',aN (X.comp scope cl s3.heap.objs.size (xs++kR ix X.N) f s3 (upd H2 a.heap.objs.size (.lst []))) [] M H' s8/\tn i s8.heap/\(∀b∈f,H' b=af)/\W i m ys M H':=λ{s8 H8 m zs} I8 w8=>by refine{i+1,zs,l,H8,I8.unpinned,T.keep _ _ _ aj λb c o e=>(I8.pin (b,o) (cw _ (cw _ (qp c e)))).1,λb c=>?_,w8};have #[o,e,d]:=T.obj _ _ aj b c;exact(I8.pin (b,o) (cw _ (cw _ (qp c e)))).2.1
   cases ok with
   |false=>
    rw[ag bM] at q7 ⊢;have #[m',hm,w7]:=be _ _ q7;exact{m',hm,ai I7 w7}
   |true=>
    rw[ao rfl] at q7 ⊢;refine aW (he _ _ _ _ _ s7 l H7 _ I7 q7) ?_;rintro y s8 ⟨v8,H8,I8,r8,n8⟩;have #[bf,m',hm,w8]:=hN _ _ _ n8;refine aW (ye _ s8 l H8 (.ref a.heap.objs.size) [v8] (.ref a.heap.objs.size) [y] (λ_ Hn=>∃m,m<n/\W (i+1) m (ys++[v8]) l Hn) I8 U (.cons r8 .nil) {_,ys,v8,U,U,bf,hz,m',hm,w8}) ?_;rintro _ s9 ⟨_,H9,I9,_,m9,a8,w9⟩;exact{m9,a8,ai I9 w9}
 have e3:∀t,({ s3 with heap:=h₁,toks:=t }:ak)={ a with heap:=h₁,toks:=t }:=λt=>by rw[<-hs3]
 have E:∀t,codeAny (Bg X.p X.w) X.A (.compLoop (.ListComp elt [{tg,iter,ifs,0}] scope pos) 0 (.ref it) (.ref a.heap.objs.size) (compEnvC scope cl s3.heap.objs.size X.e)) (RR (.ref a.heap.objs.size) s3.heap.objs.size) { a with heap:=h₁,toks:=t }:=λt=>by rw[<-e3];exact a2 t
 exact codeAny_compStart_list (E _) (T.self _ 0 _ _ _ aS (E _))
theorem wV(l:X.c=ae)(t:zfA osc N scope ix=ae)(i:PI X tg iter wi)(j:∀C a s H,PG (X.comp scope (Zq scope X.e) C (xs++kR ix X.N) a s H) tg g)(d:∀C a s H,PTs (X.comp scope (Zq scope X.e) C (xs++kR ix X.N) a s H) ifs tt)(k:∀C a s H,PE (X.comp scope (Zq scope X.e) C (xs++kR ix X.N) a s H) elt te)(b:X.e.scope=osc:=by rfl)(o:X.N=N:=by rfl)(e:∀x,foldedSetIterable iter X.e x=pure x:=by intro _;rfl) :
  PE X (.ListComp elt [{tg,iter,ifs,0}] scope pos) (kS wi g tt te xs.length ix):=by intro aa s σ H Q I h;have S:=Xj I.ok t b o;rw[eval_ListComp];refine oM (use:=af) U e S.clos S.kind S.names (JE S l i j d k I h (RR:=λc C=>compPost (Bg X.p X.w) X.A X.xe af (EP X aa σ Q) c C) ?_);rintro v u D C r ⟨z,q,⟨m,f⟩,p,_⟩;exact{m,f,λy n=>{v,z,p y n,r,q}}
theorem JF{y:Str}{d:Pos}{j:Nat}{c:Pos}(p:X.N.Nodup)(hj:X.N[j]?=Y y)(hc:X.c=ae)(O:Loc X.e.scope y)(hD:zfA osc N scope ix=ae)(hi:PI X tg iter wi)(hg:∀C f s H,PG (X.comp scope (Zq scope X.e) C (xs++kR ix X.N) f s H) tg g)(ht:∀C f s H,PTs (X.comp scope (Zq scope X.e) C (xs++kR ix X.N) f s H) ifs tt)(he:∀C f s H,PE (X.comp scope (Zq scope X.e) C (xs++kR ix X.N) f s H) elt te)(k:X.e.scope=osc:=by rfl)(hN:X.N=N:=by rfl)(i:swapsWith (.ListComp elt [{tg,iter,ifs,0}] scope pos) (Y (.Name y d)) c.line X.e=pure ae:=by rfl)(hs:∀x,foldedSetIterable iter X.e x=pure x:=by intro _;rfl)(hf:X.fn y=ae\/X.e.scope.names.lookup y=Y .local:=by first|exact .inl rfl|exact .inr rfl|assumption) :
  PS X (.Assign [.Name y d] (.ListComp elt [{tg,iter,ifs,0}] scope pos) c) (yp (kS wi g tt te xs.length ix) (zG j)):=by
 intro aa s σ H D I h;have S:=Xj I.ok hD k hN;rw[exec_Assign_Name_used _ _ _ _ i];refine ba (wpAny_standAt (ba ?_));show Bf _ X.A (do let _ <-comprehension (.ListComp elt [{tg,iter,ifs,0}] scope pos) scope X.e _ (newList []) ah (eval iter X.e) (Y (assign (.Name y d) X.e))) _ _ s;refine ba (aW (oM (use:=Y (assign (.Name y d) X.e)) (Q:=λ_ s'=>SP X aa D .next s') rfl hs S.clos S.kind S.names
  (JE S hc hi hg ht he I h (RR:=λz C=>compPost (Bg X.p X.w) X.A X.xe (Y (assign (.Name y d) X.e)) (λ_ s'=>SP X aa D .next s') z C) ?_)) λ_ s' hq=>bm (bm hq))
 rintro v u s' C r ⟨J,q,⟨m,hn⟩,hI,f0,G,f2,f3,E,f5⟩;have I':aN X aa σ J s':=hI s'.heap (.refl ..);show Bf _ X.A (assign (.Name y d) X.e u) _ _ _;refine wpAny_assign_Name (QU I' p hj O r (λM I2 T=>?_) hf);have #[a,hb,ha]:=T;have t:C≠a:=by
  obtain rfl|ha:=ha
  .exact G
  .exact eh (E _ _ ha)
 refine{m,hn.sameBut hb t,λh' n=>{_,J,?_,q}};exact I2.turned (t':=M.toks) (λb o l e=>(n.2 b l).trans e) f0 G f3 E f5
end
abbrev zh5:R2:=λx y H Q=>∃i j,x=.str i/\y=.str j/\i.length+j.length<=Bb/\Q (.str (i++j)) H
abbrev zmA:R2:=λx y H Q=>∃i j,x=.str i/\y=.str j/\Q (.bl (!(dX j i 0 j.length 1).isEmpty)) H
abbrev zov:R2:=λx y H Q=>y=.non/\Q (.bl (decide (x=.non))) H
abbrev zcx:R2:=λx y H Q=>y=.non/\Q (.bl (!decide (x=.non))) H
abbrev RC:=LV->Hp->VK->Prop
abbrev Yg(K:bE):RC:=λxs H Q=>∃x c t b,xs=[x,c]/\YD K H x t/\(∃T,c=.ty T/\gF K t (.type T)=Y b)/\Q (.bl b) H
abbrev zkz(K:bE):RC:=λxs H Q=>∃(a:B)(b:List Bool),xs=[.ref a]/\aM K H a (b.map V.bl)/\Q (.bl (b.all id)) H
abbrev zmB:RC:=λxs H Q=>∃i,xs=[.int i]/\i.natAbs.log2<1920/\Q (.str (toString i)) H
abbrev RM:=V->LV->Hp->VK->Prop
abbrev qU:RM:=λx xs H Q=>∃a b,x=.str a/\xs=[.str b]/\Q (.bl (0+b.length<=a.length&&gK a b 0)) H
abbrev znH:RC:=λxs H Q=>∃(x:Str)(n:Int),xs=[.str x]/\PySem.intText? x=Y n/\x.length<=640/\Q (.int n) H
theorem hX(p:B){H:Hp}(h:H p=af):aJ H (upd H p o):=λb u e=>by rw[zk (zq e h)];exact e
theorem yP:Bh "len"=Y (.builtin "len"):=by lia
theorem yq:Bh "isinstance"=Y (.builtin "isinstance"):=by lia
theorem zh6:Bh "all"=Y (.builtin "all"):=by lia
theorem zmC:Bh "any"=Y (.builtin "any"):=by lia
theorem zmD:Bh "ord"=Y (.builtin "ord"):=by lia
theorem kT:Bh "sorted"=Y (.builtin "sorted"):=by lia
theorem zmE:Bh "sum"=Y (.builtin "sum"):=by lia
theorem zmF:Bh "zip"=Y (.type "zip"):=by lia
theorem zcy:Bh "reversed"=Y (.type "reversed"):=by lia
theorem Xk:Bh "enumerate"=Y (.type "enumerate"):=by lia
theorem Zr:Bh "str"=Y (.type "str"):=by lia
theorem za9:Bh "int"=Y (.type "int"):=by lia
theorem zfB:Bh "bool"=Y (.type "bool"):=by lia
theorem xi:Bh "list"=Y (.type "list"):=by lia
theorem Xl:Bh "tuple"=Y (.type "tuple"):=by lia
theorem zba:Bh "dict"=Y (.type "dict"):=by lia
theorem zmG:Bh "set"=Y (.type "set"):=by lia
def big:Int:=10^200
def kU(_ j:Int):Prop:=0<j/\j<big
def CMulB(i j:Int):Prop:=(-big<i/\i<big)/\(-big<j/\j<big)
theorem zcz{j:Int}(h:j.natAbs<10^200):j.natAbs.log2<700:=by
 by_cases h0:j.natAbs=0
 .rw[h0];decide
 .exact(Nat.log2_lt h0).mpr (cb h ())
theorem zfC{j:Int}(h:-big<j/\j<big):j.natAbs<10^200:=by
 have e:big=((10^200:Nat):Int):=by lia
 rw[e] at h;lia
theorem CMulB.ok{i j:Int}(h:CMulB i j):IntMulOk i j:=by
 have b:∀k:Int,(-big<k/\k<big)->nM k<=2^20:=λk a=>by have q:=zcz (zfC a);unfold nM;split <;> lia
 exact .of_bits (b i h.1) (b j h.2)
theorem jX:Ai X (binaryOp .Mult) (rI CMulB λi j=>.int (i*j)):=opI λ_ _ _ _ _ _ _ a q=>mul_int q a.ok
theorem xj:Ai X (binaryOp .FloorDiv) (rI kU λi j=>.int (i/j)):=opI λi j _ _ _ _ _ a q=>by have b:(0:Int)<j:=a.1;refine floordiv_int () ?_ (.inl (PyProof.noPylong_of_log2 (t9 (zcz (zfC {by have:=a.2;lia,a.2})) ())));rw[Int.fdiv_eq_ediv_of_nonneg i ()];exact q
theorem xx:wM X (.builtin "isinstance") (Yg X.K):=by intro aa s σ H xs j Q I r h;have #[x,c,t,b,rfl,a,#[T,rfl,e],q]:=h;have #[u,i,rfl,g,f]:=zlO r;cases f;exact zgA I g a e λd=>{.bl b,H,I.tok d,U,q}
def Its(x:Str):It:={λi _=>i<x.cps.size,λi H v a=>a=H/\∃c,x.cps[i]?=Y c/\v=.str ⟨#[c]⟩,λi _=>x.cps.size<=i}
theorem zcA{P:aq}{w:ax}{K:bE}{tg:av}{it:B}{x:Str}{t:Tok}{j:String}(D:["enumerate","zip","dict_itemiterator","dict_reverseitemiterator","odict_iterator","itertools.zip_longest","itertools.pairwise"].contains j=ah)(W:∀A:aw,A.handled=af->Walks P w A it [it] [it] x.cps.size (SignAt x) (λi h=>h.IsStrIter it j x t i))(self:∀(A:aw)(i:Nat)(s:ak)(Q:nA)(E:nA),s.heap.IsStrIter it j x t i->Q (.ref it) s->Bf (Bg P w) A (pyIter (.ref it)) Q E s) :
  VU P w K tg (Its x) [it] it (λi h=>i<=x.cps.size/\h.IsStrIter it j x t i) where
 mem:=by simp
 obj:=λi h a b f=>by
  have e:b=it:=by simpa using f
  subst e;have #[_,o,e,c,d]:=a;exact{o,e,λv z=>by rw[d] at z;cases z}
 keep:=λi h n a k=>by have #[hi,o,e,r]:=a;exact{hi,o,k it (by simp) o e,r}
 item:=by intro X M y N J i aa s σ H E I m a l;subst M y N;have #[f0,f1,f2,f3,T,O]:=m it (by simp);refine(W X.A (I.ok.hd J)).item i s _ _ l a.2 λv n p hv g q=>?_;have #[c,u,G,rfl]:=hv;have I1:aN X aa σ H { s with heap:=n,toks:=p }:=I.turned (λb o f e=>q b o (by simpa using f) e) f0 f1 f3 T O;have #[o,e,c1,d1]:=id g;exact{_,U,Jv (s:={ s with heap:=n,toks:=p }) e c1 d1 D {.str ⟨#[c]⟩,H,I1,{u,rfl},{rfl,c,G,rfl},{l,g},λb f=>(m b f).1}}
 done:=by intro X M y N J i aa s σ H E I m a l;subst M y N;have #[f0,f1,f2,f3,T,O]:=m it (by simp);have e:i=x.cps.size:=Nat.le_antisymm a.1 l;subst e;exact(W X.A (I.ok.hd J)).done s _ _ a.2 λn p q=>{U,I.turned (λb o f e=>q b o (by simpa using f) e) f0 f1 f3 T O}
 self:=λA i s Q E a h=>self A i s Q E a.2 h
def zkA(a:TE):TI:=λσ H R=>a σ H λx b=>∃z,x=.str z/\R (Its z) b
theorem zh7{k:TE}(p:PE X l k):PI X tg l (zkA k):=by
 intro aa s σ H R I h;refine aW (p aa s σ H _ I h) ?_;rintro v a ⟨x,j,d,m,n⟩;have #[z,rfl,q]:=n;have #[t,rfl]:=m;have c:∀b∈[a.heap.objs.size],ku X aa j b:=λb r=>by
  have e:b=a.heap.objs.size:=by simpa using r
  subst e;exact d.fpOk (bo _) (d.hok.fresh (bo _))
 cases ha:z.cps.all (· < 128)
 .refine wpAny_pyIter_wide ha ?_;exact{a.heap.objs.size,[a.heap.objs.size],_,_,j,U,d.kept (t':=a.toks) λb o e=>bg _ e,
   zcA (t:=t) () (λA g=>Walks.strWide g _ z t) λA i s Q E f h=>wpAny_pyIter_striter_wide f h,{bQ _,_,bq _ U,U,U},c,q}
 .refine wpAny_pyIter_ascii ha ?_;exact{a.heap.objs.size,[a.heap.objs.size],_,_,j,U,d.kept (t':=a.toks) λb o e=>bg _ e,
   zcA (t:=t) () (λA g=>Walks.strAscii g _ z t) λA i s Q E f h=>wpAny_pyIter_striter_ascii f h,{bQ _,_,bq _ U,U,U},c,q}
theorem zae(J:X.c=ae):wM X (.builtin "all") (zkz X.K):=by
 intro aa s σ H xs T Q I r h;have #[a,c,rfl,G,q]:=h;have #[u,rfl,D]:=xL r;cases D;have #[d,t,p,hz]:=I.list G;have m:=t.length;rw[bh] at m;have l:a≠s.heap.objs.size:=by have #[o,n,e,_]:=p;exact bK (bF e)
 refine call_all_walk (iJ p.isList ?_);refine{s.heap.objs.size,_,_,d.toArray.size,λi v=>d.toArray[i]?=Y v,_,λi=>c.getD i ah,U,uG (A:=X.A.in1) (I.ok.hd J) _ a l d.toArray,?_,?_,λh' tk k=>?_}
 .refine{{_,bq _ U,U,U},?_};exact p.isList.at λo e=>bg _ e
 .intro i v s' O E' E M;have f:d[i]?=Y v:=by simpa using E
  have j:i<c.length:=by rw[m];exact(bp.mp f).1
  have #[u',y,z]:=t.get (i:=i) (x:=V.bl c[i]) (by simp[j]);rw[f] at y;cases y;cases z;have e:c.getD i ah=c[i]:=by simp[j]
  have g:O (c.getD i ah) s':=M;rw[e] at g;exact dW g
 .have e:(cG d.toArray.size).all (λi=>c.getD i ah)=c.all id:=by
   rw[bJ,<-m];have:c.map id=(cG c.length).map λi=>c.getD i ah:=by apply cY;intro i;by_cases j:i<c.length <;> simp[j]
   have N:c.all id=(c.map id).all id:=by simp
   rw[N,this,ua];rfl
  rw[e];refine{.bl (c.all id),H,?_,U,q};exact I.kept λb o e=>k b o (by have:=bK (bF e);simpa using this) (bg _ e)
theorem Qe:MtR X "str.startswith" qU:=by intro aa s σ H x xs v f Q I d e h;have #[a,b,rfl,rfl,q]:=h;have #[t,rfl]:=d;have #[u,rfl,c,rfl]:=xL e;exact fQ F.slot_str_startswith (lF s a t) F.entry_str_startswith (F.args_str_startswith_2 _ _) (gives_str_startswith a b t c).meets (show _ from {.bl _,H,I,U,q})
def znI:V->Option Int->Option Int->Hp->VK->Prop:=λx a b H Q=>∃z,x=.str z/\z.length<=Bb/\Q (.str (rC z a b)) H
theorem zmH:SlR X znI:=by
 intro aa s σ H x v b a g p M Q I d m f e h;have #[z,rfl,j,q]:=h;have #[t,rfl]:=d;have #[o,n,y,r]:=m;refine{"str",_,F.slot_str_getitem.lookup,lF _ _ _,?_};obtain⟨l,J,G⟩:∃l:Option (Int×Tok),b=partValue l/\g=l.map (·.1):=by
  cases f with
  |none=>exact{af,U,U}
  |int i t=>exact{Y (i,t),U,U}
 obtain⟨u,E,D⟩:∃l:Option (Int×Tok),a=partValue l/\p=l.map (·.1):=by
  cases e with
  |none=>exact{af,U,U}
  |int i t=>exact{Y (i,t),U,U}
 subst J G E D;exact wpAny_getItem_str_slice (l:=l) (u:=u) (st:=af) {o,n,y,r} rfl
  (post_val_or_str {b9 (Txt.slice_le z _ _) j,λc k=>{.str (rC z (l.map (·.1)) (u.map (·.1))),H,I.tok k,{c,U},q}})
theorem Xm:wM X (.type "int") znH:=by intro aa s σ H xs c Q I r h;have #[x,n,rfl,a,b,q]:=h;have #[u,rfl,t,rfl]:=xL r;exact W.KIN.call_text a b {.int n,H,I.tok _,{_,U},q}
def XF(g h:au)(H:Hp)(e:B)(c:am):Prop:=
 ∃b a i T f d,h.get? e=Y b/\(b.cls=c/\a[0]?=Y i)/\b.data=.fields a/\a[1]?=Y (.ref T)/\T≠e/\h.get? T=Y f/\f.data=.fields d/\d[3]?=Y .none /\
  g.get? e=af/\g.get? T=af/\H e=af/\H T=af
def CX1(P:aq)(w:ax):CXT:=λa H s E f b=>∃e c d,f=.ref e/\b.os=s.os/\AllBare b.gens/\Un (frs a) [] H d s.heap b.heap/\As P w d b.heap/\XF s.heap b.heap d e c/\E c af d
variable {P:aq}{K:bE}{mg:Ak}{base:au}{qual:Str}{f:B}
variable {x:Str}{np nB:Pos}
def Asc(x:Str):Prop:=∀c∈x.cps.toList,c<128
variable {e:av}{j:Nat}{p1 p2 p3:Pos}
structure ExC(K:bE)(C:B):Prop where
 ga:gc K (.ref C) "__getattribute__"=Y (Y (.builtin "BaseException.__getattribute__"))
 gx:gc K (.ref C) "__getattr__"=Y af
 cl:gc K (.ref C) "__class__"=Y (Y (.builtin "object.__class__"))
 ob:uJ K C (.type "object")=Y ae
 be:uJ K C (.type "BaseException")=Y ae
 ge:uw K (.builtin "object.__class__") "__get__"=Y (Y (.builtin "getset_descriptor.__get__"))
 tk:W.takesIn K (.builtin "object.__class__")=Y ae
variable {E:nA}
abbrev Cx.sub(X:Cx)(e:B):Cx:={ X with A:=X.A.mark (Y (.ref e)),c:=ah,xe:=λ_ _=>False }
abbrev EXK:=am->uU
variable {fd:Bc}{ps:zQ}{sp:Sp}{p:Pos}{es:List av}
structure ExK(K:bE)(C:B):Prop extends ExC K C where
 has:(W.clsIn K C).isSome=ae
variable {b₀:ap}{suite:List ap}{tb:EXK->TS}{th:TS}{hpos:Pos}
theorem zj :vE (CX1 P w) X E0:=λ_ _ _ _ _ _ _ h=>by have #[_,_,_,_,_,_,_,_,_,z]:=h;exact z.elim
theorem Fun.ok1{x qual:Str}{st:ap}{f:B}{fd:Bc}{N ps:zQ}{k:Nat}{sp:Sp}(F:Fun K x qual st f fd)(S:aH N ps (zi st))(d:∀b H Q E,sp b H Q E->b.length=ps.length)(c:∀(cdv:am)(A:aw)(a:LEv)(s:ak)(H:Hp)(b:LV)(Q:VK)(E:XK),hZ k (A.deeper (envOfC qual (zi st) s.heap.objs.size f cdv))->sp b H Q E ->
   ∃t,PSs (Qa (CX1 P w) P w K mg base N qual (zi st) f cdv A a s H E) (wU st) t/\t { nx:=λ_ m=>Q .non m,rt:=Q } (start N b) H):bv P w K mg base (CX1 P w) (k+1) f fd ps sp:=by have #[oc,od,kV,doc,pm,an,cdv,ct,osl,rfl,i,h]:=F.ex;exact zlP i h S d λA a s H b Q E l g=>c cdv A a s H b Q E l g
theorem Fun.ok0{x qual:Str}{st:ap}{f:B}{fd:Bc}{N ps:zQ}{k:Nat}{sp:Sp}(F:Fun K x qual st f fd)(S:aH N ps (zi st))(i:∀d H Q E,sp d H Q E->d.length=ps.length)(g:∀(cdv:am)(A:aw)(c:LEv)(s:ak)(H:Hp)(d:LV)(Q:VK)(E:XK),hZ k (A.deeper (envOfC qual (zi st) s.heap.objs.size f cdv))->sp d H Q E ->
   ∃t,PSs (Qa (CX1 P w) P w K mg base N qual (zi st) f cdv A c s H E).nox (wU st) t/\t { nx:=λ_ m=>Q .non m,rt:=Q } (start N d) H):bv P w K mg base (CX1 P w) (k+1) f fd ps sp:=
 F.ok1 S i λcdv A c s H d Q E l h=>let ⟨t,a,b⟩:=g cdv A c s H d Q E l h;{t,a.nox,b}
variable {nx:uU}{Bo:V->St->Hp->uU->Prop}
abbrev FoP(J:It)(nx:uU)(Bo:V->St->Hp->uU->Prop)(σ:St)(H:Hp):Prop:=∃W:Nat->Nat->uU,(∃m,W 0 m σ H)/\∀i m σ H,W i m σ H->(J.stop i H/\nx σ H)\/(J.go i H/\∃N:uU,(∀a b,N a b->∃c,c<m/\W (i+1) c a b)/\∀x b,J.yld i H x b->Bo x σ b N)
theorem JG{J:It}(Pv:Nat->uU)(d:Pv 0 σ H)(h:∀i σ H,i<n->Pv i σ H->J.go i H/\∀x a,J.yld i H x a->Bo x σ a (Pv (i+1)))(st:∀σ H,Pv n σ H->J.stop n H/\nx σ H):FoP J nx Bo σ H:=by
 refine{λi m σ H=>m=n-i/\i<=n/\Pv i σ H,{n,by simp,bQ _,d},?_};rintro i m σ H ⟨rfl,k,p⟩;by_cases hlt:i<n
 .have #[g,y]:=h i σ H hlt p;exact .inr {g,Pv (i+1),λb a c=>{n-(i+1),(),U,hlt,c},y}
 .obtain rfl:i=n:=by lia
  exact .inl (st σ H p)
theorem qu{a:Int}(Pv:Nat->uU)(d:Pv 0 σ H)(b:∀i σ H,i<n->Pv i σ H->Bo (.int (a+i)) σ H (Pv (i+1)))(c:∀σ H,Pv n σ H->nx σ H) :
  FoP (Itr a n) nx Bo σ H:=JG Pv d (λi σ H l p=>{l,by rintro x g ⟨rfl,rfl⟩;exact b i σ _ l p}) λσ H p=>{bo _,c σ H p}
theorem wP(xs:LV)(Pv:Nat->uU)(g:Pv 0 σ H)(b:∀i σ H,Pv i σ H->aM K H a xs)(c:∀i x σ H,xs[i]?=Y x->Pv i σ H->Bo x σ H (Pv (i+1)))(d:∀σ H,Pv xs.length σ H->nx σ H) :
  FoP (Itl K a) nx Bo σ H:=JG Pv g (λi σ H l p=>{{xs,xs[i],b i σ H p,by simp[l]},by rintro x h ⟨rfl,y⟩;exact c i x σ _ (y xs (b i σ _ p)) p}) λσ H p=>{{xs,b _ σ H p,bo _},d σ H p}
theorem zcB(xs:LV)(Pv:Nat->uU)(g:Pv 0 σ H)(b:∀i σ H,Pv i σ H->aX K H a xs)(c:∀i x σ H,xs[i]?=Y x->Pv i σ H->Bo x σ H (Pv (i+1)))(d:∀σ H,Pv xs.length σ H->nx σ H) :
  FoP (Itt K a) nx Bo σ H:=JG Pv g (λi σ H l p=>{{xs,xs[i],b i σ H p,by simp[l]},by rintro x h ⟨rfl,y⟩;exact c i x σ _ (y xs (b i σ _ p)) p}) λσ H p=>{{xs,b _ σ H p,bo _},d σ H p}
theorem jF{J:It}{D:B}{g:St}{l:Hp}{Q:Hp->Prop}{Bo:V->St->Hp->(V->uU)->uU->Prop}(n:Nat)(hn:n<=1000000)(C:St->Prop)(R:Nat->V->Prop)(hC:C g)(go:∀i H,aJ l H->i<n->J.go i H)(q:∀H,aJ l H->J.stop n H)(hD:l D=af)(hs:∀i x k H d,C k->aJ l H->i<n->J.yld i H x d->Bo x k d (λv a M=>C a/\R i v/\aJ H M) (λ_ _=>False))(hd:∀c H,c.length=n->(∀i v,c[i]?=Y v->R i v)->aJ l H->H D=Y (.lst c)->Q H) :
  ∃W:Nat->Nat->LV->uU,(∃m,W 0 m [] g (upd l D (.lst [])))/\∀i m c k H,W i m c k H->H D=Y (.lst c) /\
  ((J.stop i H/\Q H)\/(J.go i H/\c.length<Bb/\∃N:V->uU,
   (∀v a d,N v a d->d D=Y (.lst c)/\∃r,r<m/\W (i+1) r (c++[v]) a (upd d D (.lst (c++[v]))))/\∃Nf:uU,(∀a d,Nf a d->∃r,r<m/\W (i+1) r c a d) /\
   ∀x d,J.yld i H x d->Bo x k d N Nf)):=by
 have I:∀ {H:Hp}{o:HO},aJ l H->aJ l (upd H D o):=λ{H o} h b u e=>by rw[zk (zq e hD)];exact h b u e
 refine{λi m c k H=>m=n-i/\i<=n/\c.length=i/\(∀j v,c[j]?=Y v->R j v)/\aJ l H/\H D=Y (.lst c)/\C k,{n,by simp,bQ _,U,by simp,I (aJ.refl _),zh,hC},?_};rintro i m c k H ⟨rfl,hi,T,hR,G,O,hc⟩;refine{O,?_};by_cases hlt:i<n
 .refine .inr {go i H G hlt,dN (by lia:c.length<=1000000) (),(λv a M=>C a/\R i v/\aJ H M),?_,(λ_ _=>False),λ_ _ z=>z.elim,λx d y=>hs i x k H d hc G hlt y};rintro v a M ⟨c4,r4,s4⟩;refine{s4 _ _ O,n-(i+1),(),U,hlt,by simp[T],λj u t=>?_,I (G.trans s4),zh,c4};obtain h|h|h:=Nat.lt_trichotomy j c.length
  .exact hR j u (by rwa [cR h] at t)
  .subst h;simp at t;subst t;rw[T];exact r4
  .rw[bV (by simp;lia)] at t;cases t
 .obtain rfl:i=n:=by lia
  exact .inl {q H G,hd c H T hR G O}
theorem zbb(n d:Nat)(v:Int):max (0:Int) (min (if v<0 then v+n else v) n)=((HT.sIx n d (Y v):Nat):Int):=by
 show _=(((if v<0 then (v+(n:Int)).toNat else min v.toNat n):Nat):Int);by_cases hv:v<0
 .simp only[ao hv];lia
 .simp only[ag hv];lia
theorem zkB(a b:Nat):sliceRange (a:Int) (b:Int) 1=(cG (b-a)).map λk=>a+k:=by
 simp only[sliceRange,show ((1:Int) > 0)=True from by simp,if_true];by_cases hlt:(a:Int)<b
 .have c:(((b:Int)-a+1-1)/1).toNat=b-a:=by rw[Int.ediv_one];lia
  simp only[hlt,if_true,c];refine dR λk _=>?_;lia
 .have:b-a=0:=by lia
  simp[hlt,this]
theorem zh8(lo a:Option Int)(n:Nat):nN lo a 1 n=(cG (HT.sIx n n a-HT.sIx n 0 lo)).map λk=>HT.sIx n 0 lo+k:=by
 rw[<-zkB];unfold nN;simp only[show ((1:Int) > 0)=True from by simp,if_true];cases lo with
 |none=>
  cases a with
  |none=>rfl
  |some v=>simp only[zbb n n v];rfl
 |some u=>
  cases a with
  |none=>simp only[zbb n 0 u];rfl
  |some v=>simp only[zbb n n v,zbb n 0 u]
theorem zgG(x:Str)(lo a:Option Int):(rC x lo a).cps.toList=(x.cps.toList.drop (HT.sIx x.length 0 lo)).take (HT.sIx x.length x.length a-HT.sIx x.length 0 lo):=by
 have c:=HT.sIx_le x.length x.length (bo _) a;have b:x.cps.toList.length=x.length:=by simp[f7]
 unfold rC;rw[zh8];split
 .rename_i h;have d:HT.sIx x.length x.length a-HT.sIx x.length 0 lo=x.length:=by simpa using h
  have e0:HT.sIx x.length 0 lo=0\/x.length=0:=by lia
  obtain e0|e0:=e0
  .rw[e0,oA,cB];lia
  .rw[dD (by lia:x.cps.toList.length=0)];simp
 .by_cases hab:HT.sIx x.length 0 lo<=HT.sIx x.length x.length a
  .have h:=StrLaws.picks x.cps.toList (HT.sIx x.length x.length a-HT.sIx x.length 0 lo) (HT.sIx x.length 0 lo) ();simpa using h
  .have:HT.sIx x.length x.length a-HT.sIx x.length 0 lo=0:=by lia
   rw[this];simp
theorem zeq(x:Str)(k:Nat):(rC x (Y (k:Int)) af).cps.toList=x.cps.toList.drop k:=by
 rw[zgG,HT.sIx_none,HT.sIx_nat];have a:x.cps.toList.length=x.length:=by simp[f7]
 by_cases h:k<=x.length
 .rw[eC h,cB (by rw[fD];lia)]
 .rw[pY (by lia:x.cps.toList.length<=k),ue (),pY ()];simp
theorem wW(h:x.cps.toList=y.cps.toList):x=y:=by have #[a]:=x;have #[b]:=y;have:a=b:=pN.mp h;rw[this]
theorem xX(x y:Str):(x++y).cps.toList=x.cps.toList++y.cps.toList:=by show (x.cps++y.cps).toList=_;simp
theorem zgH(x y:Str):(0+y.length<=x.length&&gK x y 0)=(x.cps.toList.take y.length==y.cps.toList):=by
 rw[StrLaws.subAt_eq,oA];have a:x.cps.toList.length=x.length:=by simp[f7]
 have b:y.cps.toList.length=y.length:=by simp[f7]
 by_cases h:y.length<=x.length
 .simp[h]
 .have e:(x.cps.toList.take y.length==y.cps.toList)=ah:=by rw[beq_eq_false_iff_ne];intro e;have:=congrArg dQ e;rw[cf] at this;lia
  rw[e];simp
section
open PySem.NumText
def zU(w:Int):Str:=bb (toString w)
def dg(m:Nat):xo:=(rD 10 m).map uH
theorem xG(h:m<10):dg m=[48+m]:=by
 unfold dg;rw[Nat.toDigits_of_lt_base h];have:∀d:Nat,d<10->(Nat.digitChar d).toNat=48+d:=by lia
 simp[this m h]
theorem Ya(h:10<=m):dg m=dg (m/10)++[48+m%10]:=by have a:m%10<10:=mh m ();have t:rD 10 (m/10)++rD 10 (m%10)=rD 10 (10*(m/10)+m%10):=Nat.toDigits_append_toDigits () () a;rw[Nat.div_add_mod] at t;rw[<-xG a];unfold dg;rw[<-t,b7]
theorem ky(m:Nat):AllDigits (dg m):=by
 induction m using nO with
 |_ m ih=>
  by_cases h:m<10
  .rw[xG h];intro c hc;have e:c=48+m:=by simpa using hc
   lia
  .rw[Ya ()];intro c hc;obtain hc|hc:=bP.mp hc
   .exact ih (m/10) () c hc
   .have e:c=48+m%10:=by simpa using hc
    lia
theorem zcC(m:Nat):dg m≠[]:=by
 by_cases h:m<10
 .rw[xG h];simp
 .rw[Ya ()];simp
theorem zh9(m:Nat):digitsVal (dg m)=m:=by
 induction m using nO with
 |_ m ih=>
  by_cases h:m<10
  .rw[xG h];show 0*10+(48+m-48)=m;lia
  .rw[Ya (),digitsVal_snoc,ih (m/10) ()];lia
theorem JH:∀(k m:Nat),m<10^(k+1)->(dg m).length<=k+1
 |0,m,h=>by rw[xG (by simpa using h)];simp
 |k+1,m,h=>by
  by_cases hm:m<10
  .rw[xG hm];simp
  .rw[Ya (),bx];have:=JH k (m/10) (by rw[Nat.pow_succ] at h;lia);simp only[bG,lQ];lia
theorem yM(m:Nat):(zU (m:Int)).cps.toList=dg m:=by unfold zU;rw[pZ];show (Nat.repr m).toList.map uH=_;rw[Nat.toList_repr];rfl
theorem xP{m:Nat}(h:0<m):(zU (-(m:Int))).cps.toList=45::dg m:=by
 obtain⟨k,rfl⟩:∃k,m=k+1:={m-1,()};have e:(-((k+1:Nat):Int))=Int.negSucc k:=by lia
 rw[e];unfold zU;rw[pZ];show (("-" ++ Nat.repr (k+1)):String).toList.map uH=_;rw[String.toList_append,b7,Nat.toList_repr];rfl
theorem Xn(x:Str):x.length=x.cps.toList.length:=by simp[f7]
theorem zia{w:Int}(h:w.natAbs<10^(k+1)):(zU w).length<=k+2:=by
 rw[Xn];obtain h0|h0:=mM w 0
 .obtain⟨m,rfl,a⟩:∃m:Nat,w=-(m:Int)/\0<m:={w.natAbs,(),()};rw[xP a,bG];have:=JH k m ();lia
 .obtain⟨m,rfl⟩:∃m:Nat,w=(m:Int):={w.natAbs,()};rw[yM];have:=JH k m ();lia
theorem zer{w:Int}(h:w.natAbs<10^100):intText? (zU w)=Y w:=by
 have a:(zU w).length<=4300:=b9 (zia (k:=99) h) ();obtain h0|h0:=mM w 0
 .obtain⟨m,rfl,b⟩:∃m:Nat,w=-(m:Int)/\0<m:={w.natAbs,(),()};rw[intText_neg (xP b) (ky m) (zcC m) a,zh9]
 .obtain⟨m,rfl⟩:∃m:Nat,w=(m:Int):={w.natAbs,()};rw[sB (by rw[yM];exact ky m) (by rw[yM];exact zcC m) a,yM,zh9]
def inF(c:Nat):Bool:=!(dX "0123456789" ⟨#[c]⟩ 0 (f7 "0123456789") 1).isEmpty
theorem zkC(c:Nat):inF c=ae↔48<=c/\c<=57:=by unfold inF;rw[tL,decide_eq_true_eq];exact{(by lia:∀c∈(bb "0123456789").cps.toList,48<=c/\c<=57) c,λ⟨h,g⟩=>(by lia:∀c<58,48<=c->c∈(bb "0123456789").cps.toList) c (Nat.lt_succ_of_le g) h}
def kW(x:Str):Bool:=!decide (x="")&&x.cps.toList.all inF
theorem WA(x:Str):kW x=ae↔x.cps.toList≠[]/\AllDigits x.cps.toList:=by unfold kW;rw[bY,dH,decide_eq_false_iff_not,cI];refine and_congr {λh e=>h (wW (by rw[e];lia)),λh e=>h (by rw[e];lia)} ?_;exact forall_congr' λc=>forall_congr' λ_=>zkC c
def inW(i:Int):Bool:=decide (-1000000000000000000000000000000<=i/\i<=1000000000000000000000000000000)
def we(x:Str):Str:=if (x.cps.toList.take 1==[45])=ae then rC x (Y 1) af else x
theorem vF(x:Str):(∃a,x.cps.toList=45::a/\(we x).cps.toList=a)\/((∀a,x.cps.toList≠45::a)/\we x=x):=by
 unfold we;cases h:x.cps.toList with
 |nil=>exact .inr {(λa e=>nomatch e),ag (by simp)}
 |cons c a=>
  by_cases hc:c=45
  .subst hc;refine .inl {a,U,?_};rw[ao (by simp)];have:=zeq x 1;rw[h] at this;exact this
  .refine .inr {λb e=>hc (iN e).1,?_};rw[ag (by simp[hc])]
def jG(x:Str):Int:=(intText? x).getD 0
theorem JI(h:kW (we x)=ae)(c:x.length<=4300):intText? x=Y (jG x):=by
 have #[b,a]:=(WA _).mp h;unfold jG;obtain ⟨cs,e,ef⟩|⟨_,ef⟩:=vF x
 .rw[ef] at b a;rw[intText_neg e a b c];rfl
 .rw[ef] at b a;rw[sB a b c];rfl
def jH(x:Str):Bool:=!(decide (31<(we x).length) || !kW (we x))&&(inW (jG x)&&decide (zU (jG x)=x))
theorem WB(x:Str):x.length<=(we x).length+1:=by
 rw[Xn,Xn];obtain ⟨cs,e,ef⟩|⟨_,ef⟩:=vF x
 .rw[e,ef];simp
 .rw[ef];lia
theorem zib(x:Str):(we x).length<=x.length:=by
 unfold we;split
 .exact Txt.slice_le x _ _
 .exact bo _
theorem xQ{w:Int}(h:inW w=ae):jH (zU w)=ae/\jG (zU w)=w/\(zU w).length<=40:=by
 have g:-1000000000000000000000000000000<=w/\w<=1000000000000000000000000000000:=of_decide_eq_true h;have c:=zer (w:=w) (dN (by lia:w.natAbs<=1000000000000000000000000000000) ());have a:jG (zU w)=w:=by unfold jG;rw[c];rfl
 have d:(we (zU w)).length<=31/\kW (we (zU w))=ae:=by
  rw[WA,Xn];obtain h0|h0:=mM w 0
  .obtain⟨m,rfl,b⟩:∃m:Nat,w=-(m:Int)/\0<m:={w.natAbs,(),()};obtain ⟨cs,e,ef⟩|⟨e,_⟩:=vF (zU (-(m:Int)))
   .rw[xP b] at e;rw[ef,<-(iN e).2];exact{JH 30 m (),zcC m,ky m}
   .exact absurd (xP b) (e _)
  .obtain⟨m,rfl⟩:∃m:Nat,w=(m:Int):={w.natAbs,()};obtain ⟨cs,e,ef⟩|⟨_,ef⟩:=vF (zU (m:Int))
   .have:=ky m 45 (by rw[<-yM,e];simp);lia
   .rw[ef,yM];exact{JH 30 m (),zcC m,ky m}
 refine{?_,a,b9 (WB _) ()};unfold jH;rw[a,d.2,h,Bk (by lia:¬ 31<(we (zU w)).length),Bj rfl];rfl
end
def Zs(a:Str):zQ->Str
 |[p]=>p
 |l=>tM a l
def zes(a:Str)(b:zQ):Nat:=b.foldl (λn p=>n+p.length+a.length) 0
abbrev WC(K:bE):RM:=λx xs H Q=>∃b a c,x=.str b/\xs=[.ref a]/\aM K H a (c.map V.str)/\zes b c<=Bb/\Q (.str (Zs b c)) H
theorem Jj(a:Str):∀(b:zQ)(k:Nat),b.foldl (λn p=>n+p.length+a.length) k=k+(b.map (·.length)).sum+b.length*a.length
 |[],k=>by simp
 |p::r,k=>by rw[fU,Jj a r,bC,gj,bG,Nat.add_mul,Nat.one_mul];lia
theorem zaf(a:Str)(ls:zQ):(Zs a ls).length<=zes a ls:=by
 unfold zes;rw[Jj];have g:(tM a ls).length<=0+(ls.map (·.length)).sum+ls.length*a.length:=by rw[size_glued];have:(ls.length-1)*a.length<=ls.length*a.length:=Nat.mul_le_mul_right _ ();lia
 unfold Zs;split
 .simp only[bC,lE,gj,List.sum_nil,bG,lQ];lia
 .exact g
abbrev ANt:=Array Nat
theorem zag:∀ {b:zQ}{a:zS},aP (b.map V.str) a->∃l:List (Str×Tok),a=strValues l/\l.map (·.1)=b
 |[],_,.nil=>{[],U,U}
 |x::r,_,.cons h t=>by have #[l,rfl,e]:=zag t;have #[k,rfl]:=h;exact{(x,k)::l,U,by rw[bC,e]}
def znK(x:Str)(n:Int):Str:=if n<1 then rm else if (n==1 || x.length==0)=ae then x else ⟨(dF n.toNat x.cps).foldl (· ++ ·) #[]⟩
theorem zfD:MtR X "str.join" (WC X.K):=by
 intro aa s σ H x xs v D Q I i m h;have #[b,a,o,rfl,rfl,z,c,q]:=h;have #[t,rfl]:=i;have #[u,rfl,n]:=xL m;cases n;have #[y,k,p,G]:=I.list z;have #[l,rfl,e]:=zag k;have g:lz ((l.map (·.1)).toArray.foldl (· + ·.length+b.length) 0)=ah:=by rw[e,List.foldl_toArray];unfold lz;exact Bk (by unfold zes at c;lia)
 have d:=zaf b o;refine fQ F.slot_str_join (lF s b t) F.entry_str_join (F.args_str_join_2 _ _) (meets_str_join_list b t a l g) {p.isList,?_};subst e
 match l,q,d,c with
 |[],q,d,c=>exact{b9 d c,.str _,H,I.tok _,{_,U},q}
 |[p],q,d,c=>exact{.str p.1,H,I,{_,U},q}
 |p::p'::r,q,d,c=>exact{b9 d c,.str _,H,I.tok _,{_,U},q}
theorem Asc.app(h:Asc x)(b:Asc y):Asc (x++y):=λc a=>by rw[xX] at a;exact(bP.mp a).elim (h c) (b c)
theorem Asc.num(w:Int):Asc (zU w):=λc hc=>by
 have d:∀(m c:Nat),c∈dg m->c<128:=λm c h=>by have:=ky m c h;lia
 obtain h0|h0:=mM w 0
 .obtain⟨m,rfl,a⟩:∃m:Nat,w=-(m:Int)/\0<m:={w.natAbs,(),()};rw[xP a] at hc;obtain rfl|hc:=bn.mp hc
  .decide
  .exact d m c hc
 .obtain⟨m,rfl⟩:∃m:Nat,w=(m:Int):={w.natAbs,()};rw[yM] at hc;exact d m c hc
theorem xk(x y:Str):(x++y).length=x.length+y.length:=Str.length_append x y
section
open PySem.NumText
theorem zkD:∀ {v:Nat}{r:xo},dg v=48::r->v=0:=by
 intro v;induction v using nO with
 |_ v ih=>
  intro r h;by_cases hv:v<10
  .rw[xG hv] at h;have:=(iN h).1;lia
  .rw[Ya ()] at h;cases e:dg (v/10) with
   |nil=>exact absurd e (zcC _)
   |cons a l=>
    rw[e] at h;have b:a=48:=(iN h).1;subst b;have:=ih (v/10) () e;lia
theorem zlS:∀(n:Nat){d:xo},d.length=n->AllDigits d->d≠[]->d.head?≠Y 48->dg (digitsVal d)=d
 |0,d,hn,_,h2,_=>absurd (dD hn) h2
 |n+1,d,hn,h1,h2,h3=>by
  obtain⟨e,c,rfl⟩:∃e c,d=e++[c]:={d.dropLast,d.getLast h2,(nC h2).symm};have k:=h1 c (by simp);rw[digitsVal_snoc];by_cases he:e=[]
  .subst he;show dg (0*10+(c-48))=[c];rw[xG ()];congr 1;lia
  .have b:e.head?≠Y 48:=λz=>h3 (by rw[List.head?_append,z];rfl);have a:=zlS n (d:=e) (by simpa using hn) (λx g=>h1 x (eX _ g)) he b;have l:digitsVal e≠0:=λz=>by rw[z,xG ()] at a;exact b (by rw[<-a];rfl)
   rw[Ya ()];have i:(digitsVal e*10+(c-48))/10=digitsVal e:=by lia
   have h:48+(digitsVal e*10+(c-48))%10=c:=by lia
   rw[i,h,a]
def Ax(x:Str):xo:=(we x).cps.toList
theorem zero_cps:(bb "0").cps.toList=[48]:=by lia
theorem zkE(c:x.length<=1000)(b:AllDigits (Ax x))(a:Ax x≠[]):jG x=if x=we x then (digitsVal (Ax x):Int) else -(digitsVal (Ax x):Int):=by
 unfold Ax at *
 unfold jG;obtain ⟨cs,e,ef⟩|⟨_,ef⟩:=vF x
 .rw[ef] at b a;rw[ef,intText_neg e b a (),ag]
  .rfl
  .intro z;have:=congrArg (λy:Str=>y.cps.toList.length) z;simp only[ef] at this;rw[e,bG] at this;lia
 .rw[ef] at b a;rw[ef,ao U,sB b a ()];rfl
theorem zkF(J:x.length<=1000):jH x=ae↔(Ax x≠[]/\(Ax x).length<=31/\AllDigits (Ax x)/\¬ ((Ax x).head?=Y 48/\x≠"0")/\digitsVal (Ax x)<=1000000000000000000000000000000):=by
 have A:jH x=ae↔((Ax x).length<=31/\(Ax x≠[]/\AllDigits (Ax x))/\inW (jG x)=ae/\zU (jG x)=x):=by unfold jH Ax;rw[bY,bY,dH,gG,decide_eq_false_iff_not,decide_eq_true_eq,sW,WA,Xn,Nat.not_lt,and_assoc]
 rw[A];have l:Ax x≠[]->AllDigits (Ax x)->((inW (jG x)=ae/\zU (jG x)=x)↔(¬ ((Ax x).head?=Y 48/\x≠"0")/\digitsVal (Ax x)<=1000000000000000000000000000000)):=λu D=>by
  have o:=zkE J D u;have g:(Ax x).head?≠Y 48->dg (digitsVal (Ax x))=Ax x:=zlS _ U D u;have i:dg (digitsVal (Ax x))=Ax x->(Ax x).head?=Y 48->Ax x=[48]:=λe z=>by
   cases hd:Ax x with
   |nil=>exact absurd hd u
   |cons a r=>
    rw[hd] at z;have:a=48:=by simpa using z
    subst this;have k:=zkD (e.trans hd);rw[k,xG ()] at e;rw[<-hd,<-e]
  have n:inW (jG x)=ae↔digitsVal (Ax x)<=1000000000000000000000000000000:=by unfold inW;rw[decide_eq_true_eq,o];split <;> lia
  rw[n,and_comm];refine and_congr_left λ_=>?_;unfold Ax at *
  obtain ⟨cs,e,ef⟩|⟨_,ef⟩:=vF x
  .have t:¬ x=we x:=λz=>by have:=congrArg (λy:Str=>y.cps.toList.length) z;simp only[ef] at this;rw[e,bG] at this;lia
   rw[o,ag t];rw[ef] at g i ⊢;have G:x≠"0":=λz=>by have:=e.symm.trans ((congrArg (λy:Str=>y.cps.toList) z).trans zero_cps);cases this
   constructor
   .intro h z;by_cases k:digitsVal cs=0
    .rw[k] at h;have:=(yM 0).symm.trans (congrArg (λy:Str=>y.cps.toList) h);rw[e,xG ()] at this;cases this
    .have:=(xP (m:=digitsVal cs) ()).symm.trans (congrArg (λy:Str=>y.cps.toList) h);rw[e] at this;have q:=(iN this).2;have I:=i q z.1;rw[I] at k;exact k rfl
   .intro h;have v:cs.head?≠Y 48:=λz=>h {z,G};have q:=g v;have k:digitsVal cs≠0:=λz=>by rw[z,xG ()] at q;exact v (by rw[<-q];rfl)
    exact wW (by rw[xP (),e,q])
  .rw[o,ao ef.symm];rw[ef] at g i ⊢;constructor
   .intro h z;have:=(yM _).symm.trans (congrArg (λy:Str=>y.cps.toList) h);have q:=i this z.1;exact z.2 (wW (q.trans zero_cps.symm))
   .intro h;refine wW ?_;rw[yM];by_cases z:x.cps.toList.head?=Y 48
    .have:x="0":=tN.mp λw=>h {z,w};rw[this,zero_cps];lia
    .exact g z
 constructor
 .rintro⟨a,⟨b,c⟩,d⟩;have:=(l b c).mp d;exact{b,a,c,this.1,this.2}
 .rintro⟨b,a,c,d,e⟩;exact{a,{b,c},(l b c).mpr {d,e}}
end
theorem VW(r:hZ k A):A.units+64<cLine:=by have:=r.un;lia
def Zi:V->PyData
 |.non=>.none
 |.bl b=>.bool b
 |.int i=>.int i
 |.str x=>.str x
 |_=>.none
def yV:V->Bool
 |.non=>ae
 |.bl _=>ae
 |.int _=>ae
 |.str x=>gN x
 |_=>ah
theorem Asc.flat(h:Asc x):yV (.str x)=ae:=by unfold yV gN;rw[Array.all_eq_true];intro i a;have:=h x.cps[i] (by simp);exact Bj ()
def zmI:V->V->Bool
 |.bl _,.int _=>ah
 |.int _,.bl _=>ah
 |_,_=>ae
def zbc:LV->LV->Bool
 |x::xs,y::ys=>zmI x y&&zbc xs ys
 |_,_=>ae
theorem jI:∀ {xs:LV}{c:zS},xs.all yV=ae->aP xs c->CarriedAll c (xs.map Zi)
 |[],_,_,.nil=>.nil
 |x::r,_,h,.cons rx t=>by
  rw[iK,bY] at h;refine .cons ?_ (jI h.2 t);cases x with
  |non=>cases rx;exact .none
  |bl b=>cases rx;exact .bool b
  |int i=>have #[t,rfl]:=rx;exact .int i t
  |str x=>have #[t,rfl]:=rx;exact .str x t
  |byt b=>exact absurd h.1 (by simp[yV])
  |flt b=>exact absurd h.1 (by simp[yV])
  |ref a=>exact absurd h.1 (by simp[yV])
  |ty n=>exact absurd h.1 (by simp[yV])
theorem zic{x y:V}(d:yV x=ae)(c:yV y=ae):uA (Zi x) (Zi y)=decide (x=y):=by cases x <;> cases y <;> simp_all [yV,Zi,uA] <;> (rename_i a b;by_cases e:a=b <;> simp[e])
theorem Zt:∀ {xs c:LV},xs.all yV=ae->c.all yV=ae->oh (xs.map Zi) (c.map Zi)=decide (xs=c)
 |[],[],_,_=>by simp[oh]
 |[],_::_,_,_=>by simp[oh]
 |_::_,[],_,_=>by simp[oh]
 |x::r,y::t,hx,hy=>by rw[iK,bY] at hx hy;rw[bC,bC,oh,zic hx.1 hy.1,Zt hx.2 hy.2];by_cases a:x=y <;> by_cases b:r=t <;> simp[a,b]
theorem zgI{x y:V}(b:yV x=ae)(a:yV y=ae)(h:zmI x y=ae):sJ (Zi x) (Zi y)=ae:=by cases x <;> cases y <;> simp_all [yV,Zi,sJ,zmI]
theorem qv:∀ {xs a:LV},xs.all yV=ae->a.all yV=ae->zbc xs a=ae->mE (xs.map Zi) (a.map Zi)=ae
 |[],[],_,_,_=>by simp[mE]
 |[],_::_,_,_,_=>by simp[mE]
 |_::_,[],_,_,_=>by simp[mE]
 |x::r,y::t,hx,hy,h=>by rw[iK,bY] at hx hy;rw[zbc,bY] at h;rw[bC,bC,mE,zgI hx.1 hy.1 h.1,qv hx.2 hy.2 h.2];rfl
theorem qw{xs:LV}(h:xs.all yV=ae):mN (.list (xs.map Zi))=ae/\mN (.tuple (xs.map Zi))=ae:=by
 have a:∀x,yV x=ae->(Zi x).canLay0=ae/\(Zi x).depth=0:=λx=>by cases x <;> simp[Zi,gB,mO,yV]
 have l:∀b:LV,b.all yV=ae->iO (b.map Zi)=ae/\fj (b.map Zi)=0:=by
  intro b;induction b with
  |nil=>exact λ_=>{U,U}
  |cons y r ih=>
   intro h;rw[iK,bY] at h;exact{by rw[bC,iO,(a y h.1).1,(ih h.2).1];rfl,by rw[bC,fj,(a y h.1).2,(ih h.2).2];rfl}
 exact{by simp[mN,gB,mO,(l xs h).1,(l xs h).2],by simp[mN,gB,mO,(l xs h).1,(l xs h).2]}
abbrev zmJ(K:bE)(d:Bool):R2:=λx y H Q=>∃a b xs c,x=.ref a/\y=.ref b/\aM K H a xs/\aM K H b c/\(xs.all yV=ae/\c.all yV=ae/\zbc xs c=ae)/\Q (.bl (if d then !decide (xs=c) else decide (xs=c))) H
theorem zid(m:X.A.units+64<cLine):Ai X (Bi .Eq) (zmJ X.K ah):=by intro aa s σ H x y v u Q I i g h;have #[a,b,xs,t,rfl,rfl,o,n,#[d,c,r],q]:=h;cases i;cases g;have #[D,l,p1,_]:=I.list o;have #[z,k,p2,_]:=I.list n;refine eq_dataH_same (pG p1.isList (jI d l)) (pG p2.isList (jI c k)) (qw d).1 (qw c).1 m (by rw[sJ];exact qv d c r) ?_;rw[uA,Zt d c];exact{.bl _,H,I,U,q}
theorem zmK(m:X.A.units+64<cLine):Ai X (Bi .NotEq) (zmJ X.K ae):=by intro aa s σ H x y v u Q I i g h;have #[a,b,xs,t,rfl,rfl,o,n,#[d,c,r],q]:=h;cases i;cases g;have #[D,l,p1,_]:=I.list o;have #[z,k,p2,_]:=I.list n;refine ne_dataH_same (pG p1.isList (jI d l)) (pG p2.isList (jI c k)) (qw d).1 (qw c).1 m (by rw[sJ];exact qv d c r) ?_;rw[uA,Zt d c];exact{.bl _,H,I,U,q}
abbrev zmL(K:bE):R2:=λx y H Q=>∃a b xs,x=.ref a/\y=.ref b/\aM K H a xs/\aM K H b []/\Q (.bl (decide (xs=[]))) H
theorem JJ(n:X.A.units+64<cLine):Ai X (Bi .Eq) (zmL X.K):=by
 intro aa s σ H x y v u Q I d c h;have #[a,b,xs,rfl,rfl,i,g,q]:=h;by_cases e:xs=[]
 .subst e;exact zid n aa s σ H _ _ v u Q I d c {a,b,[],[],U,U,i,g,{U,U,U},q}
 .cases d;cases c;have #[t,m,p1,_]:=I.list i;have #[r,l,p2,_]:=I.list g;cases l;have k:=m.length;have o:xs.length≠0:=λz=>e (dD z);refine PySem.SeqAt.eq_list_lengthsAt p1.isList p2.isList (by simp;intro z;rw[z] at k;exact o k) () ?_;rw[Bk e] at q;exact{.bl ah,H,I,U,q}
abbrev yt:RM:=za6
abbrev kX:RM:=znE
def jw:LV:=[.str "plus",.str "minus",.str "times",.str "over",.str "rest",.str "under",.str "same"]
def isJ(v:V):Bool:=inV v jw
inductive Er where
 |nought|great|stuck
 deriving DecidableEq
def zie(w:Str)(a b:Int):Int:=
 if w="plus" then a+b else if w="minus" then a-b else if w="times" then a*b else if w="under" then (if a<b then 1 else 0) else if w="same" then (if a=b then 1 else 0) else if w="over" then a.fdiv b else a.fmod b
def zfE(w:Str):Prop:=¬ w="plus"/\¬ w="minus"/\¬ w="times"/\¬ w="under"/\¬ w="same"
instance (w:Str):Decidable (zfE w):=by unfold zfE;infer_instance
def zlT(w:Str)(a b:Int):Except Er Int:=if zfE w/\b=0 then .error .nought else if inW (zie w a b)=ae then .ok (zie w a b) else .error .great
def znL(a:xN):V->Int
 |.int i=>i
 |.str x=>(match yu a (.inr x) with|some (.int i)=>i|_=>0)
 |_=>0
def zif(d:xN)(st:yz)(v:V):Except Er yz:=
 if isJ v=ae then (match v,st.reverse with|.str w,b::a::r=>(match zlT w a b with|.ok c=>.ok (r.reverse++[c])|.error e=>.error e)|_,_=>.error .stuck) else .ok (st++[znL d v])
def zig(a:xN):LV->yz->Except Er yz
 |[],st=>.ok st
 |v::r,st=>match zif a st v with|.ok st'=>zig a r st'|.error e=>.error e
section
variable {aK:xN}
def zow(aK:xN)(ps:LV)(r:Except Er Int):Prop:=(∀a,zig aK ps a=match r with|.ok i=>.ok (a++[i])|.error e=>.error e)/\r≠.error .stuck
end
def zbd(v:V):Prop:=(∃i,v=.int i/\inW i=ae)\/∃x:Str,v=.str x/\x.length<=1000
def Jk(a:xN):Prop:=∀k v,yu a k=Y v->∃i,v=.int i/\inW i=ae
theorem inW_iff{i:Int}:inW i=ae↔-1000000000000000000000000000000<=i/\i<=1000000000000000000000000000000:=by unfold inW;rw[decide_eq_true_eq]
theorem zkG(w:Str):isJ (.str w)=ae↔(w="plus"\/w="minus"\/w="times"\/w="over"\/w="rest"\/w="under"\/w="same"):=by
 unfold isJ inV jw;simp only[lO,List.any_nil,eqV,sX,uB,beq_iff_eq];constructor
 .rintro(h|h|h|h|h|h|h) <;> simp[<-h]
 .rintro(h|h|h|h|h|h|h) <;> simp[h]
def Itv(K:bE)(a:B)(xs:LV):It:={λi H=>i<xs.length/\aM K H a xs,λi H x b=>b=H/\xs[xs.length-1-i]?=Y x,λi _=>xs.length<=i}
theorem zii{P:aq}{w:ax}{K:bE}{tg:av}(a it:B)(xs:LV):VU P w K tg (Itv K a xs) [it] it (λi h=>i<=xs.length/\h.IsRevIter it a ((xs.length:Int)-1-(i:Int))) where
 mem:=by simp
 obj:=λi h l b n=>by
  have e:b=it:=by simpa using n
  subst e;have #[_,o,e,c,d]:=l;exact{o,e,λv z=>by rw[d] at z;cases z}
 keep:=λi h r l k=>{l.1,l.2.at λo e=>k it (by simp) o e}
 item:=by
  intro X G t J hc i aa s σ H E I q l D;subst G t J;have #[y,hq]:=D;have #[ab,rv,p,hz]:=I.list hq;have hl:=rv.length;have #[u,hu,ru]:=rv.get (i:=xs.length-1-i) (x:=xs[xs.length-1-i]'()) (bd ());have #[T,Q,f2,O,N,M]:=q it (by simp);have g:=l.2;have e1:(xs.length:Int)-1-(i:Int)=((xs.length-1-i:Nat):Int):=by lia
  rw[e1] at g;refine wpAny_pyNext_rev_item g p.isList (x:=u) (by simpa using hu) λr m sb=>?_;have I1:aN X aa σ H { s with heap:=r }:=I.turned (t':=s.toks) (λb o n e=>(sb.2 b n).trans e) T Q O N M;have e2:((xs.length-1-i:Nat):Int)-1=(xs.length:Int)-1-((i+1:Nat):Int):=by lia
  rw[e2] at m;have #[o,e,c,d]:=id m;exact{u,U,Jv (s:={ s with heap:=r }) e c d () {_,H,I1,ru,{rfl,bd ()},{y,m},λb n=>(q b n).1}}
 done:=by intro X G t J hc i aa s σ H E I q l D;subst G t J;have #[T,Q,f2,O,N,M]:=q it (by simp);have y:i=xs.length:=Nat.le_antisymm l.1 D;have g:=l.2;rw[y,show (xs.length:Int)-1-(xs.length:Int)=-1 by lia] at g;exact wpAny_pyNext_rev_end (I.ok.hd hc) g λr eb=>{U,I.turned (t':=s.toks) (λb o n e=>eb b o n e) T Q O N M}
 self:=λ_ _ _ _ _ l h=>sf l.2 h
def znM(K:bE)(d:TA):TI:=λσ H R=>d σ H λc b=>∃a xs,c=[.ref a]/\aM K b a xs/\R (Itv K a xs) b
theorem zmM{k:TA}(D:Gl X "reversed")(z:X.mg "reversed"=af)(J:PA X [a] k)(v:Be [a] X.e=[(ah,eval a X.e)]:=by rfl):PI X tg (.Call (.Name "reversed" p) [a] [] pos) (znM X.K k):=by
 intro aa s σ H R I h;refine Call_ (qo I D z zcy (dq (aW (J pos aa s σ H _ I h) ?_) v U));rintro O d ⟨N,M,i,n,t⟩;have #[b,xs,e,y,q]:=t;subst e;cases n with
 |cons r rr=>
  cases rr;cases r;have #[g,m,u,Q]:=i.list y;have T:=m.length;refine call_reversed_list u.isList ?_;have l:(d.heap.push (revObj b ((g.toArray.size:Int)-1))).IsRevIter d.heap.objs.size b ((xs.length:Int)-1-((0:Nat):Int)):={_,bq _ U,U,by show ut _=_;rw[show ((g.toArray.size:Nat):Int)-1=(xs.length:Int)-1-((0:Nat):Int) by simp;lia]}
  refine sf (s:={ d with heap:=_ }) l ?_;refine{d.heap.objs.size,[d.heap.objs.size],_,_,M,U,i.kept (t':=d.toks) λb o e=>bg _ e,zii b _ xs,{bQ _,l},λc G=>?_,q};have e:c=d.heap.objs.size:=by simpa using G
  subst e;exact i.fpOk (bo _) (i.hok.fresh (bo _))
theorem zij(xs:LV)(Pv:Nat->uU)(g:Pv 0 σ H)(c:∀i σ H,Pv i σ H->aM K H a xs)(b:∀i x σ H,i<xs.length->xs[xs.length-1-i]?=Y x->Pv i σ H->Bo x σ H (Pv (i+1)))(d:∀σ H,Pv xs.length σ H->nx σ H) :
  FoP (Itv K a xs) nx Bo σ H:=JG Pv g (λi σ H l p=>{{l,c i σ H p},by rintro x h ⟨rfl,y⟩;exact b i x σ _ l y p}) λσ H p=>{bo _,d σ H p}
def inL(c:Nat):Bool:=!(dX "abcdefghijklmnopqrstuvwxyz" ⟨#[c]⟩ 0 (f7 "abcdefghijklmnopqrstuvwxyz") 1).isEmpty
def wl:LV:=[.str "take",.str "give",.str "let",.str "say",.str "off",.str "if",.str "else",.str "end",.str "as"]
def yK(x:Str):Bool:=!(decide (x="") || decide (6<x.length)) && !(inV (.str x) jw || inV (.str x) wl)&&x.cps.toList.all inL
theorem zbe(c:Nat):inL c=ae->97<=c/\c<=122:=by unfold inL;rw[tL,decide_eq_true_eq];exact(by lia:∀c∈(bb "abcdefghijklmnopqrstuvwxyz").cps.toList,97<=c/\c<=122) c
theorem Qf(a:x.length<=1000)(hc:c∈x.cps.toList)(h:97<=c):jH x=ah:=by
 refine fe.mpr λz=>?_;have d:=((zkF a).mp z).2.2.1;unfold Ax at d;obtain ⟨cs,e,ef⟩|⟨_,ef⟩:=vF x
 .rw[e] at hc;rw[ef] at d;obtain rfl|hc:=bn.mp hc
  .lia
  .have:=d c hc;lia
 .rw[ef] at d;have:=d c hc;lia
theorem wX(h:yK x=ae):x.cps.toList≠[]/\x.length<=6/\isJ (.str x)=ah/\x.cps.toList.all inL=ae:=by unfold yK at h;rw[bY,bY,dH,dH,gG,gG,decide_eq_false_iff_not,decide_eq_false_iff_not] at h;refine{λz=>h.1.1.1 (wW (by rw[z];lia)),(),h.1.2.1,h.2}
theorem Qg(h:yK x=ae):jH x=ah:=by have #[b,d,_,a]:=wX h;have #[c,r,e]:=List.exists_cons_of_ne_nil b;exact Qf (c:=c) () (by rw[e];simp) (zbe c (cI.mp a c (by rw[e];simp))).1
theorem zkH(h:isJ (.str x)=ae):yK x=ah/\jH x=ah:=by
 refine{fe.mpr λz=>?_,?_}
 .rw[(wX z).2.2.1] at h;cases h
 .rcases(zkG x).mp h with rfl|rfl|rfl|rfl|rfl|rfl|rfl <;> lia
inductive Tw where
 |leaf (w:Str)|node (w:Str) (a b:Tw)
def pre:Tw->zQ
 |.leaf w=>[w]
 |.node w a b=>w::(pre a++pre b)
theorem zim{a:xN}{k:Key}(h:yu a k=Y v):∃p∈a,p.2=v:=by unfold yu at h;have #[p,b,e]:=cm.mp h;exact{p,List.mem_of_find?_eq_some b,e}
theorem zcD(h:yK x=ae):Asc x:=λc a=>by have:=zbe c (cI.mp (wX h).2.2.2 c a);lia
theorem zin{i:Nat}{xs:Array am}{Q:nA}(l:s.heap.IsTupleIter it tp i)(t:s.heap.IsTuple tp xs)(d:∀x h,xs[i]?=Y x->h.IsTupleIter it tp (i+1)->cv it s.heap h->Q x { s with heap:=h })(g:xs[i]?=af->A.handled=af/\∀h e,pH it s.heap h->(∃o,h.get? e=Y o/\o.cls=.type "StopIteration")->E (.ref e) { s with heap:=h }) :
  Bf (Bg P w) A (cS (.ref it)) Q E s:=by
 have #[o,c,v,b]:=id l;have #[q,u,_,n,k]:=t;unfold cS;refine ba (cq (name:=bb "__next__") l.typeIs nW (cr nW l.typeIs F.entry_tuple_iterator_next ?_ (F.args_tuple_iterator_next_1 _)));show Bf _ _ (field (.ref it) 0 >>= _) _ _ s;refine ba (cO c b (x:=.ref tp) U ?_);show Bf _ _ (if (bN tp==cE)=ae then _ else _) _ _ s;rw[ag (show ¬ ((bN tp==cE)=ae) from bM)];show Bf _ _ (field (.ref it) 1 >>= _) _ _ s;refine ba (cO c b (x:=.int i 0) U ?_);show Bf _ _ (seqItems? (.ref tp) >>= _) _ _ s;refine ba (eM u k ?_);cases hx:xs[i]? with
 |some x=>
  simp only[cy,hx];refine ba (ic c b (by simp) (bm {x,U,bm (d x _ hx ?_ (cP ..))}));refine{_,cZ _ c (mP (gp b _)),(oN ..).trans v,?_};rw[gp b];simp[rawInt]
 |none=>
  have #[r,g]:=g hx;simp only[cy,hx];refine ba (iP (ba (ic c b (by simp) ?_)));show Bf _ _ (newExc (.type "StopIteration") [] >>= _) _ _ _;refine ba ?_;simp only[newExc,newTuple];refine ba (cA ?_ (by size_fits));refine ba (m:=firstArgMember _ _) (nP (a:=cE) (by first|rfl|(simp only[firstArgMember];rfl)) ?_);refine cA ?_ (by size_fits);simp only[raiseNew];refine ba (nD ?_);first|rw[show A.in1.handled=af from r]|rw[r]
  refine ba (bm (pI ?_));exact g _ _ (((cP ..).extBut.push _).push _) {_,bq _ U,U}
structure WD(z a b i j p q:B):Prop where
 az:a≠z
 bz:b≠z
 iz:i≠z
 jz:j≠z
 ab:a≠b
 ai:a≠i
 aj:a≠j
 bi:b≠i
 bj:b≠j
 ij:i≠j
 pz:p≠z
 pb:p≠b
 pi:p≠i
 pj:p≠j
 qz:q≠z
 qb:q≠b
 qi:q≠i
 qj:q≠j
def ZT(z a b i j p q:B)(k:Nat)(h:au):Prop:=IsZip h z a b .none/\IsPair h a (.ref i) (.ref j)/\(∃u v,IsPair h b u v)/\h.IsTupleIter i p k/\h.IsTupleIter j q k
theorem zgJ{z a b i j p q:B}{k:Nat}{xs ys:Array am}{x y:am}{Q:nA}(D:WD z a b i j p q)(st:ZT z a b i j p q k s.heap)(hp:s.heap.IsTuple p xs)(hq:s.heap.IsTuple q ys)(hx:xs[k]?=Y x)(hy:ys[k]?=Y y)(N:∀g h,(∀c o,c ∉ [z,b,i,j]->s.heap.get? c=Y o->g.get? c=Y o)->g.objs.size=s.heap.objs.size->IsPair g b x y->g.IsTupleIter i p (k+1)->g.IsTupleIter j q (k+1) ->
   cv z (g.push { cls:=.type "tuple",data:=.seq #[x,y] }) h->IsZip h z a b (rawInt g.objs.size)->Q (.ref g.objs.size) { s with heap:=h }) :
  Bf (Bg P w) A (Builtin.«zip.__next__» {[.ref z],[]}) (λr s'=>∃v,r=.done (.ret v)/\Q v s') E s:=by
 have #[M,ha,#[u,v,hb],hi,hj]:=st;show Bf _ _ (field (.ref z) 2 >>= _) _ _ _;refine ba (cO M U (x:=.bool ah) U ?_);show Bf _ _ (field (.ref z) 3 >>= _) _ _ _;refine ba (cO M U (x:=.ref a) U ?_);refine ba (eM ha U ?_);show Bf _ _ (cU (.ref z) >>= _) _ _ _;refine ba ?_;unfold cU;refine ba (cO M U (x:=.none) U (bm ?_));simp only[if_true];refine ba (iP ?_);refine ba (cO M U (x:=.ref b) U ?_);refine ba (cg M (by simp) λg1 z1 m=>?_);replace z1:IsZip g1 z a b .ellipsis:=z1;refine ba ?_;simp only[uf,uC,nK,List.forIn_nil];refine ba (ba (sY ?_));show Bf _ _ (cS (.ref i) >>= _) _ _ _;refine ba (zin (hi.extBut m.extBut D.iz) (hp.extBut m.extBut D.pz) (λG g2 T i2 t=>bm ?_) λT=>by rw[hx] at T;cases T);obtain rfl:G=x:=bX (T.symm.trans hx);have b2:IsPair g2 b u v:=t.extBut _ _ D.bi (m.extBut _ _ D.bz hb);refine ba (eM b2 U ?_);refine ba (sg b2 λg3 b3 n=>?_);replace b3:IsPair g3 b G v:=b3;refine ba (mj (bm ?_));refine ba (ba (sY ?_));show Bf _ _ (cS (.ref j) >>= _) _ _ _;refine ba (zin (((hj.extBut m.extBut D.jz).extBut t.extBut D.ij.symm).extBut n.extBut D.bj.symm) (((hq.extBut m.extBut D.qz).extBut t.extBut D.qi).extBut n.extBut D.qb) (λy' g4 O j4 J=>bm ?_) λO=>by rw[hy] at O;cases O);obtain rfl:y'=y:=bX (O.symm.trans hy);have b4:IsPair g4 b G v:=J.extBut _ _ D.bj b3;refine ba (eM b4 U ?_);refine ba (sg b4 λd b5 I=>?_);replace b5:IsPair d b G y':=b5;refine ba (mj (bm (bm ?_)));refine ba (eM b5 U ?_);refine ba (mF ?_);have sz:d.objs.size=s.heap.objs.size:=by rw[I.1,J.1,n.1,t.1,m.1]
 have z5:IsZip d z a b .ellipsis:=I.extBut _ _ D.bz.symm (J.extBut _ _ D.jz.symm (n.extBut _ _ D.bz.symm (t.extBut _ _ D.iz.symm z1)));have k5:∀c o,c ∉ [z,b,i,j]->s.heap.get? c=Y o->d.get? c=Y o:=λc o l e=>by simp only[bn,bZ,or_false,not_or] at l;exact I.extBut _ _ l.2.1 (J.extBut _ _ l.2.2.2 (n.extBut _ _ l.2.1 (t.extBut _ _ l.2.2.1 (m.extBut _ _ l.1 e))))
 have i5:d.IsTupleIter i p (k+1):=((i2.extBut n.extBut D.bi.symm).extBut J.extBut D.ij).extBut I.extBut D.bi.symm;have j5:d.IsTupleIter j q (k+1):=j4.extBut I.extBut D.bj.symm;show Bf _ _ (eD (.ref z) (.ref d.objs.size) >>= _) _ _ _;refine ba ?_;unfold eD;have z6:IsZip (d.push { cls:=.type "tuple",data:=.seq #[G,y'] }) z a b .ellipsis:=bg _ z5;refine ba (cg z6 (by simp) λg7 z7 r7=>?_);replace z7:IsZip g7 z a b (rawInt d.objs.size):=z7;refine cg z7 (by simp) λg8 z8 r8=>?_;replace z8:IsZip g8 z a b (rawInt d.objs.size):=z8;exact bm {_,U,N d g8 k5 sz b5 i5 j5 {r8.1.trans r7.1,λc l=>(r8.2 c l).trans (r7.2 c l)} z8}
theorem zio{z a b i j p q:B}{k:Nat}{xs N:Array am}{Q:Fin->ak->Prop}(hh:A.handled=af)(D:WD z a b i j p q)(st:ZT z a b i j p q k s.heap)(hp:s.heap.IsTuple p xs)(hq:s.heap.IsTuple q N)(T:xs[k]?=af)(hE:∀h e,(∀c o,c ∉ [z,b,i,j]->s.heap.get? c=Y o->h.get? c=Y o)->(∃o,h.get? e=Y o/\o.cls=.type "StopIteration")->E (.ref e) { s with heap:=h }) :
  Bf (Bg P w) A (Builtin.«zip.__next__» {[.ref z],[]}) Q E s:=by
 have #[g,ha,#[u,v,hb],hi,hj]:=st;show Bf _ _ (field (.ref z) 2 >>= _) _ _ _;refine ba (cO g U (x:=.bool ah) U ?_);show Bf _ _ (field (.ref z) 3 >>= _) _ _ _;refine ba (cO g U (x:=.ref a) U ?_);refine ba (eM ha U ?_);show Bf _ _ (cU (.ref z) >>= _) _ _ _;refine ba ?_;unfold cU;refine ba (cO g U (x:=.none) U (bm ?_));simp only[if_true];refine ba (iP ?_);refine ba (cO g U (x:=.ref b) U ?_);refine ba (cg g (by simp) λg1 n t=>?_);replace n:IsZip g1 z a b .ellipsis:=n;refine ba ?_;simp only[uf,uC,nK,List.forIn_nil];refine ba (ba (sY ?_));show Bf _ _ (cS (.ref i) >>= _) _ _ _;refine ba (zin (hi.extBut t.extBut D.iz) (hp.extBut t.extBut D.pz) (λx' M G i2 r=>by rw[T] at G;cases G) λG=>{hh,λM e r he=>?_});have #[O,d,l]:=he;have I:IsZip M z a b .ellipsis:=r _ _ D.iz.symm n;have ez:e≠z:=λx=>by subst x;rw[I] at d;cases d;simp at l
 refine cg I (by simp) λg3 _ J=>hE g3 e (λc o m y=>?_) {O,J.extBut _ _ ez d,l};simp only[bn,bZ,or_false,not_or] at m;exact J.extBut _ _ m.1 (r _ _ m.2.2.1 (t.extBut _ _ m.1 y))
theorem zeu{z a b i j p q:B}{k:Nat}{xs l:Array am}{x y:am}{Q:Option am->ak->Prop}(D:WD z a b i j p q)(st:ZT z a b i j p q k s.heap)(t:s.heap.IsTuple p xs)(r:s.heap.IsTuple q l)(n:xs[k]?=Y x)(m:l[k]?=Y y)(d:∀g h,(∀c o,c ∉ [z,b,i,j]->s.heap.get? c=Y o->g.get? c=Y o)->g.objs.size=s.heap.objs.size->IsPair g b x y->g.IsTupleIter i p (k+1)->g.IsTupleIter j q (k+1) ->
   cv z (g.push { cls:=.type "tuple",data:=.seq #[x,y] }) h->IsZip h z a b (rawInt g.objs.size)->Q (Y (.ref g.objs.size)) { s with heap:=h }) :
  Bf (Bg P w) A (pyNext (.ref z)) Q E s:=by
 have T:s.TypeIs (.ref z) "zip":={_,st.1,U};unfold pyNext;exact ba (eP (cq (name:=bb "__next__") T nQ (cr nQ T F.entry_zip_next
   (zgJ D st t r n m λg h N M J I G v u=>bm (d g h N M J I G v u)) (F.args_zip_next_1 _))))
theorem zgK{z a b i j p q:B}{k:Nat}{xs g:Array am}{Q:Option am->ak->Prop}(u:A.handled=af)(D:WD z a b i j p q)(st:ZT z a b i j p q k s.heap)(n:s.heap.IsTuple p xs)(m:s.heap.IsTuple q g)(l:xs[k]?=af)(d:∀h,(∀c o,c ∉ [z,b,i,j]->s.heap.get? c=Y o->h.get? c=Y o)->Q af { s with heap:=h }):Bf (Bg P w) A (pyNext (.ref z)) Q E s:=by have T:s.TypeIs (.ref z) "zip":={_,st.1,U};unfold pyNext;refine ba (eP (cq (name:=bb "__next__") T nQ (cr nQ T F.entry_zip_next (zio u D st n m l λh e t v=>?_) (F.args_zip_next_1 _))));have #[o,r,y]:=v;exact ba (gX (T:="StopIteration") (b:=ae) {o,r,y} mG (bm (d _ t)))
abbrev zp1(h:au)(p:B):au:=h.push { cls:=.type "tuple_iterator",data:=.fields #[.ref p,.int 0 0] }
abbrev zp3(h:au)(p q:B):au:=(zp1 (zp1 h p) q).push { cls:=.type "tuple",data:=.seq #[.ref h.objs.size,.ref (zp1 h p).objs.size] }
abbrev zp4(h:au)(p q:B):au:=(zp3 h p q).push { cls:=.type "tuple",data:=.seq #[.none,.none] }
abbrev zp5(h:au)(p q:B):au:=(zp4 h p q).push { cls:=.type "zip",data:=.fields #[.none,.bool ah,.bool ah,.ref (zp1 (zp1 h p) q).objs.size,.ref (zp3 h p q).objs.size] }
theorem zev(p q:B)(xs ys:Array am):Meets (Builtin.«zip.__new__» {[.type "zip",.ref p,.ref q],[]}) (λ_ R s=>s.heap.IsTuple p xs/\s.heap.IsTuple q ys /\
   R (.ok (.ret (.ref (zp4 s.heap p q).objs.size))) { s with heap:=zp5 s.heap p q }):=
 .of_wp λprog w A R s h=>by
  have #[i,g,d,a,b]:=s;have #[n,m,h]:=h;have c:=sub_zip;have l:Heap.IsTuple (Shared.heap {i,g,d,a,b}) p xs:=n;have k:Heap.IsTuple (Shared.heap {i.push { cls:=.type "tuple_iterator",data:=.fields #[.ref p,.int 0 0] },g,d,a,b}) q ys:=Heap.IsTuple.push m _
  wp_walk using n9 l,n9 k
  exact{_,U,h}
theorem zgL{p q:B}{xs l:Array am}{Q:nA}(v:s.heap.IsTuple p xs)(u:s.heap.IsTuple q l)(h:∀b,ZT (s.heap.objs.size+4) (s.heap.objs.size+2) (s.heap.objs.size+3) s.heap.objs.size (s.heap.objs.size+1) p q 0 b->(∀c o,s.heap.get? c=Y o->b.get? c=Y o)->Q (.ref (s.heap.objs.size+4)) { s with heap:=b }) :
  Bf (Bg P w) A (call (.type "zip") [.ref p,.ref q]) Q E s:=by
 refine callType_new F.called_zip () (F.typeCall_zip_2 _ _) (F.newCall_zip_2 _ _) (λa=>F.args_object_init_3 a _ _) F.entry_zip_new (zev p q xs l) {v,u,?_};have k:(zp1 s.heap p).objs.size=s.heap.objs.size+1:=eK ..;have i:(zp1 (zp1 s.heap p) q).objs.size=s.heap.objs.size+2:=by rw[eK,k]
 have g:(zp3 s.heap p q).objs.size=s.heap.objs.size+3:=by rw[eK,i]
 have t:(zp4 s.heap p q).objs.size=s.heap.objs.size+4:=by rw[eK,g]
 have d:(zp5 s.heap p q).get? (zp4 s.heap p q).objs.size=Y _:=bq _ rfl;have m:(zp5 s.heap p q).get? (zp3 s.heap p q).objs.size=Y _:=bg _ (bq _ U);have n:(zp5 s.heap p q).get? (zp1 (zp1 s.heap p) q).objs.size=Y _:=bg _ (bg _ (bq _ U));have r:(zp5 s.heap p q).get? (zp1 s.heap p).objs.size=Y _:=bg _ (bg _ (bg _ (bq _ U)));have y:(zp5 s.heap p q).get? s.heap.objs.size=Y _:=bg _ (bg _ (bg _ (bg _ (bq _ U))));show _/\_;rw[i,g,t] at d;rw[k,i] at n;rw[g] at m;rw[k] at r;rw[t];exact{{_,d,U},h _ {d,n,{_,_,m},{_,y,U,U},{_,r,U,U}} λc o x=>bg _ (bg _ (bg _ (bg _ (bg _ x))))}
theorem aN.turnedL{aa:uX}{H:Hp}{t':Nat}{ch:List B}(I:aN X aa σ H s)(k:∀b o,b ∉ ch->s.heap.get? b=Y o->h'.get? b=Y o)(g:∀b∈ch,ku X aa H b) :
  aN X aa σ H { s with heap:=h',toks:=t' }:=by
 have d:∀b u,H b=Y u->b ∉ ch:=λb u e z=>by rw[(g b z).1] at e;cases e
 refine I.step (g':=s.gens) (d':=s.drawn) (ch:=ch) (λb t=>?_) (λb o _ _ a e _=>k b o a e) (λb o _ _ a e _=>{o.slots,k b o a e}) (λ_ _ _ _ n=>n) (λb o a e=>{o,k b o a e}) (λ_ _ e=>e) (λ_ _ _ e=>e) (λb ps e=>{#[],by rw[e];simp}) (λm l=>?_) (λb u e=>?_) I.bare
 .have #[Q,J,O,G,D,y]:=g b t;exact{G,J,D,y}
 .have #[o,es,M,h,r]:=l;exact{o,es,M,k _ o (λz=>(g _ z).2.1 U) h,r}
 .refine(I.hok b u e).stay (λc v a q=>k c v ?_ q) (λ_ q=>q) λ_ _ q=>q;obtain z|z:=a
  .rw[z];exact d b u e
  .exact d c _ z
def Itz(K:bE)(p q:B)(xs a:LV):It:={λi H=>i<xs.length/\aX K H p xs/\aX K H q a,λi H x b=>∃T u v,x=.ref T/\H T=af/\b=upd H T (.tup [u,v])/\xs[i]?=Y u/\a[i]?=Y v,λi H=>xs.length<=i/\aX K H p xs/\aX K H q a}
theorem ziq{P:aq}{w:ax}{K:bE}{ab:List av}{x1}{pos:Pos}{z a b i j p q:B}{xs n:LV}(D:WD z a b i j p q)(r:xs.length=n.length) :
  VU P w K (.Tuple ab x1 pos) (Itz K p q xs n) [z,a,b,i,j] z (ZT z a b i j p q) where
 mem:=by simp
 obj:=λk h m c d=>by
  have #[hz,ha,#[u,v,hb],#[Q,M,ci,di],#[O,J,cj,dj]]:=m;simp only[bn,bZ,or_false] at d;obtain rfl|rfl|rfl|rfl|rfl:=d
  .exact{_,hz,λv z=>by cases z}
  .exact{_,ha,λv z=>by cases z}
  .exact{_,hb,λv z=>by cases z}
  .exact{_,M,λv z=>by rw[di] at z;cases z}
  .exact{_,J,λv z=>by rw[dj] at z;cases z}
 keep:=λk h h' m T=>by have #[hz,ha,#[u,v,hb],#[Q,M,ci],#[O,J,cj]]:=m;exact{T z (by simp) _ hz,T a (by simp) _ ha,{u,v,T b (by simp) _ hb},{Q,T i (by simp) _ M,ci},{O,T j (by simp) _ J,cj}}
 item:=by
  intro X hP hw hK d k aa s σ H E I hf m hg;subst hP hw hK;have #[l,h1,t]:=hg;have #[us,r1,p1,_]:=I.tuple h1;have #[vs,r2,p2,_]:=I.tuple t;have #[u,hu,ru]:=r1.get (i:=k) (x:=xs[k]) (bd l);have #[v,hv,rv]:=r2.get (i:=k) (x:=n[k]'(r ▸ l)) (bd (r ▸ l));have ai:∀c∈[z,b,i,j],c∈[z,a,b,i,j]:=λc d=>by simp only[bn,bZ,or_false] at d ⊢;obtain h|h|h|h:=d <;> simp[h]
  refine zeu D m (show s.heap.IsTuple p us.toArray from p1) (show s.heap.IsTuple q vs.toArray from p2) (x:=u) (y:=v) (by simpa using hu) (by simpa using hv) λg h k5 sz b5 i5 j5 sb z8=>?_;have I5:aN X aa σ H { s with heap:=g }:=I.turnedL (t':=s.toks) k5 λc d=>hf c (ai c d);have I6:aN X aa σ (upd H g.objs.size (.tup [xs[k],n[k]'(r ▸ l)])) { s with heap:=g.push { cls:=.type "tuple",data:=.seq #[u,v] } }:=
   I5.laid (a:=g.objs.size) (o:=.tup [xs[k],n[k]'(r ▸ l)]) (t':=s.toks) (λb u e=>bg _ e) (bo _) {(),[u,v],.cons ru (.cons rv .nil),{_,bq _ U,U,_,U}}
  have al:z<s.heap.objs.size:=bF m.1;have aj:∀c∈[z,a,b,i,j],c≠g.objs.size:=λc d=>by
   have #[hz,ha,#[u,v,hb],#[Q,M,ci],#[O,J,cj]]:=m;rw[sz];simp only[bn,bZ,or_false] at d;obtain rfl|rfl|rfl|rfl|rfl:=d
   .exact bK (bF hz)
   .exact bK (bF ha)
   .exact bK (bF hb)
   .exact bK (bF M)
   .exact bK (bF J)
  have G:∀c∈[z,a,b,i,j],upd H g.objs.size (HO.tup [xs[k],n[k]'(r ▸ l)]) c=af:=λc d=>by rw[zk (aj c d)];exact(hf c d).1
  have fz:ku X aa (upd H g.objs.size (HO.tup [xs[k],n[k]'(r ▸ l)])) z:={G z (by simp),(hf z (by simp)).2};refine{.ref g.objs.size,U,oB z8 λt z9 N=>?_};have up:∀c o,c≠z->g.get? c=Y o->t.get? c=Y o:=λc o d e=>by rw[show t.get? c=h.get? c from N.2 c d,sb.2 c d];exact bg _ e
  have I7:aN X aa σ (upd H g.objs.size (.tup [xs[k],n[k]'(r ▸ l)])) { s with heap:=t }:=I6.turnedL (s:={ s with heap:=g.push { cls:=.type "tuple",data:=.seq #[u,v] } }) (t':=s.toks) (ch:=[z]) (λc o d e=>by
   have d:c≠z:=by simpa using d
   rw[show t.get? c=h.get? c from N.2 c d,sb.2 c d];exact e) λc d=>by
    have:c=z:=by simpa using d
    rw[this];exact fz
  refine{.ref g.objs.size,_,I7,U,{_,_,_,U,by have:=I5.hok.fresh (bo g.objs.size);exact this,U,bd l,bd (r ▸ l)},?_,G};have ka:g.get? a=_:=k5 a _ (by simp[D.az,D.ab,D.ai,D.aj]) m.2.1;have #[Q,M,ci]:=i5;have #[O,J,cj]:=j5;exact{z9,up a _ D.az ka,{_,_,up b _ D.bz b5},{Q,up i _ D.iz M,ci},{O,up j _ D.jz J,cj}}
 done:=by intro X hP hw hK d k aa s σ H E I hf m hg;subst hP hw hK;have #[l,h1,t]:=hg;have #[us,r1,p1,_]:=I.tuple h1;have #[vs,r2,p2,_]:=I.tuple t;have an:=r1.length;refine zgK (I.ok.hd d) D m (show s.heap.IsTuple p us.toArray from p1) (show s.heap.IsTuple q vs.toArray from p2) (by simp;lia) λh hk=>{U,I.turnedL (t':=s.toks) hk λc d=>hf c ?_};simp only[bn,bZ,or_false] at d ⊢;obtain h|h|h|h:=d <;> simp[h]
 self:=λ_ _ _ _ _ m h=>mX m.1 h
theorem zir{p q:B}(xs c:LV)(Pv:Nat->uU)(k:Pv 0 σ H)(d:∀i σ H,Pv i σ H->aX K H p xs/\aX K H q c)(g:∀i u v T σ H,xs[i]?=Y u->c[i]?=Y v->H T=af->Pv i σ H->Bo (.ref T) σ (upd H T (.tup [u,v])) (Pv (i+1)))(h:∀σ H,Pv xs.length σ H->nx σ H) :
  FoP (Itz K p q xs c) nx Bo σ H:=JG Pv k (λi σ H l p=>{{l,d i σ H p},by rintro x m ⟨T,u,v,rfl,y,rfl,a,b⟩;exact g i u v T σ H a b y p}) λσ H p=>{{bo _,d _ σ H p},h σ H p}
abbrev znO(K:bE):RC:=λxs H Q=>∃p a,xs=[.ref p]/\((aM K H p a/\∀l,H l=af->Q (.ref l) (upd H l (.tup a)))\/(aX K H p a/\Q (.ref p) H))
open PySem.W
variable {n:Nat}
section
variable {α β:Type}{lt:Nat->Nat->Bool}
def kOk(lt:Nat->Nat->Bool)(n:Nat):KasT α->(α->Prop)->Prop
 |.ret a,R=>R a
 |.ask i j k,R=>i<n/\j<n/\i≠j/\kOk lt n (k (lt i j)) R
theorem kY:∀ {t:KasT α}{f:α->KasT β}{R:β->Prop},kOk lt n t (λa=>kOk lt n (f a) R)->kOk lt n (t.bind f) R
 |.ret _,_,_,h=>h
 |.ask _ _ _,_,_,h=>{h.1,h.2.1,h.2.2.1,kY h.2.2.2}
theorem v5:∀ {t:KasT α}{R b:α->Prop},kOk lt n t R->(∀a,R a->b a)->kOk lt n t b
 |.ret _,_,_,h,m=>m _ h
 |.ask _ _ _,_,_,h,m=>{h.1,h.2.1,h.2.2.1,v5 h.2.2.2 m}
structure SO(lt:Nat->Nat->Bool)(n:Nat):Prop where
 irr:∀i,i<n->lt i i=ah
 trans:∀i j k,i<n->j<n->k<n->lt i j=ae->lt j k=ae->lt i k=ae
 tot:∀i j,i<n->j<n->i≠j->lt i j=ah->lt j i=ae
def PP(n:Nat)(p:ANt):Prop:=p.Perm (cG n).toArray
def gt(p:ANt)(k:Nat):Nat:=p.getD k 0
theorem kZ{p:ANt}(h:k<p.size):p[k]?=Y (gt p k):=by unfold gt;rw[fW,ck h];rfl
theorem PP.size{p:ANt}(h:PP n p):p.size=n:=by have:=h.size_eq;simpa using this
theorem PP.blt{p:ANt}(h:PP n p)(c:k<n):gt p k<n:=by have b:=h.size;have m:gt p k∈p:=Array.mem_of_getElem? (kZ ());have a:gt p k∈(cG n).toArray:=(sZ h).mp m;simpa using a
theorem PP.inj{p:ANt}(h:PP n p)(r:i<n)(q:j<n)(e:gt p i=gt p j):i=j:=by
 have o:=h.size;have d:p.toList.Nodup:=by
  have:p.toList.Perm (cG n):=by have:=iU.mp h;simpa using this
  exact this.nodup_iff.mpr pO
 have g:=kZ (p:=p) (k:=i) ();have c:=kZ (p:=p) (k:=j) ();rw[<-e] at c;have b:p.toList[i]?=Y (gt p i):=by simpa using g
 have a:p.toList[j]?=Y (gt p i):=by simpa using c
 have #[u,m]:=bp.mp b;have #[t,l]:=bp.mp a;exact(gW d).mp (m.trans l.symm)
def Zj(lt:Nat->Nat->Bool)(p:ANt)(m:Nat):Prop:=∀i j,i<j->j<m->lt (gt p i) (gt p j)=ae
def zmN(lt:Nat->Nat->Bool)(p:ANt)(m:Nat):Prop:=∀i j,i<j->j<m->lt (gt p j) (gt p i)=ae
theorem zex(S:SO lt n){p:ANt}(b:PP n p):∀(f a:Nat),1<=a->a+f<=n->Zj lt p a->kOk lt n (kas_asc p f a) λm=>a<=m/\m<=a+f/\Zj lt p m/\(m<a+f->lt (gt p m) (gt p (m-1))=ae)
 |0,a,h1,h2,hr=>{bo _,bo _,hr,λz=>absurd z (gb _)}
 |f+1,a,h1,h2,hr=>by
  refine{b.blt (),b.blt (),(λz=>by have:=b.inj () () z;lia),?_};show kOk lt n (if lt (gt p a) (gt p (a-1))=ae then .ret a else kas_asc p f (a+1)) _;by_cases c:lt (gt p a) (gt p (a-1))=ae
  .rw[ao c];exact{bo _,(),hr,λ_=>c}
  .rw[ag c];have g:lt (gt p (a-1)) (gt p a)=ae:=S.tot _ _ (b.blt ()) (b.blt ()) (λz=>by have:=b.inj () () z;lia) (fe.mpr c);refine v5 (zex S b f (a+1) () () λi j d q=>?_) λm ⟨o,l,k,h⟩=>{(),(),k,λz=>h ()};by_cases hja:j<a
   .exact hr i j d hja
   .obtain rfl:j=a:=by lia
    by_cases hi:i=j-1
    .rw[hi];exact g
    .exact S.trans _ _ _ (b.blt ()) (b.blt ()) (b.blt ()) (hr i (j-1) () ()) g
theorem zfH(S:SO lt n){p:ANt}(b:PP n p):∀(f a:Nat),1<=a->a+f<=n->zmN lt p a->kOk lt n (kas_desc f p a 0) λr=>r.1=p/\r.2.2=0/\a<=r.2.1/\r.2.1<=a+f/\zmN lt p r.2.1
 |0,a,h1,h2,hr=>{U,U,bo _,bo _,hr}
 |f+1,a,h1,h2,hr=>by
  refine{b.blt (),b.blt (),(λz=>by have:=b.inj () () z;lia),?_};show kOk lt n (if lt (gt p a) (gt p (a-1))=ae then (if 0 > 0 then _ else kas_desc f p (a+1) 0) else .ask (gt p (a-1)) (gt p a) λd=>if d=ae then .ret (p,a,0) else kas_desc f p (a+1) (0+1)) _;by_cases c:lt (gt p a) (gt p (a-1))=ae
  .rw[ao c,ag ()];refine v5 (zfH S b f (a+1) () () λi j g u=>?_) λm ⟨l,k,t,q,h⟩=>{l,k,(),(),h};by_cases hja:j<a
   .exact hr i j g hja
   .obtain rfl:j=a:=by lia
    by_cases hi:i=j-1
    .rw[hi];exact c
    .exact S.trans _ _ _ (b.blt ()) (b.blt ()) (b.blt ()) c (hr i (j-1) () ())
  .rw[ag c];have o:lt (gt p (a-1)) (gt p a)=ae:=S.tot _ _ (b.blt ()) (b.blt ()) (λz=>by have:=b.inj () () z;lia) (fe.mpr c);refine{b.blt (),b.blt (),(λz=>by have:=b.inj () () z;lia),?_};show kOk lt n (if lt (gt p (a-1)) (gt p a)=ae then .ret (p,a,0) else _) _;rw[ao o];exact{U,U,bo _,dE _ _,hr}
theorem zit{p:ANt}(b:m<=p.size)(c:k<m):gt (kas_rev p 0 m) k=gt p (m-1-k):=by have e:=getElem?_mirror_all (xs:=p) (i:=0) (j:=m) b k;rw[ao {bQ _,c}] at e;have a:=kZ (p:=kas_rev p 0 m) (k:=k) (by unfold kas_rev;rw[mirror_size];lia);have d:=kZ (p:=p) (k:=m-1-k) ();unfold kas_rev at a ⊢;rw[e,show 0+m-1-k=m-1-k by lia,d] at a;exact(bX a).symm
theorem PP.rev{p:ANt}(h:PP n p)(m:Nat):PP n (kas_rev p 0 m):=ug (mirror_perm _ _ _ _) h
theorem zkI(S:SO lt n){p:ANt}(b:PP n p)(k:1<=m)(t:m<=n)(h:zmN lt p m):kOk lt n (kas_tail3 m n p) λr=>PP n r.2/\Zj lt r.2 r.1/\1<=r.1/\r.1<=n:=by refine kY (v5 (zex S (b.rev m) (n-m) m k () λi j g d=>?_) λa ⟨o,l,c,_⟩=>{b.rev m,c,(),()});have q:=b.size;rw[zit () (),zit () d];exact h _ _ () ()
theorem ziu(S:SO lt n){p:ANt}(a:PP n p)(G:1<=n):kOk lt n (kas_count n p) λr=>PP n r.2/\Zj lt r.2 r.1/\1<=r.1/\r.1<=n:=by
 refine kY (v5 (zex S a (n-1) 1 (bo _) () λi j d q=>by lia) λm ⟨g,y,b,o⟩=>?_);by_cases e:(m==n)=ae
 .rw[ao e];exact{a,b,g,()}
 .rw[ag e];have D:m≠n:=by simpa using e
  by_cases h:m > 1
  .rw[ao h];refine{a.blt (),a.blt (),(λz=>by have:=a.inj () () z;lia),?_};show kOk lt n (if lt (gt p 0) (gt p (m-1))=ae then .ret (m,p) else _) _;rw[ao (b 0 (m-1) () ())];exact{a,b,g,()}
  .rw[ag h];obtain rfl:m=1:=by lia
   have c:=o ();refine kY (v5 (zfH S a (n-2) 2 () () λi j d q=>?_) λr ⟨l,v,u,t,k⟩=>?_)
   .obtain rfl:j=1:=by lia
    obtain rfl:i=0:=by lia
    exact c
   .rw[ag (),l];exact zkI S a () () k
theorem JK(S:SO lt n){p:ANt}(a:PP n p){k:Nat}(q:k<n)(g:Zj lt p k):∀(f l r:Nat),l<=r->r<=k->r-l<=f->(∀i,i<l->lt (gt p i) (gt p k)=ae)->(∀i,r<=i->i<k->lt (gt p k) (gt p i)=ae) ->
  kOk lt n (kas_place p k f l r) λm=>m<=k/\(∀i,i<m->lt (gt p i) (gt p k)=ae)/\∀i,m<=i->i<k->lt (gt p k) (gt p i)=ae
 |0,l,r,h1,h2,h3,h4,h5=>{(),h4,λi h b=>h5 i () b}
 |f+1,l,r,h1,h2,h3,h4,h5=>by
  unfold kas_place;by_cases c:l >= r
  .rw[ao c];exact{(),h4,λi h b=>h5 i () b}
  .rw[ag c];refine{a.blt (),a.blt (),(λz=>by have:=a.inj () () z;lia),?_};show kOk lt n (if lt (gt p k) (gt p ((l+r)/2))=ae then _ else _) _;by_cases d:lt (gt p k) (gt p ((l+r)/2))=ae
   .rw[ao d];refine JK S a q g f l ((l+r)/2) () () () h4 λi h b=>?_;by_cases e:i=(l+r)/2
    .rw[e];exact d
    .exact S.trans _ _ _ (a.blt ()) (a.blt ()) (a.blt ()) d (g _ i () b)
   .rw[ag d];have o:lt (gt p ((l+r)/2)) (gt p k)=ae:=S.tot _ _ (a.blt ()) (a.blt ()) (λz=>by have:=a.inj () () z;lia) (fe.mpr d);refine JK S a q g f ((l+r)/2+1) r () () () (λi h=>?_) h5;by_cases e:i=(l+r)/2
    .rw[e];exact o
    .exact S.trans _ _ _ (a.blt ()) (a.blt ()) (a.blt ()) (g i _ () ()) o
theorem ziv{p:ANt}(a:k<p.size)(c:d<=k)(b:j<p.size):gt (bubble p k d) j=if j=k-d then gt p k else if k-d<j/\j<=k then gt p (j-1) else gt p j:=by
 have e:=getElem?_bubble a d c j;rw[kZ (p:=bubble p k d) (k:=j) (by rw[bubble_size];exact b)] at e;by_cases h1:j=k-d
 .rw[ao h1,kZ a] at e;rw[ao h1];exact bX e
 .rw[ag h1] at e ⊢;by_cases h2:k-d<j/\j<=k
  .rw[ao h2,kZ ()] at e;rw[ao h2];exact bX e
  .rw[ag h2,kZ b] at e;rw[ag h2];exact bX e
theorem ziw(S:SO lt n):∀(f:Nat){p:ANt}(k:Nat),PP n p->k+f=n->Zj lt p k->kOk lt n (kas_bin f p k) λc=>PP n c/\Zj lt c n
 |0,p,k,hp,hk,hr=>{hp,by rw[<-hk];exact hr}
 |f+1,p,k,hp,hk,hr=>by
  have m:=hp.size;refine kY (v5 (JK S hp () hr k 0 k (bQ _) (bo _) () (λi b=>by lia) (λi r q=>by lia)) λl ⟨h,g,d⟩=>?_);refine ziw S f (k+1) (ug (bubble_perm _ _ _) hp) () λi j a o=>?_;rw[ziv () () (),ziv () () ()];have e:k-(k-l)=l:=by lia
  rw[e];by_cases b:i=l
  .rw[ao b,ag (),ao ()];exact d _ () ()
  .rw[ag b];by_cases hi2:l<i/\i<=k
   .rw[ao hi2,ag (),ao ()];exact hr _ _ () ()
   .rw[ag hi2];by_cases hj1:j=l
    .rw[ao hj1];exact g _ ()
    .rw[ag hj1];by_cases hj2:l<j/\j<=k
     .rw[ao hj2];by_cases hij2:i<j-1
      .exact hr _ _ hij2 ()
      .lia
     .rw[ag hj2];exact hr _ _ a ()
theorem zkJ(S:SO lt n)(d:1<=n):kOk lt n (kas_sort n) λp=>PP n p/\Zj lt p n:=by
 refine kY (v5 (ziu S (p:=om (cG n)) (uD _) d) ?_);rintro r ⟨b,a,c,g⟩;by_cases h:r.1<n
 .rw[ao h,Nat.max_eq_left c];exact ziw S _ _ b () a
 .rw[ag h];obtain e:r.1=n:=by lia
  exact{b,by rw[<-e];rw[e] at a ⊢;exact a}
end
abbrev SMZ:=StateT SortSt Sem
section
variable {M:Model}{st:SortSt}{bf:Nat->SMZ (Option Bool)}{b:Nat->Bool}
end
variable {it:Nat->Keyed}
variable {a b Q:xo}
variable {κ:SortKind}{N:Nat}
section
variable {lt:Nat->Nat->Bool}
end
section
variable {lt:Nat->Nat->Bool}
end
section
variable {lt:Nat->Nat->Bool}
end
section
variable {lt:Nat->Nat->Bool}
end
section
variable {lt:Nat->Nat->Bool}
end
section
variable {lt:Nat->Nat->Bool}
end
theorem ziy{c:Type}{d:Nat->Nat->Bool}{n:Nat}{s:ak}{cmp:Nat->Nat->(Bool->ak->Prop)->ak->Prop}(g:∀i j C,i<n->j<n->i≠j->C (d i j) s->cmp i j C s):∀ {t:KasT c}{R:c->Prop}{Q:c->ak->Prop},kOk d n t R->(∀a,R a->Q a s)->t.kasWp cmp Q s
 |.ret _,_,_,h,m=>m _ h
 |.ask _ _ _,_,_,h,m=>g _ _ _ h.1 h.2.1 h.2.2.1 (ziy g h.2.2.2 m)
def Kp(a:B)(h c:au):Prop:=∀b o,b≠a->h.get? b=Y o->c.get? b=Y o
def vm(c:zS)(p:ANt):zS:=p.toList.map λi=>c.getD i cE
theorem zcH(vs:zS):vm vs (om (cG vs.length))=vs:=by
 unfold vm;apply cY;intro i;simp only[br];by_cases h:i<vs.length
 .rw[bd (l:=vs) h];simp[nR h,h]
 .rw[bV (by lia:vs.length<=i)];simp;lia
theorem YE{a:B}{d:zS}{n:Nat}{κ:SortKind}{lt:Nat->Nat->Bool}{R:PySem.Fin->ak->Prop}(D:s.heap.get? a=Y (seqObj "list" d.toArray n))(ab:d.length<64)(hk:2<=d.length->∀(h:au)(Q:SortKind->ak->Prop),Kp a s.heap h->Q κ { s with heap:=h }->Bf (Bg P w) A (keyKind' d.toArray) Q (λ_ _=>False) { s with heap:=h })(hc:∀(h:au) i j C,Kp a s.heap h->i<d.length->j<d.length->i≠j->C (lt i j) { s with heap:=h }->kas_ask P w A κ d i j C { s with heap:=h })(S:SO lt d.length)(ai:∀h p c,Kp a s.heap h->h.get? a=Y (seqObj "list" (vm d p).toArray c)->PP d.length p->Zj lt p d.length->R (.done (.ret .none)) { s with heap:=h }) :
  Bf (Bg P w) A (Builtin.«list.sort» {[.ref a],[]}) R E s:=by
 have ha:a<s.heap.objs.size:=bF D;obtain⟨e1,o1⟩:∃e1,(s.heap.update a (dG λ_=>(#[]:Array am))).get? a=Y (seqObj "list" #[] e1):={_,get?_update_seq D λ_=>#[]};have J:Kp a s.heap (((s.heap.update a (dG λ_=>(#[]:Array am))).push (seqObj "tuple" d.toArray 0)).push (seqObj "list" #[] 0)):=λb o G e=>
  bg _ (bg _ ((dM _ _ (eh G)).trans e))
 have u:(((s.heap.update a (dG λ_=>(#[]:Array am))).push (seqObj "tuple" d.toArray 0)).push (seqObj "list" #[] 0)).get? a=Y (seqObj "list" #[] e1):=bg _ (bg _ o1);have v:∀k:zS,k.length=d.length->∃c,((((s.heap.update a (dG λ_=>(#[]:Array am))).push (seqObj "tuple" d.toArray 0)).push (seqObj "list" #[] 0)).update a (dG λ_=>k.toArray)).get? a=Y (seqObj "list" k.toArray c):=λk _=>{_,get?_update_seq u λ_=>k.toArray};have q:∀k:zS,Kp a s.heap ((((s.heap.update a (dG λ_=>(#[]:Array am))).push (seqObj "tuple" d.toArray 0)).push (seqObj "list" #[] 0)).update a (dG λ_=>k.toArray)):=λk b o G e=>
  (dM _ _ (eh G)).trans (J b o G e)
 rw[list_sort_plain];refine ba (listItems_at D U ?_);refine ba (tj D U ?_ (by rw[bJ,cu];lia) (bQ _));refine ba (seqEpoch_at o1 U ?_);refine ba (mF ?_ (by show d.length<=_;rw[cu];lia));refine ba (nE ?_ (bQ _));refine c8 ?_;show Bf (Bg P w) A _ R E { s with heap:=((s.heap.update a (dG λ_=>(#[]:Array am))).push (seqObj "tuple" d.toArray 0)).push (seqObj "list" #[] 0) };generalize hH:((s.heap.update a (dG λ_=>(#[]:Array am))).push (seqObj "tuple" d.toArray 0)).push (seqObj "list" #[] 0)=g at *
 dsimp only;have up:∀k:zS,k.length=d.length->∀p,k=vm d p->PP d.length p->Zj lt p d.length->R (.done (.ret .none)) { s with heap:=g.update a (dG λ_=>k.toArray) }:=λk hl p e t M=>by have #[c,O]:=v k hl;refine ai _ p c (q k) ?_ t M;rw[<-e];exact O
 by_cases h2:d.toArray.size<2
 .have r:d.length<2:=by simpa using h2
  rw[ao h2,ao h2];refine ba (bm ?_);rw[StateT.run_pure];refine ba (bm ?_);dsimp only;have ez:((d.toArray.zip d.toArray).map (·.2))=d.toArray:=by apply pN.mp;rw[Array.toList_map,Array.toList_zip];simp[List.map_snd_zip]
  refine ba (seqEpoch_at u U ?_);rw[show (arrOf (SortSt.mk' general' (d.toArray.zip d.toArray) #[] 7 af))=d.toArray.zip d.toArray from rfl,ez];refine ba (tj u U ?_ (bQ _) (by rw[bJ,cu];lia));simp only[bne_self_eq_false,cH,if_false];exact bm (up d U _ (zcH d).symm (uD _) λi j y hj=>by lia)
 .have r:2<=d.length:=by simpa using h2
  rw[ag h2,ag h2];refine ba (f6 (hk r g (λm l=>m=κ/\l={ s with heap:=g }) J {rfl,rfl}) (λm l hs=>?_) λ_ _ x=>x.elim);have #[rfl,rfl]:=hs;have I:=ziy (s:={ s with heap:=g }) (cmp:=kas_ask P w A m d) (λi j C hi hj y hC=>hc g i j C J hi hj y hC) (zkJ S ()) (Q:=λp l=>l={ s with heap:=g }/\PP d.length p/\Zj lt p d.length) λp t=>{rfl,t};refine ba (f6 (kat_run (ks:=d) (Q:=λz l=>∃p:ANt,arrOf z=p.map (kas_item (d.toArray.zip d.toArray))/\failedOf z=af/\l={ s with heap:=g }/\PP d.length p/\Zj lt p d.length) rfl r ab (λp z l _ a2 a3 a4=>{p,a2,a3,a4}) I) ?_ λ_ _ e=>e);rintro⟨⟨⟩,z⟩ l ⟨p,T,hf,rfl,t,M⟩;dsimp only;have k:=kat_snds (ks:=d) U T;have ol:(vm d p).length=d.length:=by unfold vm;rw[bh,bW,t.size]
  rw[k];refine ba (seqEpoch_at u U ?_);refine ba (tj u U ?_ (bQ _) (by show (om (vm d p)).size<=_;rw[bJ,ol,cu];lia));rw[hf];simp only[bne_self_eq_false,cH,if_false];exact bm (up (vm d p) ol p U t M)
theorem zcI{l:B}{vs:zS}{κ:SortKind}{lt:Nat->Nat->Bool}{Q:nA}(z:vs.length<64)(S:SO lt vs.length)(v:∀R:zS->ak->Prop,(∀(h:au)(g:Nat),(∀b o,s.heap.get? b=Y o->h.get? b=Y o)->R vs { s with heap:=h,toks:=g })->Bf (Bg P w) A.in1 (collect (.ref l)) R E s)(M:2<=vs.length->∀(h:au)(g:Nat)(Q:SortKind->ak->Prop),(∀b o,s.heap.get? b=Y o->h.get? b=Y o)->Q κ { s with heap:=h,toks:=g }->Bf (Bg P w) A.in1.in1 (keyKind' vs.toArray) Q (λ_ _=>False) { s with heap:=h,toks:=g })(hc:∀(h:au)(g:Nat) i j C,(∀b o,s.heap.get? b=Y o->h.get? b=Y o)->i<vs.length->j<vs.length->i≠j->C (lt i j) { s with heap:=h,toks:=g }->kas_ask P w A.in1.in1 κ vs i j C { s with heap:=h,toks:=g })(D:∀(h:au)(g:Nat)(d:au)(p:ANt)(c:Nat),(∀b o,s.heap.get? b=Y o->h.get? b=Y o)->(∀b o,h.get? b=Y o->d.get? b=Y o)->d.get? h.objs.size=Y (seqObj "list" (vm vs p).toArray c)->PP vs.length p->Zj lt p vs.length->Q (.ref h.objs.size) { s with heap:=d,toks:=g }) :
  Bf (Bg P w) A (call (.builtin "sorted") [.ref l]) Q E s:=by
 refine iZ sK rE rF (rG _) ?_;unfold Builtin.«sorted»;refine ba (m:=checkCount "sorted" 1 1 _) (bm ?_);refine ba (v _ λh g t=>?_);refine ba (nE ?_ (by rw[cu];lia));have u:(h.push (seqObj "list" vs.toArray 0)).get? h.objs.size=Y (seqObj "list" vs.toArray 0):=bq _ rfl;have r:∀d,Kp h.objs.size (h.push (seqObj "list" vs.toArray 0)) d->∀b o,h.get? b=Y o->d.get? b=Y o:=λd k b o e=>k b o (bK (bF e)) (bg _ e);refine ba (c8 (cr oC {_,u,U} nS (YE (s:={ s with heap:=h.push (seqObj "list" vs.toArray 0),toks:=g }) u z (κ:=κ) (lt:=lt) (λh2 d Q' k q=>?_) (λd i j C k T O y q=>?_) S λd p c k J I G=>?_) (oE _)))
 .exact M h2 d g Q' (λb o e=>r d k b o (t b o e)) q
 .exact hc d g i j C (λb o e=>r d k b o (t b o e)) T O y q
 .exact{_,U,bm {_,U,D h g d p c t (r d k) J I G}}
def yc(a b:Str×Int):Bool:=if a.1=b.1 then decide (a.2<b.2) else decide (a.1.cps.toList<b.1.cps.toList)
def ib(h:au)(v:am)(q:Str×Int):Prop:=∃a o t u n,v=.ref a/\h.get? a=Y o/\o.cls=.type "tuple"/\o.data=.seq #[.str q.1 t,.int q.2 u] n
theorem zkK{a c:Str}{Q:Bool->ak->Prop}(h:Q (decide (a.cps.toList<c.cps.toList)) s):Bf (Bg P w) A (oneLt' ae (.str a t) (.str c u)) Q E s:=by rw[<-keyLt'_oneType];exact kas_lt_str h
theorem zkL{a c:Int}{Q:Bool->ak->Prop}(h:Q (decide (a<c)) s):Bf (Bg P w) A (oneLt' ah (.int a t) (.int c u)) Q E s:=
 kat_one _ _ (sG (show W.BoolBack Q (.bool (decide (a<c))) s from h))
theorem zah{x y:am}{a b:Str×Int}{Q:Bool->ak->Prop}(k:ib s.heap x a)(i:ib s.heap y b)(h:Q (yc a b) s)(m:a≠b):Bf (Bg P w) A (keyLt' (tuples' ae) x y) Q E s:=by
 have #[p,o,t,u,n,rfl,l,I,q]:=k;have #[p2,D,z,v,G,rfl,c,r,d]:=i;refine kat_lt l q c d (kat_cons (wpAny_eqBool_str (kat_go (λe=>kat_yes (kat_cons (wpAny_eqBool_int (kat_go (λg=>?_) λg=>kat_no ?_)))) λe=>kat_no ?_)))
 .exact absurd (tq (of_decide_eq_true e) (by simpa using g)) m
 .have e:=of_decide_eq_true e;unfold yc at h;rw[ao e] at h;exact zkL h
 .have e:=of_decide_eq_false e;unfold yc at h;rw[ag e] at h;exact zkK h
theorem JM{c:zS}{qs:List (Str×Int)}{Q:SortKind->ak->Prop}(l:c.length=qs.length)(d:∀(i:Nat)(v:am)(q:Str×Int),c[i]?=Y v->qs[i]?=Y q->ib s.heap v q)(h2:0<c.length)(h:Q (tuples' ae) s) :
  Bf (Bg P w) A (keyKind' c.toArray) Q E s:=by
 have T:∀(c:zS)(qs:List (Str×Int)),c.length=qs.length->(∀(i:Nat)(v:am)(q:Str×Int),c[i]?=Y v->qs[i]?=Y q->ib s.heap v q)->∃g,KatTups s.heap c g/\g.length=c.length/\∀v∈g,∃x t,v=lL x t:=by
  intro c;induction c with
  |nil=>exact λqs _ _=>{[],trivial,U,nofun}
  |cons v r ih=>
   intro qs l d
   match qs,l with
   |q::qr,l=>
    have #[g,k,m,kf]:=ih qr (by simpa using l) λi y D O M=>d (i+1) y D (by simpa using O) (by simpa using M);have #[a,o,t,u,n,rfl,G,J,I]:=d 0 v q U rfl;refine{.str q.1 t::g,uR G J I U k,by simp[m],λz hz=>?_};obtain rfl|hz:=bn.mp hz
    .exact{_,_,U}
    .exact kf z hz
 have #[g,k,m,kf]:=T c qs l d;refine kat_kind (T:=.type "str") k () (λv d=>?_) () h;have #[x,t,rfl]:=kf v d;exact Looks.of_pure rfl
theorem zcJ(h:x.cps.toList=y.cps.toList):x=y:=by have #[a]:=x;have #[b]:=y;have:a=b:=pN.mp h;rw[this]
theorem YF{d:List (Str×Int)}(r:d.Nodup):SO (λi j=>yc (d.getD i ("",0)) (d.getD j ("",0))) d.length where
 irr:=λi _=>by unfold yc;rw[ao rfl];exact Bk ()
 trans:=λi j k _ _ _ l g=>by
  generalize d.getD i ("",0)=a at *
  generalize d.getD j ("",0)=b at *
  generalize d.getD k ("",0)=c at *
  unfold yc at *
  by_cases e1:a.1=b.1
  .rw[ao e1] at l;by_cases e2:b.1=c.1
   .rw[ao e2] at g;rw[ao (e1.trans e2)];have l:=of_decide_eq_true l;have g:=of_decide_eq_true g;exact Bj ()
   .rw[ag e2] at g;rw[ag (by rw[e1];exact e2),e1];exact g
  .rw[ag e1] at l;have l:=of_decide_eq_true l;by_cases e2:b.1=c.1
   .rw[ag (by rw[<-e2];exact e1),<-e2];exact Bj l
   .rw[ag e2] at g;have g:=of_decide_eq_true g;have o:=List.lt_trans l g;rw[ag (λz=>by rw[z] at o;exact List.lt_irrefl _ o)];exact Bj o
 tot:=λi j u t m h=>by
  have q:d.getD i ("",0)≠d.getD j ("",0):=λz=>m (by rw[bA,bA,bd u,bd t] at z;exact(gW r).mp z)
  generalize d.getD i ("",0)=a at *
  generalize d.getD j ("",0)=b at *
  unfold yc at *
  by_cases e:a.1=b.1
  .rw[ao e] at h;rw[ao e.symm];have h:=of_decide_eq_false h;have:a.2≠b.2:=λz=>q (tq e z);exact Bj ()
  .rw[ag e] at h;rw[ag (λz=>e z.symm)];have h:=of_decide_eq_false h;refine Bj ?_;obtain z|z:=List.le_iff_lt_or_eq.mp (List.not_lt.mp h)
   .exact z
   .exact absurd (zcJ z.symm) e
def Ac(h:au)(d:B)(es:Array DictEntry)(c:Nat):Prop:=∃o,h.get? d=Y o/\o.ExactDict/\o.data=.dict es c
theorem Ac.type{es:Array DictEntry}{c:Nat}(x:Ac s.heap d es c):s.TypeIs (.ref d) "dict":=let ⟨o,ho,hc,_⟩:=x;{o,ho,hc.1}
theorem Ac.at{es:Array DictEntry}{ep:Nat}(x:Ac h d es ep)(e:∀o,h.get? d=Y o->h'.get? d=Y o):Ac h' d es ep:=let ⟨o,ho,r⟩:=x;{o,e _ ho,r}
theorem zcK{es:Array DictEntry}{i:Nat}{Q:nA}(lo:(d==sysModules)=ah)(g:Ac s.heap d es i)(q:Q (.ref s.heap.objs.size) { s with heap:=s.heap.push { cls:=.type "dict_keyiterator",data:=.fields #[.ref d,.int 0 0,.int es.size 0,.int i 0] } }):Bf (Bg P w) A (pyIter (.ref d)) Q E s:=by have T:=g.type;have #[o,c,k,h]:=id g;refine mn T F.slot_dict_iter (cr F.slot_dict_iter T F.entry_dict_iter ?_ (F.args_dict_iter_1 _));unfold Builtin.«dict.__iter__»;refine ba ?_;unfold Builtin.Dict.dictSlotNone;refine ba (gu T ?_);show Bf _ _ (pure (bN d)) _ _ s;refine bm ?_;show Bf _ _ (iA d >>= _) _ _ s;unfold iA;rw[ag (by rw[lo];exact bM)];refine ba (bm ?_);refine ba (eE c h ?_);refine ba (iB c h ?_);refine ba (cA (bm {_,U,"dict_keyiterator",_,{_,bq _ U,U},F.slot_dict_keyiterator_next.lookup,?_}));simpa[rawInt] using q
theorem zcL{it d:B}{i ep:Nat}{es:Array DictEntry}{e:DictEntry}{Q:Option am->ak->Prop}(c:s.heap.IsKeyIter it d i es.size ep)(v:Ac s.heap d es ep)(t:es[i]?=Y e)(q:∀h,h.IsKeyIter it d (i+1) es.size ep->cv it s.heap h->Q (Y e.key) { s with heap:=h }):Bf (Bg P w) A (pyNext (.ref it)) Q E s:=by
 have #[o,u,z,m]:=id c;have #[D,k,y,l]:=id v;have G:i<es.size:=by
  obtain h|h:=fM i es.size
  .exact h
  .rw[e9 h] at t;cases t
 unfold pyNext;refine ba (eP (cq (name:=bb "__next__") c.typeIs fK (cr fK c.typeIs mY ?_ (mQ _))));refine ba (bm ?_);refine ba ?_;refine ba ?_
 first|(refine ba (fG c.typeIs (bm ?_)))|(refine ba (gL c.typeIs (bm ?_)))
 refine ba (gC u m ?_);have r:eI "dict_keyiterator"=ah:=by lia
 simp only[r,cH,if_false];show Bf _ _ (if (bN d==cE)=ae then _ else _) _ _ s;rw[ag (show ¬ ((bN d==cE)=ae) from bM)];refine ba (bm ?_);refine ba (eE k l ?_);rw[ag (by simp)];refine ba (bm ?_);refine ba (iB k l ?_);rw[ag (by simp)];refine bm ?_;simp only[show ¬ ((i:Int)<0) from by lia,if_false,cy,t];refine ba ?_
 first|(refine ba (fG c.typeIs (bm ?_)))|(refine ba (gL c.typeIs (bm ?_)))
 refine ba (rH c.typeIs ?_);show Bf _ _ (setField (.ref it) 1 (rawInt ((i:Int)+1)) >>= _) _ _ s;refine ba (ic u m (by simp) ?_);have g:(s.heap.update it (Obj.mapFields (·.setIfInBounds 1 (rawInt ((i:Int)+1))))).IsKeyIter it d (i+1) es.size ep:=by refine{_,cZ _ u (mP (gp m _)),(oN ..).trans z,?_};rw[gp m];simp[rawInt]
 refine ba (c8 ?_);refine ba (rH (s:={ s with heap:=s.heap.update it (Obj.mapFields (·.setIfInBounds 1 (rawInt ((i:Int)+1)))) }) g.typeIs ?_);show Bf _ _ (pure e.key) _ _ _;exact bm (bm {_,U,bm (q _ g (cP ..))})
theorem zfI{it d:B}{i u:Nat}{es:Array DictEntry}{Q:Option am->ak->Prop}(z:A.handled=af)(c:s.heap.IsKeyIter it d i es.size u)(y:Ac s.heap d es u)(v:es.size<=i)(q:∀h,pH it s.heap h->Q af { s with heap:=h }):Bf (Bg P w) A (pyNext (.ref it)) Q E s:=by
 have #[o,r,I,t]:=id c;have #[G,g,D,k]:=id y;unfold pyNext;refine ba (eP (cq (name:=bb "__next__") c.typeIs fK (cr fK c.typeIs mY ?_ (mQ _))));refine ba (bm ?_);refine ba ?_;refine ba ?_
 first|(refine ba (fG c.typeIs (bm ?_)))|(refine ba (gL c.typeIs (bm ?_)))
 refine ba (gC r t ?_);have l:eI "dict_keyiterator"=ah:=by lia
 simp only[l,cH,if_false];show Bf _ _ (if (bN d==cE)=ae then _ else _) _ _ s;rw[ag (show ¬ ((bN d==cE)=ae) from bM)];refine ba (bm ?_);refine ba (eE g k ?_);rw[ag (by simp)];refine ba (bm ?_);refine ba (iB g k ?_);rw[ag (by simp)];refine bm ?_;simp only[show ¬ ((i:Int)<0) from by lia,if_false,cy,e9 v];refine ba ?_
 first|(refine ba (fG c.typeIs (bm ?_)))|(refine ba (gL c.typeIs (bm ?_)))
 show Bf _ _ (setField (.ref it) 0 .none >>= _) _ _ s;refine ba (ic r t (by simp) ?_);show Bf _ _ (newExc (.type "StopIteration") [] >>= _) _ _ _;refine ba ?_;simp only[newExc,newTuple];refine ba (cA ?_ (by size_fits));refine ba (m:=firstArgMember _ _) (nP (a:=cE) (by first|rfl|(simp only[firstArgMember];rfl)) ?_);refine cA ?_ (by size_fits);simp only[raiseNew];refine ba (nD ?_);rw[show A.in1.handled=af from z];refine ba (bm (pI ?_));exact ba (gX (T:="StopIteration") (b:=ae) {_,bq _ U,U} mG (bm (q _ (((cP ..).extBut.push _).push _))))
theorem zgO(D:A.handled=af)(I d:B)(q:d≠I)(es:Array DictEntry)(z:Nat) :
  Walks P w A I [I,d] [I] es.size (λi v=>∃e,es[i]?=Y e/\v=e.key) (λi h=>h.IsKeyIter I d i es.size z/\Ac h d es z) where
 sub:=λb g=>by simp at g;simp[g]
 frame:=λ_ _ _ c u=>{c.1.at λo e=>u I (by simp) o e,c.2.at λo e=>u d (by simp) o e}
 item:=λi s Q E y c m=>by refine zcL c.1 c.2 (ck y) λt l k=>?_;exact m _ t s.toks {_,ck y,U} {l,c.2.at λo e=>k.extBut d o q e} λb o g e=>k.extBut b o (λh=>g (by simp[h])) e
 done:=λs Q E c m=>zfI D c.1 c.2 (bo _) λt r=>m t s.toks λb o g e=>r b o (λh=>g (by simp[h])) e
 self:=λ_ _ _ _ c m=>si c.1 m
section
open PySem.SeqAt
open PySem.AutoSeq1 (wpAny_loadPart')
open PySem.MeetsSeq PySem.MeetsSeq2 PySem.MeetsSeq3
theorem JN(l b:B)(x y:Str)(i j:Int)(t u o z:Tok)(n n2:Nat)(dd O:Option B)(T D:Array (Option am)) :
  Meets (Builtin.«tuple.__lt__» {[.ref l,.ref b],[]}) (λ_ R s=>s.heap.get? l=Y { cls:=.type "tuple",dict:=dd,data:=.seq #[.str x t,.int i u] n,slots:=T } /\
   s.heap.get? b=Y { cls:=.type "tuple",dict:=O,data:=.seq #[.str y o,.int j z] n2,slots:=D }/\R (.ok (.ret (.bool (yc (x,i) (y,j))))) s):=
 .of_wp λprog w A R s h=>by
  have #[v,g,d,m,r]:=s;have #[J,M,h]:=h;have f2:=AutoSeq1.sub_tuple_tuple;have I:∀(E:nA)(Q:nA)(s:ak),Q (.bool (decide (x.cps.toList<y.cps.toList))) s->Bf (Bg prog w) A.in1 (richCompare .Lt (.str x t) (.str y o)) Q E s:=λE Q s q=>(PyProof.Rows.lt_str q:Bf (Bg prog w) A.in1 (Bi .Lt (.str x t) (.str y o)) Q E s);have G:=HT.rcLt_int A.in1 {v,g,d,m,r} i u j z prog w;by_cases e:x=y
  .subst e;have c:=lN (A:=A.in1) (s:={v,g,d,m,r}) x t x o prog w;rw[beq_self_eq_true] at c;unfold yc at h;rw[ao rfl] at h;by_cases e2:i=j
   .subst e2;have k:=og (A:=A.in1) (s:={v,g,d,m,r}) i u i z prog w;rw[beq_self_eq_true] at k
    wp_walk using iC J,iC M,c,k
    exact{_,U,by simpa[Builtin.Tuple.tupleCompareSizes] using h}
   .have k:=og (A:=A.in1) (s:={v,g,d,m,r}) i u j z prog w;rw[show (i==j)=ah from by simpa using e2] at k
    wp_walk using iC J,iC M,c,k,G
    exact{_,U,by simpa using h}
  .have c:=lN (A:=A.in1) (s:={v,g,d,m,r}) x t y o prog w;rw[show (x==y)=ah from by simpa using e] at c;unfold yc at h;rw[ag e] at h
   wp_walk using iC J,iC M,c,I
   exact{_,U,by simpa using h}
end
theorem Ac.lt{es:Array DictEntry}{c:Nat}(x:Ac h d es c):d<h.objs.size:=let ⟨_,ho,_⟩:=x;bF ho
theorem zbh{d:B}{es:Array DictEntry}{ep:Nat}(lo:(d==sysModules)=ah):W.KdlSrc P w "dict" d d es.size (λi v=>∃e,es[i]?=Y e/\v=e.key) (λh=>Ac h d es ep) where
 type:=λ_ c=>c.type
 there:=λ_ c=>{c.lt,c.lt}
 keep:=λ_ _ c k=>c.at λo e=>k d (.inl U) o e
 notList:=by lia
 notTuple:=by lia
 hint:=λ_ _ _ _ c g=>W.kdl_hint_dict c.type g
 iter:=λ_ _ l c=>{_,_,(λ_ _ g=>zcK lo c g),zgO l _ d (bK c.lt) es ep,{{_,bq _ U,U,U},c.at λo e=>bg _ e}}
theorem Vg{G:Nat->am->Prop}{M:au->Prop}{R:zS->ak->Prop}(K:W.KdlSrc P w T r d n G M)(hh:A.handled=af)(u:M s.heap)(hn:n<=Bb)(h:∀(k:au)(t:Nat)(D:zS),(∀b o,s.heap.get? b=Y o->k.get? b=Y o)->D.length=n->(∀j v,D[j]?=Y v->G j v)->R D { s with heap:=k,toks:=t }) :
  Bf (Bg P w) A (collect (.ref r)) R E s:=by
 have #[O,ld]:=K.there _ u;unfold collect;refine ba (oF (dt m8 ?_));rw[cK iD _];show Bf _ A.in1 (newList [] >>= λl=>again (.builtin "list.__iadd__" {[l,.ref r],[]})) _ _ s;refine ba (cA ?_);refine bm {eQ eT _,dt pP ?_};rw[cK eT _];have hS:(s.heap.push { cls:=.type "list",data:=.seq ([]:zS).toArray }).get? s.heap.objs.size=Y { cls:=.type "list",data:=.seq #[] }:=bq _ rfl;show Bf _ A.in1 (cV (.ref s.heap.objs.size) (.ref r) (.ref s.heap.objs.size)) _ _ _;have I:=W.kdl_extend (A:=A) (s:={ s with heap:=s.heap.push { cls:=.type "list",data:=.seq ([]:zS).toArray } }) (R:=λ(q:aB)(z:ak)=>∃(k:au)(t:Nat)(i:Array am)(c:Nat),q=.ok (.ret (.ref s.heap.objs.size))/\z={ s with heap:=k,toks:=t } /\
   (∀b o,s.heap.get? b=Y o->k.get? b=Y o)/\k.get? s.heap.objs.size=Y { cls:=.type "list",dict:=af,data:=.seq i c,slots:=#[] }/\ItemsOf G i n) K hh (K.keep _ _ u λb _ o e=>bg _ e) s.heap.objs.size (dP O) (dP ld) (.ref s.heap.objs.size) 0 hS
  (λk t i c y m g=>{k,t,i,c,U,U,λb o e=>y b o (bK (bF e)) (bg _ e),m,g}) hn
 refine f6 I (λJ z x=>?_) λe z x=>?_
 .cases J with
  |done f=>
   have #[k,t,i,c,e,rfl,y,m,g]:=x;cases e;show Bf _ A (load s.heap.objs.size >>= _) _ _ _;refine ba (oI m ?_);exact bm (h k t i.toList y (by rw[bW];exact g.1) λj v e=>g.2 j v (by rw[<-ce];exact e))
  |again c=>
   refine{x.1,gg x.2 λq z x=>?_};have #[k,t,i,c,rfl,rfl,y,m,g]:=x;show Bf _ A (load s.heap.objs.size >>= _) _ _ _;refine ba (oI m ?_);exact bm (h k t i.toList y (by rw[bW];exact g.1) λj v e=>g.2 j v (by rw[<-ce];exact e))
 .have #[k,t,i,c,e',_]:=x;cases e'
def zD(q:Str×Int):xt:=[.inr q.1,.inl q.2]
abbrev zlZ:RC:=λxs H Q=>∃(a:B)(c:ya)(d:List (Str×Int)),xs=[.ref a]/\H a=Y (.dT c)/\c.map (·.1)=d.map zD/\c.length<64 /\
 ∀(l:B)(ps:List (B×(Str×Int))),H l=af->(ps.map (·.2)).Perm d->(ps.map (·.2)).Pairwise (λa b=>yc a b=ae)->(∀n∈ps,H n.1=Y (.tup [.str n.2.1,.int n.2.2]))->Q (.ref l) (upd H l (.lst (ps.map λn=>V.ref n.1)))
theorem yW{k g:Type}{F:k->g->Prop}:∀ {d:List k}{c:List g},Bl F d c->∀ {i:Nat}{a:k}{b:g},d[i]?=Y a->c[i]?=Y b->F a b
 |_,_,.nil,i,a,b,h,_=>by simp at h
 |_,_,.cons x r,0,a,b,h1,h2=>by simp only[ca,cz] at h1 h2;subst h1 h2;exact x
 |_,_,.cons x r,i+1,a,b,h1,h2=>yW r (by simpa using h1) (by simpa using h2)
theorem ib.keep{q:Str×Int}(x:ib h v q)(k:∀b o,h.get? b=Y o->h'.get? b=Y o):ib h' v q:=by have #[a,o,t,u,n,e,c,r]:=x;exact{a,o,t,u,n,e,k _ _ c,r}
theorem Xp{σ:St}{H:Hp}{s:ak}{a:B}{q:Str×Int}(I:aN X aa σ H s)(h:H a=Y (.tup [.str q.1,.int q.2])):ib s.heap (.ref a) q:=by
 have #[d,c,#[o,g,k,n,i],_]:=I.tuple (aX.of h);cases c with
 |cons r1 rr=>
  cases rr with
  |cons r2 rn=>
   cases rn;have #[t,rfl]:=r1;have #[u,rfl]:=r2;exact{a,o,t,u,n,U,g,k,i}
theorem xI{c d:Type}{f:c->d}:∀ {l:List c},(l.map f).Nodup->l.Nodup
 |[],_=>dU
 |a::r,h=>by rw[bC,cx] at h;exact cx.mpr {λz=>h.1 (bL z),xI h.2}
theorem Xq(hc:X.c=ae):wM X (.builtin "sorted") zlZ:=by
 intro aa s σ H xs us Q I r h;have #[a,D,qs,rfl,ha,hk,aQ,q]:=h;have #[u,rfl,ru]:=xL r;cases ru;have #[hz,lo,xs,G,o,es,ep,ho,m,hd,he,hn]:=(show aT X.p X.w H s.heap a (.dT D) from I.hok a _ ha);have hh:X.A.handled=af:=I.ok.hd hc;have lk:D.length=qs.length:=by have:=congrArg dQ hk;simpa using this
 have lx:D.length=xs.length:=bO G;have an:es.size=xs.length:=by rw[<-bW,he,bh]
 have ab:∀(i:Nat)(x:xt×B×am),xs[i]?=Y x->∃q,qs[i]?=Y q/\x.1=zD q/\H x.2.1=Y (.tup [.str q.1,.int q.2]):=λi x m=>by
  have d:=(bp.mp m).1;obtain⟨kv,g⟩:∃kv,D[i]?=Y kv:={_,bd ()};obtain⟨q,y⟩:∃q,qs[i]?=Y q:={_,bd ()};have rl:=yW G g m;have k:kv.1=zD q:=by
   have k:(D.map (·.1))[i]?=Y kv.1:=by rw[br,g];rfl
   have t:(qs.map zD)[i]?=Y (zD q):=by rw[br,y];rfl
   rw[hk,t] at k;exact(bX k).symm
  refine{q,y,by rw[<-rl.1,k],?_};have:=rl.2.1;rw[k] at this;exact this
 have nq:qs.Nodup:=by
  refine xI (f:=zD) ?_;have e:xs.map (·.1)=qs.map zD:=by
   rw[<-hk];apply cY;intro i;rw[br,br];cases m:xs[i]? with
   |none=>
    have:xs.length<=i:=by simpa using m
    rw[bV (by lia:D.length<=i)];rfl
   |some x=>
    have d:=(bp.mp m).1;have g:D[i]?=Y D[i]:=bd ();rw[g];have:=(yW G g m).1;simp[this]
  rw[<-e];exact hn
 have vv:∀(i:Nat)(v:am)(q:Str×Int),(xs.map λx=>bN x.2.1)[i]?=Y v->qs[i]?=Y q->ib s.heap v q:=λi v q hv y=>by rw[br] at hv;have #[x,m,rfl]:=cm.mp hv;have #[q',ai,_,hH]:=ab i x m;rw[y] at ai;cases ai;exact Xp I hH
 have lv:(xs.map λx=>bN x.2.1).length=qs.length:=by rw[bh];lia
 have T:∀i,i<qs.length->ib s.heap ((xs.map λx=>bN x.2.1).getD i cE) (qs.getD i ("",0)):=λi d=>by
  refine vv i _ _ ?_ ?_
  .rw[bA,bd (by rw[lv];exact d)];rfl
  .rw[bA,bd d];rfl
 have S:=YF nq;rw[<-lv] at S;refine zcI (vs:=xs.map λx=>bN x.2.1) (κ:=tuples' ae) (by rw[bh];lia) S (λR hR=>?_) (λh2 h l Q' O q'=>?_) (λh l i j C O d J M q'=>?_) λh l h' p c k1 k2 hD hp hr=>?_
 .refine Vg (zbh (ep:=ep) (es:=es) lo) hh {o,ho,m,hd} (by rw[an];lia) λh' l vs O hl hG=>?_;have ev:vs=xs.map λx=>bN x.2.1:=by
   apply cY;intro i;by_cases d:i<vs.length
   .have #[e,as,ek]:=hG i vs[i] (bd d);have t:es.toList[i]?=Y e:=by rw[ce];exact as
    rw[he,br] at t;have #[x,ar,ex]:=cm.mp t;rw[bd d,ek,br,ar,<-ex];rfl
   .rw[bV (),bV (by rw[bh];lia)]
  rw[ev];exact hR h' l O
 .exact JM (s:={ s with heap:=h,toks:=l }) lv (λi v q hv y=>(vv i v q hv y).keep O) () q'
 .rw[lv] at d J;refine zah (s:={ s with heap:=h,toks:=l }) ((T i d).keep O) ((T j J).keep O) q' λz=>M ?_;rw[bA,bA,bd d,bd J] at z;exact(gW nq).mp z
 .have I1:aN X aa σ H { s with heap:=h,toks:=l }:=I.kept k1;have ps:∃ps:List (B×(Str×Int)),ps.map (λn=>bN n.1)=vm (xs.map λx=>bN x.2.1) p/\ps.map (·.2)=p.toList.map (λi=>qs.getD i ("",0))/\∀n∈ps,H n.1=Y (.tup [.str n.2.1,.int n.2.2]):=by
   have pl:∀i∈p.toList,i<xs.length:=λi d=>by
    have:i∈p:=by simpa using d
    have:=(sZ hp).mp this;rw[bh] at this;simpa using this
   refine{p.toList.map λi=>((xs.getD i ([],0,.none)).2.1,qs.getD i ("",0)),?_,by rw[fm];rfl,λn hn=>?_}
   .unfold vm;rw[fm];refine dR λi d=>?_;have:=pl i d;simp[bA,br,bd this]
   .have #[i,d,rfl]:=bH.mp hn;have hl:=pl i d;have #[q,y,_,hH]:=ab i xs[i] (bd hl);have k:xs.getD i ([],0,.none)=xs[i]:=by rw[bA,bd hl];rfl
    have t:qs.getD i ("",0)=q:=by rw[bA,y];rfl
    show H (xs.getD i ([],0,.none)).2.1=Y (.tup [.str (qs.getD i ("",0)).1,.int (qs.getD i ("",0)).2]);rw[k,t];exact hH
  have #[ps,k,t,aj]:=ps;have vr:aP (ps.map λn=>V.ref n.1) (ps.map λn=>bN n.1):=by
   clear k t aj;induction ps with
   |nil=>exact .nil
   |cons n r ih=>exact .cons U ih
  have al:p.size=xs.length:=by have:=hp.size;rw[bh] at this;exact this
  have az:ps.length=xs.length:=by have:=congrArg dQ k;unfold vm at this;simpa[al] using this
  have I2:aN X aa σ (upd H h.objs.size (.lst (ps.map λn=>V.ref n.1))) { s with heap:=h',toks:=l }:=I1.laid (s:={ s with heap:=h,toks:=l }) (a:=h.objs.size) (o:=.lst (ps.map λn=>V.ref n.1)) (t':=l) k2 (bo _)
   {by rw[bh];lia,ps.map λn=>bN n.1,c,vr,by rw[k];exact hD}
  refine{.ref h.objs.size,_,I2,U,q _ ps (I1.hok.fresh (bo _)) ?_ ?_ aj}
  .rw[t];have pr:p.toList.Perm (cG qs.length):=by have:=iU.mp hp;rw[lv] at this;simpa using this
   refine(pr.map _).trans ?_;have:(cG qs.length).map (λi=>qs.getD i ("",0))=qs:=by
    apply cY;intro i;rw[br];by_cases d:i<qs.length
    .rw[nR d,bd d];simp[bA,bd d]
    .rw[bV (by simpa using d),bV ()];rfl
   rw[this]
  .rw[t,iQ,gD];intro i j d J M;rw[bW] at d J;have g1:=kZ d;have g2:=kZ J;have r:=hr i j M (by rw[bh];lia);have x1:p.toList[i]=gt p i:=by rw[ck d] at g1;simpa using g1
   have x2:p.toList[j]=gt p j:=by rw[ck J] at g2;simpa using g2
   rw[x1,x2];exact r
def Itd(a:B)(o:Obj)(c:ya):It:=
 {λi H=>H a=Y (.frz o (.dT c))/\i<c.length,λi H x d=>d=H/\∃k v p,c[i]?=Y (k,v)/\x=.ref p/\H p=Y (.tup (k.map kV)),λi H=>H a=Y (.frz o (.dT c))/\c.length<=i}
theorem zbi{σ:St}{H:Hp}{s:ak}{a:B}{o:Obj}{c:ya}(I:aN X aa σ H s)(M:H a=Y (.frz o (.dT c))) :
  (a==sysModules)=ah/\∃(es:Array DictEntry)(h:Nat),o.data=.dict es h/\Ac s.heap a es h/\es.size=c.length/\∀(i:Nat)(e:DictEntry),es[i]?=Y e->∃(k:xt)(v:V)(p:B),c[i]?=Y (k,v)/\e.key=bN p/\H p=Y (.tup (k.map kV)):=by
 have #[q,hz,z,xs,d,T,es,h,l,G,t,r,hn]:=(show aT X.p X.w H s.heap a (.frz o (.dT c)) from I.hok a _ M);rw[q] at l;cases l;have lx:c.length=xs.length:=bO d;have D:es.size=xs.length:=by rw[<-bW,r,bh]
 refine{z,es,h,t,{o,q,G,t},(),λi e J=>?_};have u:es.toList[i]?=Y e:=by rw[ce];exact J
 rw[r,br] at u;have #[x,g,O]:=cm.mp u;have hl:=(bp.mp g).1;have m:c[i]?=Y c[i]:=bd ();have y:=yW d m g;refine{c[i].1,c[i].2,x.2.1,m,by rw[<-O];rfl,y.2.1}
theorem zeA{P:aq}{w:ax}{K:bE}{tg:av}{a it:B}{o:Obj}{aK:ya}{es:Array DictEntry}{ep:Nat}(hd:o.data=.dict es ep) :
  VU P w K tg (Itd a o aK) [it] it (λi h=>h.IsKeyIter it a i es.size ep) where
 mem:=by simp
 obj:=λi h l b q=>by
  have e:b=it:=by simpa using q
  subst e;have #[o,e,c,d]:=l;exact{o,e,λv z=>by rw[d] at z;cases z}
 keep:=λi h y l k=>l.at λo e=>k it (by simp) o e
 item:=by intro X M D O hc i aa s σ H E I u l G;subst M D O;have #[J,hi]:=G;have #[lo,ab,ai,g,m,hs,t]:=zbi I J;rw[hd] at g;cases g;have #[f0,f1,f2,f3,f4,T]:=u it (by simp);have hx:es[i]?=Y es[i]:=ck ();have #[k,v,p,hk,ek,hp]:=t i _ hx;refine zcL l m hx λy r sb=>?_;have I1:aN X aa σ H { s with heap:=y }:=I.turned (t':=s.toks) (λb o q e=>(sb.2 b q).trans e) f0 f1 f3 f4 T;have #[o',e,c,d]:=id r;exact{_,U,Jv (s:={ s with heap:=y }) e c d () {.ref p,H,I1,by rw[ek];rfl,{U,k,v,p,hk,U,hp},r,λb q=>(u b q).1}}
 done:=by intro X M D O hc i aa s σ H E I u l G;subst M D O;have #[J,hi]:=G;have #[lo,ab,ai,g,m,hs,t]:=zbi I J;rw[hd] at g;cases g;have #[f0,f1,f2,f3,f4,T]:=u it (by simp);exact zfI (I.ok.hd hc) l m () λy eb=>{U,I.turned (t':=s.toks) (λb o q e=>eb b o q e) f0 f1 f3 f4 T}
 self:=λ_ _ _ _ _ l h=>si l h
def iDT(g:TE):TI:=λσ H R=>g σ H λx d=>∃a o c,x=.ref a/\d a=Y (.frz o (.dT c))/\R (Itd a o c) d
theorem ziz{i:TE}(u:PE X l i):PI X tg l (iDT i):=by
 intro aa s σ H R I h;refine aW (u aa s σ H _ I h) ?_;rintro v c ⟨x,G,d,k,m⟩;have #[a,o,O,e,D,q]:=m;subst e;cases k;have #[r,es,M,y,g,J,t]:=zbi d D;refine zcK r g ?_;refine{c.heap.objs.size,[c.heap.objs.size],_,_,G,U,d.kept (t':=c.toks) λb o e=>bg _ e,zeA y,{_,bq _ U,U,U},λb z=>?_,q};have e:b=c.heap.objs.size:=by simpa using z
 subst e;exact d.fpOk (bo _) (d.hok.fresh (bo _))
def ziA:HO->Prop
 |.tup _=>False
 |.own _=>False
 |.tbl _=>False
 |_=>True
theorem aN.relab{σ:St}{H:Hp}{s:ak}{a:B}{u G:HO}(I:aN X aa σ H s)(l:H a=Y u)(k:ziA u)(O:∀o z,X.H₀ a≠Y (.frz o z))(M:aT X.p X.w (upd H a G) s.heap a G):aN X aa σ (upd H a G) s:=by
 have t:∀b,H b=af->b≠a:=λb n z=>by subst z;rw[n] at l;cases l
 have d:∀b xs,H b=Y (.tup xs)->b≠a:=λb xs q z=>by subst z;rw[l] at q;cases q;exact k
 have h:∀b y,H b=Y (.own y)->b≠a:=λb y q z=>by subst z;rw[l] at q;cases q;exact k
 have g:∀b y,H b=Y (.tbl y)->b≠a:=λb y q z=>by subst z;rw[l] at q;cases q;exact k
 refine{I.ok,I.os,I.bare,{I.base.keep,I.base.slot,λb o q n D=>?_,I.base.there,λb xs q=>?_,λb o z q=>?_,λb ps q=>?_},I.loc,I.cell,?_,λx c e=>?_,λp k=>?_,λb v q=>?_,I.len}
 .have:=I.base.free b o q n D;rw[zk (t b this)];exact this
 .have:=I.base.tups b xs q;rw[zk (d b xs this)];exact this
 .have:=I.base.frzs b o z q;rw[zk (λe=>O o z (by rw[<-e];exact q))];exact this
 .have #[m,e]:=I.base.tbls b ps q;exact{m,by rw[zk (g b _ e)];exact e}
 .rw[zk (t _ I.free)];exact I.free
 .have:=I.freeC x c e;rw[zk (t _ this)];exact this
 .have #[h1,J,T]:=I.pin p k;exact{h1,by rw[zk (t _ J)];exact J,T}
 .by_cases D:b=a
  .subst D;rw[zh] at q;cases q;exact M
  .rw[zk D] at q;exact(I.hok b v q).stay (λ_ _ _ r=>r) (λc r=>by rw[zk (h c b r)];exact r) λc xs r=>by rw[zk (d c xs r)];exact r
def znZ(t:TS):TS:=λD σ H=>∃a g h,H a=Y g/\(g=.dT h\/∃o,g=.frz o (.dT h))/\∀o,t
 {λc d=>d a=Y (.frz o (.dT h))/\D.nx c (upd d a g),λv d=>d a=Y (.frz o (.dT h))/\D.rt v (upd d a g),λc d=>d a=Y (.frz o (.dT h))/\D.bk c (upd d a g),λc d=>d a=Y (.frz o (.dT h))/\D.ct c (upd d a g)} σ (upd H a (.frz o (.dT h)))
theorem aT.upd_dT{w:ax}{H:Hp}{h:au}{a:B}{i:ya}{u k:HO}(g:H a=Y u)(d:ziA u)(x:aT P w H h a (.dT i)):aT P w (upd H a k) h a (.dT i):=by
 refine x.stay (λ_ _ _ r=>r) (λc r=>?_) λc xs r=>?_
 .rw[zk λz=>by subst z;rw[g] at r;cases r;exact d];exact r
 .rw[zk λz=>by subst z;rw[g] at r;cases r;exact d];exact r
theorem zmP{J:ap}{t:TS}(y:PS X J t):PS X J (znZ t):=by
 rintro aa s σ H D I ⟨a,u0,k,l,m,h⟩;have pl:ziA u0:=by obtain rfl|⟨o,rfl⟩:=m <;> trivial
 have O:∃o,s.heap.get? a=Y o/\(u0=.dT k\/u0=.frz o (.dT k)):=by
  obtain rfl|⟨o,rfl⟩:=m
  .have #[hz,lo,xs,M,o,es,ep,G,_]:=(show aT X.p X.w H s.heap a (.dT k) from I.hok a _ l);exact{o,G,.inl U}
  .exact{o,(show aT X.p X.w H s.heap a (.frz o (.dT k)) from I.hok a _ l).1,.inr U}
 have #[o,G,m]:=O;have T:aN X aa σ (upd H a (.frz o (.dT k))) s:=by
  obtain rfl|rfl:=m
  .refine I.relab l trivial (λu z q=>?_) {G,aT.upd_dT l trivial (I.hok a _ l)};have:=I.base.frzs a u z q;rw[l] at this;cases this
  .have e:upd H a (.frz o (.dT k))=H:=by
    funext b;unfold upd;split
    .next z=>rw[z];exact l.symm
    .rfl
   rw[e];exact I
 have g:∀ {d:St}{H':Hp}{s':ak},aN X aa d H' s'->H' a=Y (.frz o (.dT k))->aN X aa d (upd H' a u0) s':=λ{d H' s'} i c=>by
  obtain rfl|rfl:=m
  .refine i.relab c trivial (λu z q=>?_) (aT.upd_dT c trivial (show aT X.p X.w H' s'.heap a (.frz o (.dT k)) from i.hok a _ c).2);have:=I.base.frzs a u z q;rw[l] at this;cases this
  .have e:upd H' a (.frz o (.dT k))=H':=by
    funext b;unfold upd;split
    .next z=>rw[z];exact c.symm
    .rfl
   rw[e];exact i
 refine aW (y aa s σ _ _ T (h o)) λf s' q=>?_;cases f with
 |next=>have #[d,H',i,c,q]:=q;exact{d,_,g i c,q}
 |brk=>have #[d,H',i,c,q]:=q;exact{d,_,g i c,q}
 |cont=>have #[d,H',i,c,q]:=q;exact{d,_,g i c,q}
 |ret v=>have #[x,d,H',i,r,c,q]:=q;exact{x,d,_,g i c,r,q}
theorem zeB{a:B}{o:Obj}(Pv:Nat->uU)(h:Pv 0 σ H)(c:∀i σ H,Pv i σ H->H a=Y (.frz o (.dT aK)))(d:∀i k v p σ H,aK[i]?=Y (k,v)->H p=Y (.tup (k.map kV))->Pv i σ H->Bo (.ref p) σ H (Pv (i+1)))(g:∀σ H,Pv aK.length σ H->nx σ H) :
  FoP (Itd a o aK) nx Bo σ H:=JG Pv h (λi σ H l p=>{{c i σ H p,l},by rintro x m ⟨rfl,k,v,q,u,rfl,y⟩;exact d i k v q σ _ u y p}) λσ H p=>{{c _ σ H p,bo _},g σ H p}
mutual
inductive Dat(K:bE)(H:Hp):V->PyData->Prop
 |non:Dat K H .non .none
 |bl (b:Bool):Dat K H (.bl b) (.bool b)
 |int (i:Int):Dat K H (.int i) (.int i)
 |str (x:Str):Dat K H (.str x) (.str x)
 |lst {a:B} {xs:LV} {ds:List PyData}:aM K H a xs->u6 K H xs ds->Dat K H (.ref a) (.list ds)
 |tup {a:B} {xs:LV} {ds:List PyData}:aX K H a xs->u6 K H xs ds->Dat K H (.ref a) (.tuple ds)
inductive u6(K:bE)(H:Hp):LV->List PyData->Prop
 |nil:u6 K H [] []
 |cons {x:V} {d:PyData} {xs:LV} {ds:List PyData}:Dat K H x d->u6 K H xs ds->u6 K H (x::xs) (d::ds)
end
mutual
theorem Dat.reads(I:aN X aa σ H s):∀ {x:V}{d:PyData}{u:am},Dat X.K H x d->aR x u->∃l,Reads s.heap u d l
 |_,_,_,.non,r=>by cases r;exact{_,.none}
 |_,_,_,.bl b,r=>by cases r;exact{_,.bool b}
 |_,_,_,.int i,r=>by have #[t,rfl]:=r;exact{_,.int i t}
 |_,_,_,.str x,r=>by have #[t,rfl]:=r;exact{_,.str x t}
 |_,_,_,.lst hq ha,r=>by cases r;have #[k,g,#[o,n,e,c,_,d],_]:=I.list hq;have #[l,h]:=u6.reads I ha g;exact{_,.list e c d (by simpa using h)}
 |_,_,_,.tup hq ha,r=>by cases r;have #[k,g,#[o,e,c,n,d],_]:=I.tuple hq;have #[l,h]:=u6.reads I ha g;exact{_,.tuple e c d (by simpa using h)}
theorem u6.reads(I:aN X aa σ H s):∀ {xs:LV}{ds:List PyData}{c:zS},u6 X.K H xs ds->aP xs c->∃g,ReadsAll s.heap c ds g
 |_,_,_,.nil,r=>by cases r;exact{_,.nil}
 |_,_,_,.cons hx ht,r=>by
  cases r with
  |cons r1 rr=>
   have #[g,i]:=Dat.reads I hx r1;have #[k,h]:=u6.reads I ht rr;exact{_,.cons i h}
end
section
variable {H':Hp}
theorem aM.mono{a:B}{xs:LV}(k:aJ H H')(h:aM K H a xs):aM K H' a xs:=by
 obtain (h|⟨o,h⟩)|h:=h
 .exact .inl (.inl (k _ _ h))
 .exact .inl (.inr {o,k _ _ h})
 .exact .inr h
end
mutual
def yv:PyData->Bool
 |.none=>ae
 |.int _=>ae
 |.str x=>gN x
 |.list xs=>xl xs
 |.tuple xs=>xl xs
 |.bool _=>ah
 |.dict _=>ah
def xl:List PyData->Bool
 |[]=>ae
 |x::xs=>yv x&&xl xs
end
mutual
theorem zai:∀ {d:PyData},yv d=ae->d.canLay0=ae
 |.none,_=>by simp[gB]
 |.int _,_=>by simp[gB]
 |.str x,h=>by simpa[gB,yv] using h
 |.list xs,h=>by rw[gB];exact YG (by simpa[yv] using h)
 |.tuple xs,h=>by rw[gB];exact YG (by simpa[yv] using h)
 |.bool _,h=>by simp[yv] at h
 |.dict _,h=>by simp[yv] at h
theorem YG:∀ {c:List PyData},xl c=ae->iO c=ae
 |[],_=>by simp[iO]
 |x::xs,h=>by rw[xl,bY] at h;rw[iO,zai h.1,YG h.2];rfl
end
mutual
theorem zaj:∀ {d e:PyData},yv d=ae->yv e=ae->(mo d e=ae↔d=e)
 |.list xs,.list ys,h,h'=>by rw[mo,YH (by simpa[yv] using h) (by simpa[yv] using h'),PyData.list.injEq]
 |.tuple xs,.tuple ys,h,h'=>by rw[mo,YH (by simpa[yv] using h) (by simpa[yv] using h'),PyData.tuple.injEq]
 |.bool _,_,h,_=>by simp[yv] at h
 |.dict _,_,h,_=>by simp[yv] at h
 |.none,.bool _,_,h=>by simp[yv] at h
 |.int _,.bool _,_,h=>by simp[yv] at h
 |.str _,.bool _,_,h=>by simp[yv] at h
 |.list _,.bool _,_,h=>by simp[yv] at h
 |.tuple _,.bool _,_,h=>by simp[yv] at h
 |.none,.dict _,_,h=>by simp[yv] at h
 |.int _,.dict _,_,h=>by simp[yv] at h
 |.str _,.dict _,_,h=>by simp[yv] at h
 |.list _,.dict _,_,h=>by simp[yv] at h
 |.tuple _,.dict _,_,h=>by simp[yv] at h
 |.none,.none,_,_|.none,.int _,_,_|.none,.str _,_,_|.none,.list _,_,_|.none,.tuple _,_,_=>by simp[mo]
 |.int _,.none,_,_|.int _,.int _,_,_|.int _,.str _,_,_|.int _,.list _,_,_|.int _,.tuple _,_,_=>by simp[mo]
 |.str _,.none,_,_|.str _,.int _,_,_|.str _,.str _,_,_|.str _,.list _,_,_|.str _,.tuple _,_,_=>by simp[mo]
 |.list _,.none,_,_|.list _,.int _,_,_|.list _,.str _,_,_|.list _,.tuple _,_,_=>by simp[mo]
 |.tuple _,.none,_,_|.tuple _,.int _,_,_|.tuple _,.str _,_,_|.tuple _,.list _,_,_=>by simp[mo]
theorem YH:∀ {xs c:List PyData},xl xs=ae->xl c=ae->(nF xs c=ae↔xs=c)
 |[],[],_,_=>by simp[nF]
 |[],_::_,_,_=>by simp[nF]
 |_::_,[],_,_=>by simp[nF]
 |x::xs,y::c,h,h'=>by rw[xl,bY] at h h';rw[nF,bY,zaj h.1 h'.1,YH h.2 h'.2,cW]
end
abbrev zmQ(K:bE)(c:Bool):R2:=λx y H Q=>∃d e,Dat K H x d/\Dat K H y e/\(yv d=ae/\yv e=ae/\d.depth<=64/\e.depth<=64)/\∀b:Bool,(b=ae↔d=e)->Q (.bl (if c then !b else b)) H
theorem Xr(h:yv d=ae)(c:d.depth<=64):mN d=ae:=by unfold mN;rw[zai h,Bj c];rfl
theorem ziB(o:X.A.units+64<cLine):Ai X (Bi .NotEq) (zmQ X.K ae):=by intro aa s σ H x y v u Q I g c h;have #[d,e,t,r,#[p1,p2,m,l],q]:=h;have #[D,k]:=t.reads I g;have #[z,i]:=r.reads I c;exact ne_dataH k i (Xr p1 m) (Xr p2 l) o {.bl _,H,I,U,q _ (zaj p1 p2)}
abbrev zn0(c:Bool):R2:=λx y H Q=>∃a o,y=.ref a/\Am H a x o/\Q (.bl (if c then !o.isSome else o.isSome)) H
theorem zbj(i:X.A.units+1<cLine):Ai X (Bi .In) (zn0 ah):=by intro aa s σ H x y v u Q I d c h;have #[a,o,rfl,g,q]:=h;cases c;exact zos i I g d λl k=>{.bl _,H,k,U,q}
theorem zeC(i:X.A.units+1<cLine):Ai X (Bi .NotIn) (zn0 ae):=by intro aa s σ H x y v u Q I d c h;have #[a,o,rfl,g,q]:=h;cases c;exact zkv i I g d λl k=>{.bl _,H,k,U,q}
abbrev Pl:=Str×Int
abbrev Row:=Pl×Int
abbrev zF:=List Row
def zP:zF->Pl->Option Int
 |[],_=>af
 |r::t,p=>(zP t p).or (if r.1=p then Y r.2 else af)
def Xs(c:ya)(q:Row):ya:=xu c (zD q.1) (.int q.2)
def mx(c:zF):ya:=c.foldl Xs []
theorem y7{p q:Pl}(h:zD p=zD q):p=q:=by unfold zD at h;simp only[cW,uK,uL,and_true] at h;exact tq h.1 h.2
theorem zcM:∀(d:zF)(c:ya)(p:Pl),yu (d.foldl Xs c) (zD p)=((zP d p).map V.int).or (yu c (zD p))
 |[],_,_=>rfl
 |r::t,c,p=>by
  rw[fU,zcM t,zP];show _=_;rw[Xs,zhY];cases zP t p with
  |some w=>rfl
  |none=>
   by_cases e:r.1=p
   .subst e;simp
   .rw[ag (λz=>e (y7 z).symm)];simp[e]
theorem Xt(c:zF)(p:Pl):yu (mx c) (zD p)=(zP c p).map V.int:=by unfold mx;rw[zcM,zcn];cases zP c p <;> rfl
theorem zcN(c:zF)(q:Row):mx (c++[q])=xu (mx c) (zD q.1) (.int q.2):=by unfold mx;rw[tQ];rfl
def OkKv(c:ya):Prop:=(c.map (·.1)).Nodup/\∀d∈c,∃(p:Pl)(w:Int),d=(zD p,.int w)
theorem OkKv.put(h:OkKv aK)(p:Pl)(w:Int):OkKv (xu aK (zD p) (.int w)):=by
 cases e:yu aK (zD p) with
 |none=>
  refine{zkx _ h.1 e,λc hk=>?_};rw[jE _ e] at hk;obtain hk|hk:=bP.mp hk
  .exact h.2 c hk
  .exact{p,w,bB.mp hk}
 |some v=>
  have q:(aK.any λc=>decide (c.1=zD p))=ae:=by rw[vZ,e];rfl
  unfold xu;rw[ao q];constructor
  .rw[fm];have:((λx:xt×V=>x.1) ∘ λc:xt×V=>if c.1=zD p then (c.1,V.int w) else c)=λx=>x.1:=by
    funext c
    show (if c.1=zD p then (c.1,V.int w) else c).1=c.1;split <;> rfl
   rw[this];exact h.1
  .intro c hk;have #[z,d,rfl]:=bH.mp hk;by_cases e:z.1=zD p
   .exact{p,w,by rw[ao e,e]}
   .rw[ag e];exact h.2 z d
theorem zak:∀(d:zF)(c:ya),OkKv c->OkKv (d.foldl Xs c)
 |[],_,h=>h
 |r::t,c,h=>zak t _ (h.put r.1 r.2)
theorem k8(c:zF):OkKv (mx c):=zak c [] {dU,λ_ h=>nomatch h}
theorem zkM(c:ya)(k:xt)(v:V):(xu c k v).length<=c.length+1:=by
 unfold xu;split
 .rw[bh];lia
 .rw[bx];simp
theorem zcO:∀(d:zF)(c:ya),(d.foldl Xs c).length<=c.length+d.length
 |[],_=>by simp
 |r::t,c=>by
  have:=zcO t (Xs c r);have:=zkM c (zD r.1) (.int r.2);rw[fU,bG];unfold Xs at *
  lia
theorem jv(c:zF):(mx c).length<=c.length:=by have:=zcO c [];simpa[mx] using this
theorem zbk{d:ya}:(d.map (·.1)).Nodup->∀c∈d,yu d c.1=Y c.2:=by
 induction d with
 |nil=>exact λ_ c h=>nomatch h
 |cons a r ih=>
  intro g c hk;rw[bC,cx] at g;obtain rfl|hk:=bn.mp hk
  .exact xa rfl
  .rw[xb λz=>g.1 (by rw[z];exact bL hk)];exact ih g.2 c hk
theorem Aw :kv∈mx ac↔∃p w,kv=(zD p,.int w)/\zP ac p=Y w:=by
 constructor
 .intro h;have #[p,w,rfl]:=(k8 ac).2 kv h;have:=zbk (k8 ac).1 _ h;rw[Xt] at this;have #[i,c,d]:=cm.mp this;cases d;exact{p,w,U,c}
 .rintro⟨p,w,rfl,h⟩;have e:yu (mx ac) (zD p)=Y (.int w):=by rw[Xt,h];rfl
  have #[kv,g,c]:=bH.mp (zfy e);have:=zbk (k8 ac).1 _ g;rw[c,e] at this;have d:kv=(zD p,V.int w):=tq c (bX this).symm;rw[<-d];exact g
theorem wQ(a:Pl):yc a a=ah:=by unfold yc;rw[ao rfl];exact Bk ()
theorem Yk{a b c:Pl}(g:yc a b=ae)(d:yc b c=ae):yc a c=ae:=by
 unfold yc at *
 by_cases e1:a.1=b.1
 .rw[ao e1] at g;by_cases e2:b.1=c.1
  .rw[ao e2] at d;rw[ao (e1.trans e2)];have g:=of_decide_eq_true g;have d:=of_decide_eq_true d;exact Bj ()
  .rw[ag e2] at d;rw[ag (by rw[e1];exact e2),e1];exact d
 .rw[ag e1] at g;have g:=of_decide_eq_true g;by_cases e2:b.1=c.1
  .rw[ag (by rw[<-e2];exact e1),<-e2];exact Bj g
  .rw[ag e2] at d;have d:=of_decide_eq_true d;have h:=List.lt_trans g d;rw[ag (λz=>by rw[z] at h;exact List.lt_irrefl _ h)];exact Bj h
def pv(l:zF):Prop:=l.Pairwise λa b=>yc a.1 b.1=ae
def xA(d c:zF):Prop:=pv c/\∀p w,(p,w)∈c↔zP d p=Y w/\w≠0
theorem pv.nd{l:zF}(h:pv l):(l.map (·.1)).Nodup:=by unfold eG;rw[iQ];exact oO (λ{a b} h z=>by rw[z,wQ] at h;cases h) h
theorem zal{p:Pl}:∀ {l:zF},(∀r∈l,r.1≠p)->zP l p=af
 |[],_=>rfl
 |r::t,h=>by rw[zP,zal λr c=>h r (bw _ c),ag (h r bu)];rfl
theorem vS{p:Pl}{w:Int}:∀ {l:zF},(l.map (·.1)).Nodup->(zP l p=Y w↔(p,w)∈l)
 |[],_=>by simp[zP]
 |r::t,hn=>by
  rw[bC,cx] at hn;have d:=vS (p:=p) (w:=w) hn.2;by_cases e:r.1=p
  .have z:zP t p=af:=zal λq g c=>hn.1 (by rw[e,<-c];exact bL g);rw[zP,z,ao e];constructor
   .intro h;have:r.2=w:=by simpa using h
    rw[<-e,<-this];exact bu
   .intro h;obtain h|h:=bn.mp h
    .rw[<-h];rfl
    .exact absurd (bL (f:=(·.1)) h) (by rw[<-e];exact hn.1)
  .rw[zP,ag e,Option.or_none,d,bn];constructor
   .exact .inr
   .rintro(h|h)
    .exact absurd (by rw[<-h]) e
    .exact h
theorem jJ:∀ {a b:zF},pv a->pv b->(∀x,x∈a↔x∈b)->a=b
 |[],[],_,_,_=>rfl
 |[],y::_,_,_,h=>absurd ((h y).mpr bu) (by simp)
 |x::_,[],_,_,h=>absurd ((h x).mp bu) (by simp)
 |x::a,y::b,ha,hb,h=>by
  unfold pv at ha hb;rw[on] at ha hb;have e:x=y:=by
   obtain e|e:=bn.mp ((h x).mp bu)
   .exact e
   .obtain e'|e':=bn.mp ((h y).mpr bu)
    .exact e'.symm
    .have:=Yk (ha.1 y e') (hb.1 x e);rw[wQ] at this;cases this
  subst e;have nx:x ∉ a:=λz=>by have:=ha.1 x z;rw[wQ] at this;cases this
  have d:x ∉ b:=λz=>by have:=hb.1 x z;rw[wQ] at this;cases this
  rw[jJ ha.2 hb.2 λz=>?_];constructor
  .intro c;obtain e|e:=bn.mp ((h z).mp (bw _ c))
   .subst e;exact absurd c nx
   .exact e
  .intro c;obtain e|e:=bn.mp ((h z).mpr (bw _ c))
   .subst e;exact absurd c d
   .exact e
theorem vG{c:Type}[DecidableEq c]:∀ {a b:List c},a.Nodup->(∀x∈a,x∈b)->a.length<=b.length
 |[],_,_,_=>bQ _
 |x::a,b,hn,h=>by rw[cx] at hn;have g:=h x bu;have:=vG (a:=a) (b:=b.erase x) hn.2 λy d=>(List.mem_erase_of_ne λz=>hn.1 (by rw[<-z];exact d)).mpr (h y (bw _ d));rw[oP g] at this;have:0<b.length:=p6 g;rw[bG];lia
def nzV(c:xt×V):Bool:=decide (c.2≠.int 0)
theorem zkN(h:xA ac out):((mx ac).filter nzV).length=out.length:=by
 have q:(((mx ac).filter nzV).map (·.1)).Nodup:=ii (gY _ fX) (k8 ac).1;have o:((out.map (·.1)).map zD).Nodup:=by
  have:=h.1.nd;unfold eG at *
  rw[iQ];exact this.imp λ{a b} m z=>m (y7 z)
 have g:∀k∈((mx ac).filter nzV).map (·.1),k∈(out.map (·.1)).map zD:=λk l=>by
  have #[y,c,rfl]:=bH.mp l;rw[da] at c;have #[p,w,rfl,e]:=Aw.mp c.1;have i:w≠0:=λz=>by have:=of_decide_eq_true c.2;rw[z] at this;exact this rfl
  exact bL (bL (f:=(·.1)) ((h.2 p w).mpr {e,i}))
 have d:∀k∈(out.map (·.1)).map zD,k∈((mx ac).filter nzV).map (·.1):=λk l=>by have #[p,v,rfl]:=bH.mp l;have #[#[p,w],u,rfl]:=bH.mp v;have #[e,i]:=(h.2 p w).mp u;exact bH.mpr {(zD p,.int w),da.mpr {Aw.mpr {p,w,U,e},Bj (by simpa using i)},U}
 have t:=vG q g;have r:=vG o d;simp only[bh] at t r;lia
def ZL(z a b i j p q:B)(k:Nat)(h:au):Prop:=IsZip h z a b .none/\IsPair h a (.ref i) (.ref j)/\(∃u v,IsPair h b u v)/\h.IsListIter i p k/\h.IsListIter j q k
def zmR(K:bE)(p q:B)(xs c:LV):It:={λi H=>i<xs.length/\aM K H p xs/\aM K H q c,λi H x d=>∃T u v,x=.ref T/\H T=af/\d=upd H T (.tup [u,v])/\xs[i]?=Y u/\c[i]?=Y v,λi H=>xs.length<=i/\aM K H p xs/\aM K H q c}
theorem zgP{P:aq}{w:ax}{K:bE}{ab:List av}{x1}{pos:Pos}{z a b i j p q:B}{xs M:LV}(D:ZipApart z a b i j p q)(O:xs.length=M.length) :
  VU P w K (.Tuple ab x1 pos) (zmR K p q xs M) [z,a,b,i,j] z (ZL z a b i j p q) where
 mem:=by simp
 obj:=λk h r c d=>by
  have #[G,t,#[u,v,J],#[oi,m,ci,di],#[oj,l,cj,dj]]:=r;simp only[bn,bZ,or_false] at d;obtain rfl|rfl|rfl|rfl|rfl:=d
  .exact{_,G,λv z=>by cases z}
  .exact{_,t,λv z=>by cases z}
  .exact{_,J,λv z=>by cases z}
  .exact{_,m,λv z=>by rw[di] at z;cases z}
  .exact{_,l,λv z=>by rw[dj] at z;cases z}
 keep:=λk h h' r kk=>by have #[G,t,#[u,v,J],#[oi,m,ci],#[oj,l,cj]]:=r;exact{kk z (by simp) _ G,kk a (by simp) _ t,{u,v,kk b (by simp) _ J},{oi,kk i (by simp) _ m,ci},{oj,kk j (by simp) _ l,cj}}
 item:=by
  intro X hP hw hK d k aa s σ H E I hf r hg;subst hP hw hK;have #[g,h1,h2]:=hg;have #[us,r1,p1,_]:=I.list h1;have #[vs,r2,p2,_]:=I.list h2;have #[u,hu,ru]:=r1.get (i:=k) (x:=xs[k]) (bd g);have #[v,hv,rv]:=r2.get (i:=k) (x:=M[k]'(O ▸ g)) (bd (O ▸ g));have ai:∀c∈[z,b,i,j],c∈[z,a,b,i,j]:=λc d=>by simp only[bn,bZ,or_false] at d ⊢;obtain h|h|h|h:=d <;> simp[h]
  have al:∀c∈[z,a,b,i,j],c≠s.heap.objs.size:=λc d=>by
   have #[G,t,#[u,v,J],#[oi,m,ci],#[oj,l,cj]]:=r;simp only[bn,bZ,or_false] at d;obtain rfl|rfl|rfl|rfl|rfl:=d
   .exact bK (bF G)
   .exact bK (bF t)
   .exact bK (bF J)
   .exact bK (bF m)
   .exact bK (bF l)
  have #[G,t,#[u0,v0,J],m,l]:=r;refine wpAny_pyNext_zip_item D G t J m l p1.isList p2.isList (x:=u) (y:=v) (by simpa using hu) (by simpa using hv) λh z8 b5 i5 j5 t5 sz k5=>?_;have I6:aN X aa σ (upd H s.heap.objs.size (.tup [xs[k],M[k]'(O ▸ g)])) { s with heap:=s.heap.push { cls:=.type "tuple",data:=.seq #[u,v] } }:=
   I.laid (a:=s.heap.objs.size) (o:=.tup [xs[k],M[k]'(O ▸ g)]) (t':=s.toks) (λb u e=>bg _ e) (bo _) {(),[u,v],.cons ru (.cons rv .nil),{_,bq _ U,U,_,U}}
  have T:∀c∈[z,a,b,i,j],upd H s.heap.objs.size (HO.tup [xs[k],M[k]'(O ▸ g)]) c=af:=λc d=>by rw[zk (al c d)];exact(hf c d).1
  have fz:∀c∈[z,a,b,i,j],ku X aa (upd H s.heap.objs.size (HO.tup [xs[k],M[k]'(O ▸ g)])) c:=λc d=>{T c d,(hf c d).2};refine{.ref s.heap.objs.size,U,oB z8 λh2 z9 aj=>?_};have up:∀c o,c≠z->h.get? c=Y o->h2.get? c=Y o:=λc o d e=>by rw[show h2.get? c=h.get? c from aj.2 c d];exact e
  have I7:aN X aa σ (upd H s.heap.objs.size (.tup [xs[k],M[k]'(O ▸ g)])) { s with heap:=h2 }:=I6.turnedL (s:={ s with heap:=s.heap.push { cls:=.type "tuple",data:=.seq #[u,v] } }) (t':=s.toks) (ch:=[z,b,i,j]) (λc o d e=>by
   simp only[bn,bZ,or_false,not_or] at d;refine up c o d.1 ?_;obtain ⟨rfl,rfl⟩|e:=iW (show (s.heap.push { cls:=.type "tuple",data:=.seq #[u,v] }).get? c=Y o from e)
   .exact t5
   .exact k5 c o d.1 d.2.1 d.2.2.1 d.2.2.2 e) λc d=>fz c (ai c d)
  refine{.ref s.heap.objs.size,_,I7,U,{_,_,_,U,I.hok.fresh (bo _),U,bd g,bd (O ▸ g)},?_,T};have ka:h.get? a=_:=k5 a _ D.TIz D.TITO D.TIi1 D.TIi2 t;have #[oi,m,ci]:=i5;have #[oj,l,cj]:=j5;exact{z9,up a _ D.TIz ka,{_,_,up b _ D.TOz b5},{oi,up i _ D.i1z m,ci},{oj,up j _ D.i2z l,cj}}
 done:=by
  intro X hP hw hK d k aa s σ H E I hf r hg;subst hP hw hK;have #[g,h1,h2]:=hg;have #[us,r1,p1,_]:=I.list h1;have #[vs,r2,p2,_]:=I.list h2;have an:=r1.length;have #[G,t,#[u0,v0,J],m,l]:=r;refine wpAny_pyNext_zip_end (I.ok.hd d) D G t J m l p1.isList p2.isList (.inl (by simp;lia)) λh hk=>{U,I.turnedL (t':=s.toks) (ch:=[z,b,i,j]) (λc o d e=>?_) λc d=>hf c ?_}
  .simp only[bn,bZ,or_false,not_or] at d;exact hk c o d.1 d.2.1 d.2.2.1 d.2.2.2 e
  .simp only[bn,bZ,or_false] at d ⊢;obtain h|h|h|h:=d <;> simp[h]
 self:=λ_ _ _ _ _ r h=>mX r.1 h
theorem zgQ{p q:B}(xs c:LV)(Pv:Nat->uU)(k:Pv 0 σ H)(d:∀i σ H,Pv i σ H->aM K H p xs/\aM K H q c)(g:∀i u v T σ H,xs[i]?=Y u->c[i]?=Y v->H T=af->Pv i σ H->Bo (.ref T) σ (upd H T (.tup [u,v])) (Pv (i+1)))(h:∀σ H,Pv xs.length σ H->nx σ H) :
  FoP (zmR K p q xs c) nx Bo σ H:=JG Pv k (λi σ H l p=>{{l,d i σ H p},by rintro x m ⟨T,u,v,rfl,y,rfl,a,b⟩;exact g i u v T σ H a b y p}) λσ H p=>{{bo _,d _ σ H p},h σ H p}
theorem Yb:plainId "dict.update.loop"=ae:=by lia
theorem zam:entryFor table "dict.update.loop"=Y Builtin.«dict.update.loop»:=entryFor_of_fast (by kernel_rfl)
def PrAt(H:Hp)(v:V)(q:Row):Prop:=∃r p,v=.ref r/\H r=Y (.tup [.ref p,.int q.2])/\H p=Y (.tup [.str q.1.1,.int q.1.2])
theorem zgR{σ:St}{H:Hp}{s:ak}{d b:B}{i:ya}{k:xt}{v:V}{u:am}{E:nA}{Q:Unit->ak->Prop}(O:A.units+1<cLine)(I:aN X aa σ H s)(e:H d=Y (.dT i))(G:H b=Y (.tup (k.map kV)))(l:i.length<Bb)(J:aR v u)(h:∀m r,aN X aa σ (upd H d (.dT (xu i k v))) { s with heap:=m,toks:=r }->cv d s.heap m->Q PUnit.unit { s with heap:=m,toks:=r }):Bf (Bg X.p X.w) A.in1 (dictSet d (.ref b) u) Q E s:=by
 have #[z,hd,xs,g,dd]:=zcq I.hok e;have M:xs.length<=Bb:=by rw[<-bO g];exact z
 have T:(xu i k v).length<=Bb:=by have:=jW i k v;lia
 refine wpAny_dictSet_heap (hsz:=M) (eN O) (qq I.hok G) dd λm o t=>h _ _ ?_ t;have #[q,es,ep,y,h2,h3,h4,_,h5]:=o;refine Z7 I (by rw[e];exact fC) t {q,y} {T,hd,_,(g.put k G J).keeps λc ys D=>?_,q,es,ep,y,h2,h3,h4,h5};rw[zk (zJ D e ())];exact D
theorem ziC{σ:St}{H:Hp}{d it l:B}{xs:LV}{ac:zF}{res:am}(hu:A.units+1<cLine)(hh:A.handled=af)(hd:H d=af)(hl:H l=Y (.lst xs))(hr:Bl (PrAt H) xs ac)(ar:ac.length<=1000)(ab:it≠d)(al:l≠it) :
  ∀(k i:Nat)(s:ak),ac.length-i=k->i<=ac.length->aN X aa σ (upd H d (.dT (mx (ac.take i)))) s->s.heap.IsListIter it l i->(∀u,ku X aa (upd H d u) it) ->
  (∀s',aN X aa σ (upd H d (.dT (mx ac))) s'->R (.ok (.ret res)) s') ->
  codeAny (Bg X.p X.w) A (.builtin "dict.update.loop" {[.ref d,.ref it,rawInt i,res],[]}) R s:=by
 have lx:xs.length=ac.length:=bO hr;have S:∀u:HO,aJ H (upd H d u):=λu=>hX (o:=u) d hd;intro k;induction k with
 |zero=>
  intro i s hk hi I z m c;have e:i=ac.length:=by lia
  subst e;refine dt zam ?_;rw[cK Yb _];show Bf _ A.in1 (pyNext (.ref it) >>= _) _ _ s;have #[J,G,p,hz]:=I.list (aM.of (S _ _ _ hl));have #[f0,f1,f2,f3,f4,f5]:=m (.dT (mx (ac.take ac.length)));have an:=G.length;refine ba (rj hh z p.isList (by simp;lia) λh' eb=>?_);have h:=I.turned (t':=s.toks) (λb o hb e=>eb b o hb e) f0 f1 f3 f4 f5;rw[f8] at h;show Bf _ A.in1 (Builtin.Dict.addKeywords d [] >>= _) _ _ _;exact ba (bm (bm (c _ h)))
 |succ k ih=>
  intro i s hk hi I z m c;have g:i<ac.length:=by lia
  refine dt zam ?_;rw[cK Yb _];show Bf _ A.in1 (pyNext (.ref it) >>= _) _ _ s;have #[J,G,p,hz]:=I.list (aM.of (S _ _ _ hl));have #[f0,f1,f2,f3,f4,f5]:=m (.dT (mx (ac.take i)));have hx:xs[i]?=Y xs[i]:=bd ();have hq:ac[i]?=Y ac[i]:=bd g;have #[r,pl,e1,t1,u1]:=yW hr hx hq;have #[u,M,ru]:=G.get hx;rw[e1] at ru;cases ru;refine ba (pS z p.isList (x:=.ref r) (by simpa using M) λh' y sb=>?_);have h:=I.turned (t':=s.toks) (λb o hb e=>(sb.2 b hb).trans e) f0 f1 f3 f4 f5;have #[aj,tv,#[o,ho,hc,n,O],_]:=h.tuple (aX.of (S _ _ _ t1));cases tv with
  |cons r1 rr=>
   cases rr with
   |cons r2 rn=>
    cases rn;cases r1;have #[t,rfl]:=r2;refine ba (c8 ?_);have T:({ s with heap:=h' }:ak).TypeIs (.ref r) "tuple":={o,ho,hc};refine ba (wpAny_tryCatch ?_);unfold Builtin.Dict.pairItems;refine ba (mR T ?_);rw[ao ()];refine ba ?_;unfold seqItems?;refine ba (oI ho ?_);rw[O];refine bm (bm ?_);show Bf _ _ (holding [.ref pl,.int ac[i].2 t] (dictSet d (.ref pl) (.int ac[i].2 t))) _ _ _;refine c8 ?_;have q:mx (ac.take (i+1))=xu (mx (ac.take i)) (zD ac[i].1) (.int ac[i].2):=by rw[dY,hq,<-zcN];rfl
    have l2:(mx (ac.take i)).length<Bb:=by have h1:=jv (ac.take i);have h2:=List.length_take_le' i ac;exact dN (by lia:_<=1000) ()
    refine zgR (k:=zD ac[i].1) (v:=.int ac[i].2) hu h zh (S _ _ _ u1) l2 {t,U} λh2 ai I2 D=>?_;rw[Je,<-q] at I2;refine bm {eQ Yb _,ih (i+1) _ () g I2 (y.at λo e=>(D.2 it ab).trans e) m c}
theorem zbl:typeLookup (.type "list") "keys"=pure af:=by rw[rJ,mT];kernel_rfl
section
variable {a:B}{o:Obj}{xs:Array am}{k:Nat}
theorem JO{Q:Option am->ak->Prop}(u:s.heap.get? a=Y o)(y:o.cls=.type "list")(i:o.data=.seq xs k)(v:o.dict=af)(M:A.handled=af)(h:∀r t,(∀b q,s.heap.get? b=Y q->r.get? b=Y q)->Q af { s with heap:=r,toks:=t }):Bf (Bg prog w) A (getAttr? (.ref a) "keys") Q E s:=by
 have #[c,O,T,D]:=o;simp only at y i v;subst y i v;have #[J,g,d,t,G]:=s;have z:∀l,({J,g,d,l,G}:ak).TypeIs (.ref a) "list":=λ_=>{_,u,U};have f1:=sub_AttributeError;have f3:=F.slot_list_getattribute.lookup;have f4:=F.slot_list_getattribute.bind (.ref a);have f5:=am_list_getattr_none;unfold getAttr? getAttrBy? getAttrBy
 repeat (any_goals (first|assumption|exact z _|((with_reducible show Bf _ _ (call (Value.builtin "list.__getattribute__") _ _) _ _ _);refine fQ F.slot_list_getattribute (z _) am_entry_list_getattribute (F.args_list_getattribute_2 _ _) (meets_getattribute_miss_list a xs k D "keys" _ zbl () ()) {u,M,λr l e m=>?_})|wp_step))
 have #[t',u',he]:=m.there;have I:=m.keeps;show Bf _ _ (getattributeRaised _ _ _ _ _ _ _) _ _ _;unfold getattributeRaised
 repeat (any_goals (first|assumption|wp_step))
 all_goals exact h _ _ λb q e=>I b q e
end
theorem hu3(r:hZ k A):A.units+3<cLine:=by have:=VW r;lia
abbrev ziD:RC:=λd H Q=>∃(a:B)(xs:LV)(c:zF),d=[.ref a]/\H a=Y (.lst xs)/\Bl (PrAt H) xs c/\c.length<=1000/\∀p,H p=af->Q (.ref p) (upd H p (.dT (mx c)))
theorem jf(hc:X.c=ae)(hu:X.A.units+3<cLine):wM X (.type "dict") ziD:=by
 intro aa s σ H vs us Q I r h;have #[a,xs,ac,rfl,G,hr,hl,q]:=h;have #[u,rfl,ru]:=xL r;cases ru;have hh:X.A.handled=af:=I.ok.hd hc;refine callType_codes (Q₁:=λt c=>t=.ref s.heap.objs.size/\c={ s with heap:=s.heap.push { cls:=.type "dict",data:=.dict #[] } }) F.kt_called_dict (F.kt_typeCall_dict_1 _) F.entry_dict_init (kt_code_dict_new _ {rfl,rfl}) ?_;rintro t c ⟨rfl,rfl⟩;have T0:({ s with heap:=s.heap.push { cls:=.type "dict",data:=.dict #[] } }:ak).TypeIs (.ref s.heap.objs.size) "dict":={_,bq _ rfl,rfl};refine{T0,F.args_dict_init_2 _ _,?_};unfold Builtin.«dict.__init__»;refine ba ?_;unfold Builtin.Dict.selfAndRest;refine ba (gu T0 ?_);show Bf _ _ (pure (s.heap.objs.size,[bN a])) _ _ _;refine bm ?_;show Bf _ _ (pJ "dict.__init__" s.heap.objs.size (.ref a) [] .none) _ _ _;unfold pJ;have D:H s.heap.objs.size=af:=I.hok.fresh (bo _);have S:∀u:HO,aJ H (upd H s.heap.objs.size u):=λu=>hX (o:=u) _ D;have I1:aN X aa σ (upd H s.heap.objs.size (.dT [])) { s with heap:=s.heap.push { cls:=.type "dict",data:=.dict #[] } }:=
  I.laid (a:=s.heap.objs.size) (o:=.dT []) (t':=s.toks) (λb o z=>bg _ z) (bo _) (zcs s.heap I.big)
 have #[ai,rv,pl,_]:=I1.list (aM.of (S _ _ _ G));have #[o,n,T,J,od,m]:=id pl;have T1:({ s with heap:=s.heap.push { cls:=.type "dict",data:=.dict #[] } }:ak).TypeIs (.ref a) "list":={o,T,J};refine ba (mR T1 ?_);rw[ao ()];refine ba (JO T J m od (by exact hh) λi g M=>?_);rw[ao (show (af:Option am).isNone=ae from rfl)];refine ba (iP ?_);have v:aN X aa σ (upd H s.heap.objs.size (.dT [])) { s with heap:=i,toks:=g }:=I1.kept M;have #[O,ab,k,_]:=v.list (aM.of (S _ _ _ G));refine ba (iJ k.isList ?_);have I3:aN X aa σ (upd H s.heap.objs.size (.dT (mx (ac.take 0)))) { s with heap:=i.push { cls:=.type "list_iterator",data:=.fields #[.ref a,.int 0 0] },toks:=g }:=v.kept (t':=g) λb o e=>bg _ e;refine bm {eQ Yb _,?_};have y:s.heap.objs.size<i.objs.size:=bF (M s.heap.objs.size _ (bq _ U));have la:a<i.objs.size:=by have #[_,_,z,_]:=k;exact bF z
 refine ziC (A:=X.A.in1) (H:=H) (d:=s.heap.objs.size) (it:=i.objs.size) (l:=a) (xs:=xs) (ac:=ac) (res:=.none) ?_ hh D G hr hl (dP y) (bK la) ac.length 0 _ () (bQ _) I3 {_,bq _ U,U,U} (λu=>?_) λs' I'=>{U,.ref s.heap.objs.size,_,I',U,q _ D}
 .have e:X.A.in1.units=X.A.units+1:=rfl;lia
 .refine v.fpOk (bo _) ?_;rw[zk (dP y)];have:=v.hok.fresh (bo i.objs.size);rw[zk (dP y)] at this;exact this
variable {gV:Pos}{ta:TE}
variable {th1:TS}{c1 c2:Str}{C1 C2:B}{np2:Pos}
def rk(c:xN)(ps:LV):Except Er Int:=match zig c ps [] with
 |.ok [i]=>.ok i
 |.ok _=>.error .stuck
 |.error e=>.error e
def YI(e:LV):Prop:=(∀c,∃r,zow c e r)/\(∀v∈e,zbd v)/\e.length<=1000
mutual
inductive Rw where
 |take (sh:Str) (e:LV) (sl:Str)
 |give (sh:Str) (e f:LV)
 |lt (sl:Str) (e:LV)
 |say (e:LV)
 |off (e:LV)
 |iff (e:LV) (a b:Rws)
inductive Rws where
 |nil
 |cons (r:Rw) (rs:Rws)
end
set_option genSizeOf false in
set_option genInjectivity false in
structure Sta where
 sl:xN
 wo:zF
 sa:yz
inductive Res where
 |go (s:Sta)
 |off
 |er (e:Er)
mutual
def goR:Rw->Sta->Res
 |.take sh e sl,s=>match rk s.sl e with
  |.ok n=>.go { s with sl:=xu s.sl (.inr sl) (.int ((zP s.wo (sh,n)).getD 0)) }
  |.error x=>.er x
 |.give sh e f,s=>match rk s.sl e with
  |.ok n=>(match rk s.sl f with
   |.ok w=>.go { s with wo:=s.wo++[((sh,n),w)] }
   |.error x=>.er x)
  |.error x=>.er x
 |.lt sl e,s=>match rk s.sl e with
  |.ok n=>.go { s with sl:=xu s.sl (.inr sl) (.int n) }
  |.error x=>.er x
 |.say e,s=>match rk s.sl e with
  |.ok n=>.go { s with sa:=s.sa++[n] }
  |.error x=>.er x
 |.off e,s=>match rk s.sl e with
  |.ok n=>if n=0 then .go s else .off
  |.error x=>.er x
 |.iff e a b,s=>match rk s.sl e with
  |.ok n=>if n=0 then zkP b s else zkP a s
  |.error x=>.er x
def zkP:Rws->Sta->Res
 |.nil,s=>.go s
 |.cons r rs,s=>match goR r s with
  |.go s'=>zkP rs s'
  |x=>x
end
abbrev uZ:=B->Prop
mutual
def zoJ(F:uZ)(H:Hp)(v:V):Rw->Prop
 |.take sh e sl=>∃r te,v=.ref r/\F r/\F te/\H r=Y (.tup [.str "take",.str sh,.ref te,.str sl])/\H te=Y (.tup e)
 |.give sh e f=>∃r te c,v=.ref r/\F r/\F te/\F c/\H r=Y (.tup [.str "give",.str sh,.ref te,.ref c])/\H te=Y (.tup e)/\H c=Y (.tup f)
 |.lt sl e=>∃r te,v=.ref r/\F r/\F te/\H r=Y (.tup [.str "let",.str sl,.ref te])/\H te=Y (.tup e)
 |.say e=>∃r te,v=.ref r/\F r/\F te/\H r=Y (.tup [.str "say",.ref te])/\H te=Y (.tup e)
 |.off e=>∃r te,v=.ref r/\F r/\F te/\H r=Y (.tup [.str "off",.ref te])/\H te=Y (.tup e)
 |.iff e a b=>∃r te g d xs h,v=.ref r/\F r/\F te/\F g/\F d/\H r=Y (.tup [.str "if",.ref te,.ref g,.ref d])/\H te=Y (.tup e)/\H g=Y (.lst xs)/\ziF F H xs a/\H d=Y (.lst h)/\ziF F H h b
def ziF(F:uZ)(H:Hp)(d:LV):Rws->Prop
 |.nil=>d=[]
 |.cons r rs=>∃v c,d=v::c/\zoJ F H v r/\ziF F H c rs
end
mutual
def zoK:Rw->Prop
 |.take _ e _=>YI e
 |.give _ e f=>YI e/\YI f
 |.lt _ e=>YI e
 |.say e=>YI e
 |.off e=>YI e
 |.iff e a b=>YI e/\ziG a/\ziG b
def ziG:Rws->Prop
 |.nil=>True
 |.cons r rs=>zoK r/\ziG rs
end
mutual
def Rw.deep:Rw->Nat
 |.iff _ a b=>max a.deep b.deep+1
 |_=>0
def Rws.deep:Rws->Nat
 |.nil=>0
 |.cons r rs=>max r.deep rs.deep
end
mutual
def Rw.cnt:Rw->Nat
 |.iff _ a b=>max a.cnt b.cnt+1
 |_=>1
def Rws.cnt:Rws->Nat
 |.nil=>0
 |.cons r rs=>r.cnt+rs.cnt
end
abbrev ItA(h:au)(it d:B)(i n l:Nat)(k:am)(f:Bool)(g c:am):Prop:=
 h.get? it=Y { cls:=.type "dict_itemiterator",dict:=af,data:=.fields #[k,.bool f,.ref d,.int i 0,.int n 0,.int l 0,g,c],slots:=#[] }
theorem ziH{es:Array DictEntry}{m:Nat}{Q:nA}(h:s.heap.IsItemsView v d)(r:Ac s.heap d es m)(q:Q (.ref s.heap.objs.size) { s with heap:=s.heap.push { cls:=.type "dict_itemiterator",data:=.fields #[.none,.bool ah,.ref d,.int 0 0,.int es.size 0,.int m 0,.none,.none] } }):Bf (Bg P w) A (pyIter (.ref v)) Q E s:=by
 have #[u,i,t,k]:=id h;have #[o,l,y,c]:=id r;refine mn h.typeIs p7 (cr p7 h.typeIs F.entry_dict_items_iter ?_ (F.args_dict_items_iter_1 _));unfold Builtin.«dict_items.__iter__»;refine ba (bm ?_);refine ba ?_;unfold Builtin.Dict_items.dictOf;refine ba (cO i k (x:=.ref d) U (bm ?_));refine ba ?_;unfold Builtin.Dict_items.newIterator;refine ba (eE l c ?_);refine ba (iB l c ?_);have g:eI "dict_itemiterator"=ae:=by lia
 simp only[g,if_true];refine cA (bm {_,U,"dict_itemiterator",_,{_,bq _ U,U},F.slot_dict_itemiterator_next.lookup,?_}) (by simp only[sizeOk,lA,bJ,bx,bG,lQ,cu];lia);simpa[rawInt,lA] using q
theorem ziI{it d:B}{i l:Nat}{es:Array DictEntry}{e:DictEntry}{u I ov:am}{f:Bool}{Q:Option am->ak->Prop}(m:ItA s.heap it d i es.size l u f I ov)(hm:Ac s.heap d es l)(hx:es[i]?=Y e)(aj:(u=.none/\f=ah)\/∃(a:B)(oa:Obj),u=rawInt (a:Nat)/\s.heap.get? a=Y oa/\a≠it)(q:∀v o1 f1 k1 v1,ItA v it d (i+1) es.size l o1 f1 k1 v1->((o1=.none/\f1=ah)\/∃(a:B)(oa:Obj),o1=rawInt (a:Nat)/\v.get? a=Y oa/\a≠it)->v.get? s.heap.objs.size=Y { cls:=.type "tuple",data:=.seq #[e.key,e.val] }->v.objs.size=s.heap.objs.size+1 ->
   (∀b o,b≠it->s.heap.get? b=Y o->v.get? b=Y o)->(∀a:B,o1=rawInt (a:Nat)->a=s.heap.objs.size\/u=rawInt (a:Nat))->Q (Y (.ref s.heap.objs.size)) { s with heap:=v }):Bf (Bg P w) A (pyNext (.ref it)) Q E s:=by
 have #[c,g,dr,y,G]:=s;have #[od,J,al,M]:=id hm;have T:tu {c,g,dr,y,G} (.ref it) "dict_itemiterator":={_,m,U};unfold pyNext;refine ba (eP (cq (name:=bb "__next__") T fH (cr fH T mU ?_ (mq _))));refine ba (bm ?_);refine ba ?_;refine ba ?_
 first|(refine ba (fo T (bm ?_)))|(refine ba (gE T (bm ?_)))
 refine ba (gC m U ?_);have ai:eI "dict_itemiterator"=ae:=by lia
 simp only[ai,if_true];show Bf _ _ (if (bN d==cE)=ae then _ else _) _ _ _;rw[ag (show ¬ ((bN d==cE)=ae) from bM)];refine ba (bm ?_);refine ba (eE J M ?_);rw[ag (by simp)];refine ba (bm ?_);refine ba (iB J M ?_);rw[ag (by simp)];refine bm ?_;simp only[show ¬ ((i:Int)<0) from by lia,if_false,cy,hx];refine ba ?_
 first|(refine ba (fo T (bm ?_)))|(refine ba (gE T (bm ?_)))
 refine ba (lY T ?_);show Bf _ _ (setField (.ref it) 3 (rawInt ((i:Int)+1)) >>= _) _ _ {c,g,dr,y,G};refine ba (cg m (by simp) λh₁ O D=>?_);replace D:cv it c h₁:=D;replace O:ItA h₁ it d (i+1) es.size l u f I ov:=by
  have z:((i+1:Nat):Int)=(i:Int)+1:=by lia
  unfold ItA;rw[z];simpa[rawInt] using O
 have T1:tu {h₁,g,dr,y,G} (.ref it) "dict_itemiterator":={_,O,U};refine ba (c8 ?_);refine ba (lY T1 ?_);refine ba (lY T1 ?_);show Bf _ _ (lU (.ref it) 6 e.key e.val) _ _ {h₁,g,dr,y,G};unfold lU;refine ba (mF ?_);have r:ItA (h₁.push { cls:=.type "tuple",data:=.seq #[e.key,e.val] }) it d (i+1) es.size l u f I ov:=bg _ O;generalize hg:h₁.push { cls:=.type "tuple",data:=.seq #[e.key,e.val] }=h₂ at r;have z1:h₁.objs.size=c.objs.size:=D.1;have il:it<c.objs.size:=bF m;have t2:h₂.get? c.objs.size=Y { cls:=.type "tuple",data:=.seq #[e.key,e.val] }:=by rw[<-hg,<-z1];exact bq _ rfl
 have z2:h₂.objs.size=c.objs.size+1:=by rw[<-hg,eK,z1]
 have k2:∀b o,b≠it->c.get? b=Y o->h₂.get? b=Y o:=λb o h z=>by rw[<-hg];exact bg _ (D.extBut b o h z)
 show Bf _ _ (lB (.ref it) >>= _) _ _ {h₂,g,dr,y,G};rw[z1];clear hg O D T1 z1 h₁;refine ba ?_;unfold lB;obtain ⟨rfl,rfl⟩|⟨a,oa,rfl,ha,hai⟩:=aj
 .refine ba (cO r U (x:=.none) U (bm ?_));simp only[if_true];refine ba (cO r U (x:=I) U ?_);refine ba (cO r U (x:=ov) U ?_);refine ba (cg r (by simp) λh₃ t k=>?_);replace k:cv it h₂ h₃:=k;replace t:ItA h₃ it d (i+1) es.size l .none ah e.key ov:=t;refine ba (cg t (by simp) λh₄ e4 s4=>?_);replace s4:cv it h₃ h₄:=s4;replace e4:ItA h₄ it d (i+1) es.size l .none ah e.key e.val:=e4;refine ba (cg e4 (by simp) λh₅ e5 s5=>?_);replace s5:cv it h₄ h₅:=s5;replace e5:ItA h₅ it d (i+1) es.size l (rawInt (c.objs.size:Nat)) ah e.key e.val:=e5;refine ba (cg e5 (by simp) λh₆ e6 s6=>?_);replace s6:cv it h₅ h₆:=s6;replace e6:ItA h₆ it d (i+1) es.size l (rawInt (c.objs.size:Nat)) ah e.key e.val:=e6;have k6:∀b o,b≠it->h₂.get? b=Y o->h₆.get? b=Y o:=λb o h z=>s6.extBut b o h (s5.extBut b o h (s4.extBut b o h (k.extBut b o h z)));have t6:=k6 _ _ (dP il) t2;refine ba (mj (bm (bm {_,U,bm (q h₆ _ _ _ _ e6 (.inr {_,_,U,t6,dP il}) t6 ?_ (λb o h z=>k6 b o h (k2 b o h z)) λa z=>?_)})))
  .show h₆.objs.size=c.objs.size+1;rw[s6.1,s5.1,s4.1,k.1,z2]
  .refine .inl ?_;have z':(f9 (c.objs.size:Nat) 0:am)=f9 (a:Nat) 0:=z;have ab:((c.objs.size:Nat):Int)=((a:Nat):Int):=by injection z'
   exact(uM ab).symm
 .refine ba (cO r U (x:=rawInt (a:Nat)) U ?_);show Bf _ _ (loadIfAlive (((a:Nat):Int).toNat) >>= _) _ _ _;rw[cy];have a2:h₂.get? a=Y oa:=k2 a oa hai ha;refine ba (W.kdx_alive a2 ?_);simp only[tw,cH,if_false];refine ba (cO r U (x:=.bool f) U ?_);cases f with
  |true=>
   rw[ag (show ¬ ((ma ae != ma ae)=ae) from bM)];refine bm ?_;simp only[cH,if_false];exact bm (bm {_,U,bm (q h₂ _ _ _ _ r (.inr {_,_,U,a2,hai}) t2 z2 k2 λa z=>.inr z)})
  |false=>
   rw[ao (show (ma ah != ma ae)=ae from rfl)];refine ba (cg r (by simp) λh₃ t k=>?_);replace k:cv it h₂ h₃:=k;replace t:ItA h₃ it d (i+1) es.size l (rawInt (a:Nat)) ae I ov:=t;refine bm ?_;simp only[cH,if_false];exact bm (bm {_,U,bm (q h₃ _ _ _ _ t (.inr {_,_,U,k.extBut _ _ hai a2,hai}) (k.extBut _ _ (dP il) t2) (by show h₃.objs.size=_;rw[k.1,z2]) (λb o h z=>k.extBut b o h (k2 b o h z)) λa z=>.inr z)})
theorem zkQ{it d:B}{i o:Nat}{es:Array DictEntry}{u t r:am}{f:Bool}{Q:Option am->ak->Prop}(z:A.handled=af)(c:ItA s.heap it d i es.size o u f t r)(y:Ac s.heap d es o)(v:es.size<=i)(q:∀l,pH it s.heap l->Q af { s with heap:=l }):Bf (Bg P w) A (pyNext (.ref it)) Q E s:=by
 have #[G,g,D,h]:=id y;have T:s.TypeIs (.ref it) "dict_itemiterator":={_,c,U};unfold pyNext;refine ba (eP (cq (name:=bb "__next__") T fH (cr fH T mU ?_ (mq _))));refine ba (bm ?_);refine ba ?_;refine ba ?_
 first|(refine ba (fo T (bm ?_)))|(refine ba (gE T (bm ?_)))
 refine ba (gC c U ?_);have k:eI "dict_itemiterator"=ae:=by lia
 simp only[k,if_true];show Bf _ _ (if (bN d==cE)=ae then _ else _) _ _ s;rw[ag (show ¬ ((bN d==cE)=ae) from bM)];refine ba (bm ?_);refine ba (eE g h ?_);rw[ag (by simp)];refine ba (bm ?_);refine ba (iB g h ?_);rw[ag (by simp)];refine bm ?_;simp only[show ¬ ((i:Int)<0) from by lia,if_false,cy,e9 v];refine ba ?_
 first|(refine ba (fo T (bm ?_)))|(refine ba (gE T (bm ?_)))
 show Bf _ _ (setField (.ref it) 2 .none >>= _) _ _ s;refine ba (ic c U (by simp) ?_);show Bf _ _ (newExc (.type "StopIteration") [] >>= _) _ _ _;refine ba ?_;simp only[newExc,newTuple];refine ba (cA ?_ (by size_fits));refine ba (m:=firstArgMember _ _) (nP (a:=cE) (by first|rfl|(simp only[firstArgMember];rfl)) ?_);refine cA ?_ (by size_fits);simp only[raiseNew];refine ba (nD ?_);rw[show A.in1.handled=af from z];refine ba (bm (pI ?_));refine ba (gX (T:="StopIteration") (b:=ae) {_,bq _ U,U} mG ?_);exact bm (q _ (((cP ..).extBut.push _).push _))
def JP(r d:B):HO:=.ext λh=>h.IsItemsView r d
def zeD(g:TE):TE:=λσ H Q=>g σ H λx c=>∃d h,x=.ref d/\c d=Y (.dT h)/\∀r,c r=af->Q (.ref r) (upd c r (JP r d))
variable {td:TE}
section
variable {o:av}
theorem zcP(D:PE X o td)(i:attributeBase o "items" X.e (eval o X.e)=eval o X.e:=by rfl)(g:(gV.endLine==nB.line)=ae:=by rfl):PE X (.Call (.Attribute o "items" gV) [] [] nB) (zeD td):=by intro aa s σ H Q I h;refine pB i g (aW (D aa s σ H _ I h) ?_);rintro v c ⟨x,H1,q,y,d,aK,M,J,z⟩;subst M;obtain rfl:v=bN d:=y;have #[m,t,r]:=Wy q (.inr {aK,.inl J});refine{"dict","dict.items",eO,pK,PySem.F.type_dict_items,m,t,dL U (sH ?_)};refine cr pK m PySem.F.entry_dict_items ?_ (PySem.F.args_dict_items_1 _);unfold Builtin.«dict.items»;refine ba ?_;unfold Builtin.Dict.noArgs;refine ba (gu m ?_);show Bf _ _ (pure d) _ _ c;refine bm ?_;show Bf _ _ (iA d >>= _) _ _ c;unfold iA;rw[ag (by rw[r];exact bM)];refine ba (bm ?_);refine ba (cA (bm {_,U,?_}));have G:H1 c.heap.objs.size=af:=q.hok.fresh (bo _);have l:(c.heap.push { cls:=.type "dict_items",data:=.fields #[.ref d] }).get? c.heap.objs.size=Y { cls:=.type "dict_items",data:=.fields #[.ref d] }:=bq _ rfl;refine{.ref c.heap.objs.size,_,q.laid (a:=c.heap.objs.size) (o:=JP c.heap.objs.size d) (t':=c.toks) (λb u e=>bg _ e) (bo _) ?_,U,z _ G};exact{{_,l,U,U},{_,l},λh1 h2 ⟨o,T,O⟩ k=>{o,k o T,O}}
end
def Xu(H:Hp)(v:V)(c:xt×V):Prop:=∃r p,v=.ref r/\H r=Y (.tup [.ref p,c.2])/\H p=Y (.tup (c.1.map kV))
theorem zcQ{H h:Hp}(s:∀b c,H b=Y (.tup c)->h b=Y (.tup c)):∀ {d:LV}{g:ya},Bl (Xu H) d g->Bl (Xu h) d g
 |_,_,.nil=>.nil
 |_,_,.cons ⟨r,p,e,h1,h2⟩ t=>.cons {r,p,e,s _ _ h1,s _ _ h2} (zcQ s t)
theorem zcR{H:Hp}{v:V}{q:xt×V}:∀ {c:LV}{d:ya},Bl (Xu H) c d->Xu H v q->Bl (Xu H) (c++[v]) (d++[q])
 |_,_,.nil,h=>.cons h .nil
 |_,_,.cons a r,h=>.cons a (zcR r h)
theorem ziJ{σ:St}{H:Hp}{S it d:B}{c:ya}{es:Array DictEntry}{ep:Nat}{y:am}(hh:A.handled=af)(hS:H S=af)(hd:H d=Y (.dT c))(al:S≠it)(a3:d≠it)(hz:c.length<=1000)(a5:es.size=c.length)(aQ:∀(i:Nat)(e:DictEntry)(kv:xt×V),es[i]?=Y e->c[i]?=Y kv->∃p,e.key=.ref p/\H p=Y (.tup (kv.1.map kV))/\aR kv.2 e.val)(a1:∀s' H' h,aN X aa σ H' s'->aJ H H'->H' S=Y (.lst h)->Bl (Xu H') h c->R (.ok (.ret y)) s') :
  ∀(k i:Nat)(s:ak)(g:Hp)(h:LV)(q ok ov:am)(f:Bool),c.length-i=k->i<=c.length->aN X aa σ g s->aJ H g->g S=Y (.lst h)->Bl (Xu g) h (c.take i)->Ac s.heap d es ep->ItA s.heap it d i es.size ep q f ok ov ->
  ((q=.none/\f=ah)\/∃(a:B)(m:Obj),q=rawInt (a:Nat)/\s.heap.get? a=Y m/\a≠it/\a≠S)->ku X aa g it ->
  codeAny (Bg X.p X.w) A (.builtin "list.extend.loop" {[.ref S,.ref it,y],[]}) R s:=by
 intro k;induction k with
 |zero=>
  intro i s g h q ok ov f hk hi I sm M D rd l t hf;have e:i=c.length:=by lia
  subst e;refine dt oG ?_;rw[cK dI _];show Bf _ A.in1 (pyNext (.ref it) >>= _) _ _ s;have #[f0,f1,f2,f3,f4,f5]:=hf;refine ba (zkQ (A:=A.in1) hh l rd () λv eb=>?_);have I1:=I.turned (t':=s.toks) (λb o hb e=>eb b o hb e) f0 f1 f3 f4 f5;rw[f8] at D;exact bm (a1 _ g h I1 sm M D)
 |succ k ih=>
  intro i s g h q ok ov f hk hi I sm M D rd l t hf;have ab:i<c.length:=by lia
  have hx:es[i]?=Y es[i]:=ck ();have ai:c[i]?=Y c[i]:=bd ab;have #[p,ek,hp,rv]:=aQ i _ _ hx ai;refine dt oG ?_;rw[cK dI _];show Bf _ A.in1 (pyNext (.ref it) >>= _) _ _ s;have #[f0,f1,f2,f3,f4,f5]:=id hf;have O:(q=.none/\f=ah)\/∃(a:B)(m:Obj),q=rawInt (a:Nat)/\s.heap.get? a=Y m/\a≠it:=by
   obtain z|⟨a,m,z1,z2,z3,_⟩:=t
   .exact .inl z
   .exact .inr {a,m,z1,z2,z3}
  refine ba (ziI (A:=A.in1) l rd hx O λv o1 a2 k1 v1 aj az ht a4 kp as=>?_);have Sl:S<s.heap.objs.size:=by have #[_,_,_,_,e]:=(show aT X.p X.w g s.heap S (.lst h) from I.hok S _ M);exact bF e
  have tn:s.heap.objs.size≠it:=dP (bF l);have a0:g s.heap.objs.size=af:=I.hok.fresh (bo _);have an:S≠s.heap.objs.size:=bK Sl;generalize hT:s.heap.objs.size=T at *
  have I6:aN X aa σ (upd g T (.tup [.ref p,c[i].2])) { s with heap:=s.heap.push { cls:=.type "tuple",data:=.seq #[es[i].key,es[i].val] } }:=
   I.laid (a:=T) (o:=.tup [.ref p,c[i].2]) (t':=s.toks) (λb u e=>bg _ e) (by rw[hT];exact bo _) {(),[es[i].key,es[i].val],.cons (by rw[ek];exact rfl) (.cons rv .nil),{_,by rw[<-hT];exact bq _ U,U,_,U}}
  have S6:aJ g (upd g T (.tup [.ref p,c[i].2])):=hX T a0;have I7:aN X aa σ (upd g T (.tup [.ref p,c[i].2])) { s with heap:=v }:=I6.turned (s:={ s with heap:=s.heap.push { cls:=.type "tuple",data:=.seq #[es[i].key,es[i].val] } }) (t':=s.toks) (λb o hb e=>by
   obtain ⟨rfl,rfl⟩|e:=iW (show (s.heap.push { cls:=.type "tuple",data:=.seq #[es[i].key,es[i].val] }).get? b=Y o from e)
   .rw[hT];exact ht
   .exact kp b o hb e) (by rw[zk (eh tn)];exact f0) f1 f3 f4 f5
  have J:(upd g T (.tup [.ref p,c[i].2])) S=Y (.lst h):=S6 _ _ M;have #[z,G,n,r,hl,e]:=I7.lstM J;have yl:h.length=i:=by have:=bO D;rw[cf] at this;lia
  show Bf _ A.in1 (updateSeq S (·.push (bN T)) >>= _) _ _ _;have e':v.get? S=Y { cls:=.type "list",data:=.seq G.toArray n }:=e;refine ba (iE (s:={ s with heap:=v }) e' rfl ?_ (by rw[bJ,<-r.length,yl];exact b9 (by lia:i<=1000) ()) (by rw[Array.size_push,bJ,<-r.length,yl];exact b9 (by lia:i+1<=1001) ()));have I8:=I7.lset (f:=λxs=>xs.push (bN T)) (t':=s.toks) (its':=G++[bN T]) J e' (by simp) (r.append (.cons (show aR (.ref T) (.ref T) from rfl) .nil)) (by rw[bx,yl];exact b9 (by show i+1<=1001;lia) ());have up:∀b o,b≠S->v.get? b=Y o->(v.update S (dG (·.push (bN T)))).get? b=Y o:=λb o hb z=>(dM _ _ (eh hb)).trans z;have dS:d≠S:=zq hd hS;have tS:∀b zs,g b=Y (.tup zs)->(upd (upd g T (.tup [.ref p,c[i].2])) S (.lst (h++[.ref T]))) b=Y (.tup zs):=λb zs z=>by rw[zk (zJ z M (by intro z;cases z))];exact S6 _ _ z
  have ri:∀ {a b:Nat},(rawInt (a:Int):am)=rawInt (b:Int)->a=b:=λ{a b} z=>by
   have z':(f9 (a:Int) 0:am)=f9 (b:Int) 0:=z;have ar:(a:Int)=(b:Int):=by injection z'
   exact uM ar
  refine bm {eQ dI _,ih (i+1) _ _ (h++[.ref T]) o1 k1 v1 a2 (by rw[Nat.sub_add_eq,hk];rfl) ab I8 (λb o z=>?_) zh ?_ (rd.at λo z=>up d o dS (kp d o a3 z)) (up it _ (eh al) aj) ?_ {?_,f1,f2,f3,f4,f5}}
  .rw[zk (zq z hS)];exact S6 _ _ (sm _ _ z)
  .rw[dY,ai];exact zcR (zcQ tS D) {T,p,U,by rw[zk (eh an),zh],tS _ _ (sm _ _ hp)}
  .obtain z|⟨a,m,z1,z2,z3⟩:=az
   .exact .inl z
   .have aS:a≠S:=by
     obtain z|z:=as a z1
     .rw[z];exact eh an
     .obtain ⟨y1,_⟩|⟨a',oa',y1,_,_,y4⟩:=t
      .rw[y1] at z;cases z
      .rw[y1] at z;rw[<-ri z];exact y4
    exact .inr {a,m,z1,up a _ aS z2,z3,aS}
  .rw[zk (eh al),zk (eh tn)];exact f0
abbrev zl0:RC:=λi H Q=>∃r d g,i=[.ref r]/\H r=Y (JP r d)/\H d=Y (.dT g)/\g.length<=1000/\∀l h c,aJ H c->H l=af->c l=Y (.lst h)->Bl (Xu c) h g->Q (.ref l) c
theorem zkR{H:Hp}(k:As P w H h)(e:H r=Y (JP r d)):h.IsItemsView r d:=(k r _ e).1
theorem zkS{H:Hp}:∀ {d:ya}{xs:List (xt×B×am)},Bl (λ(p:xt×V)(q:xt×B×am)=>p.1=q.1/\H q.2.1=Y (.tup (p.1.map kV))/\aR p.2 q.2.2) d xs->∀ {i:Nat}{c:xt×V}{x:xt×B×am},d[i]?=Y c->xs[i]?=Y x->H x.2.1=Y (.tup (c.1.map kV))/\aR c.2 x.2.2:=
 λ{_ _} h {_ _ _} k g=>(yW h k g).2
theorem ziK{H:Hp}(I:aN X aa σ H s)(e:H d=Y (.dT aK)):∃es h,Ac s.heap d es h/\es.size=aK.length /\
  ∀(i:Nat)(en:DictEntry)(g:xt×V),es[i]?=Y en->aK[i]?=Y g->∃p,en.key=.ref p/\H p=Y (.tup (g.1.map kV))/\aR g.2 en.val:=by
 have #[z,J,xs,c,o,es,h,u,t,r,k,_]:=(show aT X.p X.w H s.heap d (.dT aK) from I.hok d _ e);have m:es.size=xs.length:=by rw[<-bW,k,bh]
 refine{es,h,{o,u,t,r},by rw[m,<-bO c],λi en g G D=>?_};have l:es.toList[i]?=Y en:=by rw[ce];exact G
 rw[k,br] at l;have #[x,q,rfl]:=cm.mp l;have #[y,v]:=zkS c D q;exact{x.2.1,U,y,v}
theorem zan{A:aw}{R:aB->ak->Prop}{aa:uX}{σ:St}{H:Hp}{s:ak}{S r d:B}{l:ya}{res:am}{c:Nat}(hh:A.handled=af)(G:H S=af)(hr:H r=Y (JP r d))(hd:H d=Y (.dT l))(hl:l.length<=1000)(D:aN X aa σ (upd H S (.lst [])) s)(T2:s.heap.get? S=Y { cls:=.type "list",data:=.seq #[] c })(I:∀g k ys,aN X aa σ k g->aJ H k->k S=Y (.lst ys)->Bl (Xu k) ys l->R (.ok (.ret res)) g) :
  Bf (Bg X.p X.w) A.in1 (cV (.ref S) (.ref r) res) (λh g=>match h with|.done f=>R (.ok f) g|.again c'=>c'.quiet=ae/\codeAny (Bg X.p X.w) A c' R g) (λe g=>R (.error e) g) s:=by
 have Sr:r≠S:=zq hr G;have Sd:d≠S:=zq hd G;have SS:aJ H (upd H S (.lst [])):=hX S G;have #[es,ep,rd,aj,v]:=ziK D (SS _ _ hd);have al:∀(i:Nat)(z:DictEntry)(t:xt×V),es[i]?=Y z->l[i]?=Y t->∃p,z.key=.ref p/\H p=Y (.tup (t.1.map kV))/\aR t.2 z.val:=λi z t e1 e2=>by
  have #[p,g1,g2,g3]:=v i z t e1 e2;refine{p,g1,?_,g3};by_cases hp:p=S
  .rw[hp,zh] at g2;cases g2
  .rwa [zk hp] at g2
 have M:=zkR D.hok (SS _ _ hr);unfold cV;refine ba (mR (T:="dict_items") M.typeIs ?_);have c1:gM (.ref S) (.ref r)=ah:=by simp[gM,eh Sr]
 have c2:(fB "dict_items" == fB "list")=ah:=by lia
 have c3:(fB "dict_items" == fB "tuple")=ah:=by lia
 simp only[c1,c2,c3,sX,cH,if_false];refine ba (ziH M rd ?_);have ni:(upd H S (.lst [])) s.heap.objs.size=af:=D.hok.fresh (bo _);have fp:ku X aa (upd H S (.lst [])) s.heap.objs.size:=D.fpOk (bo _) ni;have Si:S≠s.heap.objs.size:=bK (bF T2);have di:d≠s.heap.objs.size:=bK rd.lt;have I3:aN X aa σ (upd H S (.lst [])) { s with heap:=s.heap.push { cls:=.type "dict_itemiterator",data:=.fields #[.none,.bool ah,.ref d,.int 0 0,.int es.size 0,.int ep 0,.none,.none] } }:=D.kept (t':=s.toks) λb o e=>bg _ e;have T3:=bg { cls:=.type "dict_itemiterator",data:=.fields #[.none,.bool ah,.ref d,.int 0 0,.int es.size 0,.int ep 0,.none,.none] } T2;have u:ItA (s.heap.push { cls:=.type "dict_itemiterator",data:=.fields #[.none,.bool ah,.ref d,.int 0 0,.int es.size 0,.int ep 0,.none,.none] }) s.heap.objs.size d 0 es.size ep .none ah .none .none:=bq _ rfl;have m:Ac (s.heap.push { cls:=.type "dict_itemiterator",data:=.fields #[.none,.bool ah,.ref d,.int 0 0,.int es.size 0,.int ep 0,.none,.none] }) d es ep:=rd.at λo e=>bg _ e;have J:(s.heap.push { cls:=.type "dict_itemiterator",data:=.fields #[.none,.bool ah,.ref d,.int 0 0,.int es.size 0,.int ep 0,.none,.none] }).IsItemsView r d:=let ⟨o,ho,x⟩:=M;{o,bg _ ho,x}
 generalize hh3:s.heap.push { cls:=.type "dict_itemiterator",data:=.fields #[.none,.bool ah,.ref d,.int 0 0,.int es.size 0,.int ep 0,.none,.none] }=h3 at *
 generalize s.heap.objs.size=it at *
 refine ba (c8 (W.kdx_hint J.typeIs ?_));have h:∀(y:au)(O:Nat)(R:aB->ak->Prop),(∀g k ys,aN X aa σ k g->aJ H k->k S=Y (.lst ys)->Bl (Xu k) ys l->R (.ok (.ret res)) g)->aN X aa σ (upd H S (.lst [])) { s with heap:=y,toks:=O }->Ac y d es ep->ItA y it d 0 es.size ep .none ah .none .none ->
   codeAny (Bg X.p X.w) A (.builtin "list.extend.loop" {[.ref S,.ref it,res],[]}) R { s with heap:=y,toks:=O }:=λy O R I I4 ab ai=>
  ziJ (A:=A) (H:=H) (es:=es) (ep:=ep) hh G hd Si di hl aj al I l.length 0 _ (upd H S (.lst [])) [] .none .none .none ah (Nat.sub_zero _) (bQ _) I4 SS zh .nil ab ai (.inl {U,U}) fp
 refine iF (λ_=>?_) (λ_=>bm {eQ dI _,h h3 s.toks _ I I3 m u});refine ba (iP ?_);refine ba ?_;show Bf _ _ (updateSeq S (·.push .none) >>= λ_=>updateSeq S (·.pop)) _ _ _;refine ba (iE T3 U ?_);have T4:=cZ (dG (·.push cE)) T3 rfl;refine iE (hz:=by seq_fits) T4 U ?_;have I4:=I3.lset (f:=λxs=>xs.push cE) (its:=[]) (its':=[cE]) (ys:=[V.non]) (t':=s.toks) zh T3 U (.cons U .nil) ();have I5:=I4.lset (f:=λxs=>xs.pop) (its:=[cE]) (its':=[]) (ys:=[]) (t':=s.toks) zh T4 U .nil (bQ _);rw[Je,Je] at I5;have q:∀b o,b≠S->h3.get? b=Y o->((h3.update S (dG (·.push cE))).update S (dG (·.pop))).get? b=Y o:=λb o hb e=>(dM _ _ (eh hb)).trans ((dM _ _ (eh hb)).trans e);exact bm {eQ dI _,h _ s.toks _ I I5 (m.at λo e=>q d o Sd e) (q it _ (eh Si) u)}
theorem VX(T:X.c=ae):wM X (.type "list") zl0:=by
 intro aa s σ H vs us Q I y h;have #[r,d,aK,rfl,G,O,J,q]:=h;have #[u,rfl,v]:=xL y;cases v;have M:X.A.handled=af:=I.ok.hd T;refine callType_codes (Q₁:=λg c=>g=.ref s.heap.objs.size/\c={ s with heap:=s.heap.push { cls:=.type "list",data:=.seq #[] } }) PySem.F.called_list (PySem.F.typeCall_list_1 _) PySem.F.entry_list_init (code_list_new _ {rfl,rfl}) ?_;rintro g c ⟨rfl,rfl⟩;have l:H s.heap.objs.size=af:=I.hok.fresh (bo _);have I1:aN X aa σ (upd H s.heap.objs.size (.lst [])) { s with heap:=s.heap.push { cls:=.type "list",data:=.seq #[] } }:=I.lnew (its:=[]) (t':=s.toks) .nil (bQ _);have i:(s.heap.push { cls:=.type "list",data:=.seq #[] }).get? s.heap.objs.size=Y { cls:=.type "list",data:=.seq #[] }:=bq _ rfl;generalize hT:s.heap.objs.size=S at *
 refine{{_,i,U},PySem.F.args_list_init_2 _ _,?_};show Bf _ _ (do let k <-p8 (.ref S);Builtin.List.listUpdate (.ref S) (λ_=>#[]);letGo k.toList.reverse;cV (.ref S) (.ref r) .none) _ _ _;refine ba ?_;unfold p8;refine ba (eM i U (bm ?_));show Bf _ _ (updateSeq S (λ_=>#[]) >>= λ_=>letGo (#[]:Array am).toList.reverse >>= λ_=>cV (.ref S) (.ref r) .none) _ _ _;refine ba (iE i U ?_);have m:=I1.lset (f:=λ_=>(#[]:Array am)) (its:=[]) (its':=[]) (ys:=[]) (t':=s.toks) zh i U .nil (bQ _);rw[Je] at m;have T2:=cZ (dG (λ_=>(#[]:Array am))) i rfl;refine ba (mj ?_);generalize hh2:(s.heap.push { cls:=.type "list",data:=.seq #[] }).update S (dG (λ_=>(#[]:Array am)))=h2 at *
 exact zan (A:=X.A.in1) (H:=H) M l G O J m T2 λs' o ys I' t D z=>{U,.ref S,o,I',U,q S ys o t l D z}
theorem zeE{R:zS->ak->Prop}{H:Hp}(hh:A.handled=af)(O:H r=Y (JP r d))(hd:H d=Y (.dT aK))(hl:aK.length<=1000)(I:aN X aa σ H s)(h:∀J c g G,aN X aa σ c J->aJ H c->Bl (Xu c) g aK->aP g G->R G J):Bf (Bg X.p X.w) A (collect (.ref r)) R E s:=by
 have hS:H s.heap.objs.size=af:=I.hok.fresh (bo _);have I1:aN X aa σ (upd H s.heap.objs.size (.lst [])) { s with heap:=s.heap.push { cls:=.type "list",data:=.seq ([]:zS).toArray } }:=I.lnew (its:=[]) (t':=s.toks) .nil (bQ _);have T1:(s.heap.push { cls:=.type "list",data:=.seq ([]:zS).toArray }).get? s.heap.objs.size=Y { cls:=.type "list",data:=.seq #[] }:=bq _ rfl;unfold collect;refine ba (oF (dt m8 ?_));rw[cK iD _];show Bf _ A.in1 (newList [] >>= λl=>again (.builtin "list.__iadd__" {[l,.ref r],[]})) _ _ s;refine ba (cA ?_);refine bm {eQ eT _,dt pP ?_};rw[cK eT _];generalize s.heap.objs.size=S at *
 show Bf _ A.in1 (cV (.ref S) (.ref r) (.ref S)) _ _ _;have v:=zan (A:=A) (R:=λ(q:aB)(s':ak)=>∃c g,q=.ok (.ret (.ref S))/\aN X aa σ c s'/\aJ H c/\c S=Y (.lst g)/\Bl (Xu c) g aK) (res:=.ref S) hh hS O hd hl I1 T1 λs' c g m t D u=>{c,g,U,m,t,D,u};have k:∀s':ak,(∃c g,aN X aa σ c s'/\aJ H c/\c S=Y (.lst g)/\Bl (Xu c) g aK)->Bf (Bg X.p X.w) A (load S >>= λo=>match o.data with|.seq xs _=>pure xs.toList|_=>unsupported "internal:collect") R E s':=λs' ⟨c,g,m,t,D,u⟩=>by have #[z,its,n,M,T,e]:=m.lstM D;refine ba (oI e ?_);refine bm ?_;exact h s' c g its m t u M
 refine f6 v (λf s' x=>?_) λe s' x=>?_
 .cases f with
  |done f=>
   have #[c,g,e,x]:=x;cases e;exact k s' {c,g,x}
  |again c₁=>
   refine{x.1,gg x.2 λq i y=>?_};have #[c,g,rfl,y]:=y;exact k i {c,g,y}
 .have #[_,_,e',_]:=x;cases e'
theorem ziL{x y:B}{a b:Str×Int}{Q:Bool->ak->Prop}(hu:A.units<cLine)(T:ib s.heap (.ref x) a)(O:ib s.heap (.ref y) b)(h:Q (yc a b) s):Bf (Bg P w) A (oneLt' ah (.ref x) (.ref y)) Q E s:=by have #[p,o,t,u,n,e1,m,r,q]:=T;have #[p2,J,G,D,M,e2,d,i,g]:=O;cases e1;cases e2;have #[c,dd,ab,I]:=o;have #[c2,l,v,k]:=J;simp only at r q i g;subst r q i g;have z:s.TypeIs (.ref x) "tuple":={_,m,U};have T2:s.TypeIs (.ref y) "tuple":={_,d,U};refine kat_one _ _ ?_;show Bf _ _ (richCompare .Lt (.ref x) (.ref y)) _ _ _;refine wpAny_richCompare_same_room z T2 rK ?_ hu;exact fQ rK z PySem.F.entry_tuple_lt (PySem.F.args_tuple_lt_2 _ _) (JN x y a.1 b.1 a.2 b.2 t u G D n M dd l I k) {m,d,by simp,h}
theorem ziM{x:B}{a:Str×Int}(c:ib h (.ref x) a):IsTupleKey (yg P w) h (zD a) x:=by have #[p,o,t,u,n,k,d,i,g]:=c;cases k;exact{o,_,n,d,i,g,Ww (ks:=zD a) (.cons {t,U} (.cons {u,U} .nil))}
def RvAt(h:au)(v:am)(q:Row):Prop:=∃a o p t n,v=.ref a/\h.get? a=Y o/\o.cls=.type "tuple"/\o.data=.seq #[.ref p,.int q.2 t] n/\ib h (.ref p) q.1
theorem RvAt.keep(x:RvAt h v q)(k:∀b o,h.get? b=Y o->h'.get? b=Y o):RvAt h' v q:=by have #[a,o,p,t,n,e,d,i,g,c]:=x;exact{a,o,p,t,n,e,k _ _ d,i,g,c.keep k}
theorem zkT{x y:am}{a b:Row}{Q:Bool->ak->Prop}(i:A.units<cLine)(q:RvAt s.heap x a)(m:RvAt s.heap y b)(h:Q (yc a.1 b.1) s)(u:a.1≠b.1):Bf (Bg P w) A (keyLt' (tuples' ah) x y) Q E s:=by
 have #[p,o,G,t,n,rfl,r,M,v,k]:=q;have #[p2,I,l,D,J,rfl,d,z,g,c]:=m;refine kat_lt r v d g (kat_cons (wpAny_eqBool_tuple (knd:=yg P w) i (ziM k) (ziM c) (kat_go (λe=>?_) λe=>kat_no ?_)))
 .exact absurd (y7 (of_decide_eq_true e)) u
 .exact ziL i k c h
theorem ziN{c:zS}{qs:zF}{Q:SortKind->ak->Prop}(l:c.length=qs.length)(d:∀(i:Nat)(v:am)(q:Row),c[i]?=Y v->qs[i]?=Y q->RvAt s.heap v q)(h2:0<c.length)(h:Q (tuples' ah) s) :
  Bf (Bg P w) A (keyKind' c.toArray) Q E s:=by
 have T:∀(c:zS)(qs:zF),c.length=qs.length->(∀(i:Nat)(v:am)(q:Row),c[i]?=Y v->qs[i]?=Y q->RvAt s.heap v q)->∃g,KatTups s.heap c g/\g.length=c.length/\∀v∈g,∃p o,v=bN p/\s.heap.get? p=Y o/\o.cls=.type "tuple":=by
  intro c;induction c with
  |nil=>exact λqs _ _=>{[],trivial,U,nofun}
  |cons v r ih=>
   intro qs l d
   match qs,l with
   |q::qr,l=>
    have #[g,k,y,kf]:=ih qr (by simpa using l) λi D G e1 e2=>d (i+1) D G (by simpa using e1) (by simpa using e2);have #[a,o,p,t,n,rfl,M,hc,O,J]:=d 0 v q U rfl;refine{.ref p::g,uR M hc O U k,by simp[y],λz hz=>?_};obtain rfl|hz:=bn.mp hz
    .have #[p',I,_,_,_,e,u,m,_]:=J;cases e;exact{_,I,U,u,m}
    .exact kf z hz
 have #[g,k,y,kf]:=T c qs l d;refine kat_kind (T:=.type "tuple") k () (λv d=>?_) () h;have #[p,o,rfl,u,m]:=kf v d;exact m ▸ (W.Looks.ld u).andThen .now
theorem zbm{l:B}{κ:SortKind}{Q:nA}(G:zS->(Nat->Nat->Bool)->ak->Prop)(y:∀R:zS->ak->Prop,(∀r lt d,G r lt d->R r d)->Bf (Bg P w) A.in1 (collect (.ref l)) R E s)(I:∀r lt d,G r lt d->r.length<64/\SO lt r.length)(hk:∀r lt d,G r lt d->2<=r.length->∀(h:au)(Q:SortKind->ak->Prop),(∀b o,d.heap.get? b=Y o->h.get? b=Y o)->Q κ { d with heap:=h }->Bf (Bg P w) A.in1.in1 (keyKind' r.toArray) Q (λ_ _=>False) { d with heap:=h })(hc:∀r lt d,G r lt d->∀(h:au) i j C,(∀b o,d.heap.get? b=Y o->h.get? b=Y o)->i<r.length->j<r.length->i≠j->C (lt i j) { d with heap:=h }->kas_ask P w A.in1.in1 κ r i j C { d with heap:=h })(J:∀r lt d,G r lt d->∀(t:au)(p:ANt)(c:Nat),(∀b o,d.heap.get? b=Y o->t.get? b=Y o)->t.get? d.heap.objs.size=Y (seqObj "list" (vm r p).toArray c)->PP r.length p->Zj lt p r.length->Q (.ref d.heap.objs.size) { d with heap:=t }) :
  Bf (Bg P w) A (call (.builtin "sorted") [.ref l]) Q E s:=by
 refine iZ sK rE rF (rG _) ?_;unfold Builtin.«sorted»;refine ba (m:=checkCount "sorted" 1 1 _) (bm ?_);refine ba (y _ λr lt d g=>?_);have #[z,S]:=I r lt d g;refine ba (nE ?_ (by rw[cu];lia));have v:(d.heap.push (seqObj "list" r.toArray 0)).get? d.heap.objs.size=Y (seqObj "list" r.toArray 0):=bq _ rfl;have u:∀t,Kp d.heap.objs.size (d.heap.push (seqObj "list" r.toArray 0)) t->∀b o,d.heap.get? b=Y o->t.get? b=Y o:=λt k b o e=>k b o (bK (bF e)) (bg _ e);refine ba (c8 (cr oC {_,v,U} nS (YE (s:={ d with heap:=d.heap.push (seqObj "list" r.toArray 0) }) v z (κ:=κ) (lt:=lt) (λh2 t Q' k q=>?_) (λt i j C k hi hj D q=>?_) S λt p c k T O M=>?_) (oE _)))
 .exact hk r lt d g h2 t Q' (u t k) q
 .exact hc r lt d g t i j C (u t k) hi hj D q
 .exact{_,U,bm {_,U,J r lt d g t p c (u t k) T O M}}
def d0:Row:=(("",0),0)
theorem zmS(ac:zF):∃c:zF,mx ac=c.map (λq=>(zD q.1,V.int q.2))/\(c.map (·.1)).Nodup/\∀p w,(p,w)∈c↔zP ac p=Y w:=by
 have h:=k8 ac;have:∀(i:ya),(∀kv∈i,∃(p:Pl)(w:Int),kv=(zD p,.int w))->∃c:zF,i=c.map (λq=>(zD q.1,V.int q.2)):=λi=>by
  induction i with
  |nil=>exact λ_=>{[],U}
  |cons kv r ih=>
   intro t;have #[u,e]:=ih λz v=>t z (bw _ v);have #[p,w,o]:=t kv bu;exact{(p,w)::u,by rw[bC,<-e,o]}
 have #[c,e]:=this _ h.2;refine{c,e,?_,λp w=>?_}
 .have:=h.1;rw[e,fm] at this;refine xI (f:=zD) ?_;rw[fm];exact this
 .have m:=Aw (ac:=ac) (kv:=(zD p,V.int w));constructor
  .intro g;have #[I,G,d,o]:=m.mp (by rw[e];exact bH.mpr {_,g,U});have l:=y7 (sL d).1;have k:=V.int.inj (sL d).2;rw[l,k];exact o
  .intro y;have g:=m.mpr {p,w,U,y};rw[e] at g;have #[q,D,d]:=bH.mp g;have l:=y7 (sL d).1;have k:=V.int.inj (sL d).2;rw[<-l,<-k];exact D
theorem JQ{c:Type}(l:List c)(d:c):(cG l.length).map (λi=>l.getD i d)=l:=by
 apply cY;intro i;rw[br];by_cases hi:i<l.length
 .rw[nR hi,bd hi];simp[bA,bd hi]
 .rw[bV (by simpa using hi),bV ()];rfl
theorem PP.list{p:ANt}(h:PP n p):p.toList.Perm (cG n):=by have:=iU.mp h;simpa using this
theorem PP.lt{p:ANt}(h:PP n p):∀i∈p.toList,i<n:=λi c=>by have:=h.list.mem_iff.mp c;simpa using this
theorem JR{c:Type}{F:c->c->Bool}{l:List c}{d:c}{n:Nat}{p:ANt}(v:PP n p)(u:Zj (λi j=>F (l.getD i d) (l.getD j d)) p n):(p.toList.map λi=>l.getD i d).Pairwise λa b=>F a b=ae:=by
 rw[iQ,gD];intro i j k g h;rw[bW] at k g;have o:=kZ k;have m:=kZ g;have y:=v.size;have r:=u i j h ();have t:p.toList[i]=gt p i:=by rw[ck k] at o;simpa using o
 have q:p.toList[j]=gt p j:=by rw[ck g] at m;simpa using m
 rw[t,q];exact r
theorem Zu{k g:Type}{F:k->g->Prop}{d:List k}{c:List g}(h:Bl F d c)(a:k)(b:g):∀ {is:xo},(∀i∈is,i<d.length)->Bl F (is.map λi=>d.getD i a) (is.map λi=>c.getD i b)
 |[],_=>.nil
 |i::r,hi=>by have l:=bO h;have t:=hi i bu;refine .cons ?_ (Zu h a b λj q=>hi j (bw _ q));show F (d.getD i a) (c.getD i b);have o:=bd t;have m:c[i]?=Y c[i]:=bd ();rw[bA,bA,o,m];exact yW h o m
abbrev zl1:RC:=λk H Q=>∃r d h,k=[.ref r]/\H r=Y (JP r d)/\H d=Y (.dT (mx h))/\(mx h).length<64 /\
 ∀l i c g,aJ H g->H l=af->g l=Y (.lst i)->Bl (PrAt g) i c->pv c->(∀p w,(p,w)∈c↔zP h p=Y w)->Q (.ref l) g
theorem zl3{H:Hp}:∀ {d:LV}{c:zF},Bl (Xu H) d (c.map λq=>(zD q.1,V.int q.2))->Bl (PrAt H) d c
 |_,[],h=>by cases h;exact .nil
 |_,q::r,h=>by
  rw[bC] at h;cases h with
  |cons a t=>exact .cons a (zl3 t)
theorem zn1{H:Hp}(I:aN X aa σ H s)(h:PrAt H v q)(r:aR v u):RvAt s.heap u q:=by
 have #[a,p,rfl,m,l]:=h;cases r;have #[_,k,c,o,i,g,n,d]:=(show aT X.p X.w H s.heap a (.tup [.ref p,.int q.2]) from I.hok a _ m);cases c with
 |cons r1 rr=>
  cases rr with
  |cons r2 rn=>
   cases rn;cases r1;have #[t,rfl]:=r2;exact{a,o,p,t,n,U,i,g,d,Xp I l}
theorem Xv(hc:X.c=ae)(hu:X.A.units+3<cLine):wM X (.builtin "sorted") zl1:=by
 intro aa s σ H t us Q I r0 h;have #[r,d,ac,rfl,hr,hd,as,q]:=h;have #[u,rfl,ru]:=xL r0;cases ru;have hh:X.A.handled=af:=I.ok.hd hc;have #[its,ei,nd,mi]:=zmS ac;have li:(mx ac).length=its.length:=by rw[ei,bh]
 have so:=YF nd;have T:∀ {g:ak}{l:Hp}{m:LV}{t:zS},aN X aa σ l g->Bl (PrAt l) m its->aP m t->∀(i:Nat)(q:Row),its[i]?=Y q->∃v,t[i]?=Y v/\RvAt g.heap v q:=λ{g l m t} M D G i q hq=>by have O:=(bp.mp hq).1;have l1:=bO D;obtain⟨y,hy⟩:∃y,m[i]?=Y y:={_,bd ()};have #[u,al,ru]:=G.get hy;exact{u,al,zn1 M (yW D hy hq) ru}
 refine zbm (κ:=tuples' ah) (λt lt g=>∃l m,aN X aa σ l g/\aJ H l/\Bl (PrAt l) m its/\aP m t/\lt=λi j=>yc ((its.map (·.1)).getD i (("",0):Pl)) ((its.map (·.1)).getD j (("",0):Pl)))
  (λR hR=>zeE (A:=X.A.in1) hh hr hd () I λg l m us M sm D G=>hR us _ g {l,m,M,sm,zl3 (by rw[<-ei];exact D),G,U}) ?_ ?_ ?_ ?_
 .rintro t lt g ⟨l,m,M,sm,D,G,rfl⟩;have l1:=bO D;have l2:=G.length;refine{(),?_};rw[show t.length=(its.map (·.1)).length by rw[bh];lia];exact so
 .rintro t lt g ⟨l,m,M,sm,D,G,rfl⟩ h2 h Q' k q';have l1:=bO D;have l2:=G.length;refine ziN (s:={ g with heap:=h }) (qs:=its) () (λi v q hv hq=>?_) () q';have #[v',aj,rr]:=T M D G i q hq;rw[hv] at aj;cases aj;exact rr.keep k
 .rintro t lt g ⟨l,m,M,sm,D,G,rfl⟩ h i j C k O hj ar q';have l1:=bO D;have l2:=G.length;have e1:its[i]?=Y its[i]:=bd ();have e2:its[j]?=Y its[j]:=bd ();have #[v1,g1,r1]:=T M D G i _ e1;have #[v2,g2,r2]:=T M D G j _ e2;have n1:(its.map (·.1)).getD i (("",0):Pl)=its[i].1:=by rw[bA,br,e1];rfl
  have n2:(its.map (·.1)).getD j (("",0):Pl)=its[j].1:=by rw[bA,br,e2];rfl
  have m1:t.getD i cE=v1:=by rw[bA,g1];rfl
  have m2:t.getD j cE=v2:=by rw[bA,g2];rfl
  simp only[n1,n2] at q';have ai:=zkT (P:=X.p) (w:=X.w) (A:=X.A.in1.in1) (E:=λ_ _=>False) (s:={ g with heap:=h }) (Q:=C) (by have e:X.A.in1.in1.units=X.A.units+2:=rfl;lia) (r1.keep k) (r2.keep k) q' λz=>ar (by
   have e3:(its.map (·.1))[i]?=Y its[i].1:=by rw[br,e1];rfl
   have e4:(its.map (·.1))[j]?=Y its[j].1:=by rw[br,e2];rfl
   rw[z] at e3;exact(ms (by rw[bh];lia) nd).mp (e3.trans e4.symm))
  rw[<-m1,<-m2] at ai;exact ai
 .rintro t lt g ⟨l,m,M,sm,D,G,rfl⟩ h' p c k hD hp hr;have l1:=bO D;have l2:=G.length;have J:PP its.length p:=by rw[show its.length=t.length by lia];exact hp
  have fr:l g.heap.objs.size=af:=M.hok.fresh (bo _);have sz:=J.size;have pk:=Zu D V.non d0 (is:=p.toList) λi O=>by have:=J.lt i O;lia
  have vk:aP (p.toList.map λi=>m.getD i V.non) (vm t p):=Zu G V.non cE (is:=p.toList) λi O=>by have:=J.lt i O;lia
  have I2:aN X aa σ (upd l g.heap.objs.size (.lst (p.toList.map λi=>m.getD i V.non))) { g with heap:=h' }:=M.laid (a:=g.heap.objs.size) (o:=.lst (p.toList.map λi=>m.getD i V.non)) (t':=g.toks) k (bo _)
   {by rw[bh,bW];exact b9 (by lia:_<=64) (),vm t p,c,vk,hD}
  have S2:aJ l (upd l g.heap.objs.size (.lst (p.toList.map λi=>m.getD i V.non))):=hX _ fr;have hn:H g.heap.objs.size=af:=by
   cases e:H g.heap.objs.size with
   |none=>rfl
   |some o=>rw[sm _ _ e] at fr;cases fr
  have ab:∀ {us:LV}{ws:zF},Bl (PrAt l) us ws->Bl (PrAt (upd l g.heap.objs.size (.lst (p.toList.map λi=>m.getD i V.non)))) us ws:=λ{us ws} h=>by
   induction h with
   |nil=>exact .nil
   |cons a _ ih=>
    have #[r,p,e,h1,h2]:=a;exact .cons {r,p,e,S2 _ _ h1,S2 _ _ h2} ih
  refine{.ref g.heap.objs.size,_,I2,U,q _ _ (p.toList.map λi=>its.getD i d0) _ (sm.trans S2) hn zh (ab pk) ?_ λpl wv=>?_}
  .have an:Zj (λi j=>yc ((its.map (·.1)).getD i (("",0):Pl)) ((its.map (·.1)).getD j (("",0):Pl))) p its.length:=by rw[show its.length=t.length by lia];exact hr
   have pw:=JR (F:=yc) J an;have eq:(p.toList.map λi=>its.getD i d0).map (·.1)=p.toList.map λi=>(its.map (·.1)).getD i (("",0):Pl):=by rw[fm];refine dR λi O=>?_;have O:=J.lt i O;simp[bA,br,bd O]
   rw[<-eq,iQ] at pw;exact pw
  .have pm:(p.toList.map λi=>its.getD i d0).Perm its:=by refine(J.list.map _).trans ?_;rw[JQ]
   rw[pm.mem_iff];exact mi pl wv
def ziO(lo c:Int)(n:Nat):It:={λi _=>i<n,λi H x d=>d=H/\x=.int (lo+i*c),λi _=>n<=i}
theorem zcS{P:aq}{w:ax}{K:bE}{tg:av}(it:B)(lo c:Int)(n:Nat):VU P w K tg (ziO lo c n) [it] it (λi h=>IsRangeIter h it (lo+(i:Nat)*c) ((n:Int)-(i:Nat)) c) where
 mem:=by simp
 obj:=λi h d b g=>by
  have e:b=it:=by simpa using g
  subst e;refine{_,d,λv z=>?_};have z':ut _=Data.cell v:=z;cases z'
 keep:=λi h q d k=>k it (by simp) _ d
 item:=by intro X D r G y i aa s σ H E I m d u;subst D r G;have #[f0,T,f2,O,M,J]:=m it (by simp);refine(Walks.range (prog:=X.p) (w:=X.w) (I.ok.hd y) it lo c n).item i s _ _ u d λv q tk hv l kk=>?_;have #[t,rfl]:=hv;have I1:aN X aa σ H { s with heap:=q,toks:=tk }:=I.turned (λb o g e=>kk b o (by simpa using g) e) f0 T O M J;exact{_,U,Jv (s:={ s with heap:=q,toks:=tk }) (n:="range_iterator") l rfl rfl () {.int (lo+i*c),H,I1,{t,rfl},{rfl,rfl},l,λb g=>(m b g).1}}
 done:=by intro X D r G y i aa s σ H E I m d u;subst D r G;have #[f0,T,f2,O,M,J]:=m it (by simp);exact pT (I.ok.hd y) d (by have:n<=i:=u;lia) λq eb=>{U,I.turned (t':=s.toks) (λb o g e=>eb b o g e) f0 T O M J}
 self:=λ_ _ _ _ _ d h=>pU d h
def Qh(i j c:Int):Nat:=if i<j then ((j-i-1)/c+1).toNat else 0
def zl5(ta:TA):TI:=λσ H R=>ta σ H λd g=>∃i j c:Int,d=[.int i,.int j,.int c]/\(0<=i/\i<1073741824/\0<=j/\j<1073741824/\0<c/\c<1073741824)/\R (ziO i c (Qh i j c)) g
theorem zgS{a b c:av}{ta:TA}(O:Gl X "range")(M:X.mg "range"=af)(T:PA X [a,b,c] ta)(J:Be [a,b,c] X.e=[(ah,eval a X.e),(ah,eval b X.e),(ah,eval c X.e)]:=by rfl)(k:Be [b,c] X.e=[(ah,eval b X.e),(ah,eval c X.e)]:=by rfl) :
  PI X tg (.Call (.Name "range" p) [a,b,c] [] pos) (zl5 ta):=by
 intro aa s σ H R I h;refine Call_ (qo I O M boot_range (dq (aW (T pos aa s σ H _ I h) λus g ⟨vs,z,I1,G,u⟩=>?_) (by rw[J,k]) (by rw[k];rfl)));have #[i,j,c,e,#[u,q2,q3,q4,m,q6],q]:=u;subst e;cases G with
 |cons r rr=>
  cases rr with
  |cons r' rr=>
   cases rr with
   |cons r'' rr=>
    cases rr;have #[t,rfl]:=r;have #[t',rfl]:=r';have #[d,rfl]:=r'';refine call_range_3 () ?_ (.inl (PyProof.noPylong_small ()));have v:lM i j c=(Qh i j c:Int):=by
     unfold lM Qh;rw[ao m];split
     .rename_i h;have:=Int.ediv_nonneg (a:=j-i-1) (b:=c) () ();lia
     .rfl
    have y:(Qh i j c:Int)<=1073741824/\(Qh i j c:Int)*c<=2147483648:=by
     unfold Qh;split
     .rename_i h;have h1:=Int.ediv_nonneg (a:=j-i-1) (b:=c) () ();have h2:=Int.ediv_le_self (a:=j-i-1) c ();have h3:=Int.ediv_mul_le (j-i-1) (b:=c) ();rw[nT (),Int.add_mul];lia
     .simp
    generalize Qh i j c=n at *
    have D:sM i j c=ae:=by unfold sM;rw[v];simp only[Builtin.Range.rangeFitsLong,bY,uB,decide_eq_true_eq,beq_iff_eq,show c > 0 from m,if_true];lia
    refine wpAny_pyIter_range (IsRange.new ..) D ?_;rw[v];have l:aN X aa σ z { g with heap:=g.heap.push { cls:=.type "range",data:=.fields #[.int i t,.int j t',.int c d] },toks:=g.toks }:=I1.kept λb o e=>bg _ e;refine{(g.heap.push { cls:=.type "range",data:=.fields #[.int i t,.int j t',.int c d] }).objs.size,[(g.heap.push { cls:=.type "range",data:=.fields #[.int i t,.int j t',.int c d] }).objs.size],_,_,z,U,l.kept (t':=g.toks) λb o e=>bg _ e,zcS _ i c n,?_,λb y=>?_,q}
    .show IsRangeIter _ _ (i+((0:Nat):Int)*c) ((n:Int)-((0:Nat):Int)) c;rw[show i+((0:Nat):Int)*c=i by simp,show (n:Int)-((0:Nat):Int)=n by simp];exact bq _ rfl
    .have e:b=(g.heap.push { cls:=.type "range",data:=.fields #[.int i t,.int j t',.int c d] }).objs.size:=by simpa using y
     subst e;exact l.fpOk (bo _) (l.hok.fresh (bo _))
structure StOk(n:Nat)(s:Sta):Prop where
 so:Jk s.sl
 wo:∀r∈s.wo,inW r.2=ae
 l1:s.sl.length<=n
 l2:s.wo.length<=n
 l3:s.sa.length<=n
theorem StOk.mono{s:Sta}(h:StOk n s)(l:n<=m):StOk m s:={h.so,h.wo,b9 h.l1 l,b9 h.l2 l,b9 h.l3 l}
theorem Yc{P:Row->Prop}{p:Pl}{w:Int}:∀ {l:zF},(∀r∈l,P r)->zP l p=Y w->P (p,w)
 |[],_,h=>by cases h
 |r::t,hp,h=>by
  rw[zP] at h;cases e:zP t p with
  |some w'=>
   rw[e] at h;have:w'=w:=by simpa using h
   subst this;exact Yc (λr d=>hp r (bw _ d)) e
  |none=>
   rw[e] at h;by_cases c:r.1=p
   .rw[ao c] at h;have:r.2=w:=by simpa using h
    rw[<-c,<-this];exact hp r bu
   .rw[ag c] at h;cases h
mutual
def zoL(P:Pl->Prop):Rw->Prop
 |.give sh e _=>∀c n,rk c e=.ok n->P (sh,n)
 |.iff _ a b=>ziP P a/\ziP P b
 |_=>True
def ziP(P:Pl->Prop):Rws->Prop
 |.nil=>True
 |.cons r rs=>zoL P r/\ziP P rs
end
inductive Oc where
 |done (sa:yz)
 |off (why:Str)
def Vh:V->PyData
 |.int i=>.int i
 |.str x=>.str x
 |_=>.none
def plV(v:V):Prop:=(∃i,v=.int i)\/∃x,v=.str x/\gN x=ae
def JS(e:LV):PyData:=.tuple (e.map Vh)
mutual
def rwD:Rw->PyData
 |.take sh e sl=>.tuple [.str "take",.str sh,JS e,.str sl]
 |.give sh e f=>.tuple [.str "give",.str sh,JS e,JS f]
 |.lt sl e=>.tuple [.str "let",.str sl,JS e]
 |.say e=>.tuple [.str "say",JS e]
 |.off e=>.tuple [.str "off",JS e]
 |.iff e a b=>.tuple [.str "if",JS e,.list (zmV a),.list (zmV b)]
def zmV:Rws->List PyData
 |.nil=>[]
 |.cons r rs=>rwD r::zmV rs
end
def tmP(e:LV):Prop:=∀v∈e,plV v
mutual
def zoM:Rw->Prop
 |.take sh e sl=>gN sh=ae/\tmP e/\gN sl=ae
 |.give sh e f=>gN sh=ae/\tmP e/\tmP f
 |.lt sl e=>gN sl=ae/\tmP e
 |.say e=>tmP e
 |.off e=>tmP e
 |.iff e a b=>tmP e/\ziQ a/\ziQ b
def ziQ:Rws->Prop
 |.nil=>True
 |.cons r rs=>zoM r/\ziQ rs
end
section
variable {F:uZ}
end
def Rws.snoc:Rws->Rw->Rws
 |.nil,x=>.cons x .nil
 |.cons r rs,x=>.cons r (rs.snoc x)
def Rws.app:Rws->Rws->Rws
 |.nil,x=>x
 |.cons r rs,x=>.cons r (rs.app x)
theorem Paired.snocP{d c:Type}{F:d->c->Prop}{x:d}{y:c}:∀ {a:List d}{b:List c},Bl F a b->F x y->Bl F (a++[x]) (b++[y])
 |_,_,.nil,h=>.cons h .nil
 |_,_,.cons a r,h=>.cons a (Paired.snocP r h)
theorem Paired.getP{c d:Type}{F:c->d->Prop}{a:List c}{b:List d}{i:Nat}{x:c}(h:Bl F a b)(e:a[i]?=Y x):∃y,b[i]?=Y y/\F x y:=by have g:=(bp.mp e).1;have l:=bO h;exact{b[i],bd (),yW h e (bd ())}
abbrev vH:RM:=λx xs H Q=>∃a b,x=.str a/\xs=[.str b]/\(b.length==0)=ah/\a.length<=100000/\(fJ a b).length<=100000/\∀l,H l=af->Q (.ref l) (upd H l (.lst ((fJ a b).map V.str)))
theorem Xw:∀(l:List (Str×Tok)),aP ((l.map (·.1)).map V.str) (strValues l)
 |[]=>.nil
 |p::r=>.cons {p.2,U} (Xw r)
theorem Zv:MtM X "str.split" vH:=by
 intro aa s σ H x xs v D Q I r y h;have #[a,b,rfl,rfl,k,M,J,q]:=h;have #[t,rfl]:=r;have #[u,rfl,t',rfl]:=xL y;have G:Bb=16777216:=cu;have d:∀(l:List (Str×Tok))(g c:Nat),l.map (·.1)=fJ a b->EP X aa σ Q (.ref s.heap.objs.size) { s with heap:=s.heap.push { cls:=.type "list",data:=.seq (strValues l).toArray c },toks:=g }:=λl g c e=>by have z:H s.heap.objs.size=af:=I.hok.fresh (bo _);have i:=Xw l;rw[e] at i;refine{.ref s.heap.objs.size,_,I.laid (a:=s.heap.objs.size) (o:=.lst ((fJ a b).map V.str)) (t':=g) (λb u e=>bg _ e) (bo _) {by rw[bh];lia,strValues l,c,i,bq _ U},U,q _ z}
 cases h1:(decide (a.length<b.length) || decide (sN a<sN b))
 .cases hf:(dX a b 0 a.length (a.length+1)).isEmpty
  .have m:fJ a b=Builtin.Str.partsBetween a (dX a b 0 a.length (a.length+1)) b.length:=(ag (ne_true_of_eq_false h1)).trans (ag (ne_true_of_eq_false hf));refine fQ eB (lF _ _ _) oQ (oq _ _) (meets_str_split_sep a b t t' h1 k hf () (by rw[<-m];lia)) ?_;rw[strsFrom_eq];exact d (numbered s.toks _) _ _ ((numbered_texts _ _).trans m.symm)
  .exact fQ eB (lF _ _ _) oQ (oq _ _) (meets_str_split_not_found a b t t' h1 k hf) (d [(a,t)] _ _ ((ag (ne_true_of_eq_false h1)).trans (ao hf)).symm)
 .exact fQ eB (lF _ _ _) oQ (oq _ _) (meets_str_split_cannot_occur a b t t' h1) (d [(a,t)] _ _ (ao h1).symm)
def EL(e it p:B)(k:Nat)(h:au):Prop:=(∃c,IsEnum h e it (k:Int) c)/\h.IsListIter it p k
def ziS(K:bE)(p:B)(xs:LV):It:={λi H=>i<xs.length/\aM K H p xs,λi H x c=>∃T u,x=.ref T/\H T=af/\c=upd H T (.tup [.int i,u])/\xs[i]?=Y u,λi H=>xs.length<=i/\aM K H p xs}
theorem zeG{P:aq}{w:ax}{K:bE}{G:List av}{x1}{pos:Pos}{e it p:B}{xs:LV}(D:e≠it) :
  VU P w K (.Tuple G x1 pos) (ziS K p xs) [e,it] e (EL e it p) where
 mem:=by simp
 obj:=λk h q c d=>by
  have #[#[l,m],#[y,g,J,di]]:=q;simp only[bn,bZ,or_false] at d;obtain rfl|rfl:=d
  .exact{_,m,λv z=>by cases z}
  .exact{_,g,λv z=>by rw[di] at z;cases z}
 keep:=λk h h' q kk=>by have #[#[l,m],#[y,g,J]]:=q;exact{{l,kk e (by simp) _ m},{y,kk it (by simp) _ g,J}}
 item:=by
  intro X hP hw hK d k aa s σ H E I M q hg;subst hP hw hK;have #[t,h1]:=hg;have #[us,T,p1,_]:=I.list h1;have #[u,hu,ru]:=T.get (i:=k) (x:=xs[k]) (bd t);have l:∀c∈[e,it],c≠s.heap.objs.size:=λc d=>by
   have #[#[l,m],#[y,g,J]]:=q;simp only[bn,bZ,or_false] at d;obtain rfl|rfl:=d
   .exact bK (bF m)
   .exact bK (bF g)
  have #[#[o0,m],g]:=q;refine wpAny_pyNext_enum_item m g p1.isList (x:=u) (by simpa using hu) D λh e8 i5 t5 sz k5=>?_;have I6:aN X aa σ (upd H s.heap.objs.size (.tup [.int k,xs[k]])) { s with heap:=s.heap.push { cls:=.type "tuple",data:=.seq #[.int k s.toks,u] },toks:=s.toks+1 }:=
   I.laid (a:=s.heap.objs.size) (o:=.tup [.int k,xs[k]]) (t':=s.toks+1) (λb u e=>bg _ e) (bo _) {(),[.int k s.toks,u],.cons {_,U} (.cons ru .nil),{_,bq _ U,U,_,U}}
  have r:∀c∈[e,it],upd H s.heap.objs.size (HO.tup [.int k,xs[k]]) c=af:=λc d=>by rw[zk (l c d)];exact(M c d).1
  have fz:∀c∈[e,it],ku X aa (upd H s.heap.objs.size (HO.tup [.int k,xs[k]])) c:=λc d=>{r c d,(M c d).2};refine{.ref s.heap.objs.size,U,nX e8 λh2 z9 O=>?_};have up:∀c o,c≠e->h.get? c=Y o->h2.get? c=Y o:=λc o d e=>by rw[show h2.get? c=h.get? c from O.2 c d];exact e
  have I7:aN X aa σ (upd H s.heap.objs.size (.tup [.int k,xs[k]])) { s with heap:=h2,toks:=s.toks+1 }:=I6.turnedL (s:={ s with heap:=s.heap.push { cls:=.type "tuple",data:=.seq #[.int k s.toks,u] },toks:=s.toks+1 }) (t':=s.toks+1) (ch:=[e,it]) (λc o d e=>by
   simp only[bn,bZ,or_false,not_or] at d;refine up c o d.1 ?_;obtain ⟨rfl,rfl⟩|e:=iW (show (s.heap.push { cls:=.type "tuple",data:=.seq #[.int k s.toks,u] }).get? c=Y o from e)
   .exact t5
   .exact k5 c o d.1 d.2 e) λc d=>fz c d
  refine{.ref s.heap.objs.size,_,I7,U,{_,_,U,I.hok.fresh (bo _),U,bd t},?_,r};have #[y,g,J]:=i5;exact{{_,z9},{y,up it _ (eh D) g,J}}
 done:=by intro X hP hw hK d k aa s σ H E I M q hg;subst hP hw hK;have #[t,h1]:=hg;have #[us,T,p1,_]:=I.list h1;have ab:=T.length;have #[#[o0,m],g]:=q;refine wpAny_pyNext_enum_end (I.ok.hd d) m g p1.isList (by simp;lia) λh hk=>{U,I.turnedL (t':=s.toks) (ch:=[e,it]) (λc o d e=>?_) λc d=>M c d};simp only[bn,bZ,or_false,not_or] at d;exact hk c o d.2 e
 self:=λ_ _ _ _ _ q h=>by have #[#[o0,m],g]:=q;exact my m h
def zn3(K:bE)(ta:TA):TI:=λσ H R=>ta σ H λd c=>∃p xs,d=[.ref p]/\aM K c p xs/\R (ziS K p xs) c
theorem zkU{g:List av}{x1}{v:Pos}{i:av}{ta:TA}{p pos:Pos}(O:Gl X "enumerate")(M:X.mg "enumerate"=af)(ha:PA X [i] ta)(T:Be [i] X.e=(ah,eval i X.e)::Be [] X.e:=by rfl)(o:(backTo pos (Be [] X.e)).any (·.1)=ah:=by rfl) :
  PI X (.Tuple g x1 v) (.Call (.Name "enumerate" p) [i] [] pos) (zn3 X.K ta):=by
 intro aa s σ H R I h;refine Call_ (qo I O M Xk (dq (aW (ha pos aa s σ H _ I h) ?_) T o));rintro us m ⟨vs,H1,l,r,D⟩;have #[a,xs,e,h1,q]:=D;subst e;have #[u1,rfl,z]:=xL r;cases z;have #[u,r,p1,_]:=l.list h1;refine call_enumerate_list p1.isList λh' t J _ k=>?_;refine my (s:={ m with heap:=h' }) t ?_;generalize hn:m.heap.objs.size=n at *
 have G:∀ {x y:Nat},x≠y->(show B from x)≠(show B from y):=λh=>h;refine{_,_,_,_,H1,U,l.kept (t':=m.toks) k,zeG (e:=n+1) (it:=n) (G ()),{{_,t},J},λc d=>?_,q};simp only[bn,bZ,or_false] at d;have d:n<=c:=by obtain rfl|rfl:=d <;> first|exact dE _ _|exact bo _
 exact l.fpOk (by rw[hn];exact d) (l.hok.fresh (by rw[hn];exact d))
theorem zeH{p:B}(xs:LV)(Pv:Nat->uU)(t:Pv 0 σ H)(h:∀i σ H,Pv i σ H->aM K H p xs)(o:∀i u T σ H,xs[i]?=Y u->H T=af->Pv i σ H->Bo (.ref T) σ (upd H T (.tup [.int i,u])) (Pv (i+1)))(q:∀σ H,Pv xs.length σ H->nx σ H) :
  ∃W:Nat->Nat->uU,(∃m,W 0 m σ H)/\∀i m σ H,W i m σ H->((ziS K p xs).stop i H/\nx σ H)\/((ziS K p xs).go i H/\∃N:uU,(∀c d,N c d->∃g,g<m/\W (i+1) g c d)/\∀x d,(ziS K p xs).yld i H x d->Bo x σ d N):=by
 refine{λi m σ H=>m=xs.length-i/\i<=xs.length/\Pv i σ H,{xs.length,by simp,bQ _,t},?_};rintro i m σ H ⟨rfl,v,Z⟩;by_cases hlt:i<xs.length
 .refine .inr {{hlt,h i σ H Z},Pv (i+1),λc d k=>{xs.length-(i+1),(),U,hlt,k},?_};rintro x d ⟨T,u,rfl,r,rfl,l⟩;exact o i u T σ H l r Z
 .obtain rfl:i=xs.length:=by lia
  exact .inl {{bo _,h _ σ H Z},q σ H Z}
theorem ziT{c:Nat}:∀ {a b r s:xo},c ∉ a->c ∉ b->a++c::r=b++c::s->a=b/\r=s
 |[],[],r,s,_,_,h=>by simpa using h
 |[],y::b,r,s,_,hb,h=>by simp only[fY,fE,cW] at h;exact absurd h.1 (λz=>hb (by rw[z];exact bu))
 |x::a,[],r,s,ha,_,h=>by simp only[fY,fE,cW] at h;exact absurd h.1.symm (λz=>ha (by rw[z];exact bu))
 |x::a,y::b,r,s,ha,hb,h=>by simp only[fE,cW] at h;have #[g,d]:=ziT (λz=>ha (bw _ z)) (λz=>hb (bw _ z)) h.2;exact{by rw[h.1,g],d}
theorem zao{r:zQ}:eU sep (x::y::r)=x++sep++eU sep (y::r):=rfl
theorem Yd{x y:Str}{r:zQ}:(eU ⟨#[c]⟩ (x::y::r)).cps.toList=x.cps.toList++c::(eU ⟨#[c]⟩ (y::r)).cps.toList:=by rw[zao,xX,xX,cF];rfl
theorem zcU{c:Nat}:∀ {a b:zQ},a≠[]->b≠[]->(∀p∈a,c ∉ p.cps.toList)->(∀p∈b,c ∉ p.cps.toList)->eU ⟨#[c]⟩ a=eU ⟨#[c]⟩ b->a=b
 |[],_,h,_,_,_,_=>absurd U h
 |_,[],_,h,_,_,_=>absurd U h
 |[x],[y],_,_,_,_,e=>by have e:x=y:=e;rw[e]
 |[x],y::z::s,_,_,ha,_,e=>by have d:(eU ⟨#[c]⟩ _).cps.toList=(eU ⟨#[c]⟩ _).cps.toList:=congrArg (λw:Str=>w.cps.toList) e;rw[Yd] at d;have g:x.cps.toList=y.cps.toList++c::(eU ⟨#[c]⟩ (z::s)).cps.toList:=d;exact absurd (by rw[g];simp) (ha x bu)
 |x::z::r,[y],_,_,_,hb,e=>by have d:(eU ⟨#[c]⟩ _).cps.toList=(eU ⟨#[c]⟩ _).cps.toList:=congrArg (λw:Str=>w.cps.toList) e;rw[Yd] at d;have g:x.cps.toList++c::(eU ⟨#[c]⟩ (z::r)).cps.toList=y.cps.toList:=d;exact absurd (by rw[<-g];simp) (hb y bu)
 |x::z::r,y::w::s,_,_,ha,hb,e=>by have d:(eU ⟨#[c]⟩ _).cps.toList=(eU ⟨#[c]⟩ _).cps.toList:=congrArg (λw:Str=>w.cps.toList) e;rw[Yd,Yd] at d;have #[g,k]:=ziT (ha x bu) (hb y bu) d;rw[wW g,zcU (a:=z::r) (b:=w::s) (by simp) (by simp) (λp i=>ha p (bw _ i)) (λp i=>hb p (bw _ i)) (wW k)]
theorem ziU(x y:Str):fJ x y≠[]:=by
 unfold fJ;split
 .simp
 .split
  .simp
  .rw[StrLaws.partsBetween_eq];have #[p,r,e]:=StrLaws.partsFrom_ne x y.length 0 (dX x y 0 x.length (x.length+1));rw[e];simp
theorem qx{ws:zQ}(h:ws≠[])(d:∀p∈ws,c ∉ p.cps.toList):fJ (eU ⟨#[c]⟩ ws) ⟨#[c]⟩=ws:=
 zcU (ziU _ _) h (StrLaws.split_free _ c) d (StrLaws.join_split _ _)
theorem k9(c:Str)(ls:zQ):Zs c ls=eU c ls:=by
 match ls with
 |[]=>exact rL c []
 |[p]=>rfl
 |a::b::r=>exact rL c (a::b::r)
variable {value:av}{pos':Pos}{ty:TE}
section
variable {st:ap}{hs:List ExceptHandler}{tb:TS}
theorem Xx(d:PS X.nox st tb):PS X.nox (.Try [st] (h::hs) [] [] pos) tb:=by
 intro aa s σ H D I h;refine wpAny_Try_except (pM (f6 (d aa s σ H D I h) (λf c q=>?_) λg c q=>q.elim));cases f with
 |next=>exact iq (iq q)
 |ret v=>exact q
 |brk=>exact q
 |cont=>exact q
end
def zl6(K:bE)(ta:TA):TI:=λσ H R=>ta σ H λg c=>∃p q xs d,g=[.ref p,.ref q]/\xs.length=d.length/\((aM K c p xs/\aM K c q d/\R (zmR K p q xs d) c)\/(aX K c p xs/\aX K c q d/\R (Itz K p q xs d) c))
theorem zkV{u:List av}{x1}{tp:Pos}{z v:av}{ta:TA}{p pos:Pos}(hg:Gl X "zip")(hm:X.mg "zip"=af)(ha:PA X [z,v] ta)(he:Be [z,v] X.e=(ah,eval z X.e)::Be [v] X.e:=by rfl)(O:(backTo pos (Be [v] X.e)).any (·.1)=ah:=by rfl) :
  PI X (.Tuple u x1 tp) (.Call (.Name "zip" p) [z,v] [] pos) (zl6 X.K ta):=by
 intro aa s σ H R I h;refine Call_ (qo I hg hm zmF (dq (aW (ha pos aa s σ H _ I h) ?_) he O));rintro us g ⟨vs,H1,l,G,q1⟩;have #[a,b,xs,ys,e,hl,q0]:=q1;subst e;have #[u1,u2,rfl,ra,rb]:=zlO G;cases ra;cases rb;have d:∀ {x y:Nat},x≠y->(show B from x)≠(show B from y):=λh=>h;obtain ⟨h1,h2,q⟩|⟨h1,h2,q⟩:=q0
 .have #[t,G,p1,_]:=l.list h1;have #[r,r2,p2,_]:=l.list h2;have M:a<g.heap.objs.size:=by have #[_,_,e,_]:=p1;exact bF e
  have J:b<g.heap.objs.size:=by have #[_,_,e,_]:=p2;exact bF e
  refine call_zip_2 p1.isList p2.isList λT z0 a0 b0 i0 j0 _ k=>?_;refine mX (s:={ g with heap:=T }) z0 ?_;generalize hn:g.heap.objs.size=n at *
  have o:∀k:Nat,(show Nat from a)≠n+k:=λk=>bK (cb M (dE _ _));have m:∀k:Nat,(show Nat from b)≠n+k:=λk=>bK (cb J (dE _ _));have D:ZipApart (n+4) (n+2) (n+3) n (n+1) a b:={d (),d (),d (),d (),d (),d (),d (),d (),d (),d (),o 4,o 3,o 0,o 1,m 4,m 3,m 0,m 1};refine{_,_,_,_,H1,U,l.kept (t':=g.toks) k,zgP D hl,{z0,a0,{_,_,b0},i0,j0},λc i=>?_,q};simp only[bn,bZ,or_false] at i;have i:n<=c:=by obtain rfl|rfl|rfl|rfl|rfl:=i <;> first|exact dE _ _|exact bo _
  exact l.fpOk (by rw[hn];exact i) (l.hok.fresh (by rw[hn];exact i))
 .have #[t,G,p1,_]:=l.tuple h1;have #[r,r2,p2,_]:=l.tuple h2;have M:a<g.heap.objs.size:=by have #[_,e,_]:=p1;exact bF e
  have J:b<g.heap.objs.size:=by have #[_,e,_]:=p2;exact bF e
  refine zgL (show g.heap.IsTuple a t.toArray from p1) (show g.heap.IsTuple b r.toArray from p2) λT st k=>?_;refine mX (s:={ g with heap:=T }) st.1 ?_;generalize hn:g.heap.objs.size=n at *
  have o:∀k:Nat,(show Nat from a)≠n+k:=λk=>bK (cb M (dE _ _));have m:∀k:Nat,(show Nat from b)≠n+k:=λk=>bK (cb J (dE _ _));have D:WD (n+4) (n+2) (n+3) n (n+1) a b:={d (),d (),d (),d (),d (),d (),d (),d (),d (),d (),o 4,o 3,o 0,o 1,m 4,m 3,m 0,m 1};refine{_,_,_,_,H1,U,l.kept (t':=g.toks) k,ziq D hl,st,λc i=>?_,q};simp only[bn,bZ,or_false] at i;have i:n<=c:=by obtain rfl|rfl|rfl|rfl|rfl:=i <;> first|exact dE _ _|exact bo _
  exact l.fpOk (by rw[hn];exact i) (l.hok.fresh (by rw[hn];exact i))
abbrev zbn(K:bE):R2:=λx y H Q=>∃a b xs,x=.ref a/\y=.ref b/\aM K H a xs/\aM K H b []/\Q (.bl (!decide (xs=[]))) H
theorem Xy(o:X.A.units+64<cLine):Ai X (Bi .NotEq) (zbn X.K):=by
 intro aa s σ H x y v u Q I d c h;have #[a,b,xs,rfl,rfl,i,g,q]:=h;by_cases e:xs=[]
 .subst e;exact zmK o aa s σ H _ _ v u Q I d c {a,b,[],[],U,U,i,g,{U,U,U},q}
 .cases d;cases c;have #[D,m,p1,_]:=I.list i;have #[t,l,p2,_]:=I.list g;cases l;have k:=m.length;have r:xs.length≠0:=λz=>e (dD z);rw[Bk e] at q;exact PySem.SeqAt.RcNeAt.lists_lengths p1.isList p2.isList (by simp;intro z;rw[z] at k;exact r k) () X.p X.w X.xe _ {.bl ae,H,I,U,q}
mutual
inductive ziV(H:Hp):V->PyData->Prop
 |int (i:Int):ziV H (.int i) (.int i)
 |str (x:Str):ziV H (.str x) (.str x)
 |lst {a:B} {xs:LV} {ds:List PyData}:H a=Y (.lst xs)->zcV H xs ds->ziV H (.ref a) (.list ds)
 |tup {a:B} {xs:LV} {ds:List PyData}:H a=Y (.tup xs)->zcV H xs ds->ziV H (.ref a) (.tuple ds)
inductive zcV(H:Hp):LV->List PyData->Prop
 |nil:zcV H [] []
 |cons {x:V} {d:PyData} {xs:LV} {ds:List PyData}:ziV H x d->zcV H xs ds->zcV H (x::xs) (d::ds)
end
abbrev zcW:RM:=zfw
abbrev zl7(K:bE):RC:=λxs H Q=>∃a,∃c:yz,xs=[.ref a]/\aM K H a (c.map V.int)/\Q (.int c.sum) H
theorem zgU(v:X.c=ae):wM X (.builtin "sum") (zl7 X.K):=by
 intro aa s σ H xs D Q I r h;have #[a,ns,rfl,o,q]:=h;have #[u,rfl,m]:=xL r;cases m;have #[c,l,p,M]:=I.list o;have k:IntsAre c ns:=zel l;have #[d,i]:=k.allInts.items;have g:s.heap.IsList a (intItems d):=i ▸ p.isList;refine sum_intListG (I.ok.hd v) g λO G J t=>?_;have z:ns=d.toList.map (·.1):=by rw[<-nums_intItems,<-i];exact(show numsOf c.toArray.toList=ns from k.numsOf).symm
 have y:preSum (numAt d) d.size=ns.sum:=by rw[preSum_eq,cB (by simp),z]
 rw[y];exact{.int ns.sum,H,I.kept t,{_,U},q}
open Classical in
def Cb(i:Int):Prop:=nM i<=1048576
theorem Cb.of{i:Int}(h:i.natAbs<2^64):Cb i:=b9 (intBits_le_iff.mpr h) ()
open Att PySem.Calls
theorem walk_ofXB{l:uy}{n k:Nat}{q:aq}{g:zQ}{XP:Ak->au->Prop}{YP:ax->au->Prop}{d:DefRec}{K:Params->bE}{sp:bE->Sp}{x:Str}
  (hn:l.most=Y n) (ab:n<=Bb) (aj:d.params.defaults=[]) (hr:hZ k callerA) (hY:∀(w:ax)(h:au),YP w h->(K w.params).In h) (F:∀(w:ax)(mg:Ak)(M:B)(h:au),(K w.params).In h->h.Ns Bd mg->mg d.name=Y (.ref M) ->
   ∃fd:Bc,(∀(s:ak)(u:am),BindsTo s fd {[u],[]} [(x,u)]) /\
    ∀base:au,(K w.params).In base->base.Ns Bd mg->bv l.prog w (K w.params) mg base (CX1 l.prog w) k M fd [x] (sp (K w.params))) (T:∀(K:bE)(H:Hp)(a:B)(t:yz),t.length<=n->(∀i∈t,Cb i)->zgE H->aM K H a (t.map V.int)->sp K [.ref a] H (λv _=>v=.bl ae) λ_ _ _=>False) :
  W.WalkO q g XP YP l.row.toRowW d [] (λf vs=>r6 f vs):=by
 intro w az ar mg mb G Bm M o pm cd a1 dV kV ho hd a0 hD ai hg aK an as D J aQ O aS;obtain rfl:dV=.none:=Dflts.none hD aj;obtain rfl:kV=.none:=Dflts.noKw hD;have #[a,vs,t,rfl,rfl,I,m,c]:=Q9 hn D O;have hb:∀i∈t,Cb i:=λi hi=>intBits_le_of_layable (layable_of_mem (lay0_int (layableW_item (layableW_arg J _ bu) _ (bH.mpr {i,hi,U}))) bu);have KX:=hY w _ Bm;have #[fd,al,hF]:=F w mg M _ KX G.T.g ai;refine enter_call (gg (zcu KX G.T.g G.T.b G.T.builtins G.T.nolimit hg I m (b9 c ab) hr hF al (λH hO hS=>T _ H a t c hb hO hS) λ_ _ _ z=>by have #[_,_,_,_,_,_,_,_,_,y]:=z;exact y) λr s' hq=>?_)
 have #[rfl,h2,h3,h4]:=hq;exact{.inl {.bool ae,.bool ae,[],U,λ_=>rfl,.bool ae,zaa l _,λ_=>{iM,λ_ hm=>(nomatch hm)}},h2,h3,h4}
def zeI(H:Hp)(v:V)(q:Pl):Prop:=∃p,v=.ref p/\H p=Y (.tup [.str q.1,.int q.2])
section
variable {K:Type}[DecidableEq K]
def yY(xs:List (K×B×am))(k:K):List (K×B×am):=xs.filter λx=>decide (x.1≠k)
theorem zeJ:∀ {xs:List (K×B×am)}{k:K},k ∉ xs.map (·.1)->yY xs k=xs:=λ{xs k} h=>lC.mpr λx c=>Bj λe=>h (bH.mpr {x,c,e})
theorem ziW:∀ {xs:List (K×B×am)}{j:Nat}{k:K}{p:B×am},(xs.map (·.1)).Nodup->xs[j]?=Y (k,p)->xs.eraseIdx j=yY xs k
 |[],j,k,p,_,h=>by simp at h
 |x::r,0,k,p,n,h=>by rw[bC,cx] at n;simp only[ca,cz] at h;subst h;show r=List.filter _ ((k,p)::r);rw[gP (by simp)];exact(zeJ n.1).symm
 |x::r,j+1,k,p,n,h=>by rw[bC,cx] at n;simp only[dZ] at h;have m:k∈r.map (·.1):=bH.mpr {(k,p),bU h,U};have c:x.1≠k:=λe=>n.1 (e ▸ m);show x::r.eraseIdx j=List.filter _ (x::r);rw[gQ (by simp[c]),ziW n.2 h];rfl
end
theorem WE{c d:Type}(f:c->d):∀(l:List c)(j:Nat),(l.map f).eraseIdx j=(l.eraseIdx j).map f
 |[],_=>rfl
 |_::_,0=>rfl
 |a::l,j+1=>by rw[bC,lP,lP,bC,WE f l j]
theorem KT.dropT{H:Hp}{xs:List (xt×B×am)}(r:KT H aK xs)(k:xt):KT H (yB aK k) (yY xs k):=by
 induction r with
 |nil=>exact .nil
 |@cons p q ps qs h t ih=>
  unfold yB yY;by_cases e:p.1=k
  .rw[gP (by simp[e]),gP (by simp[<-h.1,e])];exact ih
  .rw[gQ (by simp[e]),gQ (by simp[<-h.1,e])];exact .cons h ih
section
variable {K:Type}[DecidableEq K]{knd:HeapKind prog w K}{d a:B}{xs:List (K×B×am)}{k:K}
theorem zbo{p:B×am}{Q:Option DictEntry->ak->Prop}(D:knd.room A)(c:knd.is s.heap k a)(M:s.heap.DictOfH knd d xs)(u:atKey xs k=Y p)(g:∀e:DictEntry,e.val=p.2->∀z,z.DictOfH knd d (yY xs k)->cv d s.heap z->Q (Y e) { s with heap:=z,toks:=s.toks+knd.draws k })(J:xs.length<=Bb) :
  Bf (Bg prog w) A (sk d (.ref a)) Q E s:=by
 have #[o,es,ep,i,T,h,t,m,r]:=M;have O:es.size=xs.length:=rM t;unfold sk
 try with_reducible refine c8 ?_
 refine ba (knd.pyHash D c ?_);refine ba (wpAny_dictFind_heap (s:={ s with toks:=s.toks+knd.draws k }) D c i h t m r ?_ ?_)
 .intro v;rw[atKey_none_of_get v] at u;cases u
 .intro j q y;have G:=atKey_of_get r y;rw[u] at G;cases G;refine ba (eE (s:={ s with toks:=s.toks+knd.draws k }) i h ?_);rw[entry_at t j,y];refine ba (sn (hz:=by lia) (s:={ s with toks:=s.toks+knd.draws k }) i h (bm (g (entryOfKey knd (k,p)) rfl _ {_,_,ep+1,cZ _ i (sO (iX h _)),T.mapDictKeys _,iX h _,?_,?_,?_} (cP ..))))
  .rw[<-ziW r y,<-WE,<-t];have #[l]:=es;simp
  .intro x I;exact knd.keeps (m x (da.mp I).1) i h (cP ..)
  .exact ii (gY _ fX) r
theorem zeK :MeetsIn prog w (Builtin.«dict.pop» {[.ref d,.ref a],[]}) (λA R s=>knd.room A.in1/\∃k xs p,knd.is s.heap k a/\s.heap.DictOfH knd d xs/\xs.length<=Bb/\atKey xs k=Y p /\
   ∀g,g.DictOfH knd d (yY xs k)->cv d s.heap g->R (.ok (.ret p.2)) { s with heap:=g,toks:=s.toks+knd.draws k }):=
 .of_wp λA R s ⟨D,k,xs,p,c,m,y,t,h⟩=>by
  unfold Builtin.«dict.pop»;refine ba ?_;unfold nY;refine ba (gu m.typeIs ?_);show Bf _ _ (pure (d,bN a,af)) _ _ s;refine bm ?_;have v:(keyPart (bN a)).isSome=ah:=rfl;simp only[v,cH,if_false];have #[o,es,ep,G,hc,M,J,I,T]:=id m;refine ba (eE G M ?_);refine ba (bm ?_);have u:es.isEmpty=ah:=by
   have q:=rM J;cases xs with
   |nil=>simp[atKey] at t
   |cons x r=>
    rw[Array.isEmpty_eq_false_iff];intro z;rw[z] at q;simp at q
  simp only[u,cH,if_false];refine ba (zbo D c m t (λe O g l i=>?_) y);simp only[tw,cH,if_false];exact ba (mj (bm {e.val,U,by rw[O];exact h g l i}))
theorem VY{g:am}{Q:nA}(D:knd.room A)(c:knd.is s.heap k a)(J:s.heap.DictOfH knd d xs)(h1:∀p,atKey xs k=Y p->Q p.2 { s with toks:=s.toks+knd.draws k })(T:atKey xs k=af->∀v,v.DictOfH knd d (storedH xs k a g)->cv d s.heap v->Q g { s with heap:=v,toks:=s.toks+knd.draws k })(I:xs.length<=Bb) :
  Bf (Bg prog w) A (dictSetDefault d (.ref a) g) Q E s:=by
 have #[o,es,ep,i,O,h,r,q,u]:=J;have M:es.size=xs.length:=rM r;unfold dictSetDefault
 try with_reducible refine c8 ?_
 refine ba (knd.pyHash D c ?_);refine ba (wpAny_dictFind_heap (s:={ s with toks:=s.toks+knd.draws k }) D c i h r q u ?_ ?_)
 .intro m;have l:k ∉ xs.map (·.1):=not_mem_keys_of_get m;have t:=atKey_none_of_get m;refine ba (iP (ba (sn (hz:=by lia) (s:={ s with toks:=s.toks+knd.draws k }) i h (bm (T t _ {_,_,ep+1,cZ _ i (sO (iX h _)),
   O.mapDictKeys _,iX h _,?_,?_,?_} (cP ..))))))
  .rw[storedH_new t];simp[r,entryOfKey]
  .rw[storedH_new t];intro x hx;obtain hx|hx:=bP.mp hx
   .exact knd.keeps (q x hx) i h (cP ..)
   .simp only[bB] at hx;subst hx;exact knd.keeps c i h (cP ..)
  .rw[storedH_new t];rw[b7,fS];refine{u,by simp,?_};intro x hx y z;simp only[bC,lE,bB] at z;subst z;exact λe=>l (e ▸ hx)
 .intro j p G;refine ba (eE (s:={ s with toks:=s.toks+knd.draws k }) i h ?_);rw[entry_at r j,G];exact ba (iP (bm (h1 p (atKey_of_get u G))))
theorem Qi(t:(d==sysModules)=ah)(dflt:am):MeetsIn prog w (Builtin.«dict.setdefault» {[.ref d,.ref a,dflt],[]}) (λA R s=>knd.room A.in1/\∃k xs,knd.is s.heap k a/\s.heap.DictOfH knd d xs/\xs.length<=Bb /\
   (∀p,atKey xs k=Y p->R (.ok (.ret p.2)) { s with toks:=s.toks+knd.draws k }) /\
   (atKey xs k=af->∀g,g.DictOfH knd d (storedH xs k a dflt)->cv d s.heap g->R (.ok (.ret dflt)) { s with heap:=g,toks:=s.toks+knd.draws k })):=
 .of_wp λA R s ⟨o,k,xs,c,l,m,v,u⟩=>by unfold Builtin.«dict.setdefault»;refine ba ?_;unfold nY;refine ba (gu l.typeIs ?_);show Bf _ _ (pure (d,bN a,Y dflt)) _ _ s;refine bm ?_;show Bf _ _ (if (d==sysModules)=ae then _ else (dictSetDefault d (.ref a) dflt >>= _)) _ _ s;rw[ag (by rw[t];exact bM)];exact ba (VY o c l (λp q=>bm {_,U,v p q}) (λr g i h=>bm {dflt,U,u r g i h}) m)
end
section
variable {a b:B}{aK:ya}{k:xt}
theorem zmW{Q:nA}(J:A.units+1<cLine)(I:aN X aa σ H s)(e:H a=Y (.dT aK))(eb:H b=Y (.tup (k.map kV)))(l:yu aK k=Y v)(h:∀g o,aN X aa σ (upd H a (.dT (yB aK k))) o->aR v g->Q g o):Bf (Bg X.p X.w) A (call (.builtin "dict.pop") [.ref a,.ref b]) Q E s:=by
 have #[z,T,xs,d,y]:=zcq I.hok e;have D:xs.length<=Bb:=by rw[<-bO d];exact z
 have r:=d.val k;rw[l] at r;have #[g,G,i]:=u9.some_of r;have #[p,O,rfl]:=cm.mp G;refine mJ fi y.typeIs lX (pC _ _) (zeK (knd:=tupleKind (yg X.p X.w))) {eN J,k,xs,p,qq I.hok eb,y,D,O,λh' m M=>h _ _ ?_ i};have #[q,es,ep,t,h2,h3,h4,_,h5]:=m;refine Z7 I (by rw[e];exact fC) M {q,t} {b9 (zcp aK k) z,T,_,(d.dropT k).keeps λc ys u=>?_,q,es,ep,t,h2,h3,h4,h5};rw[zk (zJ u e ())];exact u
theorem zgV{Q:nA}(T:A.units+1<cLine)(I:aN X aa σ H s)(e:H a=Y (.dT aK))(G:H b=Y (.tup (k.map kV)))(M:aR d r)(hl:aK.length<Bb)(h1:∀v t l,yu aK k=Y v->aN X aa σ H l->aR v t->Q t l)(h2:∀l,yu aK k=af->aN X aa σ (upd H a (.dT (xu aK k d))) l->Q r l):Bf (Bg X.p X.w) A (call (.builtin "dict.setdefault") [.ref a,.ref b,r]) Q E s:=by
 have #[z,y,xs,h,J]:=zcq I.hok e;have O:xs.length<=Bb:=by rw[<-bO h];exact z
 have g:=h.val k;refine mJ nG J.typeIs PySem.F.entry_dict_setdefault (PySem.F.args_dict_setdefault_3 _ _ _) (Qi (knd:=tupleKind (yg X.p X.w)) y r) {eN T,k,xs,qq I.hok G,J,O,λp hp=>?_,λhn h' o hs=>?_}
 .rw[hp] at g;cases i:yu aK k with
  |none=>rw[i] at g;exact g.elim
  |some v=>rw[i] at g;exact h1 v _ _ i (I.tok _) g
 .rw[hn] at g;have i:yu aK k=af:=by
   cases i:yu aK k with
   |none=>rfl
   |some v=>rw[i] at g;exact g.elim
  refine h2 _ i ?_;have #[q,es,ep,u,g2,g3,g4,_,g5]:=o;have m:(xu aK k d).length<=Bb:=by have:=jW aK k d;lia
  refine Z7 I (by rw[e];exact fC) hs {q,u} {m,y,_,(h.put k G M).keeps λc ys D=>?_,q,es,ep,u,g2,g3,g4,g5};rw[zk (zJ D e ())];exact D
end
def zmX(td ty:TE):TE:=λσ H Q=>td σ H λx g=>∃a,x=.ref a/\IsD g a/\ty σ g λy d=>∃c k b v,d a=Y (.dT c)/\y=.ref b/\d b=Y (.tup (k.map kV))/\yu c k=Y v/\Q v (upd d a (.dT (yB c k)))
def zmY(td ty h:TE):TE:=λσ H Q=>td σ H λx g=>∃a,x=.ref a/\IsD g a/\ty σ g λy i=>h σ i λz d=>∃c k b,d a=Y (.dT c)/\y=.ref b/\d b=Y (.tup (k.map kV))/\c.length<Bb /\
 (∀v,yu c k=Y v->Q v d)/\(yu c k=af->Q z (upd d a (.dT (xu c k z))))
section
variable {o f:av}{tx:TE}
theorem ziX(M:X.A.units+1<cLine)(O:PE X o td)(T:PE X e ty)(m:M1 X o "pop" gV e nB):PE X (.Call (.Attribute o "pop" gV) [e] [] nB) (zmX td ty):=by intro aa s σ H Q I h;refine iL m.base m.few m.line eO fi mL (aW (O aa s σ H _ I h) ?_);rintro u r ⟨x,H1,g,z,a,ex,d,G⟩;subst ex;obtain rfl:u=bN a:=z;have #[q,i,_]:=Wy g d;refine{q,i,?_};rw[m.trees];refine dL U (fI (eA (aW (T aa r σ H1 _ g G) λJ s2 ⟨y,H2,I2,t,aK,k,b,v,ea,ey,eb,l,D⟩=>gI ?_)));subst ey;cases (show J=bN b from t);exact zmW M I2 ea eb l λw' s3 I3 c=>{v,_,I3,c,D}
theorem ziY(hu:X.A.units+1<cLine)(ho:PE X o td)(he:PE X e ty)(hf:PE X f tx)(m:M2 X o "setdefault" gV e f nB):PE X (.Call (.Attribute o "setdefault" gV) [e,f] [] nB) (zmY td ty tx):=by
 intro aa s σ H Q I h;refine iL m.base m.few m.line eO nG PySem.F.type_dict_setdefault (aW (ho aa s σ H _ I h) ?_);rintro u G ⟨x,H1,l,M,a,ex,d,q1⟩;subst ex;obtain rfl:u=bN a:=M;have #[r,q,_]:=Wy l d;refine{r,q,?_};rw[m.trees];refine dL U (fI (eA (aW (he aa G σ H1 _ l q1) λiv D ⟨y,H2,I2,J,q2⟩=>
  eA (aW (hf aa D σ H2 _ I2 q2) λfv s3 ⟨z,H3,I3,i,aK,k,b,ea,ey,eb,hl,T,O⟩=>gI ?_))))
 subst ey;cases (show iv=bN b from J);exact zgV hu I3 ea eb i hl (λv w' t hv g c=>{v,_,g,c,T v hv}) λt hn g=>{z,_,g,i,O hn}
end
abbrev Vi:RM:=λx c H Q=>∃(l:B)(xs:LV)(k:Nat)(y:V),x=.ref l/\c=[.int k,y]/\H l=Y (.lst xs)/\k<=xs.length/\xs.length<1000000/\Q .non (upd H l (.lst (xs.take k++y::xs.drop k)))
abbrev Vj:RM:=λx d H Q=>∃(l:B)(c:yz)(i:Int),x=.ref l/\d=[.int i]/\H l=Y (.lst (c.map V.int))/\i∈c/\Q .non (upd H l (.lst ((c.erase i).map V.int)))
theorem aP.takeV:∀(k:Nat){xs:LV}{c:zS},aP xs c->aP (xs.take k) (c.take k)
 |0,_,_,_=>by rw[List.take_zero,List.take_zero];exact .nil
 |_+1,_,_,.nil=>.nil
 |k+1,_,_,.cons h r=>.cons h (aP.takeV k r)
theorem aP.dropV:∀(k:Nat){xs:LV}{c:zS},aP xs c->aP (xs.drop k) (c.drop k)
 |0,_,_,h=>h
 |_+1,_,_,.nil=>.nil
 |k+1,_,_,.cons _ r=>aP.dropV k r
theorem zap:MtM X "list.insert" Vi:=by
 intro aa s σ H x vs v us Q I o D h;have #[l,xs,k,y,rfl,rfl,m,hk,hz,q]:=h;cases o;cases D with
 |cons r1 rr=>
  have #[u,rfl,G]:=(show aP [y] _ from rr).one;have #[t,rfl]:=r1;have #[z,c,n,r,hl,e]:=I.lstM m;have h1:(1000000:Nat)<Bb:=by rw[cu];decide
  obtain⟨i,g⟩:∃i:Int,i=k:={_,U};rw[<-g];have T:¬ (!Builtin.List.listFitsIndex i)=ae:=by rw[fitsIndex_both () ()];exact bM
  have J:c.toArray.size<=Bb:=by rw[bJ];lia
  have M:=AutoSeq1.list_insert_list_int_val_1 l c.toArray n i t u T J;refine fQ F.slot_list_insert {_,e,U} F.entry_list_insert (F.args_list_insert_3 _ _ _) M {e,?_};refine{.non,_,I.lset (its':=c.take k++u::c.drop k) m e ?_ ((r.takeV k).append (.cons G (r.dropV k))) ?_,U,q}
  .have d:k<=c.length:=by lia
   subst g;have O:¬ ((k:Int)<0):=by lia
   simp[eC d,O];rw[cB (by rw[fD];lia)]
  .rw[bx,bG,cf,fD];lia
theorem zfJ:∀ {d:yz}{c:zS},aP (d.map V.int) c->∀(m:Nat)(v:am),c[m]?=Y v->∃i t,d[m]?=Y i/\v=.int i t
 |[],_,.nil,m,v,h=>by simp at h
 |i::d,_,.cons h r,0,v,e=>by simp only[ca,cz] at e;subst e;have #[t,rfl]:=h;exact{i,t,U,U}
 |i::d,_,.cons h r,m+1,v,e=>by simpa using zfJ r m v (by simpa using e)
def isI(k:Int):am->Bool
 |.int a _=>a==k
 |_=>ah
theorem zaq:MtM X "list.remove" Vj:=by
 intro aa s σ H x vs v us Q I O T h;have #[l,c,i,rfl,rfl,G,hi,q]:=h;cases O;have #[u,rfl,ru]:=T.one;have #[t,rfl]:=ru;have #[z,d,n,r,hl,e]:=I.lstM G;rw[bh] at hl z;have hj:c.idxOf i<c.length:=oR.mpr hi;have gt:∀m (g:m<d.toArray.size),∃(k:m<c.length)(t':Tok),d.toArray[m]=.int c[m] t':=λm g=>by
  rw[bJ] at g;have #[i',t',M,k]:=zfJ r m d[m] (bd g);have J:m<c.length:=by lia
  rw[bd J] at M;refine{J,t',?_};rw[bX M,<-k];simp
 refine fQ F.slot_list_remove {_,e,U} F.entry_list_remove (F.args_list_remove_2 _ _) (MeetsSeq.list_remove l d.toArray n (.int i t) (isI i) (λy hy=>?_) (c.idxOf i) (by rw[bJ];lia) ?_ (λm g D=>?_) (by rw[bJ];lia)) {e,?_}
 .have #[m,g,rfl]:=rN.mp hy;have #[k,t',o]:=gt m g;rw[o];exact MeetsSeq.EqGives.int _ _ _ _
 .have #[k,t',o]:=gt (c.idxOf i) (by rw[bJ];lia);rw[o];show (c[c.idxOf i]==i)=ae;rw[tz hj];exact beq_self_eq_true i
 .have #[k,t',o]:=gt m g;rw[o];show (c[m]==i)=ah;exact p9 (p:=λy=>y==i) (xs:=c) (i:=m) D
 .have ee:c.erase i=c.eraseIdx (c.idxOf i):=List.erase_eq_eraseIdx_of_idxOf rfl;rw[ee] at q;refine{.non,_,I.lset (its':=d.eraseIdx (c.idxOf i)) G e ?_ (by rw[<-WE];exact r.eraseIdx _) ?_,U,q}
  .show d.toArray.eraseIdxIfInBounds _=_;rw[mf]
  .rw[bh];have:=Q6 c (c.idxOf i);lia
def zeL(H:Hp)(y:V)(c:xt×V):Prop:=∃p,y=.ref p/\H p=Y (.tup (c.1.map kV))
abbrev zn4:RC:=λg H Q=>∃a d,g=[.ref a]/\H a=Y (.dT d)/\∀l c,H l=af->Bl (zeL H) c d->Q (.ref l) (upd H l (.lst c))
theorem Vk{H:Hp}{es:Array DictEntry}:∀(d:ya)(c:zS)(j:Nat),c.length=d.length->(∀i v,c[i]?=Y v->∃e,es[j+i]?=Y e/\v=e.key) ->
  (∀(i:Nat)(h:DictEntry)(kv:xt×V),es[j+i]?=Y h->d[i]?=Y kv->∃p,h.key=.ref p/\H p=Y (.tup (kv.1.map kV)))->∃g,aP g c/\Bl (zeL H) g d
 |[],[],_,_,_,_=>{[],.nil,.nil}
 |[],v::c,_,hl,_,_=>by simp at hl
 |kv::d,[],_,hl,_,_=>by simp at hl
 |kv::d,v::c,j,hl,h1,h2=>by have #[e,y,rfl]:=h1 0 v rfl;have #[p,r,z]:=h2 0 e kv y rfl;have #[g,o,m]:=Vk (es:=es) d c (j+1) (by simpa using hl) (λi u q=>by rw[Nat.add_assoc,Nat.add_comm 1 i];exact h1 (i+1) u (by simpa using q)) (λi h k l t=>h2 (i+1) h k (by rw[<-Nat.add_assoc,lR];exact l) (by simpa using t));exact{.ref p::g,.cons r o,.cons {p,U,z} m}
theorem jK(hc:X.c=ae):wM X (.type "list") zn4:=by
 intro aa s σ H vs us Q I T h;have #[a,aK,rfl,G,q]:=h;have #[u,rfl,J]:=xL T;cases J;have hh:X.A.handled=af:=I.ok.hd hc;have #[z,lo,_]:=zcq I.hok G;have #[es,ep,M,d,m]:=ziK I G;refine W.kdl_call (zbh (ep:=ep) (es:=es) lo) hh M (by rw[d];exact z) λh' r g c l hD y=>?_;have #[k,O,t]:=Vk (H:=H) (es:=es) aK g.toList 0 (by rw[bW,y.1,d]) (λi v hv=>by
   rw[gy];have #[e,h1,h2]:=y.2 i v (by rw[<-ce];exact hv);exact{e,h1,h2}) (λi en kv D l=>by rw[gy] at D;have #[p,g1,g2,_]:=m i en kv D l;exact{p,g1,g2})
 have I2:aN X aa σ (upd H s.heap.objs.size (.lst k)) { s with heap:=h',toks:=r }:=I.laid (a:=s.heap.objs.size) (o:=.lst k) (t':=r) l (bo _)
  {by have:=bO t;lia,g.toList,c,O,by rw[Array.toArray_toList];exact hD}
 exact{.ref s.heap.objs.size,_,I2,U,q _ k (I.hok.fresh (bo _)) t}
structure FunD(K:bE)(x qual:Str)(st:ap)(f:B)(fd:Bc):Prop where
 ex:∃(oc:am)(od:Option B)(dV kV doc pm:am)(an:Option B)(cdv ct:am)(osl:Array (Option am)),fd=ux x qual (Z8 st) (wU st) (zi st) dV kV doc pm an cdv ct/\K.lookup f=Y {oc,od,.func fd,osl}/\uo K cdv qual=ae
 kp:pc K (.ref f)=ae
section
variable {st:ap}{N:zQ}{k:Nat}
theorem FunD.ok1(F:FunD K x qual st f fd)(S:aH N ps (zi st))(h:∀d H Q E,sp d H Q E->d.length=ps.length)(g:∀(cdv:am)(A:aw)(c:LEv)(s:ak)(H:Hp)(d:LV)(Q:VK)(E:XK),hZ k (A.deeper (envOfC qual (zi st) s.heap.objs.size f cdv))->sp d H Q E->∃t,PSs (Qa (CX1 P w) P w K mg base N qual (zi st) f cdv A c s H E) (wU st) t/\t { nx:=λ_ q=>Q .non q,rt:=Q } (start N d) H):bv P w K mg base (CX1 P w) (k+1) f fd ps sp:=by have #[oc,od,dV,kV,doc,pm,an,cdv,ct,osl,rfl,m,l]:=F.ex;exact zlP m l S h λA c s H d Q E o i=>g cdv A c s H d Q E o i
theorem FunD.ok0(F:FunD K x qual st f fd)(S:aH N ps (zi st))(i:∀d H Q E,sp d H Q E->d.length=ps.length)(g:∀(cdv:am)(A:aw)(c:LEv)(s:ak)(H:Hp)(d:LV)(Q:VK)(E:XK),hZ k (A.deeper (envOfC qual (zi st) s.heap.objs.size f cdv))->sp d H Q E->∃t,PSs (Qa (CX1 P w) P w K mg base N qual (zi st) f cdv A c s H E).nox (wU st) t/\t { nx:=λ_ m=>Q .non m,rt:=Q } (start N d) H):bv P w K mg base (CX1 P w) (k+1) f fd ps sp:=
 F.ok1 S i λcdv A c s H d Q E l h=>let ⟨t,a,b⟩:=g cdv A c s H d Q E l h;{t,a.nox,b}
theorem fun_mkD{r q:Option B}{h:Array (Option am)}{m kV g i d o:am}(l:K.lookup f=Y {oc,r,.func (ux x qual (Z8 st) (wU st) (zi st) m kV g i q d o),h})(c:uo K d qual=ae)(k:pc K (.ref f)=ae):FunD K x qual st f (ux x qual (Z8 st) (wU st) (zi st) m kV g i q d o):={{oc,r,m,kV,g,i,q,d,o,h,U,l,c},k}
end
variable {CX:CXT}{dvs:LV}
section
variable {k:Nat}{E:XK}{m:Str}{o:av}
theorem zgW{i:Sem Bool}(u:PE X o ta)(c:Ae X.K C)(t:zcf X.K C m f)(F:bv X.p X.w X.K X.mg X.M CX k f fd ps sp)(r:hZ k X.A)(d:∃g,aP dvs g/\hV X.K fd ps g)(l:vE CX X E)(q:eval (.Call (.Attribute o m gV) [] [] pos) X.e=(do
   let h <-eval o X.e
   standAt gV.atName
   let (f,first) <-holding [h] (getMethod h m i)
   callWith pos f first (backTo pos (Be [] X.e)) (backToKw pos (keywordEach [] X.e))):=by rfl) :
  PE X (.Call (.Attribute o m gV) [] [] pos) (yk C m sp dvs E ta zm):=by have #[g,v,d]:=d;exact zch u c t F r d v l q
end
structure MkO(K:bE)(C:B):Prop where
 makes:uv K C=ae
 init:gc K (.ref C) "__init__"=Y (Y (.builtin "object.__init__"))
 kp:pc K (.ref C)=ae
def ziZ(C:B):TE:=λ_ H Q=>∀x c,H x=af->H c=af->c≠x->Q (.ref x) (upd (upd H c (.own x)) x (.ins C c []))
theorem zgX{H:Hp}{Q:VK}(M:MkO X.K C)(I:aN X aa σ H s)(h:∀x d,H x=af->H d=af->d≠x->Q (.ref x) (upd (upd H d (.own x)) x (.ins C d []))) :
  Bf (Bg X.p X.w) X.A (call (.ref C) []) (EP X aa σ Q) X.xe s:=by
 have g:=h (s.heap.objs.size+1) s.heap.objs.size (I.hok.fresh (gO _)) (I.hok.fresh (bo _)) (bK (i9 _));have l:=aN.made (C:=C) I;refine tJ (zgy I.kIn M.makes M.init (λc=>W.Looks.of_pure (W.oi_bind c)) ?_);have m:=W.makes_of (M:=Bg X.p X.w) I.kIn M.makes;have k:W.Looks (Bg X.p X.w) ((s.heap.push fc).push (gU C s.heap.objs.size)) (typeOf (.ref (s.heap.objs.size+1))) (.ref C):=by have:=bq (s.heap.push fc) (o:=gU C s.heap.objs.size) rfl;rw[eK] at this;exact(W.Looks.ld this).andThen .now
 have i:W.Looks (Bg X.p X.w) ((s.heap.push fc).push (gU C s.heap.objs.size)) (isInstance (.ref (s.heap.objs.size+1)) (.type "object")) ae:=k.andThen (m.top.keeps λb o e=>bg (gU C s.heap.objs.size) (bg fc e));refine ss W.oi_plain W.entry_oi (W.check_slot (rest:=[]) (kw:=[]) W.oi_kind W.oi_split i (W.oi_args _) ?_);rw[W.oi_run];exact bm {U,V.ref (s.heap.objs.size+1),_,l,U,g}
theorem JT(M:MkO X.K C)(g:Gl X x)(d:X.mg x=Y (.ref C))(c:Bq x:=by lia):PE X (.Call (.Name x p) [] [] pos) (ziZ C):=by intro aa s σ H Q I h;refine gh (Xb I g d ?_ c);exact sV I.kIn M.kp (zgX M I h)
def zmZ(k:List (B×Sp))(m:Str)(E:XK)(ta:TE)(t:TA):TE:=λσ H Q=>ta σ H λx d=>∃a h c C sp,x=.ref a/\d a=Y (.ins C h c)/\c.lookup m=af/\(C,sp)∈k/\t σ d λg i=>sp (x::g) i Q E
structure MOk(X:Cx)(CX:CXT)(m:Str)(C:B)(sp:Sp):Prop where
 cl:Ae X.K C
 fn:∃k f fd ps,zcf X.K C m f/\bv X.p X.w X.K X.mg X.M CX k f fd ps sp/\hZ k X.A/\hV X.K fd ps []
section
variable {E:XK}{m:Str}{o:av}{t:TA}{Bp:List (B×Sp)}
theorem zi0(c:Ae X.K C)(g:zcf X.K C m f)(F:bv X.p X.w X.K X.mg X.M CX k f fd ps sp)(d:hZ k X.A)(h:hV X.K fd ps []):MOk X CX m C sp:={c,k,f,fd,ps,g,F,d,h}
theorem zm0:∀z∈([]:List (B×Sp)),MOk X CX m z.1 z.2:=λz h=>nomatch h
theorem zbp(h:MOk X CX m C sp)(r:∀z∈Bp,MOk X CX m z.1 z.2):∀z∈(C,sp)::Bp,MOk X CX m z.1 z.2:=λz hz=>by
 obtain rfl|hz:=bn.mp hz
 .exact h
 .exact r z hz
theorem zi1{pl:Sem Bool}(he:PE X o ta)(hL:∀z∈Bp,MOk X CX m z.1 z.2)(T:vE CX X E)(ha:PA X (e::es) t)(d:Be (e::es) X.e=(ah,eval e X.e)::Be es X.e:=by rfl)(g:(backTo pos (Be es X.e)).any (·.1)=ah:=by rfl)(ht:eval (.Call (.Attribute o m gV) (e::es) [] pos) X.e=(do
   let i <-eval o X.e
   standAt gV.atName
   let (f,first) <-holding [i] (getMethod i m pl)
   callWith pos f first (backTo pos (Be (e::es) X.e)) (backToKw pos (keywordEach [] X.e))):=by rfl) :
  PE X (.Call (.Attribute o m gV) (e::es) [] pos) (zmZ Bp m E ta t):=by intro aa s σ H Q I h;refine rp (pl:=pl) (aW (he aa s σ H _ I h) ?_) ht;rintro u G ⟨x,H1,D,J,a,dx,fs,C,sp,ex,ea,l,O,q⟩;subst ex;obtain rfl:u=bN a:=J;have #[c,k,f,fd,ps,v,F,hr,hb]:=hL _ O;refine YC D ea c v l ?_;refine ro (first:=[.ref a]) (h₀:=X.M) I.ok.mod.kin v.kp (aW (ha pos aa G σ H1 _ D q) λus s2 ⟨vs,H2,y,r,M⟩=>{y.kIn,?_}) d g;exact za3 (us:=.ref a::us) (vs:=.ref a::vs) (dvs:=[]) F hr hb .nil T y (.cons U r) (by rw[cL];exact M)
end
abbrev zn5(K:bE):RC:=λxs H Q=>∃(a:B)(c:List Bool),xs=[.ref a]/\aM K H a (c.map V.bl)/\Q (.bl (c.any id)) H
theorem zgY(T:X.c=ae):wM X (.builtin "any") (zn5 X.K):=by
 intro aa s σ H xs us Q I r h;have #[a,c,rfl,O,q]:=h;have #[u,rfl,J]:=xL r;cases J;have #[d,z,p,hz]:=I.list O;have y:=z.length;rw[bh] at y;have t:a≠s.heap.objs.size:=by have #[o,n,e,_]:=p;exact bK (bF e)
 refine call_any_walk (iJ p.isList ?_);refine{s.heap.objs.size,_,_,d.toArray.size,λi v=>d.toArray[i]?=Y v,_,λi=>c.getD i ah,U,uG (A:=X.A.in1) (I.ok.hd T) _ a t d.toArray,?_,?_,λh' tk k=>?_}
 .exact{{_,bq _ U,U,U},p.isList.at λo e=>bg _ e}
 .intro i v s' Q' E' M hQ;have g:d[i]?=Y v:=by simpa using M
  have m:i<c.length:=by rw[y];exact(bp.mp g).1
  have #[u',D,G]:=z.get (i:=i) (x:=V.bl c[i]) (by simp[m]);rw[g] at D;cases D;cases G;have e:c.getD i ah=c[i]:=by simp[m]
  have l:Q' (c.getD i ah) s':=hQ;rw[e] at l;exact dW l
 .have e:(cG d.toArray.size).any (λi=>c.getD i ah)=c.any id:=by
   rw[bJ,<-y];have:c.map id=(cG c.length).map λi=>c.getD i ah:=by apply cY;intro i;by_cases m:i<c.length <;> simp[m]
   have h2:c.any id=(c.map id).any id:=by simp
   rw[h2,this,List.any_map];rfl
  rw[e];refine{.bl (c.any id),H,?_,U,q};exact I.kept λb o e=>k b o (by have:=bK (bF e);simpa using this) (bg _ e)
end L2
namespace HT
open PySem PySem.Spec PyProof.Rows
end HT
namespace L2
open PySem PySem.Spec PyProof.Rows
variable {X:Cx}
variable {e:av}{p2 pos:Pos}{te:TE}
variable {P:aq}{w:ax}{A:aw}{E:nA}{s:ak}
open PySem.W
variable {a:av}{p:Pos}
open PySem.Calls
structure FG(K:bE)(mg:Ak)(x:Str)(st:ap)(ps:zQ)(a:B)(d:Bc):Prop where
 m:mg x=Y (.ref a)
 f:Fun K x x st a d
 b:hV K d ps []
structure FM(K:bE)(C:B)(x qual:Str)(st:ap)(ps:zQ)(a:B)(d:Bc):Prop where
 me:zcf K C x a
 f:Fun K x qual st a d
 b:hV K d ps []
theorem arS{P:zS->Prop}(h:∀a us,us.length=n->P (a::us)):∀us,us.length=n+1->P us:=λus e=>by
 cases us with
 |nil=>cases e
 |cons a us=>exact h a us (Nat.succ.inj e)
theorem ar0{P:zS->Prop}(h:P []):∀us,us.length=0->P us:=λus e=>by
 cases us with
 |nil=>exact h
 |cons=>cases e
theorem hV.df{K:bE}{d:Bc}{c:zQ}{ds:zS}{T:B}(_:d.defaults=.ref T)(q:K.lookup T=Y o)(h:∀b:zS,b.length=c.length-ds.length->∀s:ak,s.heap.get? T=Y o->BindsTo s d {b,[]} (c.zip (b++ds))):hV K d c ds:=λs b g f=>h b (by rw[<-f,bx,tD]) s (g _ _ q)
abbrev QX(K:bE)(a:B):Prop:=∃b,gc K (.ref a) "__getattribute__"=Y (Y (.builtin "BaseException.__getattribute__"))/\gc K (.ref a) "__getattr__"=Y af/\gc K (.ref a) "__class__"=Y (Y (.builtin "object.__class__"))/\uJ K a (.type "object")=Y ae/\uJ K a (.type "BaseException")=Y ae/\uw K (.builtin "object.__class__") "__get__"=Y (Y (.builtin "getset_descriptor.__get__"))/\W.takesIn K (.builtin "object.__class__")=Y ae/\W.clsIn K a=Y b
theorem QX.to{K:bE}{a:B}(q:QX K a):ExK K a:=by have #[k,j,i,h,g,f,d,c,b]:=q;exact{{j,i,h,g,f,d,c},by rw[b];rfl}
variable {CX:CXT}{j:Nat}{C:B}{ps:zQ}{sp:Sp}{x qual:Str}{gV:Pos}{es:List av}{ta:TE}
section
variable {k:Nat}{a:B}{d:Bc}{m:Str}{st:ap}{o:av}{t:TA}{E:XK}
theorem bc(F:bv X.p X.w X.K X.mg X.M CX j a d ps sp)(G:FG X.K X.mg x st ps a d)(g:hZ k X.A)(f:vE CX X E)(n:PA X (e::es) t)(h:j<=k:=by lia)(i:Gl X x:=by exact rfl)(c:Bq x:=by lia)(l:Be (e::es) X.e=(ah,eval e X.e)::Be es X.e:=by rfl)(b:(backTo pos (Be es X.e)).any (·.1)=ah:=by rfl) :
  PE X (.Call (.Name x p) (e::es) [] pos) (zZ sp [] E t):=zft (F.mono h) g i G.m G.f.kp G.b .nil f n c l b
end
theorem aH.m{N P:zQ}{sc:aA}(i:sc.kind=.function:=by rfl)(h:sc.isCoroutine=ah:=by rfl)(g:sc.isGenerator=ah:=by rfl)(f:N.Nodup:=by lia)(d:N.take P.length=P:=by rfl)(c:∀x∈P,sc.names.lookup x=Y .local\/sc.names.lookup x=Y .cell:=by lia)(b:∀y∈sc.names,y.2≠.free:=by lia):aH N P sc:={i,h,g,f,d,c,b}
variable {K:bE}{mg:Ak}{f:B}{fd:Bc}
section
variable {base:au}{st:ap}{N:zQ}{k:Nat}
theorem Fun.okA(F:Fun K x qual st f fd)(S:aH N ps (zi st))(h:∀c H Q E,sp c H Q E->c.length=ps.length/\∀(cdv:am)(A:aw)(b:LEv)(s:ak),hZ k (A.deeper (envOfC qual (zi st) s.heap.objs.size f cdv)) ->
   ∃t,PSs (Qa (CX1 P w) P w K mg base N qual (zi st) f cdv A b s H E).nox (wU st) t/\t { nx:=λ_ g=>Q .non g,rt:=Q } (start N c) H):bv P w K mg base (CX1 P w) (k+1) f fd ps sp:=F.ok0 S (λc H Q E z=>(h c H Q E z).1) λcdv A b s H c Q E d z=>(h c H Q E z).2 cdv A b s d
end
section
variable {σ:St}{H:Hp}{Q:VK}{i:Nat}{k:Int}{p a dx:B}{xs:LV}{u v:V}{w f:Str}{fs:LSV}{A Bo:TS}{D:VT}
theorem zn6(h:σ[i]?=Y (Y v))(q:Q v H):ze i σ H Q:={v,h,q}
theorem zoN(d:σ[i]?=Y (Y (.ref p)))(c:H p=Y (.tup xs))(b:atI xs k=Y u)(q:Q u H):aO (wb K) (ze i) (tC (.int k)) σ H Q:={_,d,p,xs,k,u,U,U,aX.of c,b,q}
theorem zl8(h:∀Q:VK,Q (.str x) H->te σ H Q)(a:x=w->A D σ H)(b:x≠w->Bo D σ H):yF (yb (aO rEq te (tC (.str w)))) A Bo D σ H:=by
 refine h _ {U,_,U,?_};by_cases c:x=w
 .show if _ then _ else _
  rw[ao (by rw[c];exact Bj U)];exact a c
 .show if _ then _ else _
  rw[ag (by rw[decide_eq_true_eq];exact λz=>c (V.str.inj z))];exact b c
theorem VZ(g:σ[i]?=Y (Y (.ref p)))(d:H p=Y (.tup xs))(c:atI xs k=Y (.str x))(a:x=w->A D σ H)(b:x≠w->Bo D σ H):yF (yb (aO rEq (aO (wb K) (ze i) (tC (.int k))) (tC (.str w)))) A Bo D σ H:=zl8 (λQ q=>zoN g d c q) a b
end
abbrev zn7:RC:=λg H Q=>∃(a:B)(c:xN)(d:yz),g=[.ref a]/\H a=Y (.dK c)/\c.map (·.1)=d.map lK/\c.length<64 /\
 ∀(l:B)(b:yz),H l=af->b.Perm d->b.Pairwise (· < ·)->Q (.ref l) (upd H l (.lst (b.map V.int)))
theorem zar:∀ {b:zS}{c:yz},IntsAre b c->aP (c.map V.int) b
 |_,_,.nil=>.nil
 |_,_,.cons _ t h=>.cons {t,U} (zar h)
theorem zgZ{P:aq}{w:ax}{k:xN}{g:List (Key×am)}(a:KV k g):∀ {es:List DictEntry}{c:yz},Pairs (yg P w) es g->k.map (·.1)=c.map lK->IntsAre (es.map (·.key)) c/\g.map (·.1)=c.map lK:=by
 induction a with
 |nil=>
  intro es c b d;cases b;cases c with
  |nil=>exact{.nil,U}
  |cons=>cases d
 |cons h kv ih=>
  intro es c b d;cases c with
  |nil=>cases d
  |cons r c=>
   cases b with
   |cons hk _ pr=>
    have #[o,n]:=iN d;have #[m,l]:=ih pr n;have i:=h.1.symm.trans o;obtain ⟨j,t,ej,et⟩|⟨x,t,ej,et⟩:=y6 hk
    .rw[i] at ej;cases ej;refine{?_,by rw[bC,bC,l,i]};rw[bC,et];exact .cons _ t m
    .rw[i] at ej;cases ej
section
variable {kp:Pos}
theorem zkW{M:uX}{z:St}{H:Hp}{s:ak}{a:B}{y:xN}{n:yz}{Q:VK}{v:List (Str×am)}{O:yz->Prop}(hc:X.c=ae)(I:aN X M z H s)(ha:H a=Y (.dK y))(hk:y.map (·.1)=n.map lK)(ai:y.length<64)(hs:∀(R:PySem.Fin->ak->Prop)(s:ak)(b:B)(t:zS),s.heap.get? b=Y (seqObj "list" t.toArray 0)->IntsAre t n->t.length<64->(∀(out:Array am)(r:yz),IntsAre out.toList r->r.Perm n->(n.Nodup->O r)->R (.done (.ret .none)) { s with heap:=sortedHeap s.heap b t out })->Bf (Bg X.p X.w) X.A.in1.in1 (Builtin.«list.sort» {[.ref b],v}) R X.xe s)(hw:argsOk "sorted" {[.ref a],v})(G:∀b:B,argsOk "list.sort" {[.ref b],v})(q:∀(l:B)(g:yz),H l=af->g.Perm n->O g->Q (.ref l) (upd H l (.lst (g.map V.int)))) :
  Bf (Bg X.p X.w) X.A (call (.builtin "sorted") [.ref a] v) (EP X M z Q) X.xe s:=by
 have #[hz,lo,t,kv,o,es,ep,ho,hx,hd,ab,N,hn]:=(show aT X.p X.w H s.heap a (.dK y) from I.hok a _ ha);have #[D,ev]:=zgZ kv N hk;have nr:n.Nodup:=xI (f:=(lK:Int->Key)) (by rw[<-ev];exact hn);have il:es.size<64:=by have:=kv.length;have:=N.length;rw[bW] at this;lia
 have cl:=b9 (show es.size<=1000 by lia) (show 1000<=Bb by lia);refine call_function_entry_kw sK rE rF hw ?_;unfold Builtin.«sorted»;refine ba (m:=checkCount "sorted" 1 1 _) (bm ?_);refine ba (Vg (zbh (ep:=ep) (es:=es) lo) (I.ok.hd hc) {o,ho,hx,hd} cl λh u d k1 hl hG=>?_);have ew:d=es.toList.map (·.key):=by
  apply cY;intro i;by_cases hi:i<d.length
  .have #[e,J,ek]:=hG i d[i] (bd hi);rw[bd hi,ek,br,ce,J];rfl
  .rw[bV (),bV (by rw[bh,bW];lia)]
 rw[<-ew] at D;have k:(h.push (seqObj "list" d.toArray 0)).get? h.objs.size=Y (seqObj "list" d.toArray 0):=bq _ rfl;refine ba (nE ?_ (by rw[cu];lia));refine ba (c8 (wpAny_call_entry_kw oC {_,k,U} nS (hs _ { s with heap:=h.push (seqObj "list" d.toArray 0),toks:=u } _ d k D () λout r a1 a2 a3=>{_,rfl,bm {_,rfl,?_}}) (G _)));have #[c,hD]:=sortedHeap_at (out:=out) k;have I1:aN X M z H { s with heap:=h,toks:=u }:=I.kept k1;have nl:=a2.length_eq;have rl:=IntsAre.length D;refine{.ref h.objs.size,_,I1.laid (s:={ s with heap:=h,toks:=u }) (a:=h.objs.size) (o:=.lst (r.map V.int)) (t':=u) (λb o e=>?_) (bo _) {by rw[bh];exact b9 (show r.length<=1000 by have:=congrArg dQ hk;rw[bh,bh] at this;lia) (),_,c,zar a1,hD},U,q _ _ (I1.hok.fresh (bo _)) a2 (a3 nr)};have T:=bF e;exact(sortedHeap_old (bK T) (by rw[size_push'];exact fR T)).trans (bg _ e)
theorem zbq(o:X.c=ae):wM X (.builtin "sorted") zn7:=by intro aa s M H N us Q I r h;have #[a,aK,rs,rfl,t,m,d,q]:=h;have #[u,rfl,i]:=xL r;cases i;exact zkW o I t m d (O:=λn=>n.Pairwise (· < ·)) (λR s b T D y v h=>list_sort_tree D y v λc k J g G=>h c k J g λl=>(G.and (g.nodup_iff.mpr l)).imp λz=>by lia) (rG _) (λ_=>oE _) q
end
abbrev zn8(K:bE):R2:=λx y H Q=>∃a b c,x=.ref a/\y=.ref b/\aM K H a c/\aM K H b c/\(∀v∈c,∃r,v=V.ref r)/\Q (.bl ah) H
theorem zi2(c:aP xs us):∀ {ws:zS},(∀v∈xs,∃r,v=V.ref r)->aP xs ws->us=ws:=by
 induction c with
 |nil=>intro ws h b;cases b;rfl
 |cons c1 d1 ih=>
  intro ws h b;cases b with|cons c2 d2=>
  have #[r,rfl]:=h _ bu;cases c1;cases c2;rw[ih (λv z=>h v (bw _ z)) d2]
theorem zm1(D:X.A.units+64<cLine):Ai X (Bi .NotEq) (zn8 X.K):=by intro G s o H x y v u Q I d c h;have #[a,b,r,rfl,rfl,n,m,l,q]:=h;cases d;cases c;have #[z,i,k,_]:=I.list n;have #[t,g,p2,_]:=I.list m;obtain rfl:=zi2 i l g;refine PySem.SeqAt.RcNeAt.lists (e:=λ_=>ae) k.isList p2.isList U () (λj _ _=>.same _) X.p X.w X.xe _ ?_;rw[List.all_eq_true.mpr λ_ _=>rfl];exact{.bl ah,H,I,U,q}
variable {pos':Pos}
section
variable {i k:Nat}{m:Str}{st:ap}{o b:av}{tb:TE}{t:TA}{E:XK}
theorem zu(i:Nat)(n:X.N.Nodup)(l:PE X e te)(g:X.N[i]?=Y x:=by rfl)(c:Loc X.e.scope x:=by exact .inl U)(d:swapsWith e (Y (.Name x pos')) pos.line X.e=pure ah:=by rfl)(h:X.fn x=ae\/X.e.scope.names.lookup x=Y .local:=by first|exact .inl rfl|exact .inr rfl|assumption) :
  PS X (.Assign [.Name x pos'] e pos) (yp te (zG i)):=zd7 n g c l d h
theorem zY(i:Nat)(h:X.N.Nodup)(d:X.N[i]?=Y x:=by rfl)(c:Loc X.e.scope x:=by exact .inl U)(g:X.fn x=ae\/X.e.scope.names.lookup x=Y .local:=by first|exact .inl rfl|exact .inr rfl|assumption):PG X (.Name x pos) (zG i):=xh h d c g
theorem zw{r:R2}(d:IxR X r)(h:PE X a ta)(g:PE X b tb)(c:zfv b:=by exact λ_ _=>rfl):PE X (.Subscript a b pos) (aO r ta tb):=znD d h g c
theorem Af{l:Sem Bool}(v:PE X o ta)(c:Ae X.K C)(F:bv X.p X.w X.K X.mg X.M CX j f fd ps sp)(G:FM X.K C m qual st ps f fd)(r:hZ k X.A)(n:vE CX X E)(y:PA X (e::es) t)(u:j<=k:=by lia)(d:Be (e::es) X.e=(ah,eval e X.e)::Be es X.e:=by rfl)(g:(backTo pos (Be es X.e)).any (·.1)=ah:=by rfl)(q:eval (.Call (.Attribute o m gV) (e::es) [] pos) X.e=(do
   let h <-eval o X.e
   standAt gV.atName
   let (f,first) <-holding [h] (getMethod h m l)
   callWith pos f first (backTo pos (Be (e::es) X.e)) (backToKw pos (keywordEach [] X.e))):=by rfl) :
  PE X (.Call (.Attribute o m gV) (e::es) [] pos) (yk C m sp [] E ta t):=Jh v c G.me (F.mono u) r G.b .nil n y d g q
theorem xm{g:Sem Bool}(r:PE X o ta)(c:Ae X.K C)(F:bv X.p X.w X.K X.mg X.M CX j f fd ps sp)(G:FM X.K C m qual st ps f fd)(n:hZ k X.A)(h:vE CX X E)(q:j<=k:=by lia)(l:eval (.Call (.Attribute o m gV) [] [] pos) X.e=(do
   let d <-eval o X.e
   standAt gV.atName
   let (f,first) <-holding [d] (getMethod d m g)
   callWith pos f first (backTo pos (Be [] X.e)) (backToKw pos (keywordEach [] X.e))):=by rfl) :
  PE X (.Call (.Attribute o m gV) [] [] pos) (yk C m sp [] E ta zm):=zch r c G.me (F.mono q) n G.b .nil h l
end
def lcN(m i:Nat):Nat:=(i*5+1)%(m+1)
def itN(m:Nat):Nat->Nat->Nat
 |0,x=>x
 |k+1,x=>itN m k (lcN m x)
def orN(m:Nat):Nat->Nat->xo
 |0,x=>[x]
 |k+1,x=>x::orN m k (lcN m x)
theorem Jm(m:Nat):∀(a b x:Nat),itN m (a+b) x=itN m b (itN m a x)
 |0,b,x=>by rw[gy];rfl
 |a+1,b,x=>by rw[lR];exact Jm m a b (lcN m x)
theorem zfK(m:Nat):∀(k x e:Nat),e∈orN m k x->∃b,b<=k/\itN m b x=e
 |0,x,e,h=>{0,bo _,(bB.mp h).symm}
 |k+1,x,e,h=>by
  obtain rfl|h:=bn.mp h
  .exact{0,bQ _,U}
  .have #[b,c,e]:=zfK m k _ e h;exact{b+1,(),e}
def kz(m:Nat):Prop:=m=7\/m=31\/m=127
theorem zkX(d:kz m):(∀e,e<=m->∃b,b<=m/\itN m b 0=e)/\itN m (m+1) 0=0:=by
 have c:∀n,((cG (n+1)).all λe=>(orN n n 0).contains e)=ae->∀e,e<=n->∃b,b<=n/\itN n b 0=e:=λn h e g=>by have:=cI.mp h e (gZ.mpr ());exact zfK n n 0 e (by simpa using this)
 obtain rfl|rfl|rfl:=d
 .exact{c 7 (),()}
 .exact{c 31 (),()}
 .exact{c 127 (),()}
theorem zg0{m x e:Nat}(i:kz m)(h:x<=m)(l:e<=m):∃k,k<=m/\itN m k x=e:=by
 have #[d,g]:=zkX i;have #[a,o,rfl]:=d x h;have #[b,n,rfl]:=d e l;by_cases c:a<=b
 .exact{b-a,(),by rw[<-Jm,show a+(b-a)=b by lia]}
 .refine{b+(m+1)-a,(),?_};rw[<-Jm,show a+(b+(m+1)-a)=(m+1)+b by lia,Jm,g]
def lpN(m:Nat):Nat->Nat×Nat->Nat×Nat
 |0,x=>x
 |k+1,x=>lpN m k (eV m x.1 x.2)
theorem zbr(m:Nat):∀(a b:Nat)(x:Nat×Nat),lpN m (a+b) x=lpN m b (lpN m a x)
 |0,b,x=>by rw[gy];rfl
 |a+1,b,x=>by rw[lR];exact zbr m a b _
theorem zfL(m:Nat):∀(k:Nat)(x:Nat×Nat),(lpN m k x).2=x.2/32^k
 |0,x=>by simp[lpN]
 |k+1,x=>by show (lpN m k (eV m x.1 x.2)).2=_;rw[zfL m k];show x.2/32/32^k=_;rw[Nat.div_div_eq_div_mul,Nat.pow_succ,Nat.mul_comm]
theorem zi3(m:Nat):∀(k:Nat)(x:Nat×Nat),x.1<=m->(lpN m k x).1<=m
 |0,x,h=>h
 |k+1,x,h=>zi3 m k _ (iR (mh _ (ot m)))
theorem zcX(m:Nat):∀(k i:Nat),lpN m k (i,0)=(itN m k i,0)
 |0,i=>rfl
 |k+1,i=>by show lpN m k (eV m i 0)=_;exact zcX m k (lcN m i)
theorem zas{m e:Nat}{x:Nat×Nat}(b:kz m)(g:x.1<=m)(d:x.2<2^64)(c:e<=m):∃k,1<=k/\k<=m+13/\(lpN m k x).1=e:=by
 have z:(lpN m 13 x).2=0:=by rw[zfL];exact Nat.div_eq_of_lt (cb d ())
 have l:=zi3 m 13 x g;have #[k,i,h]:=zg0 (x:=(lpN m 13 x).1) b l c;refine{13+k,(),(),?_};rw[zbr,show lpN m 13 x=((lpN m 13 x).1,0) from tq U z,zcX];exact h
section
variable {t:SetTable}
def wY(t:SetTable):Nat->dy->dy
 |0,p=>p
 |k+1,p=>wY t k (t.advance p)
theorem JU(t:SetTable):∀(a b:Nat)(p:dy),wY t (a+b) p=wY t b (wY t a p)
 |0,b,x=>by rw[gy];rfl
 |a+1,b,x=>by rw[lR];exact JU t a b _
structure PbOk(t:SetTable)(p:dy):Prop where
 more:p.more<=9
 i:p.i<=t.mask
 pt:p.perturb<2^64
 dm:p.dummy=af
theorem zeM(m i:Nat):lT m i-i<=9:=by unfold lT;split <;> lia
theorem Xz{p:dy}(h:0<p.more):t.advance p={ p with j:=p.j+1,more:=p.more-1 }:=by unfold ui;rw[ao h]
theorem zcY{p:dy}(h:p.more=0):t.advance p={ p with j:=(eV t.mask p.i p.perturb).1,more:=lT t.mask (eV t.mask p.i p.perturb).1-(eV t.mask p.i p.perturb).1,i:=(eV t.mask p.i p.perturb).1,perturb:=(eV t.mask p.i p.perturb).2 }:=by unfold ui;rw[ag ()]
theorem PbOk.adv{p:dy}(h:PbOk t p):PbOk t (t.advance p):=by
 by_cases c:0<p.more
 .rw[Xz c];exact{by have:=h.more;show p.more-1<=9;lia,h.i,h.pt,h.dm}
 .rw[zcY ()];refine{zeM _ _,iR (mh _ (ot _)),?_,h.dm};show p.perturb/32<2^64;exact dN (Nat.div_le_self _ _) h.pt
theorem zbs:∀(n:Nat)(p:dy),p.more=n->(wY t (n+1) p).j=(eV t.mask p.i p.perturb).1/\(wY t (n+1) p).i=(eV t.mask p.i p.perturb).1/\(wY t (n+1) p).perturb=(eV t.mask p.i p.perturb).2/\(wY t (n+1) p).more<=9
 |0,p,h=>by show (t.advance p).j=_/\(t.advance p).i=_/\(t.advance p).perturb=_/\(t.advance p).more<=9;rw[zcY h];exact{U,U,U,zeM _ _}
 |n+1,p,h=>by have:=zbs n (t.advance p) (by rw[Xz ()];show p.more-1=n;lia);rw[Xz ()] at this;rw[show n+1+1=(n+1)+1 from rfl];show (wY t (n+1) (t.advance p)).j=_/\(wY t (n+1) (t.advance p)).i=_/\(wY t (n+1) (t.advance p)).perturb=_/\(wY t (n+1) (t.advance p)).more<=9;rw[Xz ()];exact this
theorem zat:∀(k:Nat)(p:dy),p.more<=9->∃n,n<=10*(k+1)/\(wY t n p).j=(lpN t.mask (k+1) (p.i,p.perturb)).1/\(wY t n p).i=(lpN t.mask (k+1) (p.i,p.perturb)).1/\(wY t n p).perturb=(lpN t.mask (k+1) (p.i,p.perturb)).2/\(wY t n p).more<=9
 |0,p,h=>by have #[a,b,c,d]:=zbs (t:=t) p.more p rfl;exact{p.more+1,(),a,b,c,d}
 |k+1,p,h=>by
  have #[n,o,a,b,c,d]:=zat k p h;have #[m,l,i,g]:=zbs (t:=t) (wY t n p).more (wY t n p) rfl;have e:lpN t.mask (k+1+1) (p.i,p.perturb)=eV t.mask (wY t n p).i (wY t n p).perturb:=by rw[zbr,b,c];rfl
  refine{n+((wY t n p).more+1),(),?_};rw[JU,e];exact{m,l,i,g}
theorem zg1{p:dy}{e:Nat}(c:kz t.mask)(h:PbOk t p)(d:e<=t.mask):∃n,n<10*fh t.mask/\(wY t n p).j=e:=by have #[k,l,i,g]:=zas (x:=(p.i,p.perturb)) c h.i h.pt d;have #[n,b,a,_]:=zat (t:=t) (k-1) p h.more;rw[show k-1+1=k by lia] at a b;exact{n,by unfold fh;lia,a.trans g}
theorem zcZ(j:Nat):ub #[] j=ah:=by unfold ub;simp
theorem zfM(b:t.dummies=#[]):t.slot j≠.dummy:=by
 unfold uN;dsimp only;split
 .exact nofun
 .rw[b,zcZ];exact nofun
theorem zau(h:t.slot j=.live i):t.place[i]?=Y j:=by
 unfold uN at h;dsimp only at h;split at h
 .rename_i c;cases h;simpa using c
 .split at h <;> cases h
theorem zg2(g:t.dummies=#[])(h:t.place.size<=t.mask):∃e,e<=t.mask/\t.slot e=.empty:=by
 apply cp;intro z;have d:∀e,e<=t.mask->e∈t.place.toList:=λe b=>by
  cases c:t.slot e with
  |empty=>exact absurd {e,b,c} z
  |dummy=>exact absurd c (zfM g)
  |live i=>
   have:=zau c;rw[<-ce] at this;exact bU this
 have:=List.Nodup.length_le_of_subset (pO (n:=t.mask+1)) (λe b=>d e (by have:=List.mem_range.mp b;lia));rw[mz,bW] at this;lia
theorem zc0{f:Nat->Int}{h:Int}(g:t.dummies=#[]):∀(n d:Nat)(p:dy),n<d->PbOk t p->t.slot (wY t n p).j=.empty ->
  (∃j,mC t f h d p=Y (.empty j af)/\t.slot j=.empty)\/∃j i k,mC t f h d p=Y (.candidate j i (wY t (k+1) p))/\k<n/\t.slot j=.live i
 |n,0,p,h1,_,_=>by lia
 |0,d+1,p,_,ok,h2=>by
  left
  refine{p.j,?_,h2};unfold mC;rw[show t.slot p.j=.empty from h2];dsimp only;rw[ok.dm]
 |n+1,d+1,p,h1,ok,h2=>by
  unfold mC;cases c:t.slot p.j with
  |empty=>left;exact{p.j,by dsimp only;rw[ok.dm],c}
  |dummy=>exact absurd c (zfM g)
  |live i=>
   dsimp only;by_cases e:(f i==h)=ae
   .right
    rw[ao e];exact{p.j,i,0,U,(),c}
   .rw[ag e];obtain ⟨j,a,b⟩|⟨j,i,k,a,b,c⟩:=zc0 (f:=f) (h:=h) g n d (t.advance p) () ok.adv h2
    .exact .inl {j,a,b}
    .exact .inr {j,i,k+1,a,(),c}
end
theorem zc1{m e:Nat}{g:Array (Option Nat)}(l:g[e]?=Y af):∀(k b i p:Nat),k<b->(lpN m k (i,p)).1=e->∃j,ig m g b i p=Y j/\g[j]?=Y af
 |k,0,i,p,h,_=>by lia
 |k,b+1,i,p,h,hl=>by
  unfold ig;cases c:(cG (lT m i+1-i)).find? λk=>(g.getD (i+k) (Y 0)).isNone with
  |some k0=>
   refine{i+k0,U,?_};have z:=List.find?_some c;rw[fW] at z;cases d:g[i+k0]? with
   |none=>rw[d] at z;cases z
   |some x=>
    rw[d] at z;cases x with
    |none=>rfl
    |some _=>cases z
  |none=>
   cases k with
   |zero=>
    exfalso;have:=List.find?_eq_none.mp c 0 (gZ.mpr (by unfold lT;split <;> lia));have n:i=e:=hl;rw[Nat.add_zero,n,fW,l] at this;exact this rfl
   |succ k=>exact zc1 l k b _ _ () hl
theorem zc2{v:Nat}:∀ {l:List (Option Nat)}{j:Nat},l[j]?=Y af->((l.set j (Y v)).filterMap id).Perm (v::l.filterMap id)
 |[],j,h=>by simp at h
 |x::l,0,h=>by simp only[ca,cz] at h;subst h;exact fN _
 |x::l,j+1,h=>by
  have b:=zc2 (v:=v) (l:=l) (j:=j) (by simpa using h);cases x with
  |none=>exact b
  |some y=>exact(b.cons y).trans (sC ..)
theorem zav:∀ {l:List (Option Nat)},(l.filterMap id).length<l.length->∃e:Nat,e<l.length/\l[e]?=Y af
 |[],h=>by simp at h
 |none::l,h=>{0,by simp,U}
 |some x::l,h=>by have #[e,a,b]:=zav (l:=l) (by simpa using h);exact{e+1,by simpa using a,by simpa using b}
structure zkY(m k:Nat)(ow:Array (Option Nat)):Prop where
 sz:ow.size=m+1
 pm:(ow.toList.filterMap id).Perm (cG k)
theorem zfN(h:Int):gR h<2^64:=by unfold gR;have c:(0:Int)<=h%2^64:=du _ ();have b:h%2^64<2^64:=cN _ ();lia
theorem zi4{m:Nat}(q:kz m):∀(c:yz)(g:Array (Option Nat))(k:Nat),zkY m k g->k+c.length<=m ->
  ∃d,c.foldl (λo h=>o.bind λx=>(ig m x.1 (fh m) (gR h%(m+1)) (gR h)).bind λj=>Y (x.1.setIfInBounds j (Y x.2),x.2+1)) (Y (g,k))=Y (d,k+c.length)/\zkY m (k+c.length) d
 |[],g,k,ok,_=>{g,U,ok}
 |h::c,g,k,ok,hl=>by
  have t:(g.toList.filterMap id).length=k:=by rw[ok.pm.length_eq,mz]
  have #[e,a,b]:=zav (l:=g.toList) (by rw[t,bW,ok.sz];simp at hl;lia);rw[bW,ok.sz] at a;rw[ce] at b;have #[n,G,D,r]:=zas (x:=(gR h%(m+1),gR h)) q (iR (mh _ (ot _))) (zfN h) (iR a);have #[j,v,u]:=zc1 b n (fh m) _ _ (by unfold fh;lia) r;have i:zkY m (k+1) (g.setIfInBounds j (Y k)):=by refine{by rw[Array.size_setIfInBounds];exact ok.sz,?_};rw[Array.toList_setIfInBounds];refine(zc2 (by rw[ce];exact u)).trans ?_;rw[rO];exact(ok.pm.cons k).trans (List.perm_append_singleton k _).symm
  have #[d,z,y]:=zi4 q c _ (k+1) i (by simp at hl;lia);refine{d,?_,by rw[bG,show k+(c.length+1)=k+1+c.length by lia];exact y};rw[fU,bG,show k+(c.length+1)=k+1+c.length by lia,<-z];congr 1;show (ig m g (fh m) (gR h%(m+1)) (gR h)).bind _=_;rw[v];rfl
theorem zg3(d:kz m){c:Array Int}(g:c.size<=m):∃ow,tR m c=Y ow/\zkY m c.size ow:=by
 have #[ow,a,b]:=zi4 d c.toList (Array.replicate (m+1) af) 0 {by simp,by
  have:∀n,(dF n (af:Option Nat)).filterMap id=[]:=λn=>by
   induction n with
   |zero=>rfl
   |succ n ih=>exact ih
  rw[Array.toList_replicate,this];exact fN _} (by simpa using g)
 rw[gy,bW] at a b;refine{ow,?_,b};unfold tR;rw[<-Array.foldl_toList];have:=congrArg (Option.map (·.1)) a;exact this
theorem zg4{b:Type}(l:List (Option b)):(cG l.length).filterMap (λj=>l.getD j af)=l.filterMap id:=by
 have e:(cG l.length).map (λj=>l.getD j af)=l:=by
  apply uj
  .simp
  .intro i d c;simp[bA,bd c]
 conv=>rhs;rw[<-e]
 rw[List.filterMap_map];rfl
theorem zkZ{ld pl:Bool}{hs:Array Int}(i:kz m)(k:hs.size<=m):∃c g,uO m fg mv ld pl hs=Y (c,g)/\c.mask=m/\c.dummies=#[]/\c.place.size=hs.size/\(c.plain=pl/\c.led=ld)/\g.toList.Perm (cG hs.size):=by
 have #[d,a,b]:=zg3 i k;have e:((cG (m+1)).filterMap λj=>(d.getD j af).map (Prod.mk j)).map (·.2)=d.toList.filterMap id:=by
  rw[List.map_filterMap,<-zg4,bW,b.sz];congr 1
  funext j
  rw[fW,bA,ce];cases (d[j]?.getD af) <;> rfl
 have h:((cG (m+1)).filterMap λj=>(d.getD j af).map (Prod.mk j)).length=hs.size:=by have:=congrArg dQ e;rw[bh,b.pm.length_eq,mz] at this;exact this
 refine{_,_,by unfold uO;rw[a];rfl,U,U,?_,{U,U},?_}
 .show (om _).size=_;rw[bJ,bh];exact h
 .show (om _).toList.Perm _;exact(show _=d.toList.filterMap id from e) ▸ b.pm
theorem zg5{c:Type}{es:Array c}{b:ANt}(h:b.toList.Perm (cG es.size)):(b.filterMap (es[·]?)).toList.Perm es.toList:=by rw[Array.toList_filterMap];exact(h.filterMap _).trans (by rw[filterMap_getElem?_range])
section
variable {t:SetTable}
def plH(P:aq)(w:ax)(q:Str×Int):Int:=tupleKeyHash (yg P w) (zD q)
theorem ib.key{a:B}{q:Str×Int}(x:ib h (.ref a) q):IsTupleKey (yg P w) h (zD q) a:=by have #[_,o,t,u,n,e,b,d,c]:=x;cases e;exact{o,_,n,b,d,c,.cons (W9 _ _ _ _) (.cons (W8 _ _ _ _) .nil)}
structure An(t:SetTable)(n:Nat):Prop where
 dm:t.dummies=#[]
 sz:t.place.size=n
 mm:t.mask=7/\n<=4\/t.mask=31/\n<=18\/t.mask=127/\n<=76
theorem An.msk(h:An t n):kz t.mask:=by
 obtain h|h|h:=h.mm
 .exact .inl h.1
 .exact .inr (.inl h.1)
 .exact .inr (.inr h.1)
theorem An.lt(h:An t n):n<=t.mask:=by obtain h|h|h:=h.mm <;> lia
theorem An.fits(h:An t n):t.fits n=ae:=by have:=h.lt;simp only[uP,uQ,h.sz,h.dm,bY,beq_iff_eq,decide_eq_true_eq];exact{trivial,by simpa using this}
theorem zaw{x:B}{q:Str×Int}(l:ib s.heap (.ref x) q){Q:Bool->ak->Prop}(h:Q ah s):Bf (Bg P w) A (ofAClassStatement 8 (.ref x)) Q E s:=by
 have #[_,o,t,u,n,e,i,y,m]:=l;cases e;have z:s.TypeIs (.ref x) "tuple":={o,i,y};unfold ofAClassStatement;refine ba (mR z ?_);show Bf _ _ (if ("tuple" == "tuple")=ae then _ else _) _ _ _;rw[ao ()];simp only[Bool.not_true,cH,if_false,uz];refine ba (eM i m ?_);show Bf _ _ ((forIn #[lL q.1 t,f9 q.2 u] _ _) >>= _) _ _ _;rw[<-tE];refine ba (pQ _ (λrest r d=>r.1=af/\d=s/\∀v∈rest,carriedByValue v=ae) _ ?_ ?_ _ _ {U,U,λv c=>?_})
 .rintro v rest r d ⟨g,rfl,b⟩;have k:ofAClassStatement 7 v=pure ah:=by have:=b v bu;cases v <;> first|rfl|(cases this)
  rw[k];refine ba (bm ?_);rw[ag ()];exact bm {U,U,λv c=>b v (bw _ c)}
 .rintro⟨G,D⟩ d ⟨g,rfl,_⟩;simp only at g;subst g;exact bm h
 .simp only[bn,bZ,or_false] at c;obtain rfl|rfl:=c <;> rfl
theorem zi5{a b:Str×Int}(h:zD a=zD b):a=b:=by unfold zD at h;simp only[cW,uK,uL,and_true] at h;exact tq h.1 h.2
theorem PbOk.advs{p:dy}:∀(k:Nat){p:dy},PbOk t p->PbOk t (wY t k p)
 |0,p,h=>h
 |k+1,p,h=>PbOk.advs (p:=p) k h.adv
theorem zg6{x:B}{q:Str×Int}(m:ib s.heap (.ref x) q){Q:Bool->ak->Prop}:∀(l:zS),(∀v∈l,∃b g,v=.ref b/\ib s.heap (.ref b) g)->Q ah s->Bf (Bg P w) A (searchCouldBeSeen (.ref x) l) Q E s:=by
 intro l y q;unfold searchCouldBeSeen;refine ba ?_;refine pQ _ (λrest r s'=>r.1=af/\s'=s/\∀v∈rest,∃b g,v=.ref b/\ib s.heap (.ref b) g) _ ?_ ?_ _ _ {U,U,y}
 .rintro v rest r s' ⟨k,rfl,d⟩;have #[b,g,rfl,n]:=d v bu;have i:Bf (Bg P w) A (pure (fV ((af:Option Bool),PUnit.unit))) (λo h=>match o with|.yield r=>r.1=af/\h=s'/\∀v∈rest,∃b g,v=.ref b/\ib s'.heap (.ref b) g|.done r=>Bf (Bg P w) A (match r.1 with|some r=>pure r|none=>pure ah) Q E h) E s':=bm {rfl,rfl,λv u=>d v (bw _ u)};dsimp only;by_cases c:x=b
  .rw[ao (by simp[c])];exact i
  .rw[ag (by simp[c,carriedByValue])];refine ba ((tupleKind (yg P w)).quiet m.key ?_);rw[ag ()];refine ba ((tupleKind (yg P w)).quiet n.key ?_);rw[ag ()];refine ba (zaw m ?_);rw[ag ()];refine ba (zaw n ?_);rw[ag ()];exact i
 .rintro⟨D,z⟩ s' ⟨k,rfl,_⟩;simp only at k;subst k;exact bm q
theorem zeN{a x:B}{q:Str×Int}{g:Int}{o:Obj}{es:Array (Int×am)}(I:s.heap.get? a=Y o)(M:o.data=.set es ep t)(r:An t es.size)(hu:A.units<cLine)(G:ib s.heap (.ref x) q)(D:∀e∈es.toList,∃b m,e.2=.ref b/\ib s.heap (.ref b) m/\m≠q){Q:SetFound->ak->Prop}(h:∀j,t.slot j=.empty->Q (.free j ah) s) :
  ∀(n d:Nat)(l:Option dy),n<d->n<10*fh t.mask->PbOk t (l.getD (t.probeStart g))->t.slot (wY t n (l.getD (t.probeStart g))).j=.empty->Bf (Bg P w) A (setSearchFrom a (.ref x) g ae d l) Q E s:=by
 intro n;induction n using nO with
 |_ n ih=>
  intro d l h1 h2 O he;cases d with
  |zero=>lia
  |succ d=>
   unfold setSearchFrom;refine ba (dJ I M r.fits ?_);have gw:t.gaveWay=ah:=by unfold SetTable.gaveWay;obtain e|e|e:=r.msk <;> rw[e] <;> rfl
   simp only[gw,cH,if_false];generalize hf:t.probe _ g _=pm;unfold SetTable.probe at hf;obtain ⟨j,a1,a2⟩|⟨j,i,k,a1,a2,a3⟩:=zc0 (h:=g) r.dm n (10*fh t.mask) (l.getD (t.probeStart g)) h2 O he
   .rw[hf] at a1;subst a1;exact bm (h j a2)
   .rw[hf] at a1;subst a1;dsimp only;have pl:=zau a3;have li:i<es.size:=by have:=(iV.mp pl).1;rw[r.sz] at this;exact this
    have #[b,m,eb,hb,T]:=D es[i] (by rw[<-Array.getElem_toList];exact c9 _);have N:es[i]?=Y (es[i].1,.ref b):=by rw[ck li,<-eb]
    have u:Bf (Bg P w) A (setSearchFrom a (.ref x) g ae d (Y (wY t (k+1) (l.getD (t.probeStart g))))) Q E s:=by refine ih (n-(k+1)) () d _ () () (PbOk.advs (p:=l.getD (t.probeStart g)) _ O) ?_;show t.slot (wY t (n-(k+1)) (wY t (k+1) (l.getD (t.probeStart g)))).j=_;rw[<-JU,show k+1+(n-(k+1))=n by lia];exact he
    rw[N];by_cases c:(!t.led)=ae
    .rw[ao c];refine ba (zg6 G _ (λv H=>?_) ?_)
     .have #[e,J,rfl]:=bH.mp H;have:e∈es:=(Array.mem_filter.mp (se.mp J)).1;have #[b,m,e1,e2,_]:=D e (Array.mem_toList_iff.mpr this);exact{b,m,e1,e2}
     rw[ag ()];dsimp only;refine ba (c8 ((tupleKind (yg P w)).eqBool (x:=zD m) (y:=zD q) hu hb.key G.key ?_));rw[Bk λz=>T (zi5 z)];refine ba (dJ I M r.fits ?_);rw[ag ()];dsimp only;rw[show t.sameMemory t.moves t.mask=Y ae by unfold sP;simp];dsimp only;rw[ao U,a3];dsimp only;rw[N];dsimp only;refine ba (rP ?_);rw[ao rfl];refine ba (bm ?_);dsimp only;rw[ag ()];exact u
    .rw[ag c];dsimp only;refine ba (c8 ((tupleKind (yg P w)).eqBool (x:=zD m) (y:=zD q) hu hb.key G.key ?_));rw[Bk λz=>T (zi5 z)];refine ba (dJ I M r.fits ?_);rw[ag ()];dsimp only;rw[show t.sameMemory t.moves t.mask=Y ae by unfold sP;simp];dsimp only;rw[ao U,a3];dsimp only;rw[N];dsimp only;refine ba (rP ?_);rw[ao rfl];refine ba (bm ?_);dsimp only;rw[ag ()];exact u
end
section
variable {t:SetTable}
theorem zg7{x:B}{q:Str×Int}(i:ib s.heap (.ref x) q){Q:Bool->ak->Prop}(h:Q ah s):Bf (Bg P w) A (hashByValue 8 (.ref x)) Q E s:=by
 have #[_,o,t,u,n,e,d,z,m]:=i;cases e;have D:s.TypeIs (.ref x) "tuple":={o,d,z};unfold hashByValue;refine ba (rA D F.slot_tuple_hash.lookup ?_);show Bf _ _ (seqItems? (.ref x) >>= _) _ _ _;refine ba (eM d m ?_);show Bf _ _ ((forIn #[lL q.1 t,f9 q.2 u] _ _) >>= _) _ _ _;rw[<-tE];refine ba (pQ _ (λrest r c=>r.1=af/\c=s/\∃y,rest.head?=Y (.str y t)) _ ?_ ?_ _ _ {U,U,_,U})
 .rintro v rest r c ⟨k,rfl,y,b⟩;cases b;have g:hashByValue 7 (.str y t)=pure ah:=rfl;rw[g];refine ba (bm ?_);rw[ao ()];exact bm (bm h)
 .rintro⟨H,G⟩ c ⟨k,rfl,y,l⟩;cases l
theorem zfO{a:B}{o:Obj}{es es':Array (Int×am)}{c:Nat}{t':SetTable}{h:au}(d:h.get? a=Y o)(b:o.data=.set es c t):(h.update a (oS es' t')).get? a=Y { o with data:=.set es' (c+1) t' }:=by have:=cZ (oS es' t') d (by rw[putSet_of es' t' b];rfl);rw[putSet_of es' t' b] at this;exact this
theorem zg8{a:B}{o:Obj}{es:Array (Int×am)}(l:s.heap.get? a=Y o)(q:o.data=.set es ep t)(y:t.fits es.size=ae)(k:tF wt=m+1)(n:kz m)(v:es.size<=m){Q:Unit->ak->Prop}
  (h:∀d b,d.toList.Perm es.toList->b.mask=m->b.dummies=#[]->b.place.size=es.size->b.plain=t.plain/\b.led=t.led->Q PUnit.unit { s with heap:=s.heap.update a (oS d b) }):Bf (Bg P w) A (setRelay a wt) Q E s:=by
 unfold setRelay;refine ba (dJ l q y ?_);have M:m<=127:=by obtain e|e|e:=n <;> lia
 dsimp only;rw[ag (by have z:(128:Nat)<=Bb:=();rw[k];lia)];have #[b,c,J,I,H,u,G,r]:=zkZ (fg:=t.finger) (mv:=t.movedTo m) (ld:=t.led) (pl:=t.plain) (hs:=es.map (·.1)) n (by rw[uE];exact v);rw[uE] at u r;have i:=zg5 (es:=es) r;have g:(c.filterMap (es[·]?)).size=es.size:=by have:=i.length_eq;rw[bW,bW] at this;exact this
 have D:t.relaid (es.map (·.1)) wt=Y (b,c):=by unfold SetTable.relaid;rw[k,tD];exact J
 rw[D];refine ba ?_;show Bf _ _ (if ((c.filterMap (es[·]?)).size != es.size)=ae then _ else _) _ _ _;rw[g,ag (by simp)];refine bm ?_;exact wpAny_storeSet_of l q (h _ _ i I H u G) (by have z:(128:Nat)<=Bb:=();rw[g];lia)
theorem JV{a:B}{b:Array (Int×am)}(h:au):cv a h (h.update a (oS b t')):=cP h a _
theorem zk0{a x:B}{q:Str×Int}{o:Obj}{es:Array (Int×am)}(ho:s.heap.get? a=Y o)(H:o.data=.set es ep t)(i:An t es.size)(ai:es.size<76)(hu:A.units<cLine)(hx:ib s.heap (.ref x) q)(aa:∀e∈es.toList,∃b y,e.2=.ref b/\ib s.heap (.ref b) y/\y≠q){Q:Bool->ak->Prop}
  (h:∀(h':au)(tk:Nat) es' ab t',cv a s.heap h'->h'.get? a=Y { o with data:=.set es' ab t' }->es'.toList.Perm (es.toList++[(plH P w q,.ref x)])->An t' es'.size->t'.plain=ah/\t'.led=t.led->s.toks<=tk->Q ae { s with heap:=h',toks:=tk }):Bf (Bg P w) A (setAdd a (.ref x)) Q E s:=by
 unfold setAdd;refine c8 (ba (wpAny_pyHash_tuple (knd:=yg P w) hu hx.key ?_));obtain⟨s1,g⟩:∃s1:ak,s1={ s with toks:=s.toks+((zD q).length+1) }:={_,U};rw[<-g];have D:ib s1.heap (.ref x) q:=by rw[g];exact hx
 have k:s1.heap.get? a=Y o:=by rw[g];exact ho
 have G:∀e∈es.toList,∃b y,e.2=.ref b/\ib s1.heap (.ref b) y/\y≠q:=by rw[g];exact aa
 unfold setAddHashed setAddHashedIn;refine c8 (ba (dJ k H i.fits ?_));dsimp only;rw[ag (show ¬ (byScan (.ref x) es=ae) from bM)];have #[e,l,u]:=zg2 (t:=t) i.dm (by rw[i.sz];exact i.lt);have pb:PbOk t (t.probeStart (tupleKeyHash (yg P w) (zD q))):={zeM _ _,iR (mh _ (ot _)),zfN _,U};have #[n,n1,n2]:=zg1 i.msk pb l;have tl:10*fh t.mask<=2000:=by unfold fh;obtain e|e|e:=i.msk <;> rw[e] <;> decide
 unfold setSearch;refine ba (zeN k H i hu D G (λj hj=>?_) n 100000 af () n1 pb (by rw[show (af:Option dy).getD (t.probeStart (tupleKeyHash (yg P w) (zD q)))=t.probeStart (tupleKeyHash (yg P w) (zD q)) from rfl,n2];exact u));dsimp only;refine ba (dJ k H i.fits ?_);have zl:(128:Nat)<=Bb:=by lia
 have r:∀(T:SetTable)(d:Array (Int×am)),T.mask=t.mask->T.dummies=#[]->T.place.size=es.size+1->T.plain=ah/\T.led=t.led->d.toList.Perm (es.toList++[(plH P w q,.ref x)]) ->
   Bf (Bg P w) A (do storeSet a d T;if (!ah&&T.tooFull)=ae then do { setRelay a (sD (es.size+1));pure ae } else pure ae) Q E s1:=λT d M t2 O N v=>by
  have J:d.size=es.size+1:=by have:=v.length_eq;simpa using this
  have fl:T.fill=es.size+1:=by unfold uQ;rw[t2,O];rfl
  have g1:=zfO (es':=d) (t':=T) k H;refine ba (wpAny_storeSet_of k H ?_ (by rw[J];lia));by_cases c:T.tooFull=ae
  .rw[ao (by rw[c];rfl)];have I:(es.size+1)*5 >= t.mask*3:=by unfold uk at c;rw[fl,M] at c;exact of_decide_eq_true c
   have go:∀m,tF (sD (es.size+1))=m+1->kz m->d.size<=m->(m=7/\d.size<=4\/m=31/\d.size<=18\/m=127/\d.size<=76)->T.fits d.size=ae ->
     Bf (Bg P w) A (do { setRelay a (sD (es.size+1));pure ae }) Q E { s1 with heap:=s1.heap.update a (oS d T) }:=λm m1 m2 m3 m4 m5=>by
    refine ba (zg8 (s:={ s1 with heap:=s1.heap.update a (oS d T) }) g1 rfl m5 m1 m2 m3 λes' t' p1 p2 p3 p4 p5=>bm ?_);have z2:es'.size=d.size:=by have:=p1.length_eq;simpa using this
    subst g;exact h _ _ es' (ep+1+1) t' ((JV s.heap).trans (JV _)) (by have z:=zfO (es':=es') (t':=t') g1 rfl;exact z) (p1.trans v) {p3,by rw[p4,z2],by rw[p2,z2];exact m4} {p5.1.trans N.1,p5.2.trans N.2} (dE _ _)
   have ft:es.size+1<=t.mask->T.fits d.size=ae:=λz=>by simp only[uP,fl,O,M,J,bY,beq_iff_eq,decide_eq_true_eq];exact{trivial,z}
   obtain ⟨l,u⟩|⟨l,u⟩|⟨l,u⟩:=i.mm
   .have:es.size=4:=by rw[l] at I;lia
    exact go 31 (by rw[this];decide) (.inr (.inl U)) () (.inr (.inl {U,()})) (ft ())
   .have:es.size=18:=by rw[l] at I;lia
    exact go 127 (by rw[this];decide) (.inr (.inr U)) () (.inr (.inr {U,()})) (ft ())
   .rw[l] at I;lia
  .rw[ag (by simpa using c)];have I:¬ (es.size+1)*5 >= t.mask*3:=λz=>c (by unfold uk;rw[fl,M];exact Bj z)
   refine bm ?_;subst g;refine h _ _ d _ T (JV s.heap) g1 v {t2,by rw[O,J],?_} N (dE _ _);rw[M,J];obtain ⟨l,u⟩|⟨l,u⟩|⟨l,u⟩:=i.mm <;> rw[l] at I ⊢ <;> lia
 have v:(SetTable.insertAt es (t.put j).2 (plH P w q,bN x)).toList.Perm (es.toList++[(plH P w q,.ref x)]):=by have:=rc es (t.put j).2 (plH P w q,bN x);rw[oU] at this;exact this
 have sp:(t.put j).1.place.size=es.size+1:=by have:=(rc t.place (ie t.place j) j).length_eq;rw[oU,bx,bW,bW,i.sz] at this;exact this
 have sd:(t.put j).1.dummies=#[]:=by show (if ub t.dummies j=ae then _ else t.dummies)=_;rw[i.dm,zcZ];rfl
 dsimp only;by_cases c:(t.put j).1.plain=ae
 .rw[ao c];refine ba (zg7 D ?_);rw[ag ()];exact r _ _ U sd sp {U,U} v
 .rw[ag c];refine ba (bm ?_);rw[ao rfl];exact r _ _ U sd sp {by simpa using c,U} v
end
abbrev YJ(es:Array (Int×am))(b:Nat)(t:SetTable):Obj:={ cls:=.type "set",dict:=af,data:=.set es b t }
def zc3(w:ax):Bool:=!w.params.followText "set-order"
def Ab(w:ax)(h:au)(S:B)(b:zS):Prop:=∃es c t,h.get? S=Y (YJ es c t)/\(es.toList.map (·.2)).Perm b/\An t es.size/\(t.plain=ae->b=[])/\t.led=zc3 w
section
variable {t:SetTable}
theorem Ab.at(x:Ab w h S vs)(e:∀o,h.get? S=Y o->h'.get? S=Y o):Ab w h' S vs:=let ⟨es,ep,t,a,r⟩:=x;{es,ep,t,e _ a,r}
theorem ib.at{q:Str×Int}(x:ib h (.ref b) q)(e:∀o,h.get? b=Y o->h'.get? b=Y o):ib h' (.ref b) q:=by have #[_,o,t,u,n,d,c,r]:=x;cases d;exact{b,o,t,u,n,U,e _ c,r}
theorem zc4{g:List (Str×Int)}{R:aB->ak->Prop}(W:Walks P w A.in1 I [I,l] [I] items.size (λi v=>items[i]?=Y v) (λi h=>h.IsListIter I l i/\h.IsList l items))(sI:S≠I)(sl:S≠l)(lq:items.size=g.length)(nd:g.Nodup)(ar:items.size<=76)(hu:A.in1.units<cLine) :
  ∀(k i:Nat)(s:ak),items.size-i=k->i<=items.size->s.heap.IsListIter I l i->s.heap.IsList l items->Ab w s.heap S (items.toList.take i) ->
   (∀(j:Nat)(q:Str×Int),g[j]?=Y q->∃b,items[j]?=Y (.ref b)/\b≠I/\b≠S/\ib s.heap (.ref b) q) ->
   (∀(D:au)(tk:Nat),(∀b o,b≠I->b≠S->s.heap.get? b=Y o->D.get? b=Y o)->Ab w D S items.toList->R (.ok (.ret .none)) { s with heap:=D,toks:=tk }) ->
   codeAny (Bg P w) A (.builtin "set.update.loop" {[.ref S,.ref I],[]}) R s:=by
 intro k;induction k with
 |zero=>
  intro i s hk hi n m J pl hR;have e:i=items.size:=by lia
  subst e;refine dt i7 ?_;rw[cK fO _];show Bf _ A.in1 (pyNext (.ref I) >>= _) _ _ s;refine ba (W.done s _ _ {n,m} λD tk r=>?_);show Bf _ A.in1 (ret cE) _ _ _;refine bm (hR D tk (λb o b1 _ e=>r b o (by simpa using b1) e) ?_);rw[cB (by simp)] at J;exact J.at λo e=>r S o (by simpa using sI) e
 |succ k ih=>
  intro i s hk hi n m J pl hR;have lt:i<items.size:=by lia
  refine dt i7 ?_;rw[cK fO _];show Bf _ A.in1 (pyNext (.ref I) >>= _) _ _ s;refine ba (W.item i s _ _ lt {n,m} λv M T hv st r=>?_);have #[b,hb,bI,bS,pb]:=pl i g[i] (bd ());rw[hb] at hv;cases hv;have ai:Ab w M S (items.toList.take i):=J.at λo e=>r S o (by simpa using sI) e;have y:∀(j:Nat)(q:Str×Int),g[j]?=Y q->∃b,items[j]?=Y (.ref b)/\b≠I/\b≠S/\ib M (.ref b) q:=λj q d=>by have #[b,g1,G,g3,g4]:=pl j q d;exact{b,g1,G,g3,g4.at λo e=>r b o (by simpa using G) e}
  have #[es,ep,t,ho,pm,ok,pn,pd]:=ai;have ne:es.size=i:=by have:=pm.length_eq;rw[bh,bW,cf,bW] at this;lia
  have aa:ib M (.ref b) g[i]:=pb.at λo e=>r b o (by simpa using bI) e;show Bf _ A.in1 (holding [bN b] (setAdd S (.ref b)) >>= _) _ _ _;refine ba (c8 (zk0 (s:={ s with heap:=M,toks:=T }) (q:=g[i]) ho rfl ok () hu aa (λe he=>?_) λh2 an aj al t2 H G p2 ab u _=>?_))
  .have m1:e.2∈items.toList.take i:=pm.mem_iff.mp (bL he);have #[j,d]:=cQ m1;rw[ik] at d;have ji:j<i:=by
    obtain z|z:=fM j i
    .exact z
    .rw[ag ()] at d;cases d
   rw[ao ji,ce] at d;have #[c,g1,G,g3,g4]:=y j g[j] (bd ());rw[g1] at d;exact{c,g[j],(bX d).symm,g4,λz=>bK ji ((gW nd).mp z)}
  .refine bm {eQ fO _,ih (i+1) _ () lt ?_ ?_ ?_ ?_ λh3 Q k3 s3=>?_}
   .exact st.1.at λo e=>by rw[H.2 I (eh sI)];exact e
   .exact st.2.at λo e=>by rw[H.2 l (eh sl)];exact e
   .refine{aj,al,t2,G,?_,ab,(λz=>by rw[u.1] at z;cases z),u.2.trans pd};have e1:items.toList.take (i+1)=items.toList.take i++[bN b]:=by rw[sE,ce,hb];rfl
    rw[e1];have:=p2.map (·.2);rw[b7] at this;exact this.trans (pm.append_right _)
   .intro j q d;have #[c,O,N,c3,c4]:=y j q d;exact{c,O,N,c3,c4.at λo e=>by rw[H.2 c c3];exact e}
   .refine hR h3 Q (λc o O N e=>k3 c o O N ?_) s3;show h2.get? c=Y o;rw[H.2 c N];exact r c o (by simpa using O) e
theorem zbt(e:h.get? S=Y (YJ #[] 0 (.fresh 0 0 (zc3 w)))):Ab w h S []:=
 {#[],0,_,e,fN _,{U,U,.inl {U,()}},λ_=>rfl,U}
theorem zi6(a:am){Q:nA}(h:Q (.ref s.heap.objs.size) { s with heap:=s.heap.push (YJ #[] 0 (.fresh 0 0 (zc3 w))) }) :
  codeAny (Bg P w) A (.call (.builtin "set.__new__") {[.type "set",a],[]}) (wants Q E) s:=by
 refine codeAny_of_tree ?_;show Bf _ A.in1 (do checkBuiltinCall "set.__new__" {[.type "set",a],[]};again (.builtin "set.__new__" {[.type "set",a],[]})) _ _ s;refine ba (nP (PySem.F.newCall_set_1 a) (bm {eQ rQ _,dt PySem.F.entry_set_new ?_}));rw[cK rQ _];unfold Builtin.«set.__new__» Builtin.Frozenset.newClass;have b:=sub_set_self;have #[k,g,d,c,i]:=s;dsimp only
 wp_walk
 refine pR (bm ?_);dsimp only;simp only[newObj];refine ba (wpAny_alloc (bm ?_));exact bm h
set_option maxRecDepth 200000 in
theorem V0{items:Array am}{qs:List (Str×Int)}{Q:nA}(hh:A.handled=af)(hu:A.units+8<cLine)(hl:s.heap.IsList l items)(lq:items.size=qs.length)(nd:qs.Nodup)(as:items.size<=76)(pl:∀(j:Nat)(q:Str×Int),qs[j]?=Y q->∃b,items[j]?=Y (.ref b)/\ib s.heap (.ref b) q)(h:∀(i:au)(I:Nat),Ab w i s.heap.objs.size items.toList->(∀b o,s.heap.get? b=Y o->i.get? b=Y o)->Q (.ref s.heap.objs.size) { s with heap:=i,toks:=I }) :
  Bf (Bg P w) A (call (.type "set") [.ref l]) Q E s:=by
 have #[c,tl,a1]:=PySem.F.called_set.mro;have aj:=PySem.F.called_set.made;have aQ:=PySem.F.called_set.sub;refine tJ (codeAny_of_tree ?_);show Bf _ _ (callAny (.type "set") _) _ _ _;refine bm {Code.quiet_builtin _ (),dt PySem.F.entry_type_call ?_};rw[Around.under_plain (weight_type_call_type "set" [.ref l] []) rfl];have h1:=PySem.F.called_set.notType;have h2:=PySem.F.called_set.canCreate;have a4:=PySem.F.typeCall_set_1 (.ref l)
 repeat (any_goals (first|assumption|wp_step))
 refine gg (zi6 (.ref l) (E:=E) (Q:=λM z=>M=.ref s.heap.objs.size/\z={ s with heap:=s.heap.push (YJ #[] 0 (.fresh 0 0 (zc3 w))) }) {rfl,rfl}) λr z hr=>?_;cases r with
 |error e=>exact hr
 |ok fl=>
  cases fl with
  |ret M=>
   have #[rfl,rfl]:=hr;obtain⟨g,v⟩:∃g:au,g=s.heap.push (YJ #[] 0 (.fresh 0 0 (zc3 w))):={_,U};have hS:g.get? s.heap.objs.size=Y (YJ #[] 0 (.fresh 0 0 (zc3 w))):=v ▸ bq _ rfl;have G:∀b o,s.heap.get? b=Y o->g.get? b=Y o:=λb o e=>v ▸ bg _ e;have k:g.objs.size=s.heap.objs.size+1:=by rw[v,eK]
   rw[<-v];have hT:tu { s with heap:=g } (.ref s.heap.objs.size) "set":={_,hS,rfl};have a3:=PySem.F.called_set.init.lookup;have a5:=PySem.F.called_set.init.bind (.ref s.heap.objs.size)
   repeat (any_goals (first|assumption|wp_step))
   refine gg (ss (R:=wants (λr y=>r=.none/\∃(i:au)(I:Nat),y={ s with heap:=i,toks:=I }/\Ab w i s.heap.objs.size items.toList/\∀b o,s.heap.get? b=Y o->i.get? b=Y o) E) PySem.F.called_set.init.plain PySem.F.entry_set_init (check_set_init_1 hT ?_)) λJ y d=>?_
   .have #[ol,N,T,nl,O]:=hl;have #[aK,ab,ai,aa]:=ol;simp only at T O;subst T;subst O;have D:=G _ _ N;have al:g.IsList l items:={_,D,U,nl,U};have aS:=PySem.F.sub_list_set;have a0:=PySem.F.sub_list_frozenset;have a2:(fB "list" == fB "dict")=ah:=by lia
    unfold Builtin.«set.__init__» noKeywords Builtin.Frozenset.updateFrom;generalize hPI:pyIter=PI
    wp_walk
    subst hPI;refine iJ al ?_;refine ba (oF ?_);have ll:l<s.heap.objs.size:=bF N;obtain⟨az,H⟩:∃h1:au,h1=g.push { cls:=.type "list_iterator",data:=.fields #[.ref l,.int 0 0] }:={_,U};have m:∀b o,g.get? b=Y o->az.get? b=Y o:=λb o e=>H ▸ bg _ e;rw[<-H];refine zc4 (uG (by simp[hh]) g.objs.size l (by rw[k];exact bK (fR ll)) items) (S:=s.heap.objs.size) (by rw[k];exact bK (i9 _)) (dP ll) lq nd as (by have e:A.in1.in1.in1.units=A.units+3:=rfl;lia) items.size 0 _ () (bQ _) (by subst H;exact{_,bq _ U,U,U}) {_,m _ _ D,U,nl,U} (zbt (m _ _ hS)) (λj q hj=>?_) λi I k3 s3=>?_
    .have #[b,b1,b2]:=pl j q hj;have bl:b<s.heap.objs.size:=by have #[_,o,t,u,n,e,ho,r]:=b2;cases e;exact bF ho
     exact{b,b1,by rw[k];exact bK (fR bl),bK bl,b2.at λo e=>m _ _ (G _ _ e)}
    .show Bf _ _ _ _ _ _;refine bm ?_;show Bf _ _ (ret cE) _ _ _;refine bm {U,i,I,U,s3,λb o e=>k3 b o ?_ ?_ (m _ _ (G _ _ e))}
     .rw[k];exact bK (fR (bF e))
     .exact bK (bF e)
   .cases J with
    |error e=>exact d
    |ok fl₂=>
     cases fl₂ with
     |ret r=>
      have #[rfl,i,I,rfl,ar,an]:=d
      repeat (any_goals (first|assumption|wp_step))
      exact h _ _ ar an
     |_=>exact d.elim
  |_=>exact hr.elim
end
theorem zc5:Manifest.owners.lookup (String.ofList ['r','o','t','a','r','e','t','i','_','t','e','s'].reverse)=Y Manifest.sig_set_iterator:=by kernel_rfl
theorem uT:Slot "set_iterator" "__next__" "set_iterator.__next__":=.of (owner:="set_iterator") (n:="__next__") (by rw[rJ,mT];kernel_rfl) () () () (by first|exact .inl ()|exact .inr ()) (by rw[sF];kernel_rfl)
theorem XA:entryFor table "set_iterator.__next__"=Y Builtin.«set_iterator.__next__»:=entryFor_of_tree (by kernel_rfl)
theorem Jn(a:am):argsOk "set_iterator.__next__" {[a],[]}:=by unfold argsOk;rw[signature?_of (id:="set_iterator.__next__") (n:=['_','_','t','x','e','n','_','_']) (o:=['r','o','t','a','r','e','t','i','_','t','e','s']) (by kernel_rfl) zc5];kernel_rfl
theorem zfP:Slot "set_iterator" "__iter__" "set_iterator.__iter__":=.of (owner:="set_iterator") (n:="__iter__") (by rw[rJ,mT];kernel_rfl) () () () (by first|exact .inl ()|exact .inr ()) (by rw[sF];kernel_rfl)
theorem zg9:entryFor table "set_iterator.__iter__"=Y Builtin.«dict_keyiterator.__iter__»:=entryFor_alias (id':="dict_keyiterator.__iter__") (by kernel_rfl) U () (by kernel_rfl)
theorem zi7(a:am):argsOk "set_iterator.__iter__" {[a],[]}:=by unfold argsOk;rw[signature?_of (id:="set_iterator.__iter__") (n:=['_','_','r','e','t','i','_','_']) (o:=['r','o','t','a','r','e','t','i','_','t','e','s']) (by kernel_rfl) zc5];kernel_rfl
theorem zha:entryFor table "set.__iter__"=Y Builtin.«frozenset.__iter__»:=entryFor_alias (id':="frozenset.__iter__") (by kernel_rfl) U () (by kernel_rfl)
section
variable {t:SetTable}
def SIt(h:au)(I:B)(f:am)(i:Nat)(S:B)(n b:Nat):Prop:=h.get? I=Y { cls:=.type "set_iterator",data:=.fields #[f,.int i 0,.ref S,.int n 0,.int b 0] }
theorem SIt.type{f:am}{i n b:Nat}(x:SIt s.heap I f i S n b):s.TypeIs (.ref I) "set_iterator":={_,x,U}
theorem zfQ{f:am}{i n b:Nat}{Q:nA}(x:SIt s.heap I f i S n b)(h:Q (.ref I) s):Bf (Bg P w) A (pyIter (.ref I)) Q E s:=by refine mn x.type zfP (cr zfP x.type zg9 ?_ (zi7 _));show Bf _ _ (ret (.ref I)) _ _ s;exact bm {_,U,"set_iterator",_,x.type,uT.lookup,h}
theorem zi8{Q:Bool->ak->Prop}(d:s.TypeIs (.ref S) "set")(h:Q ah s):Bf (Bg P w) A (nU (.ref S)) Q E s:=by
 unfold nU;refine ba (rA d PySem.F.slot_set_len.lookup ?_);generalize hid:("set.__len__":String)=id0
 wp_delta
 rw[show splitId id0=Y ("set","__len__") from by subst hid;lia];subst hid;refine ba (gX (T:="set") (b:=ae) d (by rw[sF];kernel_rfl) ?_);refine iF (λc=>absurd c ()) (λ_=>?_);refine iF (λ_=>?_) (λc=>absurd () c);refine ba (mR d ?_);exact bm h
end
section
variable {t:SetTable}
theorem zk1{k d i c:Nat}{es:Array (Int×am)}{x:am}{Q:Option am->ak->Prop}(b:SIt s.heap I (.int k 0) i S es.size c)(n:s.heap.get? S=Y (YJ es c t))(y:t.fits es.size=ae)(m:∀(Q:Option (am×Nat)->ak->Prop)(E:nA),Q (Y (x,d)) s->Bf (Bg P w) A.in1 (setNext S k i c) Q E s)(q:∀h,SIt h I (.int d 0) (i+1) S es.size c->cv I s.heap h->Q (Y x) { s with heap:=h }):Bf (Bg P w) A (pyNext (.ref I)) Q E s:=by unfold pyNext;refine ba (eP (cq (name:=bb "__next__") b.type uT (cr uT b.type XA ?_ (Jn _))));unfold Builtin.«set_iterator.__next__»;refine ba (bm ?_);refine ba (gC b U ?_);dsimp only;refine ba (gS n U y ?_);rw[ag (by simp)];simp only[cy];refine ba (m _ _ ?_);refine ba (cg b (by simp) λr v l=>?_);refine ba (cg (s:={ s with heap:=r }) v (by simp) λo u g=>?_);exact bm {_,U,bm (q o (by unfold SIt;rw[u];simp[rawInt]) (l.trans g))}
theorem zax{I:B}{Q:Option am->ak->Prop}(i:A.handled=af)(q:∀g,(∀b o,h.get? b=Y o->g.get? b=Y o)->Q af { s with heap:=g }) :
  Bf (Bg P w) A.in1 (do let e <-newExc (fB "StopIteration") [];raiseNew e) (λd c=>∃v,d=Fin.done (Flow.ret v)/\Bf (Bg P w) A (pure (Y v)) Q E c)
   (λe c=>Bf (Bg P w) A (do let b <-isInstance e (fB "StopIteration");if b=ae then pure af else throw e) Q E c) { s with heap:=h }:=by refine ba ?_;simp only[newExc,newTuple];refine ba (cA ?_ (by size_fits));refine ba (m:=firstArgMember _ _) (nP (a:=cE) (by first|rfl|(simp only[firstArgMember];rfl)) ?_);refine cA ?_ (by size_fits);simp only[raiseNew];refine ba (nD ?_);rw[show A.in1.handled=af from i];refine ba (bm (pI ?_));exact ba (gX (T:="StopIteration") (b:=ae) {_,bq _ U,U} mG (bm (q _ λb o e=>bg _ (bg _ e))))
theorem zk2{k i d:Nat}{es:Array (Int×am)}{Q:Option am->ak->Prop}(n:A.handled=af)(c:SIt s.heap I (.int k 0) i S es.size d)(r:s.heap.get? S=Y (YJ es d t))(v:t.fits es.size=ae)(l:∀(Q:Option (am×Nat)->ak->Prop)(E:nA),Q af s->Bf (Bg P w) A.in1 (setNext S k i d) Q E s)(q:∀h,(∀b o,b≠I->s.heap.get? b=Y o->h.get? b=Y o)->Q af { s with heap:=h }):Bf (Bg P w) A (pyNext (.ref I)) Q E s:=by unfold pyNext;refine ba (eP (cq (name:=bb "__next__") c.type uT (cr uT c.type XA ?_ (Jn _))));unfold Builtin.«set_iterator.__next__»;refine ba (bm ?_);refine ba (gC c U ?_);dsimp only;refine ba (gS r U v ?_);rw[ag (by simp)];simp only[cy];refine ba (l _ _ ?_);refine ba (cg c (by simp) λz D g=>?_);exact zax (I:=I) n λu m=>q u λb o y e=>m b o (by rw[g.2 b y];exact e)
structure SDr(h:au)(I T S:B)(i:Nat)(es:Array (Int×am))(ep:Nat)(t:SetTable)(π:xo):Prop where
 it:SIt h I (.ref T) i S es.size ep
 tp:h.get? T=Y { cls:=.type "tuple",data:=.seq (π.map λ(k:Nat)=>rawInt k).toArray }
 st:h.get? S=Y (YJ es ep t)
theorem zk3{es:Array (Int×am)}{e:Int×am}{Q:Option am->ak->Prop}(D:SDr s.heap I T S i es ep t π)(c:t.fits es.size=ae)(g:π[i]?=Y k)(l:es[k]?=Y e)(q:∀h,SIt h I (.ref T) (i+1) S es.size ep->cv I s.heap h->Q (Y e.2) { s with heap:=h }):Bf (Bg P w) A (pyNext (.ref I)) Q E s:=by
 have b:=D.it;unfold pyNext;refine ba (eP (cq (name:=bb "__next__") b.type uT (cr uT b.type XA ?_ (Jn _))));unfold Builtin.«set_iterator.__next__»;refine ba (bm ?_);refine ba (gC b U ?_);dsimp only;refine ba (gS D.st U c ?_);rw[ag (by simp)];refine ba (eM D.tp U ?_);have o:(π.map λ(k:Nat)=>rawInt k).toArray[i]?=Y (rawInt k):=by rw[mV,br,g];rfl
 simp only[cy,o];show Bf _ _ (setNextDrawn S (Int.toNat k) ep >>= _) _ _ _;rw[cy];refine ba ?_;unfold setNextDrawn;refine ba (dJ D.st U c ?_);simp only[bne_self_eq_false,cH,if_false,l];refine bm ?_;refine ba (cg b (by simp) λm n d=>?_);exact bm {_,U,bm (q m (by unfold SIt;rw[n];simp[rawInt]) d)}
theorem zk4{es:Array (Int×am)}{Q:Option am->ak->Prop}(r:A.handled=af)(D:SDr s.heap I T S i es ep t π)(z:t.fits es.size=ae)(n:π.length<=i)(q:∀h,(∀b o,b≠I->s.heap.get? b=Y o->h.get? b=Y o)->Q af { s with heap:=h }):Bf (Bg P w) A (pyNext (.ref I)) Q E s:=by
 have c:=D.it;unfold pyNext;refine ba (eP (cq (name:=bb "__next__") c.type uT (cr uT c.type XA ?_ (Jn _))));unfold Builtin.«set_iterator.__next__»;refine ba (bm ?_);refine ba (gC c U ?_);dsimp only;refine ba (gS D.st U z ?_);rw[ag (by simp)];refine ba (eM D.tp U ?_);have G:(π.map λ(k:Nat)=>rawInt k).toArray[i]?=af:=by rw[mV,br,bV n];rfl
 simp only[cy,G];refine ba (cg c (by simp) λu y l=>?_);refine ba (cg (s:={ s with heap:=u }) y (by simp) λH J g=>?_);exact zax (I:=I) r λv m=>q v λb o d e=>m b o (by rw[g.2 b d,l.2 b d];exact e)
theorem zi9(N:A.handled=af){I T S:B}(J:T≠I)(H:S≠I){ep:Nat}{es:Array (Int×am)}{d:xo}(G:t.fits es.size=ae)(q:d.Perm (cG es.size)) :
  Walks P w A I [I,T,S] [I] es.size (λi v=>∃k e,d[i]?=Y k/\es[k]?=Y e/\v=e.2) (λi h=>SDr h I T S i es ep t d) where
 sub:=λb g=>by simp at g;simp[g]
 frame:=λ_ _ _ c r=>{r I (by simp) _ c.it,r T (by simp) _ c.tp,r S (by simp) _ c.st}
 item:=λi s Q E hi c m=>by
  have lp:d.length=es.size:=by have:=q.length_eq;simpa using this
  have D:d[i]?=Y d[i]:=bd ();have M:d[i]<es.size:=by have:=q.mem_iff.mp (c9 (l:=d) (n:=i) ());simpa using this
  have z:es[d[i]]?=Y es[d[i]]:=ck M;refine zk3 c G D z λy O u=>m _ y s.toks {_,_,D,z,U} {O,by rw[u.2 T J];exact c.tp,by rw[u.2 S H];exact c.st} λb o g e=>by rw[u.2 b (by simpa using g)];exact e
 done:=λs Q E c m=>zk4 N c G (by have:=q.length_eq;simp at this;lia) λy k=>m y s.toks λb o g e=>k b o (by simpa using g) e
 self:=λ_ _ _ _ c m=>zfQ c.it m
end
theorem YK{b:Type}:∀ {l:List b}{i:Nat}{x:b},l[i]?=Y x->(x::l.eraseIdx i).Perm l
 |[],i,x,h=>by simp at h
 |y::l,0,x,h=>by simp only[ca,cz] at h;subst h;exact fN _
 |y::l,i+1,x,h=>by have c:=YK (l:=l) (i:=i) (x:=x) (by simpa using h);exact(sC ..).trans (c.cons y)
theorem zfR{c:Type}(f:Nat->Nat):∀(n k:Nat)(l:List c)(b:Array c),l.length=n->(pickOrder.go f n k l b).toList.Perm (b.toList++l)
 |0,k,l,b,h=>by have:l=[]:=dD h;subst this;rw[cL];exact fN _
 |n+1,k,l,b,h=>by have d:f k%l.length<l.length:=mh _ ();have e:l[f k%l.length]?=Y l[f k%l.length]:=bd d;unfold pickOrder.go;rw[e];dsimp only;refine(zfR f n (k+1) _ _ (by rw[nZ d];lia)).trans ?_;rw[oU,cF];exact(YK e).append_left _
theorem zja{b:Type}(f:Nat->Nat)(es:Array b):(pickOrder f es).toList.Perm es.toList:=by exact zfR f es.size 0 es.toList #[] (by simp)
section
variable {t:SetTable}
theorem zk5{Q:Nat->ak->Prop}(b:n≠0)(h:∀i d,i<n->Q i { s with drawn:=d }):Bf (Bg P w) A (choose src n) Q E s:=λ_ _ _=>by unfold choose;rw[Sem.wp_choose];refine{b,?_};exact h _ _ (mh _ (Nat.pos_of_ne_zero b))
theorem zc6{k:Type}:∀(n:Nat)(b:List k)(s:ak)(Q:List k->ak->Prop),b.length=n->(∀c d,c.Perm b->Q c { s with drawn:=d })->Bf (Bg P w) A (drawOrder n b) Q E s
 |0,b,s,Q,h,q=>by have:b=[]:=dD h;subst this;unfold drawOrder;exact bm (q [] s.drawn (fN _))
 |n+1,[],s,Q,h,q=>by cases h
 |n+1,x::b,s,Q,h,q=>by unfold drawOrder;refine ba (zk5 (by simp) λi d g=>?_);rw[bd g];dsimp only;refine ba (zc6 n _ _ _ (by rw[nZ g];simp at h ⊢;lia) λc l p=>?_);exact bm (q _ l ((p.cons _).trans (YK (bd g))))
theorem zc7(J:A.handled=af){I S:B}(H:S≠I){l:Nat}{es:Array (Int×am)}(z:t.fits es.size=ae)(d:zS)(lo:d.length=es.size)(n:Nat->Nat)(D:∀(i:Nat)(v:am)(s:ak)(A:aw),s.heap.get? S=Y (YJ es l t)->d[i]?=Y v->∀(Q:Option (am×Nat)->ak->Prop)(E:nA),Q (Y (v,n (i+1))) s->Bf (Bg P w) A (setNext S (n i) i l) Q E s)(G:∀(s:ak)(A:aw),s.heap.get? S=Y (YJ es l t)->∀(Q:Option (am×Nat)->ak->Prop)(E:nA),Q af s->Bf (Bg P w) A (setNext S (n es.size) es.size l) Q E s) :
  Walks P w A I [I,S] [I] es.size (λi v=>d[i]?=Y v) (λi h=>SIt h I (.int (n i) 0) i S es.size l/\h.get? S=Y (YJ es l t)) where
 sub:=λb g=>by simp at g;simp[g]
 frame:=λ_ _ _ c u=>{u I (by simp) _ c.1,u S (by simp) _ c.2}
 item:=λi s Q E N c m=>by have r:d[i]?=Y d[i]:=bd ();exact zk1 c.1 c.2 z (D i _ s _ c.2 r) λq M y=>m _ q s.toks r {M,by rw[y.2 S H];exact c.2} λb o g e=>by rw[y.2 b (by simpa using g)];exact e
 done:=λs Q E c m=>zk2 J c.1 c.2 z (G s _ c.2) λq k=>m q s.toks λb o g e=>k b o (by simpa using g) e
 self:=λ_ _ _ _ c m=>zfQ c.1 m
theorem Ye{Q:Bool->ak->Prop}(h:Q (w.params.followText "set-order") s):Bf (Bg P w) A setsByText Q E s:=by unfold setsByText;exact ba (pR (bm h))
theorem zfT{S:B}{k i b:Nat}{es:Array (Int×am)}(g:w.params.followText "set-order"=ae)(c:s.heap.get? S=Y (YJ es b t))(d:t.fits es.size=ae){Q:Option (am×Nat)->ak->Prop}
  (q:Q ((((pickOrder (w.params.setOrder S b) es).toList.map (·.2))[i]?).map λv=>(v,k)) s):Bf (Bg P w) A (setNext S k i b) Q E s:=by unfold setNext;refine ba (dJ c U d ?_);refine ba (Ye ?_);rw[g,ao rfl];dsimp only;rw[ag (by simp)];unfold setWalk;refine ba (ba (dJ c U d ?_));refine ba (Ye ?_);rw[g,ao rfl];refine ba (pR (bm ?_));refine bm ?_;rw[br,ce,Option.map_map] at q;exact q
theorem zfU{S:B}{k i b:Nat}{es:Array (Int×am)}(h:w.params.followText "set-order"=ah)(d:s.heap.get? S=Y (YJ es b t))(g:t.fits es.size=ae)(l:es.size<=1)(ld:t.led=ae){Q:Option (am×Nat)->ak->Prop}
  (q:Q (match es[ie t.place k]?,t.place[ie t.place k]? with|some (_,x),Y j=>Y (x,j+1)|_,_=>af) s):Bf (Bg P w) A (setNext S k i b) Q E s:=by unfold setNext;refine ba (dJ d U g ?_);refine ba (Ye ?_);rw[h,ag bM];dsimp only;refine iF (λc=>absurd c (show ¬ ((!t.plain&&decide (es.size > 1))=ae) by simp;lia)) λ_=>?_;refine ba ?_;show Bf _ _ (if (!t.led && !es.isEmpty)=ae then _ else _) _ _ _;rw[ld,ag (by simp)];refine bm ?_;exact bm q
end
section
variable {t:SetTable}
theorem zjb(j:Nat):ie #[j] 0=0:=by simp[ie,tT]
theorem zjc(j:Nat):ie #[j] (j+1)=1:=by simp[ie,tT]
theorem Walks.weak{I:B}{c b:List B}{n:Nat}{g d:Nat->am->Prop}{St:Nat->au->Prop}(W:Walks P w A I c b n g St)(h:∀i v,g i v->d i v):Walks P w A I c b n d St where
 sub:=W.sub
 frame:=W.frame
 item:=λi s Q E m l o=>W.item i s Q E m l λv q k p=>o v q k (h i v p)
 done:=W.done
 self:=W.self
theorem zjd{S:B}{ep:Nat}{es:Array (Int×am)}(g:s.heap.get? S=Y (YJ es ep t))(h:An t es.size)(pn:t.plain=ae->es.size=0)(ld:t.led=zc3 w)(hh:A.handled=af){Q:nA}
  (q:∀(l:au) d (I:B)(y:zS)(fp:List B)(St:Nat->au->Prop),(∀b o,s.heap.get? b=Y o->l.get? b=Y o)->s.heap.objs.size<=I->y.Perm (es.toList.map (·.2))->(∀b∈fp,b=S\/s.heap.objs.size<=b) ->
   Walks P w A I fp [I] es.size (λi v=>y[i]?=Y v) St->St 0 l->Q (.ref I) { s with heap:=l,drawn:=d }):Bf (Bg P w) A (pyIter (.ref S)) Q E s:=by
 have hT:s.TypeIs (.ref S) "set":={_,g,U};have lS:S<s.heap.objs.size:=bF g;refine mn hT rR (cr rR hT zha ?_ (PySem.F.args_set_iter_1 _));unfold Builtin.«frozenset.__iter__»;refine ba (m:=Builtin.Frozenset.slot0 _ _) (bm ?_);refine ba (m:=Builtin.Frozenset.sizeOf S) (ba (gS g U h.fits (bm ?_)));unfold setDrawn;refine ba (ba (dJ g U h.fits ?_));refine ba (Ye (bm ?_));have le:es.size<=127:=by have:=h.lt;obtain e|e|e:=h.msk <;> lia
 have zl:(128:Nat)<=Bb:=by lia
 refine iF (λc=>?_) λc=>?_
 .have c2:(!w.params.followText "set-order" && (!t.plain&&decide (es.size > 1)))=ae:=c;refine ba (zc6 es.size (cG es.size) s _ (by simp) λr d u=>?_);have lp:r.length=es.size:=by have:=u.length_eq;simpa using this
  refine ba (mF ?_ (by rw[bh,lp];lia));have aa:=bg { cls:=fB "tuple",data:=.seq (r.map λ(i:Nat)=>rawInt i).toArray } g;refine ba (wpAny_setEpoch_of (s:={ s with heap:=s.heap.push { cls:=.type "tuple",data:=.seq (r.map λ(i:Nat)=>rawInt i).toArray },drawn:=d }) aa rfl h.fits ?_);refine ba (m:=newFields _ _) (cA (bm {_,U,"set_iterator",_,{_,bq _ U,U},uT.lookup,?_}));obtain⟨l,O⟩:∃l:au,l=s.heap.push { cls:=.type "tuple",data:=.seq (r.map λ(i:Nat)=>rawInt i).toArray }:={_,U};have M:l.objs.size=s.heap.objs.size+1:=by rw[O,eK]
  have gT:l.get? s.heap.objs.size=Y { cls:=.type "tuple",data:=.seq (r.map λ(i:Nat)=>rawInt i).toArray }:=O ▸ bq _ rfl;have k1:∀b o,s.heap.get? b=Y o->l.get? b=Y o:=λb o e=>O ▸ bg _ e;rw[<-O];have wk:=zi9 (P:=P) (w:=w) (I:=l.objs.size) (T:=s.heap.objs.size) (S:=S) (ep:=ep) hh (by rw[M];exact bK (i9 _)) (by rw[M];exact bK (fR lS)) h.fits u;refine q _ d l.objs.size (r.map λk=>(es.toList.map (·.2)).getD k cE) _ _ (λb o e=>bg _ (k1 b o e)) (by rw[M];exact gO _) ?_ ?_ (Walks.weak wk λi v=>?_) {bq _ U,bg _ gT,bg _ (k1 _ _ g)}
  .refine(u.map _).trans ?_;have e2:(cG es.size).map (λk=>(es.toList.map (·.2)).getD k cE)=es.toList.map (·.2):=by
    apply uj
    .simp
    .intro i l h2;simp[bA,bd h2];simp at h2;rw[ck h2];rfl
   rw[e2]
  .intro b H;simp only[bn,bZ,or_false] at H;obtain rfl|rfl|rfl:=H
   .exact .inr (by rw[M];exact gO _)
   .exact .inr (bo _)
   .exact .inl rfl
  .rintro⟨k,e,a1,a2,rfl⟩;rw[br,a1];simp[bA,a2]
 .have c2:¬ ((!w.params.followText "set-order" && (!t.plain&&decide (es.size > 1)))=ae):=c;refine ba (bm ?_);refine ba (wpAny_setEpoch_of g U h.fits ?_);refine ba (m:=newFields _ _) (cA (bm {_,U,"set_iterator",_,{_,bq _ U,U},uT.lookup,?_}));have sI:S≠s.heap.objs.size:=bK lS;have J:∀b∈[s.heap.objs.size,S],b=S\/s.heap.objs.size<=b:=λb H=>by
   simp only[bn,bZ,or_false] at H;obtain rfl|rfl:=H
   .exact .inr (bo _)
   .exact .inl rfl
  by_cases n:w.params.followText "set-order"=ae
  .have u:=(zja (w.params.setOrder S ep) es).map (·.2);have lo:((pickOrder (w.params.setOrder S ep) es).toList.map (·.2)).length=es.size:=by have:=u.length_eq;rw[this];simp
   exact q _ s.drawn _ _ _ _ (λb o e=>bg _ e) (bo _) u J (zc7 hh sI h.fits _ lo (λ_=>0) (λi v s A g G Q E q=>zfT n g h.fits (by rw[G];exact q)) λs A g Q E q=>zfT n g h.fits (by rw[bV (by rw[lo];exact bo _)];exact q)) {bq _ U,bg _ g}
  .have n:w.params.followText "set-order"=ah:=by simpa using n
   have sm:es.size<=1:=by
    cases hp:t.plain with
    |true=>have:=pn hp;lia
    |false=>rw[n,hp] at c2;simp at c2;exact c2
   have D:t.led=ae:=by rw[ld];unfold zc3;rw[n];rfl
   refine q _ s.drawn _ (es.toList.map (·.2)) _ _ (λb o e=>bg _ e) (bo _) (fN _) J (zc7 hh sI h.fits _ (by simp) (λi=>if i=0 then 0 else t.place.getD 0 0+1) (λi v s A g G Q E q=>?_) λs A g Q E q=>?_) {bq _ U,bg _ g}
   .have i0:i<es.size:=by have:=(bp.mp G).1;simpa using this
    have #[j,N]:=mW.mp (show t.place.size=1 by rw[h.sz];lia);have #[e,he]:=mW.mp (show es.size=1 by lia);have i1:i=0:=by lia
    subst i1;subst he;simp only[bC,ca,cz] at G;subst G;refine zfU n g h.fits sm D ?_;rw[ao U,N,zjb];rw[N] at q;exact q
   .refine zfU n g h.fits sm D ?_;obtain z|z:=gA es.size
    .rw[e9 (xs:=es) ()];exact q
    .have #[j,N]:=mW.mp (show t.place.size=1 by rw[h.sz];lia);rw[ag (),N];rw[show (#[j]:ANt).getD 0 0=j from rfl,zjc,e9 (xs:=es) ()];exact q
theorem zc8{R:zS->ak->Prop}(hS:Ab w s.heap S vs)(hh:A.handled=af)(h:∀(u:au)(O:Nat) d (ord:zS),(∀b o,s.heap.get? b=Y o->u.get? b=Y o)->ord.Perm vs->R ord { s with heap:=u,toks:=O,drawn:=d }):Bf (Bg P w) A (collect (.ref S)) R E s:=by
 have #[es,ep,t,ho,pm,ok,pn,ld]:=hS;have le:es.size<=127:=by have:=ok.lt;obtain e|e|e:=ok.msk <;> lia
 have zl:(128:Nat)<=Bb:=by lia
 unfold collect;refine ba (oF (dt m8 ?_));rw[cK iD _];show Bf _ A.in1 (newList [] >>= λl=>again (.builtin "list.__iadd__" {[l,.ref S],[]})) _ _ s;refine ba (cA ?_);refine bm {eQ eT _,dt pP ?_};rw[cK eT _];obtain⟨N,e0⟩:∃N:au,N=s.heap.push { cls:=.type "list",data:=.seq ([]:zS).toArray }:={_,U};rw[<-e0];have k0:∀b o,s.heap.get? b=Y o->N.get? b=Y o:=λb o e=>e0 ▸ bg _ e;have hL:N.get? s.heap.objs.size=Y { cls:=.type "list",data:=.seq #[] }:=e0 ▸ bq _ rfl;have lS:S<s.heap.objs.size:=bF ho;have L0:s.heap.objs.size<N.objs.size:=bF hL;show Bf _ A.in1 (cV (.ref s.heap.objs.size) (.ref S) (.ref s.heap.objs.size)) _ _ _;unfold cV;refine ba (mR (s:={ s with heap:=N }) (T:="set") {_,k0 _ _ ho,rfl} ?_);have M:gM (.ref s.heap.objs.size) (.ref S)=ah:=by simp[gM,(dP lS:s.heap.objs.size≠S)]
 simp only[M,show (fB "set" == fB "list")=ah by lia,show (fB "set" == fB "tuple")=ah by lia,sX,cH,if_false];refine ba (zjd (P:=P) (A:=A.in1) (s:={ s with heap:=N }) (k0 _ _ ho) ok (λz=>by have:=pn z;subst this;have:=pm.length_eq;simpa using this) ld hh λM d I ord fp St k1 lI po pf W st=>?_);have J:=k1 _ _ hL;have Lf:s.heap.objs.size ∉ fp:=λz=>by
  obtain e|e:=pf _ z
  .exact absurd e (dP lS)
  .exact absurd L0 (Nat.not_lt.mpr e)
 have ab:∀(m:au)(c:Nat),St 0 m->(∀b o,b≠s.heap.objs.size->M.get? b=Y o->m.get? b=Y o)->m.get? s.heap.objs.size=Y { cls:=.type "list",data:=.seq #[] c } ->
   codeAny (Bg P w) A (.builtin "list.extend.loop" {[.ref s.heap.objs.size,.ref I,.ref s.heap.objs.size],[]}) (λ(q:aB)(n:ak)=>∃(u:au)(O:Nat)(k:Array am)(c:Nat),q=.ok (.ret (.ref s.heap.objs.size))/\n={ s with heap:=u,toks:=O,drawn:=d } /\
    (∀b o,s.heap.get? b=Y o->u.get? b=Y o)/\u.get? s.heap.objs.size=Y { cls:=.type "list",dict:=af,data:=.seq k c,slots:=#[] }/\ItemsOf (λi v=>ord[i]?=Y v) k es.size) { s with heap:=m,drawn:=d }:=λm c D k2 H=>by
  refine codeAny_extend_loopS W.toS () s.heap.objs.size Lf _ es.size 0 _ #[] c U (bQ _) D H (ItemsOf.nil _) λn aa c' hm G g=>?_;refine{n.heap,n.toks,aa,c',U,Moved.eq_with hm,λb o e=>?_,G,g};have bl:=bF e;refine hm.heap b o (λz=>?_) (k2 b o (bK bl) (k1 _ _ (k0 _ _ e)));obtain z|z:=bn.mp z
  .exact absurd z (bK bl)
  .exact absurd (bB.mp z) (bK (cb (t9 bl L0) lI))
 have y:∀(m:au)(c:Nat),St 0 m->(∀b o,b≠s.heap.objs.size->M.get? b=Y o->m.get? b=Y o)->m.get? s.heap.objs.size=Y { cls:=.type "list",data:=.seq #[] c } ->
   codeAny (Bg P w) A (.builtin "list.extend.loop" {[.ref s.heap.objs.size,.ref I,.ref s.heap.objs.size],[]}) (λr n=>match r with|.ok (.ret v)=>Bf (Bg P w) A (match v with|bN a=>do { let o <-load a;match o.data with|Data.seq xs epoch=>pure xs.toList|x=>unsupported "internal:collect" }|x=>unsupported "internal:collect") R E n|.ok a=>False|.error e=>E e n) { s with heap:=m,drawn:=d }:=λm c D k2 H=>by
  refine gg (ab m c D k2 H) λq n x=>?_;have #[u,O,k,c,rfl,rfl,hk,G,g]:=x;show Bf _ A (load s.heap.objs.size >>= _) _ _ _;refine ba (oI G ?_);have ea:k.toList=ord:=by
   have lo:ord.length=es.size:=by have:=(po.trans (fN _)).length_eq;simpa using this
   apply cY;intro i;obtain z|z:=fM i k.size
   .rw[ce,ck z];exact(g.2 i _ (ck z)).symm
   .rw[bV (by simpa using z),bV (by rw[lo,<-g.1];exact z)]
  exact bm (ea ▸ h u O d k.toList hk (ea ▸ po.trans pm))
 refine ba (c8 (zi8 {_,k1 _ _ (k0 _ _ ho),U} ?_));refine iF (λ_=>?_) λ_=>bm {eQ dI _,y M _ st (λ_ _ _ e=>e) J};refine ba (iP (ba ?_));show Bf _ _ (updateSeq s.heap.objs.size (·.push .none) >>= λ_=>updateSeq s.heap.objs.size (·.pop)) _ _ _;refine ba (iE J U ?_);have g2:=cZ (dG (·.push cE)) J rfl;refine iE (hz:=by seq_fits) g2 U ?_;have g3:=cZ (dG (·.pop)) g2 rfl;have Q:∀b o,b≠s.heap.objs.size->M.get? b=Y o->((M.update s.heap.objs.size (dG (·.push cE))).update s.heap.objs.size (dG (·.pop))).get? b=Y o:=λb o hb e=>(dM _ _ (eh hb)).trans ((dM _ _ (eh hb)).trans e);exact bm {eQ dI _,y _ _ (W.frame 0 _ _ st λb hb o e=>Q b o (λz=>Lf (z ▸ hb)) e) Q g3}
end
theorem zc9{l:B}{C:zS->ak->Prop}{Q:nA}(u:∀R:zS->ak->Prop,(∀g d,C g d->R g d)->Bf (Bg P w) A.in1 (collect (.ref l)) R E s)(rest:∀(g:zS)(d:ak),C g d->∃(κ:SortKind)(lt:Nat->Nat->Bool),g.length<64/\SO lt g.length /\
   (2<=g.length->∀(h:au)(Q:SortKind->ak->Prop),(∀b o,d.heap.get? b=Y o->h.get? b=Y o)->Q κ { d with heap:=h }->Bf (Bg P w) A.in1.in1 (keyKind' g.toArray) Q (λ_ _=>False) { d with heap:=h }) /\
   (∀(h:au) i j C,(∀b o,d.heap.get? b=Y o->h.get? b=Y o)->i<g.length->j<g.length->i≠j->C (lt i j) { d with heap:=h }->kas_ask P w A.in1.in1 κ g i j C { d with heap:=h }) /\
   ∀(n:au)(p:ANt)(c:Nat),(∀b o,d.heap.get? b=Y o->n.get? b=Y o)->n.get? d.heap.objs.size=Y (seqObj "list" (vm g p).toArray c)->PP g.length p->Zj lt p g.length->Q (.ref d.heap.objs.size) { d with heap:=n }) :
  Bf (Bg P w) A (call (.builtin "sorted") [.ref l]) Q E s:=by
 refine iZ sK rE rF (rG _) ?_;unfold Builtin.«sorted»;refine ba (m:=checkCount "sorted" 1 1 _) (bm ?_);refine ba (u _ λg d O=>?_);have #[κ,lt,y,S,I,N,z]:=rest g d O;refine ba (nE ?_ (by rw[cu];lia));have t:(d.heap.push (seqObj "list" g.toArray 0)).get? d.heap.objs.size=Y (seqObj "list" g.toArray 0):=bq _ rfl;have r:∀n,Kp d.heap.objs.size (d.heap.push (seqObj "list" g.toArray 0)) n->∀b o,d.heap.get? b=Y o->n.get? b=Y o:=λn k b o e=>k b o (bK (bF e)) (bg _ e);refine ba (c8 (cr oC {_,t,U} nS (YE (s:={ d with heap:=d.heap.push (seqObj "list" g.toArray 0) }) t y (κ:=κ) (lt:=lt) (λT n Q' k q=>?_) (λn i j C k M J v q=>?_) S λn p c k H G D=>?_) (oE _)))
 .exact I T n Q' (r n k) q
 .exact N n i j C (r n k) M J v q
 .exact{_,U,bm {_,U,z n p c (r n k) H G D}}
theorem zje{i n:Type}{f:i->n}{l:List n}:∀ {m:List i},l.Perm (m.map f)->∃g:List i,g.Perm m/\l=g.map f:=by
 suffices H:∀ {l k:List n},l.Perm k->∀m:List i,k=m.map f->∃g:List i,g.Perm m/\l=g.map f from λ{m} h=>H h m rfl
 intro l k h;induction h with
 |nil=>intro m e;exact{m,fN _,e}
 |cons x _ ih=>
  intro m e;cases m with
  |nil=>cases e
  |cons y m=>
   have #[g,a,b]:=ih m (by injection e);exact{y::g,a.cons y,by rw[b,bC];congr 1;injection e}
 |swap x y l=>
  intro m e
  match m,e with
  |a::b::m,e=>
   injection e with e1 e2;injection e2 with e2 e3;exact{b::a::m,sC ..,by rw[bC,bC,<-e1,<-e2,<-e3]}
 |trans _ _ ih1 ih2=>
  intro m e;have #[q,a,b]:=ih2 m e;have #[o,c,d]:=ih1 q b;exact{o,c.trans a,d}
abbrev zhb(H:Hp)(ps:List (B×Pl)):Prop:=∀n∈ps,H n.1=Y (.tup [.str n.2.1,.int n.2.2])
def zjf(w:ax)(a:B)(ps:List (B×Pl)):HO:=.ext λh=>Ab w h a (ps.map λn=>bN n.1)
abbrev zjg(w:ax)(K:bE):RC:=λb H Q=>∃r ps,b=[.ref r]/\aM K H r (ps.map λn=>V.ref n.1)/\zhb H ps/\(ps.map (·.2)).Nodup/\ps.length<64/\∀l,H l=af->Q (.ref l) (upd H l (zjf w l ps))
abbrev zl9(w:ax):RC:=λh H Q=>∃a ps,h=[.ref a]/\H a=Y (zjf w a ps)/\zhb H ps/\(ps.map (·.2)).Nodup/\ps.length<64 /\
 ∀l g c d,aJ H d->H l=af->d l=Y (.lst g)->Bl (zeI d) g c->c.Pairwise (λa b=>yc a b=ae)->c.Perm (ps.map (·.2))->Q (.ref l) d
theorem zjh{b:Type}{f:b->B}:∀ {ps:List b}{c:zS},aP (ps.map λn=>V.ref (f n)) c->c=ps.map λn=>bN (f n)
 |[],_,h=>by cases h;rfl
 |p::ps,_,h=>by
  cases h with
  |cons a r=>
   cases a;rw[zjh r];rfl
theorem zay{b:Type}{f:b->B}:∀ {ps:List b},aP (ps.map λn=>V.ref (f n)) (ps.map λn=>bN (f n))
 |[]=>.nil
 |p::ps=>.cons U zay
theorem aN.drew{σ:St}{H:Hp}{s:ak}{d:Drawn}(I:aN X aa σ H s):aN X aa σ H { s with drawn:=d }:={I.ok,I.os,I.bare,I.base,I.loc,I.cell,I.free,I.freeC,I.pin,I.hok,I.len}
theorem zhc(hc:X.c=ae)(N:X.A.units+8<cLine):wM X (.type "set") (zjg X.w X.K):=by
 intro aa s σ H k us Q I z h;have #[r,ps,rfl,O,D,M,ab,q]:=h;have #[u,rfl,y]:=xL z;cases y;have #[k,v,#[o,n,c,J,_,G],hz]:=I.list O;have ev:=zjh (f:=λn:B×Pl=>n.1) v;subst ev;refine V0 (qs:=ps.map (·.2)) (I.ok.hd hc) N {o,c,J,n,G} (by simp) M (by simp;lia) (λj q g=>?_) λh' l i T=>?_
 .rw[br] at g;have #[m,d,rfl]:=cm.mp g;exact{m.1,by rw[mV,br,d];rfl,Xp I (D m (bU d))}
 .have fr:H s.heap.objs.size=af:=I.hok.fresh (bo _);have ex:∃o,h'.get? s.heap.objs.size=Y o:=by have #[es,ep,t,c,_]:=i;exact{_,c}
  refine{.ref s.heap.objs.size,_,I.laid (a:=s.heap.objs.size) (o:=zjf X.w s.heap.objs.size ps) (t':=l) T (bo _) {i,ex,λh1 h2 a b=>Ab.at a b},U,q _ fr}
theorem zhd(hc:X.c=ae):wM X (.builtin "sorted") (zl9 X.w):=by
 intro aa s σ H vs us Q I r0 h;have #[a,ps,rfl,ha,pp,nd,as,q]:=h;have #[u,rfl,ru]:=xL r0;cases ru;have hS:Ab X.w s.heap a (ps.map λn=>bN n.1):=(show aT X.p X.w H s.heap a (zjf X.w a ps) from I.hok a _ ha).1;have hh:X.A.handled=af:=I.ok.hd hc;refine zc9 (C:=λvs l=>∃ps':List (B×Pl),ps'.Perm ps/\vs=ps'.map (λn=>bN n.1)/\(∀b o,s.heap.get? b=Y o->l.heap.get? b=Y o)/\aN X aa σ H l) (λR hR=>?_) λvs l ⟨ps',J,ev,k1,I1⟩=>?_
 .refine zc8 hS hh λh' tk d ar kp po=>?_;have #[ps',J,e]:=zje po;exact hR _ _ {ps',J,e,kp,(I.kept (t':=tk) kp).drew}
 .subst ev;have ab:(ps'.map (·.2)).Nodup:=((J.map (·.2)).nodup_iff).mpr nd;have lp:ps'.length=ps.length:=J.length_eq;have so:=YF ab;have T:zhb H ps':=λn hn=>pp n (J.mem_iff.mp hn);have D:∀ {h:au},(∀b o,l.heap.get? b=Y o->h.get? b=Y o)->∀(i:Nat)(v:am)(q:Pl),(ps'.map λn=>bN n.1)[i]?=Y v->(ps'.map (·.2))[i]?=Y q->ib h v q:=λ{h} k i v q hv hq=>by rw[br] at hv hq;have #[m,hm,rfl]:=cm.mp hv;rw[hm] at hq;cases hq;exact(Xp I1 (T m (bU hm))).keep k
  have ll:(ps'.map λn=>bN n.1).length=(ps'.map (·.2)).length:=by simp
  refine{tuples' ae,λi j=>yc ((ps'.map (·.2)).getD i (("",0):Pl)) ((ps'.map (·.2)).getD j (("",0):Pl)),by simp;lia,by rw[ll];exact so,λh2 h Q' k q'=>?_,λh i j C k y hj al q'=>?_,λh' p c k2 hD hp hr=>?_}
  .exact JM (s:={ l with heap:=h }) (qs:=ps'.map (·.2)) ll (λi v q hv hq=>D k i v q hv hq) () q'
  .have an:i<(ps'.map (·.2)).length:=by simpa using y
   have aj:j<(ps'.map (·.2)).length:=by simpa using hj
   have e1:(ps'.map (·.2))[i]?=Y (ps'.map (·.2))[i]:=bd an;have N:(ps'.map (·.2))[j]?=Y (ps'.map (·.2))[j]:=bd aj;have g1:(ps'.map λn=>bN n.1)[i]?=Y ((ps'.map λn=>bN n.1).getD i cE):=by rw[bA,bd y];rfl
   have g2:(ps'.map λn=>bN n.1)[j]?=Y ((ps'.map λn=>bN n.1).getD j cE):=by rw[bA,bd hj];rfl
   have n1:(ps'.map (·.2)).getD i (("",0):Pl)=(ps'.map (·.2))[i]:=by rw[bA,e1];rfl
   have n2:(ps'.map (·.2)).getD j (("",0):Pl)=(ps'.map (·.2))[j]:=by rw[bA,N];rfl
   simp only[n1,n2] at q';exact zah (P:=X.p) (w:=X.w) (A:=X.A.in1.in1) (E:=λ_ _=>False) (s:={ l with heap:=h }) (Q:=C) (D k i _ _ g1 e1) (D k j _ _ g2 N) q' λz=>al ((gW ab).mp z)
  .have r:PP ps'.length p:=by simpa using hp
   have fr:H l.heap.objs.size=af:=I1.hok.fresh (bo _);have sz:=r.size;have eo:vm (ps'.map λn=>bN n.1) p=(p.toList.map λi=>ps'.getD i (0,(("",0):Pl))).map λn=>bN n.1:=by unfold vm;rw[fm];refine dR λi y=>?_;have M:=r.lt i y;simp[bA,br,bd M]
   have O:zhb H (p.toList.map λi=>ps'.getD i (0,(("",0):Pl))):=λn hn=>by have #[i,y,rfl]:=bH.mp hn;have M:=r.lt i y;rw[bA,bd M];exact T _ (c9 M)
   have G:(p.toList.map λi=>ps'.getD i (0,(("",0):Pl))).Perm ps':=by refine(r.list.map _).trans ?_;rw[JQ]
   obtain⟨g,N⟩:∃g,g=p.toList.map λi=>ps'.getD i (0,(("",0):Pl)):={_,U};rw[eo,<-N] at hD;rw[<-N] at O G;have I2:aN X aa σ (upd H l.heap.objs.size (.lst (g.map λn=>V.ref n.1))) { l with heap:=h' }:=I1.laid (s:=l) (a:=l.heap.objs.size) (o:=.lst (g.map λn=>V.ref n.1)) (t':=l.toks) k2 (bo _)
    {by rw[bh,G.length_eq];exact b9 (by lia:_<=64) (),g.map λn=>bN n.1,c,zay,hD}
   have S2:aJ H (upd H l.heap.objs.size (.lst (g.map λn=>V.ref n.1))):=hX _ fr;have pr:∀ {t:List (B×Pl)},zhb H t->Bl (zeI (upd H l.heap.objs.size (.lst (g.map λn=>V.ref n.1)))) (t.map λn=>V.ref n.1) (t.map (·.2)):=λ{t} h=>by
    induction t with
    |nil=>exact .nil
    |cons n ps ih=>exact .cons {n.1,U,S2 _ _ (h n bu)} (ih λm hm=>h m (bw _ hm))
   refine{.ref l.heap.objs.size,_,I2,U,q _ _ (g.map (·.2)) _ S2 fr zh (pr O) ?_ ((G.trans J).map (·.2))};have ai:Zj (λi j=>yc ((ps'.map (·.2)).getD i (("",0):Pl)) ((ps'.map (·.2)).getD j (("",0):Pl))) p ps'.length:=by simpa using hr
   have pw:=JR (F:=yc) r ai;have eq:g.map (·.2)=p.toList.map λi=>(ps'.map (·.2)).getD i (("",0):Pl):=by rw[N,fm];refine dR λi y=>?_;have M:=r.lt i y;simp[bA,br,bd M]
   rw[eq];exact pw
def zji(K:bE)(ta:TA):TE:=λm H Q=>ta m H λn g=>∃r k c,n=[.ref r]/\aM K g r k/\Bl (zeI g) k c/\c.Nodup/\c.length<64 /\
 ∀l i d h,aJ g h->g l=af->h l=Y (.lst i)->Bl (zeI h) i d->d.Pairwise (λa b=>yc a b=ae)->d.Perm c->Q (.ref l) h
theorem zaz{H:Hp}:∀ {c:LV}{b:List Pl},Bl (zeI H) c b->∃ps:List (B×Pl),c=ps.map (λn=>V.ref n.1)/\b=ps.map (·.2)/\zhb H ps
 |_,_,.nil=>{[],U,U,λ_ h=>by cases h}
 |_,_,.cons a r=>by
  have #[p,rfl,d]:=a;have #[ps,i,g,h]:=zaz r;refine{(p,_)::ps,by rw[i];rfl,by rw[g];rfl,λn hn=>?_};obtain rfl|hn:=bn.mp hn
  .exact d
  .exact h n hn
theorem zk6{ta:TA}{p p2 pos b:Pos}(T:X.c=ae)(hu:X.A.units+8<cLine)(y:Gl X "sorted")(t:X.mg "sorted"=af)(u:Gl X "set")(o:X.mg "set"=af)(ha:PA X [a] ta)(hs:Be [a] X.e=[(ah,eval a X.e)]:=by rfl)(he:Be [.Call (.Name "set" p2) [a] [] b] X.e=[(ah,eval (.Call (.Name "set" p2) [a] [] b) X.e)]:=by rfl):PE X (.Call (.Name "sorted" p) [.Call (.Name "set" p2) [a] [] b] [] pos) (zji X.K ta):=by
 let t2:TA:=λc H Q=>∃k,ta c H k/\∀d H,k d H->Q d H
 have z:PA X [a] t2:=λpos D s c H Q I ⟨k,h,im⟩=>f6 (ha pos D s c H k I h) (λus s' ⟨d,G,I',v,q⟩=>{d,G,I',v,im _ _ q}) λ_ _ x=>x;have e1:PE X (.Call (.Name "set" p2) [a] [] b) (uS (zjg X.w X.K) t2):=zW (zhc T hu) u o zmG z () () hs rfl;have e2:PE X (.Call (.Name "sorted" p) [.Call (.Name "set" p2) [a] [] b] [] pos) (uS (zl9 X.w) (zf (uS (zjg X.w X.K) t2) zm)):=zK (zhd T) y t kT (L e1 zc) () () he rfl;intro D s c H Q I h;refine e2 D s c H Q I {_,h,λd H1 h1=>?_};have #[r,xs,ab,rfl,hq,pr,N,g,q]:=h1;have #[ps,rfl,rfl,M]:=zaz pr;refine{r,ps,U,hq,M,N,by simpa using g,λl hl=>?_};have J:aJ H1 (upd H1 l (zjf X.w l ps)):=hX l hl;refine{l,ps,U,zh,λn hn=>J _ _ (M n hn),N,by simpa using g,λO ys m G s2 i g2 p2 up pm=>q O ys m G (J.trans s2) ?_ g2 p2 up pm};by_cases e:O=l
 .rw[e,zh] at i;cases i
 .rw[zk e] at i;exact i
theorem zjj{x:Str}{t:Tok}{i c:Nat}{Q:nA}(b:s.heap.IsStrIter it "str_ascii_iterator" x t i)(k:x.cps[i]?=Y c)(q:∀h,h.IsStrIter it "str_ascii_iterator" x t (i+1)->cv it s.heap h->Q (.str ⟨#[c]⟩ s.toks) { s with heap:=h,toks:=s.toks+1 }):Bf (Bg P w) A (cS (.ref it)) Q E s:=by have #[o,g,l,d]:=id b;unfold cS;refine ba (cq (name:=bb "__next__") b.typeIs fq (cr fq b.typeIs mD ?_ (lV _)));show Bf _ _ (field (.ref it) 0 >>= _) _ _ s;refine ba (cO g d (x:=.str x t) U ?_);show Bf _ _ (field (.ref it) 1 >>= _) _ _ s;refine ba (cO g d (x:=.int i 0) U ?_);simp only[cy,k];refine ba (ic g d (by simp) (ba (wpAny_mkStr (bm {_,U,bm (q _ ?_ (cP ..))}) ())));exact{_,cZ _ g (mP (gp d _)),(oN ..).trans l,by rw[gp d];simp[rawInt]}
theorem zk7{x:Str}{t:Tok}{i:Nat}{Q:nA}(k:A.handled=af)(b:s.heap.IsStrIter it "str_ascii_iterator" x t i)(g:x.cps[i]?=af)(l:∀h e,pH it s.heap h->(∃o,h.get? e=Y o/\o.cls=.type "StopIteration")->E (.ref e) { s with heap:=h }):Bf (Bg P w) A (cS (.ref it)) Q E s:=by have #[o,c,n,d]:=id b;unfold cS;refine ba (cq (name:=bb "__next__") b.typeIs fq (cr fq b.typeIs mD ?_ (lV _)));show Bf _ _ (field (.ref it) 0 >>= _) _ _ s;refine ba (cO c d (x:=.str x t) U ?_);show Bf _ _ (field (.ref it) 1 >>= _) _ _ s;refine ba (cO c d (x:=.int i 0) U ?_);simp only[cy,g];refine ba (iP (ba (ic c d (by simp) (ba (mj ?_)))));show Bf _ _ (newExc (.type "StopIteration") [] >>= _) _ _ _;refine ba ?_;simp only[newExc,newTuple];refine ba (cA ?_ (by size_fits));refine ba (m:=firstArgMember _ _) (nP (a:=cE) (by first|rfl|(simp only[firstArgMember];rfl)) ?_);refine cA ?_ (by size_fits);simp only[raiseNew];refine ba (nD ?_);rw[show A.in1.handled=af from k];refine ba (bm (pI ?_));exact l _ _ (((cP ..).extBut.push _).push _) {_,bq _ U,U}
theorem zk8{e l:B}{i c:Nat}{x:Str}{t:Tok}{Q:Option am->ak->Prop}(M:IsEnum s.heap e l i old)(aa:s.heap.IsStrIter l "str_ascii_iterator" x t i)(hx:x.cps[i]?=Y c)(n:e≠l)(q:∀h,IsEnumOut h e l ((i:Int)+1) (.str ⟨#[c]⟩ s.toks) s.heap.objs.size->h.IsStrIter l "str_ascii_iterator" x t (i+1)->h.get? s.heap.objs.size=Y { cls:=.type "tuple",data:=.seq #[.int i (s.toks+1),.str ⟨#[c]⟩ s.toks] } ->
   (∀b o,b≠e->b≠l->s.heap.get? b=Y o->h.get? b=Y o)->Q (Y (.ref s.heap.objs.size)) { s with heap:=h,toks:=s.toks+1+1 }):Bf (Bg P w) A (pyNext (.ref e)) Q E s:=by
 have hT:s.TypeIs (.ref e) "enumerate":={_,M,U};unfold pyNext;refine ba (eP (cq (name:=bb "__next__") hT iG (cr iG hT rg ?_ (pL _))));have #[v,g,d,k,u]:=s;show Bf _ _ (field (.ref e) 2 >>= _) _ _ _;refine ba (cO M U (x:=.ref l) U ?_);refine ba (zjj aa hx λh1 T J=>?_);have J:cv l v h1:=J;have e1:IsEnum h1 e l i old:=(J.2 e n).trans M;show Bf _ _ (field (.ref e) 3 >>= _) _ _ {h1,g,d,k+1,u};refine ba (cO e1 U (x:=rawInt i) U ?_);show Bf _ _ (field (.ref e) 4 >>= _) _ _ {h1,g,d,k+1,u};refine ba (cO e1 U (x:=.none) U ?_);show Bf _ _ (mkInt i >>= _) _ _ {h1,g,d,k+1,u};refine ba (wpAny_mkInt ?_);show Bf _ _ (setField (.ref e) 3 (rawInt ((i:Int)+1)) >>= _) _ _ {h1,g,d,k+1+1,u};refine ba (cg e1 (by simp) λh2 e2 I=>?_);have I:cv e h1 h2:=I;have e2:IsEnum h2 e l ((i:Int)+1) old:=e2;show Bf _ _ (setField (.ref e) 4 .none >>= _) _ _ {h2,g,d,k+1+1,u};refine ba (cg e2 (by simp) λh3 e3 H=>?_);have H:cv e h2 h3:=H;have e3:IsEnum h3 e l ((i:Int)+1) old:=e3;show Bf _ _ (newTuple [.int i (k+1),.str ⟨#[c]⟩ k] >>= _) _ _ {h3,g,d,k+1+1,u};refine ba (mF ?_);have N:IsEnum (h3.push { cls:=.type "tuple",data:=.seq #[.int i (k+1),.str ⟨#[c]⟩ k] }) e l ((i:Int)+1) old:=bg _ e3;generalize hh4:h3.push { cls:=.type "tuple",data:=.seq #[.int i (k+1),.str ⟨#[c]⟩ k] }=h4 at N;have sz:h3.objs.size=v.objs.size:=by rw[H.1,I.1,J.1]
 have el:e<v.objs.size:=bF M;have t4:h4.get? v.objs.size=Y { cls:=.type "tuple",data:=.seq #[.int i (k+1),.str ⟨#[c]⟩ k] }:=by rw[<-hh4,<-sz];exact bq _ rfl
 have k4:∀b o,b≠e->b≠l->v.get? b=Y o->h4.get? b=Y o:=λb o m y hb=>by rw[<-hh4];exact bg _ (H.extBut b o m (I.extBut b o m (J.extBut b o y hb)))
 have O:h4.IsStrIter l "str_ascii_iterator" x t (i+1):=by rw[<-hh4];have #[o,ho,r]:=(T.extBut I.extBut (eh n)).extBut H.extBut (eh n);exact{o,bg _ ho,r}
 show Bf _ _ (cU (.ref e) >>= _) _ _ {h4,g,d,k+1+1,u};rw[sz];refine ba ?_;unfold cU;refine ba (cO N U (x:=.none) U (bm ?_));simp only[if_true];refine ba (iP ?_);refine ba (cO N U (x:=old) U ?_);refine ba (cg N (by simp) λh5 e5 G=>?_);have G:cv e h4 h5:=G;have e5:IsEnum h5 e l ((i:Int)+1) (.str ⟨#[c]⟩ k):=e5;show Bf _ _ (eD (.ref e) (.ref v.objs.size) >>= _) _ _ {h5,g,d,k+1+1,u};refine ba ?_;unfold eD;refine ba (cg e5 (by simp) λh6 e6 D=>?_);have D:cv e h5 h6:=D;have e6:IsEnumOut h6 e l ((i:Int)+1) (.str ⟨#[c]⟩ k) v.objs.size:=e6;refine cg e6 (by simp) λh7 e7 z=>?_;have z:cv e h6 h7:=z;have e7:IsEnumOut h7 e l ((i:Int)+1) (.str ⟨#[c]⟩ k) v.objs.size:=e7;refine ba (mj (bm {_,U,bm (q h7 e7 ?_ ?_ ?_)}))
 .exact((O.extBut G.extBut (eh n)).extBut D.extBut (eh n)).extBut z.extBut (eh n)
 .exact z.extBut _ _ (dP el) (D.extBut _ _ (dP el) (G.extBut _ _ (dP el) t4))
 .exact λb o m y hb=>z.extBut b o m (D.extBut b o m (G.extBut b o m (k4 b o m y hb)))
theorem zm2{e c:B}{i:Nat}{x:Str}{t:Tok}{Q:Option am->ak->Prop}(r:A.handled=af)(l:IsEnum s.heap e c i old)(g:s.heap.IsStrIter c "str_ascii_iterator" x t i)(d:x.cps[i]?=af)(q:∀h,pH c s.heap h->Q af { s with heap:=h }):Bf (Bg P w) A (pyNext (.ref e)) Q E s:=by have m:s.TypeIs (.ref e) "enumerate":={_,l,U};unfold pyNext;refine ba (eP (cq (name:=bb "__next__") m iG (cr iG m rg ?_ (pL _))));show Bf _ _ (field (.ref e) 2 >>= _) _ _ _;refine ba (cO l U (x:=.ref c) U ?_);refine ba (zk7 r g d λh x k d=>?_);have #[o,n,u]:=d;refine ba (gX (T:="StopIteration") (b:=ae) {o,n,u} mG ?_);exact bm (q _ k)
def ES(e c:B)(z:Str)(t:Tok)(k:Nat)(h:au):Prop:=k<=z.cps.size/\(∃b,IsEnum h e c (k:Int) b)/\h.IsStrIter c "str_ascii_iterator" z t k
def zm3(z:Str):It:={λi _=>i<z.cps.size,λi H x b=>∃T c,x=.ref T/\H T=af/\b=upd H T (.tup [.int i,.str ⟨#[c]⟩])/\z.cps[i]?=Y c,λi _=>z.cps.size<=i}
theorem zeO{P:aq}{w:ax}{K:bE}{J:List av}{x1}{pos:Pos}{e it:B}{z:Str}{t:Tok}(G:e≠it) :
  VU P w K (.Tuple J x1 pos) (zm3 z) [e,it] e (ES e it z t) where
 mem:=by simp
 obj:=λk h n c d=>by
  have #[_,#[i,m],#[y,g,M,di]]:=n;simp only[bn,bZ,or_false] at d;obtain rfl|rfl:=d
  .exact{_,m,λv z=>by cases z}
  .exact{_,g,λv z=>by rw[di] at z;cases z}
 keep:=λk h h' n kk=>by have #[l,#[i,m],#[y,g,M]]:=n;exact{l,{i,kk e (by simp) _ m},{y,kk it (by simp) _ g,M}}
 item:=by
  intro X hP hw hK d k O s Q H E I N n hg;subst hP hw hK;have D:k<z.cps.size:=hg;have r:=ck D;have i:∀c∈[e,it],c≠s.heap.objs.size:=λc d=>by
   have #[_,#[i,m],#[y,g,M]]:=n;simp only[bn,bZ,or_false] at d;obtain rfl|rfl:=d
   .exact bK (bF m)
   .exact bK (bF g)
  have #[_,#[o0,m],g]:=n;refine zk8 m g r G λh e8 i5 t5 k5=>?_;generalize hcc:z.cps[k]=c at *
  have I6:aN X O Q (upd H s.heap.objs.size (.tup [.int k,.str ⟨#[c]⟩])) { s with heap:=s.heap.push { cls:=.type "tuple",data:=.seq #[.int k (s.toks+1),.str ⟨#[c]⟩ s.toks] },toks:=s.toks+1+1 }:=
   I.laid (a:=s.heap.objs.size) (o:=.tup [.int k,.str ⟨#[c]⟩]) (t':=s.toks+1+1) (λb u e=>bg _ e) (bo _) {(),[.int k (s.toks+1),.str ⟨#[c]⟩ s.toks],.cons {_,U} (.cons {_,U} .nil),{_,bq _ U,U,_,U}}
  have q:∀c'∈[e,it],upd H s.heap.objs.size (HO.tup [.int k,.str ⟨#[c]⟩]) c'=af:=λc' d=>by rw[zk (i c' d)];exact(N c' d).1
  have fz:∀c'∈[e,it],ku X O (upd H s.heap.objs.size (HO.tup [.int k,.str ⟨#[c]⟩])) c':=λc' d=>{q c' d,(N c' d).2};refine{.ref s.heap.objs.size,U,nX e8 λh2 z9 T=>?_};have up:∀c o,c≠e->h.get? c=Y o->h2.get? c=Y o:=λc o d e=>by rw[show h2.get? c=h.get? c from T.2 c d];exact e
  have I7:aN X O Q (upd H s.heap.objs.size (.tup [.int k,.str ⟨#[c]⟩])) { s with heap:=h2,toks:=s.toks+1+1 }:=I6.turnedL (s:={ s with heap:=s.heap.push { cls:=.type "tuple",data:=.seq #[.int k (s.toks+1),.str ⟨#[c]⟩ s.toks] },toks:=s.toks+1+1 }) (t':=s.toks+1+1) (ch:=[e,it]) (λc' o d e=>by
   simp only[bn,bZ,or_false,not_or] at d;refine up c' o d.1 ?_;obtain ⟨rfl,rfl⟩|e:=iW (show (s.heap.push { cls:=.type "tuple",data:=.seq #[.int k (s.toks+1),.str ⟨#[c]⟩ s.toks] }).get? c'=Y o from e)
   .exact t5
   .exact k5 c' o d.1 d.2 e) λc' d=>fz c' d
  refine{.ref s.heap.objs.size,_,I7,U,{_,c,U,I.hok.fresh (bo _),U,r},?_,q};have #[y,g,M]:=i5;exact{D,{_,z9},{y,up it _ (eh G) g,M}}
 done:=by intro X hP hw hK d k O s Q H E I N n hg;subst hP hw hK;have #[l,#[o0,m],g]:=n;have r:z.cps[k]?=af:=e9 hg;refine zm2 (I.ok.hd d) m g r λh r=>{U,I.turnedL (t':=s.toks) (ch:=[e,it]) (λc o d e=>?_) λc d=>N c d};simp only[bn,bZ,or_false,not_or] at d;exact r c o d.2 e
 self:=λ_ _ _ _ _ n h=>by have #[_,#[o0,m],g]:=n;exact my m h
def zma(ta:TA):TI:=λb H R=>ta b H λc d=>∃z:Str,c=[.str z]/\z.cps.all (· < 128)=ae/\R (zm3 z) d
theorem zjk{d:List av}{x1}{D:Pos}{g:av}{ta:TA}{p pos:Pos}(O:Gl X "enumerate")(N:X.mg "enumerate"=af)(T:PA X [g] ta)(Q:Be [g] X.e=(ah,eval g X.e)::Be [] X.e:=by rfl)(l:(backTo pos (Be [] X.e)).any (·.1)=ah:=by rfl) :
  PI X (.Tuple d x1 D) (.Call (.Name "enumerate" p) [g] [] pos) (zma ta):=by
 intro aa s u H R I h;refine Call_ (qo I O N Xk (dq (aW (T pos aa s u H _ I h) λus i ⟨vs,H1,m,G,J⟩=>?_) Q l));have #[z,e,h1,q]:=J;subst e;have #[u1,rfl,t,rfl]:=xL G;refine call_enumerate_str λh' r o _ k=>?_;refine my (s:={ i with heap:=h' }) r ?_;have v:strIterType z="str_ascii_iterator":=by unfold strIterType;rw[h1];rfl
 rw[v] at o;generalize hn:i.heap.objs.size=n at *
 have M:∀ {x y:Nat},x≠y->(show B from x)≠(show B from y):=λh=>h;refine{_,_,_,_,H1,U,m.kept (t':=i.toks) k,zeO (e:=n+1) (it:=n) (z:=z) (t:=t) (M ()),{bQ _,{_,r},o},λc b=>?_,q};simp only[bn,bZ,or_false] at b;have b:n<=c:=by obtain rfl|rfl:=b <;> first|exact dE _ _|exact bo _
 exact m.fpOk (by rw[hn];exact b) (m.hok.fresh (by rw[hn];exact b))
abbrev zoO:RC:=λb H Q=>∃x,b=[.str x]/\x.length=1/\Q (.int (x.cps.getD 0 0:Nat)) H
def zfS(a:Str)(i:Nat):Str:=if i<=a.length then a else zfilled a (i-a.length)
abbrev JW:RM:=λx b H Q=>∃(a:Str)(i:Nat),x=.str a/\b=[.int i]/\i<=1000/\Q (.str (zfS a i)) H
def rpL(a b:Str):LV:=match eZ a b 0 a.length with
 |some i=>[.str (eW a 0 i),.str b,.str (eW a (i+b.length) a.length)]
 |none=>[.str rm,.str rm,.str a]
abbrev qV:RM:=λx c H Q=>∃a b,x=.str a/\c=[.str b]/\(b.length==0)=ah/\a.length<=100000/\∀l,H l=af->Q (.ref l) (upd H l (.tup (rpL a b)))
abbrev YL:RM:=λx c H Q=>∃(l:B)(b:zQ)(y:Str),x=.ref l/\c=[.str y]/\H l=Y (.lst (b.map V.str))/\y∈b/\Q (.int (b.idxOf y:Nat)) H
theorem hu8(r:hZ k A):A.units+8<cLine:=by have:=VW r;lia
theorem zjl:MtR X "str.zfill" JW:=by
 intro z s m H x n v o Q I k l h;have #[a,i,rfl,rfl,y,q]:=h;have #[t,rfl]:=k;have #[u,rfl,g,rfl]:=xL l;have r:Bb=16777216:=cu;have b:lz (Int.toNat (i:Int))=ah:=by unfold lz;exact Bk (by rw[cy];lia)
 refine call_gives F.slot_str_zfill (lF s a t) F.entry_str_zfill (F.args_str_zfill_2 _ _) (gives_str_zfill a i t g (by rw[Bk (),Bk ()];rfl) b) ?_;unfold zfS at q;by_cases c:i<=a.length
 .rw[ao c] at q;rw[ao ()];exact{.str a,H,I,{_,U},q}
 .rw[ag c] at q;rw[ag (),cy];have d:=fits_zfilled (x:=a) (i:=(i:Int)) b ();rw[cy] at d;exact{d,.str _,H,I.tok _,{_,U},q}
theorem Qj:MtM X "str.rpartition" qV:=by
 intro z s l H x m v n Q I c d h;have #[a,b,rfl,rfl,k,y,q]:=h;have #[t,rfl]:=c;have #[u,rfl,t',rfl]:=xL d;have r:Bb=16777216:=cu;have g:H s.heap.objs.size=af:=I.hok.fresh (bo _);have q:=q _ g;refine fQ F.slot_str_rpartition (lF _ _ _) F.entry_str_rpartition (F.args_str_rpartition_2 _ _) (meets_str_rpartition a b t t' k ()) ?_;unfold rpL at q
 revert q
 cases eZ a b 0 a.length with
 |none=>exact λq=>{.ref s.heap.objs.size,_,I.laid (a:=s.heap.objs.size) (o:=.tup [.str rm,.str rm,.str a]) (t':=s.toks+1) (λb u e=>bg _ e) (bo _) {by show 3<=Bb;lia,_,.cons {_,U} (.cons {_,U} (.cons {_,U} .nil)),{_,bq _ U,U,_,U}},U,q}
 |some i=>exact λq=>{.ref s.heap.objs.size,_,I.laid (a:=s.heap.objs.size) (o:=.tup [.str (eW a 0 i),.str b,.str (eW a (i+b.length) a.length)]) (t':=s.toks+1+1) (λb u e=>bg _ e) (bo _) {by show 3<=Bb;lia,_,.cons {_,U} (.cons {_,U} (.cons {_,U} .nil)),{_,bq _ U,U,_,U}},U,q}
theorem zfV:∀ {c:zQ}{b:zS},aP (c.map V.str) b->∀(m:Nat)(v:am),b[m]?=Y v->∃y t,c[m]?=Y y/\v=.str y t
 |[],_,r,m,v,h=>by cases r;simp at h
 |y::c,_,.cons a r,0,v,h=>by have #[t,rfl]:=a;simp only[ca,cz] at h;exact{y,t,U,h.symm}
 |y::c,_,.cons a r,m+1,v,h=>by have #[z,t,g,d]:=zfV r m v (by simpa using h);exact{z,t,by simpa using g,d}
def isS(y:Str):am->Bool
 |.str x _=>x==y
 |_=>ah
theorem zjm:MtM X "list.index" YL:=by
 intro aa s σ H x vs v us Q I G J h;have #[l,b,y,rfl,rfl,hH,T,q]:=h;cases G;have #[u,rfl,M]:=J.one;have #[t,rfl]:=M;have #[z,c,n,r,O,e]:=I.lstM hH;have hs:Bb=16777216:=cu;rw[bh] at O z;have hj:b.idxOf y<b.length:=oR.mpr T;have gt:∀m (d:m<c.toArray.size),∃(g:m<b.length)(t':Tok),c.toArray[m]=.str b[m] t':=λm d=>by
  rw[bJ] at d;have #[y',t',D,g]:=zfV r m c[m] (bd d);have o:m<b.length:=by lia
  rw[bd o] at D;refine{o,t',?_};rw[bX D,<-g];simp
 refine fQ F.slot_list_index {_,e,U} F.entry_list_index (F.args_list_index_2 _ _) (SeqAt.list_indexAt l c.toArray n af #[] (.str y t) (isS y) (b.idxOf y) (by rw[bJ];lia) () ?_ (λm d k=>?_)) {e,λv N=>?_,?_}
 .have #[g,t',i]:=gt (b.idxOf y) (by rw[bJ];lia);rw[i];show (b[b.idxOf y]==y)=ae;simp[tz]
 .have #[g,t',i]:=gt m d;rw[i];show (b[m]==y)=ah;have:=p9 k;simpa using this
 .have #[m,d,rfl]:=rN.mp N;have #[g,t',i]:=gt m d;rw[i];exact lN _ _ _ _
 .exact{.int _,H,I.tok _,{_,U},q}
theorem JX{d c:Type}(g:d->c->Id (ForInStep c))(f:c->d->c)(h:∀a b,g a b=fV (f b a)):∀(l:List d)(b:c),(forIn (m:=Id) l b g)=l.foldl f b
 |[],b=>rfl
 |a::l,b=>by rw[nK,h];exact JX g f h l (f b a)
theorem zk9(s sub:Str)(d:Nat):eZ s sub 0 d=(cG (d+1)).foldl (λc i=>if (decide (i+sub.length<=d)&&gK s sub i)=ae then Y i else c) af:=by unfold eZ;simp[List.range_eq_range',Id.run];refine JX _ _ (λa b=>?_) _ _;split <;> rfl
theorem zaA{p:Nat->Bool}:∀(n k:Nat)(o:Option Nat),k<n->p k=ae->(∀j,k<j->j<n->p j=ah)->(cG n).foldl (λb i=>if p i=ae then Y i else b) o=Y k
 |0,k,o,h,_,_=>by lia
 |n+1,k,o,h,hp,no=>by
  rw[rO,tQ];show (if p n=ae then Y n else _)=_;by_cases e:k=n
  .subst e;rw[ao hp]
  .rw[ag (by rw[no n () ()];decide)];exact zaA n k o () hp λj c d=>no j c ()
theorem zfW(s:Str)(c i:Nat):gK s ⟨#[c]⟩ i=decide (s.cps[i]?=Y c):=by
 unfold gK;show (s.cps.extract i (i+1) == #[c])=_;cases e:s.cps[i]? with
 |none=>
  have:=Array.getElem?_eq_none_iff.mp e;rw[show s.cps.extract i (i+1)=#[] by apply Array.ext' ;simp;lia];simp
 |some d=>
  have #[l,g]:=iV.mp e;have h:s.cps.extract i (i+1)=#[d]:=by
   apply Array.ext
   .simp;lia
   .intro j k b;simp at b;subst b;simp[g]
  rw[h];by_cases z:d=c
  .subst z;simp
  .simp[z]
theorem zhe{s:Str}(h:s.cps[k]?=Y c)(b:∀j,k<j->s.cps[j]?≠Y c):eZ s ⟨#[c]⟩ 0 s.length=Y k:=by
 have d:=(iV.mp h).1;rw[zk9];refine zaA (p:=λi=>decide (i+(⟨#[c]⟩:Str).length<=s.length)&&gK s ⟨#[c]⟩ i) _ k af (by show k<s.cps.size+1;lia) ?_ λj g l=>?_
 .rw[zfW,h];simp;exact d
 .rw[zfW,Bk (b j g),Bool.and_false]
theorem zjn(i:c ∉ d.cps.toList):rpL (b++⟨#[c]⟩++d) ⟨#[c]⟩=[.str b,.str ⟨#[c]⟩,.str d]:=by
 have g:(b++⟨#[c]⟩++d).cps.toList=b.cps.toList++c::d.cps.toList:=by rw[xX,xX,cF];rfl
 have u:(b++⟨#[c]⟩++d).cps[b.length]?=Y c:=by rw[<-ce,g];simp[f7]
 have t:=zhe u λj h z=>by
  rw[<-ce,g,dA (by simp[f7] at h ⊢;lia)] at z;have l:1<=j-b.cps.toList.length:=by simp[f7] at h ⊢;lia
  obtain⟨m,n⟩:∃m,j-b.cps.toList.length=m+1:={_,(Nat.sub_add_cancel l).symm};rw[n,dZ] at z;exact i (bU z)
 have k:(b++⟨#[c]⟩++d).length=b.length+1+d.length:=by rw[xk,xk];rfl
 unfold rpL;rw[t];have q:eW (b++⟨#[c]⟩++d) 0 b.length=b:=by apply wW;unfold eW;rw[sw,g,oH];simp[f7]
 have o:eW (b++⟨#[c]⟩++d) (b.length+(⟨#[c]⟩:Str).length) (b++⟨#[c]⟩++d).length=d:=by
  apply wW;unfold eW;rw[sw,g,oH,k];have:(⟨#[c]⟩:Str).length=1:=rfl;rw[this];have r:(b.cps.toList++c::d.cps.toList).drop (b.length+1)=d.cps.toList:=by rw[show b.length=b.cps.toList.length by simp[f7],ul];simp
  rw[r];exact cB (by simp[f7])
 dsimp only;rw[q,o]
theorem kA{H:Hp}{Q:VK}:(ze i σ H Q)=(∃v,σ[i]?=Y (Y v)/\Q v H):=propext {λ⟨v,c,b⟩=>{v,c,b},λ⟨v,c,b⟩=>{v,c,b}}
theorem zoP{C:Int->Int->Prop}{g:Int->Int->V}{x y:V}{H:Hp}{Q:VK}:(rI C g x y H Q)=(∃i j,x=.int i/\y=.int j/\C i j/\Q (g i j) H):=propext {λ⟨i,j,h,d,c,b⟩=>{i,j,h,d,c,b},λ⟨i,j,h,d,c,b⟩=>{i,j,h,d,c,b}}
theorem zjo{g:Int->Int->V}{x y:V}{H:Hp}{Q:VK}:(rI0 g x y H Q)=(∃i j,x=.int i/\y=.int j/\Q (g i j) H):=propext {λ⟨i,j,d,c,b⟩=>{i,j,d,c,b},λ⟨i,j,d,c,b⟩=>{i,j,d,c,b}}
theorem zda{Q:Bool->Hp->Prop}{x:V}{H:Hp}:(tBk Q x H)=(∃c,x=.bl c/\Q c H):=propext {λ⟨c,d,b⟩=>{c,d,b},λ⟨c,d,b⟩=>{c,d,b}}
theorem zla{f:Str}{Q:VK}{x:V}{H:Hp}:(zfs K f Q x H)=(∃a C c b v,x=.ref a/\H a=Y (.ins C c b)/\Ae K C/\aL K C f/\b.lookup f=Y v/\Q v H):=propext {λ⟨a,C,c,b,v,l,k,i,h,g,d⟩=>{a,C,c,b,v,l,k,i,h,g,d},λ⟨a,C,c,b,v,l,k,i,h,g,d⟩=>{a,C,c,b,v,l,k,i,h,g,d}}
theorem zjp{Q:Option Int->Hp->Prop}{x:V}{H:Hp}:(zek Q x H)=(∃i,x=.int i/\Q (Y i) H):=propext {λ⟨i,c,b⟩=>{i,c,b},λ⟨i,c,b⟩=>{i,c,b}}
theorem zm4{x:V}{h i:Option Int}{H:Hp}{Q:VK}:(Qc K x h i H Q)=(∃a b,x=.ref a/\aM K H a b/\(∀p,H p=af->Q (.ref p) (upd H p (.lst (jU b h i))))):=propext {λ⟨a,b,g,d,c⟩=>{a,b,g,d,c},λ⟨a,b,g,d,c⟩=>{a,b,g,d,c}}
theorem zoa{x y:V}{H:Hp}{Q:VK}:(rNe x y H Q)=(zkp x y=ae/\Q (.bl (!decide (x=y))) H):=propext {λ⟨c,b⟩=>{c,b},λ⟨c,b⟩=>{c,b}}
theorem zm5{H:Hp}{Q:VK}:(kO K xs H Q)=(∃x n,xs=[x]/\zms K x H n/\Q (.int n) H):=propext {λ⟨x,n,d,c,b⟩=>{x,n,d,c,b},λ⟨x,n,d,c,b⟩=>{x,n,d,c,b}}
end L2
namespace K75
open PySem L2
abbrev zZZ(n:Nat)(x:List L2.V):L2.St:=x.map some++List.replicate (n-x.length) none
abbrev ad:=rI (λ_ j=>0<j) λi j=>.int (i%j)
abbrev aC:=rI0 λi j=>.int (i+j)
abbrev aD:=rI kU λi j=>.int (i/j)
abbrev aE:=rI0 λi j=>.int (i-j)
abbrev aF:=rI CMulB λi j=>.int (i*j)
abbrev aG:=rI0 λi j=>.bl (decide (i<j))
abbrev mt(Q:VK):VT:={nx:=λ_ a=>Q .non a,rt:=Q}
def top(i:Nat):ap:=PySem.Challenge.pw_forerun_k75_houses_apart.main.body.getD i (.Pass {0,0,0,0})
abbrev XB:ap:=top 97
abbrev Yl:ap:=top 100
abbrev qy:ap:=top 105
abbrev WF:ap:=top 74
abbrev YM:ap:=top 57
abbrev zaB:ap:=top 58
abbrev zaC:ap:=top 30
abbrev Vl:ap:=top 60
abbrev Vm:ap:=top 62
abbrev zaD:ap:=top 89
abbrev Zw:ap:=zM (top 51) 4
abbrev qa:ap:=zM (top 51) 9
abbrev JY:ap:=zM (top 49) 1
abbrev zjq:ap:=top 46
abbrev JZ:ap:=top 47
abbrev Zx:ap:=zM (top 49) 5
abbrev Zy:ap:=zM (top 49) 6
abbrev J1:ap:=zM (top 49) 2
abbrev jY:ap:=zM (top 23) 8
abbrev XC:ap:=top 20
abbrev XD:ap:=zM (top 23) 1
abbrev zdb:ap:=zM (top 49) 9
abbrev J4:ap:=zM (top 49) 8
abbrev XE:ap:=zM (top 49) 7
abbrev J5:ap:=zM (top 49) 3
abbrev jn:ap:=zM (top 25) 4
abbrev vn:ap:=zM (top 25) 5
abbrev Vn:ap:=top 22
abbrev qW:ap:=zM (top 25) 2
abbrev qc:ap:=zM (top 93) 0
abbrev qd:ap:=zM (top 94) 1
abbrev XG:ap:=zM (top 92) 0
abbrev J6:ap:=zM (top 49) 0
abbrev qX:ap:=zM (top 51) 11
abbrev jZ:ap:=zM (top 51) 10
abbrev j6:ap:=zM (top 23) 6
abbrev j7:ap:=zM (top 23) 9
abbrev J7:ap:=top 21
abbrev Vo:ap:=zM (top 23) 2
abbrev jL:ap:=zM (top 23) 7
abbrev XH:ap:=zM (top 25) 3
abbrev qY:ap:=zM (top 25) 1
abbrev Vp:ap:=zM (top 49) 4
abbrev Vq:ap:=zM (top 51) 2
abbrev Ym:ap:=zM (top 51) 3
abbrev jg:ap:=top 59
abbrev Vr:ap:=top 61
abbrev vo:ap:=zM (top 90) 10
abbrev Zz:ap:=zM (top 90) 3
abbrev WG:ap:=top 40
abbrev J8:ap:=top 65
abbrev J9:ap:=top 29
abbrev qA:ap:=top 31
abbrev XI:ap:=top 32
abbrev Ka:ap:=top 33
abbrev Vs:ap:=top 63
abbrev WH:ap:=top 67
abbrev qB:ap:=top 66
abbrev zaE:ap:=top 64
abbrev zaF:ap:=top 68
abbrev WI:ap:=top 69
abbrev zaG:ap:=top 70
abbrev Vt:ap:=top 71
abbrev Kb:ap:=top 75
abbrev Kc:ap:=top 73
abbrev qC:ap:=top 76
abbrev YN:ap:=top 17
abbrev zaH:ap:=top 77
abbrev XJ:ap:=zM (top 23) 0
abbrev Vu:ap:=zM (top 25) 0
abbrev Vv:ap:=zM (top 51) 0
abbrev XL:ap:=zM (top 90) 0
abbrev ZA:ap:=top 96
abbrev ZB:ap:=zM (top 94) 0
abbrev XM:ap:=top 107
abbrev XN:ap:=zM (top 90) 2
abbrev Vw:ap:=zM (top 90) 8
abbrev XO:ap:=top 106
abbrev qZ:ap:=zM (top 90) 4
abbrev q8:ap:=zM (top 90) 9
abbrev wZ:ap:=zM (top 23) 3
abbrev XQ:ap:=zM (top 51) 6
abbrev Yn:ap:=zM (top 90) 5
abbrev XR:ap:=top 108
abbrev Kd:ap:=zM (top 51) 1
abbrev Qk:ap:=top 3
abbrev Ke:ap:=top 2
abbrev zaI:ap:=top 4
abbrev ZC:ap:=zM (top 86) 0
abbrev V1:ap:=zM (top 86) 4
abbrev V2:ap:=zM (top 86) 5
abbrev WJ:ap:=zM (top 86) 3
abbrev jo:ap:=zM (top 86) 2
abbrev q9:ap:=zM (top 86) 1
abbrev Za:ap:=zM (top 82) 0
abbrev v6:ap:=zM (top 82) 1
abbrev zbu:ap:=top 83
abbrev v7:ap:=zM (top 82) 3
abbrev Yo:ap:=top 42
abbrev zaJ:ap:=top 41
abbrev Vx:ap:=top 43
abbrev v9:ap:=zM (top 82) 4
abbrev Vy:ap:=top 84
abbrev jp:ap:=zM (top 82) 5
abbrev zdc:ap:=top 85
abbrev zjr:ap:=top 87
abbrev Zb:ap:=zM (top 90) 1
abbrev zaK:ap:=top 18
abbrev wF:ap:=top 109
abbrev zmb:ap:=top 110
theorem q0k:aH ["cell","many","found","one","two","k"] ["cell","many"] (zi XB):=.m
theorem Kf:aH ["number"] ["number"] (zi Yl):=.m
theorem q0r:aH ["cell","shelves","xs","found","k","worth"] ["cell","shelves"] (zi qy):=.m
theorem zeP:aH ["lines"] ["lines"] (zi WF):=.m
theorem q1l:aH ["body","total"] ["body"] (zi YM):=.m
theorem q1m:aH ["words","body"] ["words"] (zi zaB):=.m
theorem zeQ:aH ["worth"] ["worth"] (zi zaC):=.m
theorem q11:aH ["rows","words","place","worth"] ["rows"] (zi Vl):=.m
theorem zbv:aH ["rank","table"] ["rank","table"] (zi Vm):=.m
theorem zeR:aH ["table"] ["table"] (zi zaD):=.m
theorem V3:aH ["self"] ["self"] (zi Zw):=.m
theorem XS:aH ["self"] ["self"] (zi qa):=.m
theorem zdd:aH ["self"] ["self"] (zi JY):=.m
theorem q0s:aH ["term","slots","worths","part","second","first"] ["term","slots"] (zi JZ):=.m
theorem V4:aH ["self","term"] ["self","term"] (zi Zx):=.m
theorem V5:aH ["self","due"] ["self","due"] (zi Zy):=.m
theorem q1n:aH ["self","place"] ["self"] (zi J1):=.m
theorem YO:aH ["self","rank"] ["self","rank"] (zi jY):=.m
theorem q0n:aH ["ranks","rank","low","high","amid"] ["ranks","rank"] (zi XC):=.m
theorem q1a:aH ["self","place","rank","ranks","below"] ["self","place","rank"] (zi XD):=.m
theorem q1o:aH ["self","due","worth","place"] ["self","due","worth"] (zi J4):=.m
theorem Ql:aH ["self","due","worth"] ["self","due","worth"] (zi XE):=.m
theorem zde:aH ["self","worth"] ["self","worth"] (zi J5):=.m
theorem q12:aH ["self","rank","place","worth","now"] ["self","rank"] (zi jn):=.m
theorem q13:aH ["self","ranks","rank","note"] ["self"] (zi vn):=.m
theorem q1p:aH ["ranks_at","place","rank","ranks"] ["ranks_at","place","rank"] (zi Vn):=.m
theorem q14:aH ["self","rank","paper","place","worth"] ["self","rank"] (zi qW):=.m
theorem XT:aH ["self","ranks"] ["self","ranks"] (zi qc):=.m
theorem q1q:aH ["self","ranks","at"] ["self","ranks"] (zi qd):=.m
theorem Qm:aH ["self","ranks"] ["self","ranks"] (zi XG):=.m
theorem zdf:aH ["self","code"] ["self","code"] (zi J6):=.m
theorem q1r:aH ["self","hand","rank"] ["self","hand"] (zi qX):=.m
theorem q1b:aH ["self","hand","lowest","changed"] ["self","hand"] (zi jZ):=.m
theorem YQ:aH ["self","rank"] ["self","rank"] (zi j6):=.m
theorem q1c:aH ["self","rank","places","place"] ["self","rank"] (zi j7):=.m
theorem q1s:aH ["ranks_at","place","rank","ranks"] ["ranks_at","place","rank"] (zi J7):=.m
theorem q1d:aH ["self","rank","gifts","worths","place"] ["self","rank","gifts"] (zi Vo):=.m
theorem q1e:aH ["self","place","rank","ranks","above"] ["self","place","rank"] (zi jL):=.m
theorem q0t:aH ["self","place","rank","readers","above","behind","reader"] ["self","place","rank"] (zi XH):=.m
theorem q0u:aH ["self","rank","paper","before","place","worth"] ["self","rank","paper"] (zi qY):=.m
theorem q1t:aH ["self","notes"] ["self"] (zi Vp):=.m
theorem q0v:aH ["self","hand","rank","run","place","worth"] ["self","hand"] (zi Vq):=.m
theorem q1u:aH ["self","told"] ["self"] (zi Ym):=.m
theorem WK:aH ["outcome"] ["outcome"] (zi jg):=.m
theorem zbw:aH ["rank","paper"] ["rank","paper"] (zi Vr):=.m
theorem q1v:aH ["self","paper"] ["self"] (zi vo):=.m
theorem q1w:aH ["self","did"] ["self"] (zi Zz):=.m
theorem zeS:aH ["text"] ["text"] (zi WG):=.m
theorem zdg:aH ["word"] ["word"] (zi J8):=.m
theorem zdh:aH ["thing"] ["thing"] (zi J9):=.m
theorem Qn:aH ["text"] ["text"] (zi qA):=.m
theorem q1f:aH ["text","figures","worth"] ["text"] (zi XI):=.m
theorem zdi:aH ["text"] ["text"] (zi Ka):=.m
theorem zbx:aH ["word","refusal"] ["word"] (zi Vs):=.m
theorem q0w:aH ["words","rows","at","place","places"] ["words"] (zi WH):=.m
theorem Qo:aH ["words"] ["words"] (zi qB):=.m
theorem q1x:aH ["word","rank"] ["word"] (zi zaE):=.m
theorem q1y:aH ["words","rows","outcome"] ["words","rows"] (zi zaF):=.m
theorem zeT:aH ["words","rows"] ["words","rows"] (zi WI):=.m
theorem q1z:aH ["text","parts"] ["text"] (zi zaG):=.m
theorem q15:aH ["text","words","at","rows"] ["text"] (zi Vt):=.m
theorem zdj:aH ["line","refusal"] ["line"] (zi Kb):=.m
theorem zdk:aH ["text"] ["text"] (zi Kc):=.m
theorem q20:aH ["text","entries"] ["text"] (zi qC):=.m
theorem q21:aH ["rows","worths"] ["rows"] (zi YN):=.m
theorem q0l:aH ["text","entries","rank","rows","told","entry"] ["text"] (zi zaH):=.m
theorem Qp:aH ["self","table"] ["self","table"] (zi XJ):=.m
theorem zby:aH ["self","makes"] ["self","makes"] (zi Vu):=.m
theorem zbz:aH ["self","table","hands","way","first"] ["self","table","hands","way","first"] (zi Vv):=.m
theorem q22:aH ["self","log","hands","way","came"] ["self","log","hands","way"] (zi XL):=.m
theorem V6:aH ["script","k"] ["script","k"] (zi ZA):=.m
theorem V7:aH ["self"] ["self"] (zi ZB):=.m
theorem Qq:aH ["log","hands","kind"] ["log","hands","kind"] (zi XM):=.m
theorem q23:aH ["self","hand","did"] ["self","hand"] (zi XN):=.m
theorem zbA:aH ["self"] ["self"] (zi Vw):=.m
theorem q1g:aH ["found","due","one","other"] ["found","due"] (zi XO):=.m
theorem WL:aH ["self"] ["self"] (zi qZ):=.m
theorem WM:aH ["self"] ["self"] (zi q8):=.m
theorem q24:aH ["self","rank","places"] ["self","rank"] (zi wZ):=.m
theorem Qs:aH ["self"] ["self"] (zi XQ):=.m
theorem Kg:aH ["self"] ["self"] (zi Yn):=.m
theorem q1h:aH ["cell","worth","at"] ["cell"] (zi XR):=.m
theorem q25:aH ["self","code","rank"] ["self","code"] (zi Kd):=.m
theorem q1i:aH ["rows","first","steps","row"] ["rows","first"] (zi Ke):=.m
theorem zeU:aH ["rows"] ["rows"] (zi zaI):=.m
theorem V8:aH ["self"] ["self"] (zi ZC):=.m
theorem ZD:aH ["self"] ["self"] (zi jo):=.m
theorem WN:aH ["self","row","number"] ["self","row","number"] (zi q9):=.m
theorem WO:aH ["self","words","number"] ["self","words","number"] (zi Za):=.m
theorem q26:aH ["self","word"] ["self"] (zi v6):=.m
theorem q27:aH ["self","word"] ["self"] (zi v7):=.m
theorem q0x:aH ["words","at","due","place"] ["words","at"] (zi Yo):=.m
theorem zeV:aH ["word"] ["word"] (zi zaJ):=.m
theorem q0o:aH ["words","at","behind","parts","word","first","second"] ["words","at"] (zi Vx):=.m
theorem q28:aH ["self","found"] ["self"] (zi v9):=.m
theorem q29:aH ["words","first"] ["words"] (zi Vy):=.m
theorem ZE:aH ["self"] ["self"] (zi jp):=.m
theorem q16:aH ["text","number","words","drawn","row"] ["text","number"] (zi zdc):=.m
theorem q0y:aH ["text","texts","reading","number","one"] ["text"] (zi zjr):=.m
theorem WP:aH ["self","text"] ["self","text"] (zi Zb):=.m
theorem zeW:aH ["table","gifts"] ["table","gifts"] (zi zaK):=.m
theorem q0i:aH ["house","dealt","table","first","held","many","k","answers","told","lines","last"] ["house","dealt","table","first","held"] (zi wF):=.m
theorem q0a:aH ["script","table","log","hands","kind","houses","dealt","held","k","at","one","rows","copies","told","kept","third"] ["script"] (zi zmb):=.m
set_option genSizeOf false in
set_option genInjectivity false in
set_option genInjectivity false in
structure aU where
 a0:B
 d0:Bc
 a1:B
 d1:Bc
 a2:B
 d2:Bc
 a3:B
 d3:Bc
 a4:B
 d4:Bc
 a5:B
 d5:Bc
 a6:B
 d6:Bc
 a7:B
 d7:Bc
 a8:B
 d8:Bc
 a9:B
 d9:Bc
 a10:B
 d10:Bc
 a11:B
 d11:Bc
 a12:B
 d12:Bc
 a13:B
 d13:Bc
 a14:B
 d14:Bc
 a15:B
 d15:Bc
 a16:B
 d16:Bc
 a17:B
 d17:Bc
 a18:B
 d18:Bc
 a19:B
 d19:Bc
 a20:B
 d20:Bc
 a21:B
 d21:Bc
 a22:B
 d22:Bc
 a23:B
 d23:Bc
 a24:B
 d24:Bc
 a25:B
 d25:Bc
 a26:B
 d26:Bc
 a27:B
 d27:Bc
 a28:B
 d28:Bc
 a29:B
 d29:Bc
 a30:B
 d30:Bc
 a31:B
 d31:Bc
 a32:B
 d32:Bc
 a33:B
 d33:Bc
 a34:B
 d34:Bc
 a35:B
 d35:Bc
 a36:B
 d36:Bc
 a37:B
 d37:Bc
 a38:B
 d38:Bc
 a39:B
 d39:Bc
 a40:B
 d40:Bc
 a41:B
 d41:Bc
 a42:B
 d42:Bc
 a43:B
 d43:Bc
 a44:B
 d44:Bc
 a45:B
 d45:Bc
 a46:B
 d46:Bc
 a47:B
 d47:Bc
 a48:B
 d48:Bc
 a49:B
 d49:Bc
 a50:B
 d50:Bc
 a51:B
 d51:Bc
 a52:B
 d52:Bc
 a53:B
 d53:Bc
 a54:B
 d54:Bc
 a55:B
 d55:Bc
 a56:B
 d56:Bc
 a57:B
 d57:Bc
 a58:B
 d58:Bc
 a59:B
 d59:Bc
 a60:B
 d60:Bc
 a61:B
 d61:Bc
 a62:B
 d62:Bc
 a63:B
 d63:Bc
 a64:B
 d64:Bc
 a65:B
 d65:Bc
 a66:B
 d66:Bc
 a67:B
 d67:Bc
 a68:B
 d68:Bc
 a69:B
 d69:Bc
 a70:B
 d70:Bc
 a71:B
 d71:Bc
 a72:B
 d72:Bc
 a73:B
 d73:Bc
 a74:B
 d74:Bc
 a75:B
 d75:Bc
 a76:B
 d76:Bc
 a77:B
 d77:Bc
 a78:B
 d78:Bc
 a79:B
 d79:Bc
 a80:B
 d80:Bc
 a81:B
 d81:Bc
 a82:B
 d82:Bc
 a83:B
 d83:Bc
 a84:B
 d84:Bc
 a85:B
 d85:Bc
 a86:B
 d86:Bc
 a87:B
 d87:Bc
 a88:B
 d88:Bc
 a89:B
 d89:Bc
 a90:B
 d90:Bc
 a91:B
 d91:Bc
 a92:B
 d92:Bc
 a93:B
 d93:Bc
 a94:B
 d94:Bc
 a95:B
 d95:Bc
 a96:B
 d96:Bc
 a97:B
 d97:Bc
 a98:B
 d98:Bc
 a99:B
 d99:Bc
 a100:B
 d100:Bc
 a101:B
 d101:Bc
 a102:B
 d102:Bc
 a103:B
 d103:Bc
 a104:B
 d104:Bc
 a105:B
 d105:Bc
 a106:B
 d106:Bc
 a107:B
 d107:Bc
 a108:B
 d108:Bc
 a109:B
 d109:Bc
 k_CHECK_BY:Tok
 k_CHECK_FIGURES:Tok
 k_FIGURES:Tok
 q0c:B
 k_LETTERS:Tok
 k_MOST_FACTOR:Tok
 k_MOST_FIGURES:Tok
 k_MOST_LETTERS:Tok
 k_MOST_ROWS:Tok
 k_MOST_WORDS_reader:Tok
 k_MOST_WORDS_terms:Tok
 q17:B
 q1j:B
 q02:B
 q0z:B
 q00:B
 q05:B
 q03:B
 q04:B
 q07:B
 q01:B
 q0b:B
 q0h:B
structure Txt(K:bE)(mg:Ak)(t:aU):Prop where
 m_law:mg "law"=Y (.ref t.a109)
 g_JOINING:mg "JOINING"=Y (.ref t.q0c)
 g_ROW_WORDS:mg "ROW_WORDS"=Y (.ref t.q17)
 g_WHYS:mg "WHYS"=Y (.ref t.q1j)
 g_Desk:mg "Desk"=Y (.ref t.q02)
 g_Highest:mg "Highest"=Y (.ref t.q0z)
 g_House:mg "House"=Y (.ref t.q00)
 g_Jobs:mg "Jobs"=Y (.ref t.q05)
 g_Makes:mg "Makes"=Y (.ref t.q03)
 g_Reading:mg "Reading"=Y (.ref t.q04)
 g_RowWords:mg "RowWords"=Y (.ref t.q07)
 g_Run:mg "Run"=Y (.ref t.q01)
 g_Turning:mg "Turning"=Y (.ref t.q0b)
 g_Way:mg "Way"=Y (.ref t.q0h)
 me_Run_step:zcf K t.q01 "step" t.a24
 q0d:Ae K t.q02
 mk_Desk:Mk K t.q02 t.a70
 q2e:Ae K t.q0z
 mo_Highest:MkO K t.q0z
 q08:Ae K t.q00
 mk_House:Mk K t.q00 t.a71
 q0m:Ae K t.q05
 mk_Jobs:Mk K t.q05 t.a69
 q0e:Ae K t.q03
 mk_Makes:Mk K t.q03 t.a68
 q0p:Ae K t.q04
 mk_Reading:Mk K t.q04 t.a88
 q0g:Ae K t.q07
 mk_RowWords:Mk K t.q07 t.a94
 q09:Ae K t.q01
 mk_Run:Mk K t.q01 t.a32
 q2a:Ae K t.q0b
 mk_Turning:Mk K t.q0b t.a73
 q2f:Ae K t.q0h
 mo_Way:MkO K t.q0h
 g0:FG K mg "_law_draws" XB ["cell","many"] t.a0 t.d0
 g1:FG K mg "_law_number" Yl ["number"] t.a1 t.d1
 g2:FG K mg "_law_table" qy ["cell","shelves"] t.a2 t.d2
 g3:FG K mg "text_of" WF ["lines"] t.a3 t.d3
 g4:FG K mg "check_of" YM ["body"] t.a4 t.d4
 g5:FG K mg "line_of" zaB ["words"] t.a5 t.d5
 g6:FG K mg "numeral" zaC ["worth"] t.a6 t.d6
 g7:FG K mg "row_words" Vl ["rows"] t.a7 t.d7
 g8:FG K mg "mark_line" Vm ["rank","table"] t.a8 t.d8
 g9:FG K mg "new_log" zaD ["table"] t.a9 t.d9
 g10:FM K t.q02 "settled" "Desk.settled" Zw ["self"] t.a10 t.d10
 g11:FM K t.q02 "next_rank" "Desk.next_rank" qa ["self"] t.a11 t.d11
 g12:FM K t.q01 "over" "Run.over" JY ["self"] t.a12 t.d12
 g13:FG K mg "joined" zjq ["word","first","second"] t.a13 t.d13
 g14:FG K mg "reckoned" JZ ["term","slots"] t.a14 t.d14
 g15:FM K t.q01 "worth_of" "Run.worth_of" Zx ["self","term"] t.a15 t.d15
 g16:FM K t.q01 "place_in" "Run.place_in" Zy ["self","due"] t.a16 t.d16
 g17:FM K t.q01 "asks" "Run.asks" J1 ["self"] t.a17 t.d17
 g18:FM K t.q03 "heed_fold" "Makes.heed_fold" jY ["self","rank"] t.a18 t.d18
 g19:FG K mg "many_below" XC ["ranks","rank"] t.a19 t.d19
 g20:FM K t.q03 "seen" "Makes.seen" XD ["self","place","rank"] t.a20 t.d20
 g21:FM K t.q01 "taken" "Run.taken" zdb ["self","place","worth"] t.a21 t.d21
 g22:FM K t.q01 "does" "Run.does" J4 ["self","due","worth"] t.a22 t.d22
 g23:FM K t.q01 "led_by" "Run.led_by" XE ["self","due","worth"] t.a23 t.d23
 q2g:FunD K "step" "Run.step" J5 t.a24 t.d24
 q2h:hV K t.d24 ["self","worth"] []
 bd_Run_step:∃ds,aP [.int 0] ds/\hV K t.d24 ["self","worth"] ds
 g25:FM K t.q05 "changed_note" "Jobs.changed_note" jn ["self","rank"] t.a25 t.d25
 g26:FM K t.q05 "lowest_changed" "Jobs.lowest_changed" vn ["self"] t.a26 t.d26
 g27:FG K mg "drop_rank" Vn ["ranks_at","place","rank"] t.a27 t.d27
 g28:FM K t.q05 "take_off" "Jobs.take_off" qW ["self","rank"] t.a28 t.d28
 g29:FM K t.q0z "chosen" "Highest.chosen" qc ["self","ranks"] t.a29 t.d29
 g30:FM K t.q0b "chosen" "Turning.chosen" qd ["self","ranks"] t.a30 t.d30
 g31:FM K t.q0h "chosen" "Way.chosen" XG ["self","ranks"] t.a31 t.d31
 q2i:Fun K "__init__" "Run.__init__" J6 t.a32 t.d32
 q2j:hV K t.d32 ["self","code"] []
 g33:FM K t.q02 "taken_up" "Desk.taken_up" qX ["self","hand"] t.a33 t.d33
 g34:FM K t.q02 "moved_free" "Desk.moved_free" jZ ["self","hand"] t.a34 t.d34
 g35:FM K t.q03 "places_of" "Makes.places_of" j6 ["self","rank"] t.a35 t.d35
 g36:FM K t.q03 "take_away" "Makes.take_away" j7 ["self","rank"] t.a36 t.d36
 g37:FG K mg "put_rank" J7 ["ranks_at","place","rank"] t.a37 t.d37
 g38:FM K t.q03 "lay" "Makes.lay" Vo ["self","rank","gifts"] t.a38 t.d38
 g39:FM K t.q03 "next_above" "Makes.next_above" jL ["self","place","rank"] t.a39 t.d39
 g40:FM K t.q05 "doubt" "Jobs.doubt" XH ["self","place","rank"] t.a40 t.d40
 g41:FM K t.q05 "lay_down" "Jobs.lay_down" qY ["self","rank","paper"] t.a41 t.d41
 g42:FM K t.q01 "paper" "Run.paper" Vp ["self"] t.a42 t.d42
 g43:FM K t.q02 "move" "Desk.move" Vq ["self","hand"] t.a43 t.d43
 g44:FM K t.q02 "finish" "Desk.finish" Ym ["self"] t.a44 t.d44
 g45:FG K mg "outcome_words" jg ["outcome"] t.a45 t.d45
 g46:FG K mg "deal_line" Vr ["rank","paper"] t.a46 t.d46
 g47:FM K t.q00 "write_settled" "House.write_settled" vo ["self"] t.a47 t.d47
 g48:FM K t.q00 "finish" "House.finish" Zz ["self"] t.a48 t.d48
 g49:FG K mg "is_name" WG ["text"] t.a49 t.d49
 g50:FG K mg "shelf_in" J8 ["word"] t.a50 t.d50
 g51:FG K mg "is_worth" J9 ["thing"] t.a51 t.d51
 g52:FG K mg "is_figures" qA ["text"] t.a52 t.d52
 g53:FG K mg "is_numeral" XI ["text"] t.a53 t.d53
 g54:FG K mg "worth_in" Ka ["text"] t.a54 t.d54
 g55:FG K mg "number_in" Vs ["word"] t.a55 t.d55
 g56:FG K mg "rows_in" WH ["words"] t.a56 t.d56
 g57:FG K mg "outcome_in" qB ["words"] t.a57 t.d57
 g58:FG K mg "rank_in" zaE ["word"] t.a58 t.d58
 g59:FG K mg "deal_in" zaF ["words","rows"] t.a59 t.d59
 g60:FG K mg "mark_in" WI ["words","rows"] t.a60 t.d60
 g61:FG K mg "body_in" zaG ["text"] t.a61 t.d61
 g62:FG K mg "line_read" Vt ["text"] t.a62 t.d62
 g63:FG K mg "entry_in" Kb ["line"] t.a63 t.d63
 g64:FG K mg "lines_of" Kc ["text"] t.a64 t.d64
 g65:FG K mg "entries_of" qC ["text"] t.a65 t.d65
 g66:FG K mg "table_of" YN ["rows"] t.a66 t.d66
 g67:FG K mg "come_up" zaH ["text"] t.a67 t.d67
 q2k:Fun K "__init__" "Makes.__init__" XJ t.a68 t.d68
 q2l:hV K t.d68 ["self","table"] []
 q2m:Fun K "__init__" "Jobs.__init__" Vu t.a69 t.d69
 q2n:hV K t.d69 ["self","makes"] []
 q2o:FunD K "__init__" "Desk.__init__" Vv t.a70 t.d70
 q2p:hV K t.d70 ["self","table","hands","way","first"] []
 q2q:Fun K "__init__" "House.__init__" XL t.a71 t.d71
 q18:hV K t.d71 ["self","log","hands","way"] []
 g72:FG K mg "_law_cell_at" ZA ["script","k"] t.a72 t.d72
 q2r:Fun K "__init__" "Turning.__init__" ZB t.a73 t.d73
 q2s:hV K t.d73 ["self"] []
 g74:FG K mg "_law_house" XM ["log","hands","kind"] t.a74 t.d74
 g75:FM K t.q00 "move" "House.move" XN ["self","hand"] t.a75 t.d75
 g76:FM K t.q00 "log" "House.log" Vw ["self"] t.a76 t.d76
 g77:FG K mg "_law_alike" XO ["found","due"] t.a77 t.d77
 g78:FM K t.q00 "settled" "House.settled" qZ ["self"] t.a78 t.d78
 g79:FM K t.q00 "answers" "House.answers" q8 ["self"] t.a79 t.d79
 g80:FM K t.q03 "table_for" "Makes.table_for" wZ ["self","rank"] t.a80 t.d80
 g81:FM K t.q02 "table" "Desk.table" XQ ["self"] t.a81 t.d81
 g82:FM K t.q00 "table" "House.table" Yn ["self"] t.a82 t.d82
 g83:FG K mg "_law_dealt" XR ["cell"] t.a83 t.d83
 g84:FM K t.q02 "add" "Desk.add" Kd ["self","code"] t.a84 t.d84
 g85:FG K mg "block_steps" Qk ["row","at"] t.a85 t.d85
 g86:FG K mg "steps_of" Ke ["rows","first"] t.a86 t.d86
 g87:FG K mg "code_of" zaI ["rows"] t.a87 t.d87
 q2t:Fun K "__init__" "Reading.__init__" ZC t.a88 t.d88
 q2u:hV K t.d88 ["self"] []
 g89:FM K t.q04 "turns" "Reading.turns" V1 ["self","number"] t.a89 t.d89
 g90:FM K t.q04 "shuts" "Reading.shuts" V2 ["self","number"] t.a90 t.d90
 g91:FM K t.q04 "begins" "Reading.begins" WJ ["self","row","number"] t.a91 t.d91
 g92:FM K t.q04 "innermost" "Reading.innermost" jo ["self"] t.a92 t.d92
 g93:FM K t.q04 "reads" "Reading.reads" q9 ["self","row","number"] t.a93 t.d93
 q2v:Fun K "__init__" "RowWords.__init__" Za t.a94 t.d94
 q2w:hV K t.d94 ["self","words","number"] []
 g95:FM K t.q07 "draw_word" "RowWords.draw_word" v6 ["self"] t.a95 t.d95
 g96:FG K mg "take_drawn" zbu ["words"] t.a96 t.d96
 g97:FM K t.q07 "draw_name" "RowWords.draw_name" v7 ["self"] t.a97 t.d97
 g98:FG K mg "behind_term" Yo ["words","at"] t.a98 t.d98
 g99:FG K mg "part_in" zaJ ["word"] t.a99 t.d99
 g100:FG K mg "term_from" Vx ["words","at"] t.a100 t.d100
 g101:FM K t.q07 "draw_term" "RowWords.draw_term" v9 ["self"] t.a101 t.d101
 g102:FG K mg "row_drawn" Vy ["words"] t.a102 t.d102
 g103:FM K t.q07 "draw_end" "RowWords.draw_end" jp ["self"] t.a103 t.d103
 g104:FG K mg "row_in" zdc ["text","number"] t.a104 t.d104
 g105:FG K mg "read" zjr ["text"] t.a105 t.d105
 g106:FM K t.q00 "hand_in" "House.hand_in" Zb ["self","text"] t.a106 t.d106
 g107:FG K mg "laid_on" zaK ["table","gifts"] t.a107 t.d107
 g108:FG K mg "_law_house_right" wF ["house","dealt","table","first","held"] t.a108 t.d108
 q2x:Fun K "law" "law" zmb t.a109 t.d109
 q42:hV K t.d109 ["script"] []
 w_law:∀(s:ak)(v:am),BindsTo s t.d109 {[v],[]} [("script",v)]
 q2b:mg "all"=af
 q2y:mg "any"=af
 q2c:mg "bool"=af
 q1k:mg "dict"=af
 q2d:mg "enumerate"=af
 b_int:mg "int"=af
 q0f:mg "isinstance"=af
 q06:mg "len"=af
 b_list:mg "list"=af
 q2z:mg "ord"=af
 q0q:mg "range"=af
 q30:mg "reversed"=af
 b_set:mg "set"=af
 q10:mg "sorted"=af
 q0j:mg "str"=af
 q31:mg "sum"=af
 b_tuple:mg "tuple"=af
 b_zip:mg "zip"=af
 g_CHECK_BY:mg "CHECK_BY"=Y (.int 1009 t.k_CHECK_BY)
 g_CHECK_FIGURES:mg "CHECK_FIGURES"=Y (.int 4 t.k_CHECK_FIGURES)
 g_FIGURES:mg "FIGURES"=Y (.str "0123456789" t.k_FIGURES)
 q19:∀H:Hp,aX K H t.q0c [.str "plus",.str "minus",.str "times",.str "over",.str "rest",.str "under",.str "same"]
 g_LETTERS:mg "LETTERS"=Y (.str "abcdefghijklmnopqrstuvwxyz" t.k_LETTERS)
 g_MOST_FACTOR:mg "MOST_FACTOR"=Y (.int 1008 t.k_MOST_FACTOR)
 g_MOST_FIGURES:mg "MOST_FIGURES"=Y (.int 31 t.k_MOST_FIGURES)
 g_MOST_LETTERS:mg "MOST_LETTERS"=Y (.int 6 t.k_MOST_LETTERS)
 g_MOST_ROWS:mg "MOST_ROWS"=Y (.int 40 t.k_MOST_ROWS)
 g_MOST_WORDS_reader:mg "MOST_WORDS_reader"=Y (.int 60 t.k_MOST_WORDS_reader)
 g_MOST_WORDS_terms:mg "MOST_WORDS_terms"=Y (.int 60 t.k_MOST_WORDS_terms)
 q32:∀H:Hp,aX K H t.q17 [.str "take",.str "give",.str "let",.str "say",.str "off",.str "if",.str "else",.str "end",.str "as"]
 q43:∀H:Hp,aX K H t.q1j [.str "told",.str "great",.str "nought"]
 q33:aL K t.q02 "codes"
 q34:aL K t.q02 "ended"
 q35:aL K t.q02 "first"
 q36:aL K t.q02 "hands"
 q37:aL K t.q02 "held"
 q38:aL K t.q02 "jobs"
 q39:aL K t.q02 "makes"
 q3a:aL K t.q02 "waiting"
 q3b:aL K t.q02 "way"
 q3c:aL K t.q00 "desk"
 q3d:aL K t.q00 "due"
 q3e:aL K t.q00 "lines"
 q3f:aL K t.q00 "told"
 q3g:aL K t.q05 "doubted"
 q3h:aL K t.q05 "laid"
 q3i:aL K t.q05 "makes"
 q3j:aL K t.q05 "readers"
 q3k:aL K t.q03 "folded"
 q3l:aL K t.q03 "ground"
 q3m:aL K t.q03 "ranks"
 q3n:aL K t.q03 "worths"
 q3o:aL K t.q04 "blocks"
 q3p:aL K t.q04 "rows"
 q3q:aL K t.q04 "turned"
 q3r:aL K t.q07 "at"
 q3s:aL K t.q07 "number"
 q3t:aL K t.q07 "words"
 q3u:aL K t.q01 "at"
 q3v:aL K t.q01 "code"
 q3w:aL K t.q01 "gifts"
 q3x:aL K t.q01 "notes"
 q3y:aL K t.q01 "sayings"
 q3z:aL K t.q01 "slots"
 q40:aL K t.q01 "why"
 q41:aL K t.q0b "times"
structure KF(K:bE):Prop where
 i_b:gF K (.type "int") (.type "bool")=Y ah
 i_s:gF K (.type "int") (.type "str")=Y ah
 s_i:gF K (.type "str") (.type "int")=Y ah
 i_l:gF K (.type "int") (.type "list")=Y ah
 i_t:gF K (.type "int") (.type "tuple")=Y ah
 s_l:gF K (.type "str") (.type "list")=Y ah
 s_t:gF K (.type "str") (.type "tuple")=Y ah
 t_l:gF K (.type "tuple") (.type "list")=Y ah
def zlb(K:bE):Prop:=gF K (.type "int") (.type "bool")=Y ah
def Ap(H:Hp)(b:B)(a:zQ):Prop:=H b=Y (.lst (a.map V.str))/\∀w∈a,yK w=ae
abbrev zdl(H:Hp)(v:V)(q:Row):Prop:=PrAt H v q
abbrev YR(H:Hp)(a:LV)(b:zF):Prop:=Bl (PrAt H) a b
inductive aV(H:Hp)(a:B)(ac:zF):Prop
 |mk (xs:_):H a=Y (.lst xs)->Bl (PrAt H) xs ac->aV H a ac
def wB(i:Int):Prop:=-1000000000000000000000000000000<=i/\i<=1000000000000000000000000000000
def rB(i:Int):Prop:=0<=i/\i<=100000000000000000000000000000
def zjs(q:Pl):Prop:=yK q.1=ae/\wB q.2
def PlV(H:Hp)(v:V)(q:Pl):Prop:=∃p,v=.ref p/\H p=Y (.tup [.str q.1,.int q.2])
def za(H:Hp)(v:V):Oc->Prop
 |.done sa=>∃o y,v=.ref o/\H o=Y (.tup [.str "done",.ref y])/\H y=Y (.tup (sa.map V.int))
 |.off w=>∃o,v=.ref o/\H o=Y (.tup [.str "off",.str w])
def Kh:Oc->Prop
 |.done sa=>sa.length<=20/\∀i∈sa,wB i
 |.off _=>False
structure ZF(ac:zF):Prop where
 up:pv ac
 le:ac.length<=60
 nm:∀r∈ac,zjs r.1/\wB r.2
def Wd(w:Str):Prop:=w.length<=40/\Asc w/\32 ∉ w.cps.toList
def rwW(r:Row):zQ:=[r.1.1,zU r.1.2,zU r.2]
def Aq(a:zF):zQ:=a.flatMap rwW
def ocW:Oc->zQ
 |.done sa=>"done" :: sa.map zU
 |.off w=>["off",w]
def ckL:Nat->xo->yz
 |_,[]=>[]
 |i,c::cs=>(c:Int)*(1+(i:Int)%1008)::ckL (i+1) cs
def zjt(z:Str):Int:=(ckL 0 z.cps.toList).sum%1009
def Ki(z:Str):Str:=zfS (zU (zjt z)) 4
def xq(a:zQ):Str:=Zs " " a ++ " " ++ Ki (Zs " " a)
def xR(r:Int)(a:Oc)(b:zF):zQ:=("deal":Str)::zU r::(ocW a++(";":Str)::Aq b)
def jq(r:Int)(a:zF):zQ:=("mark":Str)::zU r::(";":Str)::Aq a
def Vz(K:bE):Sp:=λa H Q _=>∃i,a=[.int i]/\inW i=ae/\Q (.bl ae) H
def jM:Sp:=λb H Q _=>∃w,b=[.int w]/\inW w=ae/\∀a,aJ H a->Q (.str (zU w)) a
def Yp:Sp:=λb H Q _=>∃x:Str,b=[.str x]/\x.length<=1000/\∀a,aJ H a->Q (.bl (kW x)) a
def Qt:Sp:=λb H Q _=>∃x:Str,b=[.str x]/\jH x=ae/\x.length<=1000/\∀a,aJ H a->Q (.bl ae) a
def zdm:Sp:=λb H Q _=>∃w:Int,b=[.str (zU w)]/\inW w=ae/\∀a,aJ H a->Q (.int w) a
def YS:Sp:=λb H Q _=>∃x:Str,b=[.str x]/\x.length<=1000/\∀a,aJ H a->Q (.bl (yK x)) a
def j8:Sp:=λb H Q _=>∃z:Str,b=[.str z]/\Asc z/\z.length<=20000/\∀a,aJ H a->Q (.str (Ki z)) a
inductive YT(vs:LV)(H:Hp)(Q:VK)(_E:XK):Prop
 |mk (a:_) (ws:zQ):vs=[.ref a]->H a=Y (.lst (ws.map V.str))->(∀w∈ws,Wd w)->ws.length<=400->(∀H',aJ H H'->Q (.str (xq ws)) H')->YT vs H Q _E
def WQ:Sp:=λc H Q _=>∃v a,c=[v]/\za H v a/\Kh a/\∀l b,aJ H b->H l=af->b l=Y (.lst ((ocW a).map V.str))->Q (.ref l) b
def XU:Sp:=λd H Q _=>∃a b,d=[.ref a]/\aV H a b/\ZF b/\∀l c,aJ H c->H l=af->c l=Y (.lst ((Aq b).map V.str))->Q (.ref l) c
inductive qD(vs:LV)(H:Hp)(Q:VK)(_E:XK):Prop
 |mk (r p o tl g oc gs:_):vs=[.int r,.ref p]->H p=Y (.tup [o,.ref tl,.ref g])->rB r->za H o oc->Kh oc->aV H g gs->ZF gs->(∀H',aJ H H'->Q (.str (xq (xR r oc gs))) H')->qD vs H Q _E
inductive XV(vs:LV)(H:Hp)(Q:VK)(_E:XK):Prop
 |mk (r g gs:_):vs=[.int r,.ref g]->rB r->aV H g gs->ZF gs->(∀H',aJ H H'->Q (.str (xq (jq r gs))) H')->XV vs H Q _E
def xY:Sp:=λb H Q _=>∃w:Int,b=[.str (zU w)]/\inW w=ae/\∀a,aJ H a->Q (.int w) a
def Kj:Sp:=λb H Q _=>∃w:Int,b=[.str (zU w)]/\rB w/\∀a,aJ H a->Q (.int w) a
def VA:Sp:=λb H Q _=>∃w:Str,b=[.str w]/\yK w=ae/\∀a,aJ H a->Q (.str w) a
def Yq:Sp:=λd H Q _=>∃a b,d=[.ref a]/\H a=Y (.lst ((ocW b).map V.str))/\Kh b/\∀v c,aJ H c->za c v b->Q v c
def qE:Sp:=λd H Q _=>∃a b,d=[.ref a]/\H a=Y (.lst ((Aq b).map V.str))/\ZF b/\∀l c,aJ H c->H l=af->aV c l b->Q (.ref l) c
inductive YU(vs:LV)(H:Hp)(Q:VK)(_E:XK):Prop
 |mk (a g r oc gs:_):vs=[.ref a,.ref g]->H a=Y (.lst ((("deal":Str)::zU r::ocW oc).map V.str))->rB r->Kh oc->aV H g gs->((∀w,oc=.off w->gs=[]))->(∀p v H',aJ H H'->za H' v oc->H' p=Y (.tup [.str "deal",.int r,v,.ref g])->Q (.ref p) H')->YU vs H Q _E
inductive qF(vs:LV)(H:Hp)(Q:VK)(_E:XK):Prop
 |mk (a g r:_) (gs:zF):vs=[.ref a,.ref g]->H a=Y (.lst ([("mark":Str),zU r].map V.str))->rB r->aV H g gs->gs.length<=60->(∀x∈gs,x.2≠0)->(∀p H',aJ H H'->H' p=Y (.tup [.str "mark",.int r,.ref g])->Q (.ref p) H')->qF vs H Q _E
def YV:Sp:=λc H Q _=>∃b:Str,c=[.str (b ++ " " ++ Ki b)]/\Asc b/\b.length<=20000/\∀a,aJ H a->Q (.str b) a
def XW:Sp:=λe H Q _=>∃x,e=[x]/\(
 (∃(r:Int)(c:Oc)(d:zF),x=.str (xq (xR r c d))/\rB r/\Kh c/\ZF d/\(∀w,c=.off w->d=[])/\∀p v g a,aJ H a->za a v c->H g=af->aV a g d->a p=Y (.tup [.str "deal",.int r,v,.ref g])->Q (.ref p) a) \/
 (∃(r:Int)(b:zF),x=.str (xq (jq r b))/\rB r/\ZF b/\(∀x∈b,x.2≠0)/\∀p g a,aJ H a->H g=af->aV a g b->a p=Y (.tup [.str "mark",.int r,.ref g])->Q (.ref p) a))
def okD(d:Int):Prop:=0<=d/\d<1000000000000
inductive xf(K:bE)(vs:LV)(H:Hp)(Q:VK)(_E:XK):Prop
 |mk (a:_) (ns:yz) (k:Nat):vs=[.ref a,.int k]->aM K H a (ns.map V.int)->ns.length<=63->(∀i∈ns,Cb i)->(∀c H',aJ H H'->Cb c->Q (.int c) H')->xf K vs H Q _E
def Qu:Sp:=λe H Q _=>∃c,∃m:Nat,e=[.int c,.int m]/\m<=22/\∀(l:B)(a:yz)(b:Hp),aJ H b->H l=af->b l=Y (.lst (a.map V.int))->a.length=m->(∀d∈a,okD d)->Q (.ref l) b
def Kk:Sp:=λb H Q _=>∃n,b=[.int n]/\0<=n/\n<1000000000000/\∀w a,inW w=ae->aJ H a->Q (.int w) a
inductive ZG(vs:LV)(H:Hp)(Q:VK)(_E:XK):Prop
 |mk (a ac:_):vs=[.ref a]->aV H a ac->(mx ac).length<=63->ac.length<=1000->(∀l out H',aJ H H'->H l=af->aV H' l out->xA ac out->Q (.ref l) H')->ZG vs H Q _E
def x8(x:B)(H a:Hp):Prop:=∀b o,b≠x->H b=Y o->a b=Y o
def Ag:Str:=bb "\n"
def Kl:Sp:=λ_ _ _ _=>False
def zaL:Sp:=λ_ _ _ _=>False
def XX:Sp:=λ_ _ _ _=>False
def Qv:Sp:=λ_ _ _ _=>False
def XY:Sp:=λ_ _ _ _=>False
def WR:Sp:=λ_ _ _ _=>False
def WS:Sp:=λ_ _ _ _=>False
def zfX(p:Pl)(a:Int):zF->Int×Int->Int×Int
 |[],s=>s
 |r::rs,s=>zfX p a rs (if r.1=p then (a,r.2) else s)
abbrev Ar:=List (Int×zF)
def zdn(p:Pl)(a:Int):Ar->Int×Int->Int×Int
 |[],s=>s
 |l::ls,s=>zdn p a ls (if s.1<l.1/\l.1<a then zfX p l.1 l.2 s else s)
def w6(a:zF)(b:Ar)(p:Pl)(c:Int):Int:=(zdn p c b (-1,(zP a p).getD 0)).2
structure Qw(gs:zF):Prop where
 nd:(gs.map (·.1)).Nodup
 le:gs.length<=63
def qe(b:Ar)(p:Pl)(r:Int):Prop:=∃a,(r,a)∈b/\p∈a.map (·.1)
structure hU(H:Hp)(rk:B)(F:uZ)(P:Pl->Int->Prop)(aK:ya):Prop where
 at_:H rk=Y (.dT aK)
 nk:(aK.map (·.1)).Nodup
 nv:(aK.map (·.2)).Nodup
 ls:∀kv∈aK,∃(p:Pl)(a:B)(rs:yz),kv=(zD p,.ref a)/\F a/\H a=Y (.lst (rs.map V.int))/\rs.Pairwise (· < ·)/\rs≠[]/\∀r,r∈rs↔P p r
 al:∀p r,P p r->zD p∈aK.map (·.1)
def zdo(H:Hp)(rk:B)(F:uZ)(a:Key×V)(y:Int×zF):Prop:=a.1=.inl y.1/\∃d,a.2=.ref d/\F d/\d≠rk/\H d=Y (.dT (mx y.2))
def YW(c:B)(a:Int)(b rk:B):LSV:=[(bb "ground",.ref c),(bb "folded",.int a),(bb "worths",.ref b),(bb "ranks",.ref rk)]
structure MrIn(t:aU)(H:Hp)(m:B)(F:uZ)(g:zF)(l:Ar)(low:Int)(dx gr wo rk:B)(wk:xN)(kk:ya):Prop where
 im:H m=Y (.ins t.q03 dx (YW gr low wo rk))
 fg:F gr
 fw:F wo
 fk:F rk
 nr:gr≠rk
 hg:H gr=Y (.dT (mx g))
 hw:H wo=Y (.dK wk)
 wp:Bl (zdo H rk F) wk l
 rr:hU H rk F (qe l) kk
theorem hU.keep{H H':Hp}{rk:B}{F F':uZ}{P:Pl->Int->Prop}(h:hU H rk F P aK)(d:F rk)(k:∀b o,F b->H b=Y o->H' b=Y o)(f:∀b,F b->F' b):hU H' rk F' P aK:=
 {k _ _ d h.at_,h.nk,h.nv,λkv c=>let ⟨p,a,rs,e,fa,ha,z⟩:=h.ls kv c;{p,a,rs,e,f a fa,k _ _ fa ha,z},h.al}
theorem MrIn.keep{H H':Hp}{m:B}{F:uZ}{g:zF}{l:Ar}{low:Int}{dx gr wo rk:B}{wk:xN}{kk:ya}(h:MrIn t H m F g l low dx gr wo rk wk kk)(f:F m)(k:∀b o,F b->H b=Y o->H' b=Y o):MrIn t H' m F g l low dx gr wo rk wk kk:=
 {k _ _ f h.im,h.fg,h.fw,h.fk,h.nr,k _ _ h.fg h.hg,k _ _ h.fw h.hw,Paired.mapP h.wp λ_ _ ⟨e,d,j,a,c,i⟩=>{e,d,j,a,c,k _ _ a i},h.rr.keep h.fk k λ_ z=>z}
structure u5(t:aU)(H:Hp)(m:B)(F:uZ)(g:zF)(l:Ar)(low:Int):Prop where
 own:∀b,F b->∃o,H b=Y o
 me:F m
 nd:(l.map (·.1)).Nodup
 ok:∀y∈l,0<=y.1/\Qw y.2
 ex:∃dx gr wo rk wk kk,MrIn t H m F g l low dx gr wo rk wk kk
theorem jN{i b rk:B}{a:Int}(h:f≠bb "ground"/\f≠bb "folded"/\f≠bb "worths"/\f≠bb "ranks"):dC f (YW i a b rk)=af:=by have #[g,e,d,c]:=h;simp only[YW,cC,beq_eq_false_iff_ne.mpr g,beq_eq_false_iff_ne.mpr e,beq_eq_false_iff_ne.mpr d,beq_eq_false_iff_ne.mpr c,List.lookup_nil]
theorem u5.ins{H:Hp}{F:uZ}{low:Int}(h:u5 t H m F g l low):∃dx a,H m=Y (.ins t.q03 dx a)/\dC (bb "lay") a=af/\dC (bb "seen") a=af/\dC (bb "kept") a=af/\dC (bb "fold") a=af/\dC (bb "table_for") a=af:=by have #[dx,gr,wo,rk,wk,kk,z]:=h.ex;exact{dx,_,z.im,jN (),jN (),jN (),jN (),jN ()}
theorem u5.keep{H H':Hp}{F:uZ}{low:Int}(h:u5 t H m F g l low)(k:∀b o,F b->H b=Y o->H' b=Y o):u5 t H' m F g l low:=
 {λb a=>let ⟨o,e⟩:=h.own b a;{o,k b o a e},h.me,h.nd,h.ok,let ⟨dx,gr,wo,rk,wk,kk,z⟩:=h.ex;{dx,gr,wo,rk,wk,kk,z.keep h.me k}}
def uW(t:aU)(H:Hp)(m:B)(F:uZ)(g:zF)(l:Ar):Prop:=u5 t H m F g l 0
theorem uW.own{H:Hp}{F:uZ}(h:uW t H m F g l):∀b,F b->∃o,H b=Y o:=u5.own h
theorem uW.me{H:Hp}{F:uZ}(h:uW t H m F g l):F m:=u5.me h
theorem uW.ins{H:Hp}{F:uZ}(h:uW t H m F g l):∃f e,H m=Y (.ins t.q03 f e)/\dC (bb "lay") e=af/\dC (bb "seen") e=af/\dC (bb "kept") e=af:=let ⟨f,e,a,b,c,d,_⟩:=u5.ins h;{f,e,a,b,c,d}
theorem uW.keep{H H':Hp}{F:uZ}(h:uW t H m F g l)(k:∀b o,F b->H b=Y o->H' b=Y o)(c:∀b a,H b=Y (.tup a)->H' b=Y (.tup a)):uW t H' m F g l:=u5.keep h k
theorem uW.same{H a:Hp}{F:uZ}(h:uW t H m F g l)(s:aJ H a):uW t a m F g l:=h.keep (λb o _ e=>s b o e) λb c e=>s b _ e
def zhf(c:Ar)(a:Int)(b:zF):Ar:=(c.filter λy=>decide (y.1≠a))++[(a,b)]
theorem zju{aQ:Ar}{a:Int}{b:zF}(h:a ∉ aQ.map (·.1)):zhf aQ a b=aQ++[(a,b)]:=by unfold zhf;have e:(aQ.filter λy=>decide (y.1≠a))=aQ:=lC.mpr λy c=>Bj λe=>h (bH.mpr {y,c,e});rw[e]
inductive wf(vs:LV)(H:Hp)(Q:VK)(_E:XK):Prop
 |mk (a:_) (rs:yz) (aI):vs=[.ref a,.int aI]->H a=Y (.lst (rs.map V.int))->rs.Pairwise (· < ·)->(∀(k:Nat) H',aJ H H'->k<=rs.length->(∀r∈rs.take k,r<aI)->(∀r∈rs.drop k,aI<=r)->Q (.int k) H')->wf vs H Q _E
inductive xE(t:aU)(vs:LV)(H:Hp)(Q:VK)(_E:XK):Prop
 |mk (m dx:_) (fs:LSV) (low aI):vs=[.ref m,.int aI]->H m=Y (.ins t.q03 dx fs)->fs.lookup (bb "folded")=Y (.int low)->low<=aI->(∀H',aJ H H'->Q .non H')->xE t vs H Q _E
def Qx(a:Ar)(b:Int):Ar:=a.filter λy=>decide (y.1≠b)
def aZ(G:uZ)(rk:B)(H c:Hp):Prop:=∀b o,H b=Y o->b≠rk->((∀a,o≠.lst a)\/¬ G b)->c b=Y o
def Dm(H d:Hp):Prop:=∀b o,H b=Y o->∃c,d b=Y c/\∀a,c=.tup a->o=.tup a
inductive j9(vs:LV)(H:Hp)(Q:VK)(_E:XK):Prop
 |mk (rk pl aI G:_) (P:Pl->Int->Prop) (kk:ya) (q0:Pl):vs=[.ref rk,.ref pl,.int aI]->hU H rk G P kk->G rk->((∀b,H b=af->G b))->H pl=Y (.tup ((zD q0).map kV))->¬ P q0 aI->kk.length<=18900->((∀rs:yz,rs.Pairwise (· < ·)->(∀r∈rs,P q0 r)->rs.length<=300))->(∀H' kk',aZ G rk H H'->Dm H H'->hU H' rk G (λp r=>P p r\/(r=aI/\p=q0)) kk'->Q .non H')->j9 vs H Q _E
inductive qG(vs:LV)(H:Hp)(Q:VK)(_E:XK):Prop
 |mk (rk pl aI G:_) (P:Pl->Int->Prop) (kk) (q0:Pl):vs=[.ref rk,.ref pl,.int aI]->hU H rk G P kk->G rk->H pl=Y (.tup ((zD q0).map kV))->P q0 aI->(∀H' kk',aZ G rk H H'->Dm H H'->hU H' rk G (λp r=>P p r/\¬ (r=aI/\p=q0)) kk'->Q .non H')->qG vs H Q _E
inductive wG(t:aU)(vs:LV)(H:Hp)(Q:VK)(_E:XK):Prop
 |mk (m aI F g aQ low:_):vs=[.ref m,.int aI]->u5 t H m F g aQ low->(∀l ys gs H',aJ H H'->H l=af->H' l=Y (.lst ys)->Bl (zeL H') ys (mx gs)->((aI,gs)∈aQ\/(aI ∉ aQ.map (·.1)/\gs=[]))->Q (.ref l) H')->wG t vs H Q _E
inductive wH(t:aU)(vs:LV)(H:Hp)(Q:VK)(_E:XK):Prop
 |mk (m aI F g aQ low:_):vs=[.ref m,.int aI]->u5 t H m F g aQ low->(∀H' F',(∀b o,¬ F b->H b=Y o->H' b=Y o)->(∀b zs,H b=Y (.tup zs)->H' b=Y (.tup zs))->u5 t H' m F' g (Qx aQ aI) low->(∀b,F' b->F b\/H b=af)->(∀b,F b->F' b)->Q .non H')->wH t vs H Q _E
inductive vT(t:aU)(vs:LV)(H:Hp)(Q:VK)(_E:XK):Prop
 |mk (x h dx ac:_):vs=[.ref x,.ref h]->H x=Y (.ins t.q03 dx [])->aV H h ac->ac.length<=63->(∀H' F,x8 x H H'->uW t H' x F ac []->(∀b,F b->b=x\/H b=af)->Q .non H')->vT t vs H Q _E
inductive XZ(t:aU)(vs:LV)(H:Hp)(Q:VK)(_E:XK):Prop
 |mk (m aI gv F g aQ gs:_):vs=[.ref m,.int aI,.ref gv]->uW t H m F g aQ->0<=aI->aV H gv gs->¬ F gv->Qw gs->aQ.length<=200->(∀H' F',(∀b o,¬ F b->H b=Y o->H' b=Y o)->(∀b zs,H b=Y (.tup zs)->H' b=Y (.tup zs))->uW t H' m F' g (zhf aQ aI gs)->(∀b,F' b->F b\/H b=af)->(∀b,F b->F' b)->Q .non H')->XZ t vs H Q _E
inductive vU(t:aU)(vs:LV)(H:Hp)(Q:VK)(_E:XK):Prop
 |mk (m p aI F g aQ q:_):vs=[.ref m,.ref p,.int aI]->uW t H m F g aQ->0<=aI->H p=Y (.tup [.str q.1,.int q.2])->(∀H',aJ H H'->Q (.int (w6 g aQ q aI)) H')->vU t vs H Q _E
inductive Dl where
 |say (n:Int)
 |give (p:Nat) (n:Int)
def Dl.gi:Dl->zF
 |.say _=>[]
 |.give p n=>[((bb "a",(p:Int)),n)]
def Dl.sa:Dl->yz
 |.say n=>[n]
 |.give _ _=>[]
def Dl.ws:Dl->zQ
 |.say n=>[bb "say",zU n]
 |.give p n=>[bb "give",bb "a",zU (p:Int),zU n]
def Dl.tx:Dl->Str
 |.say n=>bb "say " ++ zU n
 |.give p n=>bb "give a " ++ zU (p:Int)++bb " " ++ zU n
def Dl.oc(e:Dl):Oc:=.done e.sa
def Dl.ok:Dl->Prop
 |.say n=>wB n
 |.give p n=>p<3/\wB n
def RwA(H:Hp)(v:V):Dl->Prop
 |.say n=>∃r a,v=.ref r/\H r=Y (.tup [.str "say",.ref a])/\H a=Y (.tup [.int n])
 |.give p n=>∃r b a,v=.ref r/\H r=Y (.tup [.str "give",.str "a",.ref b,.ref a])/\H b=Y (.tup [.int p])/\H a=Y (.tup [.int n])
def zlc(wl:B)(k:Nat):LSV:=[(bb "words",.ref wl),(bb "number",.int 0),(bb "at",.int k)]
structure RwO(t:aU)(H:Hp)(x dx wl:B)(ws:zQ)(k:Nat):Prop where
 ix:H x=Y (.ins t.q07 dx (zlc wl k))
 hw:H wl=Y (.lst (ws.map V.str))
def UpR(x:B)(H a:Hp):Prop:=∀b o,b≠x->H b=Y o->a b=Y o
def zeX(n:Int)(w:Str):Prop:=w=zU n/\inW n=ae
structure RwF(K:bE)(t:aU):Prop where
 cl:Ae K t.q07
 n1:aL K t.q07 "words"
 n2:aL K t.q07 "number"
 n3:aL K t.q07 "at"
structure RgF(K:bE)(t:aU):Prop where
 cl:Ae K t.q04
 n1:aL K t.q04 "rows"
 n2:aL K t.q04 "blocks"
 n3:aL K t.q04 "turned"
def Km:Sp:=λb H Q _=>∃w n,b=[.str w]/\zeX n w/\∀a,aJ H a->Q (.int n) a
inductive va(vs:LV)(H:Hp)(Q:VK)(_E:XK):Prop
 |mk (l:_) (ws:zQ) (k:Nat) (n w):vs=[.ref l,.int k]->H l=Y (.lst (ws.map V.str))->ws[k]?=Y w->zeX n w->ws.length<=10->(∀H',aJ H H'->Q (.int (k+1:Nat)) H')->va vs H Q _E
inductive qH(vs:LV)(H:Hp)(Q:VK)(_E:XK):Prop
 |mk (l:_) (ws:zQ) (k:Nat) (n w):vs=[.ref l,.int k]->H l=Y (.lst (ws.map V.str))->ws[k]?=Y w->zeX n w->ws.length<=10->(∀p te H',aJ H H'->H' p=Y (.tup [.ref te,.int (k+1:Nat)])->H' te=Y (.tup [.int n])->Q (.ref p) H')->qH vs H Q _E
def vI(t:aU):Sp:=λc H Q _=>∃x l b,c=[.ref x,.ref l,.int 0]/\H x=Y (.ins t.q07 b [])/\∀a,UpR x H a->a x=Y (.ins t.q07 b (zlc l 0))->Q .non a
inductive vp(t:aU)(vs:LV)(H:Hp)(Q:VK)(_E:XK):Prop
 |mk (x dx l ws:_) (k:Nat) (w):vs=[.ref x]->RwO t H x dx l ws k->ws[k]?=Y w->(∀H',UpR x H H'->RwO t H' x dx l ws (k+1)->Q (.str w) H')->vp t vs H Q _E
inductive vq(t:aU)(vs:LV)(H:Hp)(Q:VK)(_E:XK):Prop
 |mk (x dx l ws:_) (k:Nat) (w:Str):vs=[.ref x]->RwO t H x dx l ws k->ws[k]?=Y w->yK w=ae->w.length<=100->(∀H',UpR x H H'->RwO t H' x dx l ws (k+1)->Q (.str w) H')->vq t vs H Q _E
inductive vt(t:aU)(vs:LV)(H:Hp)(Q:VK)(_E:XK):Prop
 |mk (x dx l:_) (ws:zQ) (k:Nat) (n w):vs=[.ref x]->RwO t H x dx l ws k->ws[k]?=Y w->zeX n w->ws.length<=10->(∀te H',UpR x H H'->RwO t H' x dx l ws (k+1)->H' te=Y (.tup [.int n])->Q (.ref te) H')->vt t vs H Q _E
inductive xS(t:aU)(vs:LV)(H:Hp)(Q:VK)(_E:XK):Prop
 |mk (x dx l:_) (ws:zQ):vs=[.ref x]->RwO t H x dx l ws ws.length->(∀H',aJ H H'->Q .non H')->xS t vs H Q _E
inductive qI(t:aU)(vs:LV)(H:Hp)(Q:VK)(_E:XK):Prop
 |mk (x dx l:_) (e:Dl):vs=[.ref x]->RwO t H x dx l e.ws 0->e.ok->(∀v H',UpR x H H'->RwO t H' x dx l e.ws e.ws.length->RwA H' v e->Q v H')->qI t vs H Q _E
def WT:Sp:=λb H Q _=>∃e:Dl,b=[.str e.tx,.int 0]/\e.ok/\∀v a,aJ H a->RwA a v e->Q v a
def jh(t:aU):Sp:=λe H Q _=>∃x d,e=[.ref x]/\H x=Y (.ins t.q04 d [])/\∀a b c f,UpR x H a->a x=Y (.ins t.q04 d [(bb "rows",.ref b),(bb "blocks",.ref c),(bb "turned",.ref f)])->a b=Y (.lst [])->a c=Y (.lst [])->b≠c->H b=af->Q .non a
inductive ja(t:aU)(vs:LV)(H:Hp)(Q:VK)(_E:XK):Prop
 |mk (x dx rl bl tl:_):vs=[.ref x]->H x=Y (.ins t.q04 dx [(bb "rows",.ref rl),(bb "blocks",.ref bl),(bb "turned",.ref tl)])->H bl=Y (.lst [])->(∀H',aJ H H'->Q (.ref rl) H')->ja t vs H Q _E
inductive vJ(t:aU)(vs:LV)(H:Hp)(Q:VK)(_E:XK):Prop
 |mk (x dx rl bl tl v e:_):vs=[.ref x,v,.int 0]->H x=Y (.ins t.q04 dx [(bb "rows",.ref rl),(bb "blocks",.ref bl),(bb "turned",.ref tl)])->H bl=Y (.lst [])->H rl=Y (.lst [])->RwA H v e->(∀H',UpR rl H H'->H' rl=Y (.lst [v])->Q .non H')->vJ t vs H Q _E
def zfY:Sp:=λb H Q _=>∃e:Dl,b=[.str e.tx]/\e.ok/\∀v l a,aJ H a->H l=af->a l=Y (.lst [v])->RwA a v e->Q (.ref l) a
def zdp:Sp:=λc H Q _=>∃l v e,c=[.ref l,.int 0]/\H l=Y (.lst [v])/\RwA H v e/\∀a b,aJ H b->H a=af->b a=Y (.lst [v])->Q (.ref a) b
inductive Kn(vs:LV)(H:Hp)(Q:VK)(_E:XK):Prop
 |mk (l v e:_):vs=[.ref l]->H l=Y (.lst [v])->RwA H v e->(∀l2 H',aJ H H'->H l2=af->H' l2=Y (.lst [v])->Q (.ref l2) H')->Kn vs H Q _E
structure RAd where
 dx:B
 co:B
 sl:B
 gi:B
 no:B
 sa:B
def zm6(a:RAd)(k:Nat):LSV:=[(bb "code",.ref a.co),(bb "at",.int k),(bb "why",.non),(bb "slots",.ref a.sl),(bb "gifts",.ref a.gi),(bb "notes",.ref a.no),(bb "sayings",.ref a.sa)]
structure Al(t:aU)(H:Hp)(x:B)(a:RAd)(e:Dl)(k m:Nat):Prop where
 ix:H x=Y (.ins t.q01 a.dx (zm6 a k))
 hc:∃v,H a.co=Y (.lst [v])/\RwA H v e
 hs:H a.sl=Y (.dK [])
 hg:H a.gi=Y (.dT (mx (e.gi.take m)))
 hn:H a.no=Y (.dT [])
 ha:H a.sa=Y (.lst ((e.sa.take m).map V.int))
 nc:a.co≠a.sa
 ng:a.gi≠a.no
def OwA(x:B)(a:RAd)(b:B):Prop:=b=x\/b=a.co\/b=a.sl\/b=a.gi\/b=a.no\/b=a.sa
def KpR(x:B)(a:RAd)(H c:Hp):Prop:=∀b o,b≠x->b≠a.sa->b≠a.gi->H b=Y o->c b=Y o
structure RnF(K:bE)(t:aU):Prop where
 cl:Ae K t.q01
 n1:aL K t.q01 "code"
 n2:aL K t.q01 "at"
 n3:aL K t.q01 "why"
 n4:aL K t.q01 "slots"
 n5:aL K t.q01 "gifts"
 n6:aL K t.q01 "notes"
 n7:aL K t.q01 "sayings"
inductive VB(vs:LV)(H:Hp)(Q:VK)(_E:XK):Prop
 |mk (tm sl n:_):vs=[.ref tm,.ref sl]->H tm=Y (.tup [.int n])->H sl=Y (.dK [])->(∀H',aJ H H'->Q (.int n) H')->VB vs H Q _E
inductive kb(t:aU)(vs:LV)(H:Hp)(Q:VK)(_E:XK):Prop
 |mk (x l dx v e:_):vs=[.ref x,.ref l]->H x=Y (.ins t.q01 dx [])->H l=Y (.lst [v])->RwA H v e->(∀H' a,x8 x H H'->Al t H' x a e 0 0->(∀b,OwA x a b->b=x\/H b=af)->Q .non H')->kb t vs H Q _E
inductive jc(t:aU)(vs:LV)(H:Hp)(Q:VK)(_E:XK):Prop
 |mk (x:_) (a:RAd) (e) (k m:Nat):vs=[.ref x]->Al t H x a e k m->Q (.bl (decide (1<=k))) H->jc t vs H Q _E
def VC(t:aU):Sp:=λb H Q _=>∃x,∃a:RAd,∃e,b=[.ref x]/\Al t H x a e 0 0/\Q .non H
inductive yX(t:aU)(vs:LV)(H:Hp)(Q:VK)(_E:XK):Prop
 |mk (x tm:_) (a:RAd) (e) (k m:Nat) (n):vs=[.ref x,.ref tm]->Al t H x a e k m->H tm=Y (.tup [.int n])->(∀H',aJ H H'->Q (.int n) H')->yX t vs H Q _E
inductive wx(t:aU)(vs:LV)(H:Hp)(Q:VK)(_E:XK):Prop
 |mk (x r tp te:_) (a:RAd) (e) (k m:Nat) (p:Nat):vs=[.ref x,.ref r]->Al t H x a e k m->H r=Y (.tup [.str "give",.str "a",.ref tp,.ref te])->H tp=Y (.tup [.int p])->(∀q H',aJ H H'->H' q=Y (.tup [.str "a",.int p])->Q (.ref q) H')->wx t vs H Q _E
inductive ZH(t:aU)(vs:LV)(H:Hp)(Q:VK)(_E:XK):Prop
 |mk (x v:_) (a:RAd) (e):vs=[.ref x,v,.int 0]->Al t H x a e 0 0->RwA H v e->(∀H',KpR x a H H'->Al t H' x a e 0 1->Q .non H')->ZH t vs H Q _E
inductive kB(t:aU)(vs:LV)(H:Hp)(Q:VK)(_E:XK):Prop
 |mk (x v:_) (a:RAd) (e):vs=[.ref x,v,.int 0]->Al t H x a e 0 0->RwA H v e->(∀H',KpR x a H H'->Al t H' x a e 0 1->Q (.int 1) H')->kB t vs H Q _E
def kc(t:aU):Sp:=λc H Q _=>∃x,∃a:RAd,∃e,c=[.ref x,.int 0]/\Al t H x a e 0 0/\∀b,KpR x a H b->Al t b x a e 1 1->Q .non b
def PpV(H:Hp)(v:V)(e:Dl)(a b:B):Prop:=∃r o,v=.ref r/\H r=Y (.tup [o,.ref a,.ref b])/\za H o e.oc/\H a=Y (.lst [])/\aV H b e.gi
def X0(t:aU):Sp:=λf H Q _=>∃x,∃a:RAd,∃e,f=[.ref x]/\Al t H x a e 1 1/\∀v c d b,aJ H b->PpV b v e c d->H c=af->H d=af->Q v b
structure Au where
 dx:B
 dj:B
 dw:B
 jb:B
 mks:B
 wy:B
 cl:B
 wl:B
 hd:B
 la:B
 re:B
 db:B
 en:B
def zjv(a:Au)(n f:Int):LSV:=[(bb "hands",.int n),(bb "way",.ref a.wy),(bb "first",.int f),(bb "codes",.ref a.cl),(bb "waiting",.ref a.wl),(bb "held",.ref a.hd),(bb "makes",.ref a.mks),(bb "jobs",.ref a.jb),(bb "ended",.ref a.en)]
def zld(m b a c:B):LSV:=[(bb "makes",.ref m),(bb "laid",.ref b),(bb "readers",.ref a),(bb "doubted",.ref c)]
def dbL(a:yz):xN:=a.map λr=>(.inl r,.bl ae)
structure DkV where
 wo:HO
 cs:LV
 ws:yz
 kv:xN
 la:xN
 db:yz
 en:LV
 g:zF
 ls:Ar
def dkL(t:aU)(d:B)(a:Au)(n f:Int)(D:DkV):List (B×HO):=[(d,.ins t.q02 a.dx (zjv a n f)),(a.wy,D.wo),(a.jb,.ins t.q05 a.dj (zld a.mks a.la a.re a.db)),(a.cl,.lst D.cs),(a.wl,.lst (D.ws.map V.int)),(a.hd,.dK D.kv),(a.la,.dK D.la),(a.db,.dK (dbL D.db)),(a.en,.lst D.en)]
abbrev At:=B->Nat
structure OwL(H:Hp)(lb:At)(Bp:List (B×HO)):Prop where
 ob:∀(i:Nat) b o,Bp[i]?=Y (b,o)->H b=Y o/\lb b=i+1
 ow:∀b,lb b≠0->∃o,H b=Y o
structure Fr(M:Nat->Prop)(H H':Hp)(lb lb':At):Prop where
 ex:∀b o,H b=Y o->lb' b=lb b
 kp:∀b o,M (lb b)->H b=Y o->H' b=Y o
 ts:∀b zs,H b=Y (.tup zs)->H' b=Y (.tup zs)
 al:∀b o,H b=Y o->∃o',H' b=Y o'
def M0(l:Nat):Prop:=l=0\/l=14
def M1(l:Nat):Prop:=l=0\/14<=l
structure DkF(K:bE)(t:aU):Prop where
 cD:Ae K t.q02
 cJ:Ae K t.q05
 cT:Ae K t.q0b
 d1:aL K t.q02 "hands"
 d2:aL K t.q02 "way"
 d3:aL K t.q02 "first"
 d4:aL K t.q02 "codes"
 d5:aL K t.q02 "waiting"
 d6:aL K t.q02 "held"
 d7:aL K t.q02 "makes"
 d8:aL K t.q02 "jobs"
 d9:aL K t.q02 "ended"
 j1:aL K t.q05 "makes"
 j2:aL K t.q05 "laid"
 j3:aL K t.q05 "readers"
 j4:aL K t.q05 "doubted"
 t1:aL K t.q0b "times"
def Pk{a:Type}(R:Int->V->a->Prop)(b:xN)(l:List (Int×a)):Prop:=Bl (λx e=>x.1=.inl e.1/\R e.1 x.2 e.2) b l
def PpA(H:Hp)(b:At)(v:V)(e:Dl):Prop:=∃a c,PpV H v e a c/\b a=14/\b c=14
def CoA(H:Hp)(a:At)(v:V)(e:Dl):Prop:=∃c x,v=.ref c/\H c=Y (.lst [x])/\RwA H x e/\a c=14
def HhA(t:aU)(H:Hp)(d:At)(f:List Dl)(h:Int)(v:V)(y:Int×Nat):Prop:=∃a x c e,v=.ref a/\H a=Y (.tup [.int y.1,.ref x])/\f[y.1.toNat]?=Y e/\Al t H x c e y.2 y.2/\y.2<=1/\∀b,OwA x c b->d b=20+h.toNat
def LaA(H:Hp)(a:At)(b:List Dl)(r:Int)(v:V)(_:Unit):Prop:=∃e,b[r.toNat]?=Y e/\PpA H a v e
def zjw(t:aU)(a:Au)(b:HO):Prop:=b=.ins t.q0h a.dw []\/b=.ins t.q0z a.dw []\/∃k:Nat,b=.ins t.q0b a.dw [(bb "times",.int k)]
structure DS where
 ws:yz
 hl:List (Int×Int×Nat)
 ld:List (Int×Unit)
 db:yz
 ls:Ar
 en:Nat
inductive u8(t:aU)(H:Hp)(d:B)(a:Au)(lb:At)(n f:Int)(g:zF)(CC:List Dl)(S:DS):Prop
 |mk (D:DkV):OwL H lb (dkL t d a n f D)->uW t H a.mks (λb=>lb b=10) D.g D.ls->((H a.re=Y (.dT [])/\lb a.re=11))->zjw t a D.wo->D.g=g->D.ls=S.ls->D.ws=S.ws->D.db=S.db->Bl (CoA H lb) D.cs CC->Pk (HhA t H lb CC) D.kv S.hl->Pk (LaA H lb CC) D.la S.ld->Bl (PpA H lb) D.en (CC.take S.en)->u8 t H d a lb n f g CC S
def zbB{a:Type}(l:List (Int×a))(h:Int)(b:a):List (Int×a):=l.map λe=>if e.1=h then (h,b) else e
def yY{a:Type}(l:List (Int×a))(h:Int):List (Int×a):=l.filter λe=>decide (e.1≠h)
def V9(k m:Nat):yz:=(cG (m-k)).map λi=>((k+i:Nat):Int)
structure aY(n:Int)(CC:List Dl)(S:DS):Prop where
 cc:CC.length<=10
 ok:∀e∈CC,e.ok
 el:S.en<=CC.length
 pm:(S.ws++(S.hl.map (·.2.1)++S.ld.map (·.1))).Perm (V9 S.en CC.length)
 hn:(S.hl.map (·.1)).Nodup
 hr:∀e∈S.hl,0<=e.1/\e.1<n
 rn:∀e∈S.hl,e.2.2<=1
 dn:S.db.Nodup
 ds:∀r∈S.db,r∈S.ld.map (·.1)
 ly:∀y,y∈S.ls↔∃(j:Nat)(e:Dl),y=((j:Int),e.gi)/\CC[j]?=Y e/\(j<S.en\/(j:Int)∈S.ld.map (·.1))
 ll:S.ls.length=S.en+S.ld.length
inductive Mv(CC:List Dl)(S:DS)(h:Int):DS->Prop
 |step {r:Int}:(h,r,0)∈S.hl->Mv CC S h { S with hl:=zbB S.hl h (r,1) }
 |lay {r:Int} {e:Dl} {db:yz}:(h,r,1)∈S.hl->CC[r.toNat]?=Y e->db.Nodup->(∀y∈db,y∈S.db\/y=r)->Mv CC S h { S with hl:=yY S.hl h,ld:=S.ld++[(r,PUnit.unit)],db:=db,ls:=S.ls++[(r,e.gi)] }
 |settle:(S.en:Int)∈S.ld.map (·.1)->h ∉ S.hl.map (·.1)->Mv CC S h { S with ld:=yY S.ld S.en,db:=[],en:=S.en+1 }
 |take {w:Int}:(S.en:Int) ∉ S.ld.map (·.1)->h ∉ S.hl.map (·.1)->w∈S.ws->Mv CC S h { S with ws:=S.ws.erase w,hl:=S.hl++[(h,w,0)],db:=[] }
 |rest:(S.en:Int) ∉ S.ld.map (·.1)->h ∉ S.hl.map (·.1)->S.ws=[]->Mv CC S h { S with db:=[] }
def EvV(H:Hp)(v:V):Prop:=∃r,∃(s:Str)(is:yz),v=.ref r/\H r=Y (.tup (.str s::is.map V.int))/\is.length<=2/\s.length<=10
def NxA(a:Ar)(q:Pl)(b:Int)(v:V):Prop:=(v=.non/\∀r,qe a q r->r<=b)\/∃i,v=.int i/\qe a q i/\b<i/\∀r,qe a q r->b<r->i<=r
inductive jr(t:aU)(vs:LV)(H:Hp)(Q:VK)(_E:XK):Prop
 |mk (m p aI F g aQ q:_):vs=[.ref m,.ref p,.int aI]->uW t H m F g aQ->H p=Y (.tup ((zD q).map kV))->(∀v H',aJ H H'->NxA aQ q aI v->Q v H')->jr t vs H Q _E
def qJ(t:aU):Sp:=λf H Q _=>∃x m e,f=[.ref x,.ref m]/\H x=Y (.ins t.q05 e [])/\∀a b d c,x8 x H a->a x=Y (.ins t.q05 e (zld m b d c))->a b=Y (.dK [])->a d=Y (.dT [])->a c=Y (.dK [])->H b=af->H d=af->H c=af->b≠c->Q .non a
structure DkO(t:aU)(H:Hp)(d:B)(a:Au)(lb:At)(n f:Int)(D:DkV):Prop where
 o:OwL H lb (dkL t d a n f D)
 m:uW t H a.mks (λb=>lb b=10) D.g D.ls
 r:H a.re=Y (.dT [])/\lb a.re=11
inductive kC(t:aU)(vs:LV)(H:Hp)(Q:VK)(_E:XK):Prop
 |mk (d p:_) (a:Au) (lb n f aI D) (q:Pl):vs=[.ref a.jb,.ref p,.int aI]->DkO t H d a lb n f D->H p=Y (.tup ((zD q).map kV))->(∀H',aJ H H'->Q .non H')->kC t vs H Q _E
inductive vK(t:aU)(vs:LV)(H:Hp)(Q:VK)(_E:XK):Prop
 |mk (d nl gl v:_) (e:Dl) (a:Au) (lb n f aI) (D:DkV):vs=[.ref a.jb,.int aI,v]->DkO t H d a lb n f D->0<=aI->PpV H v e nl gl->M1 (lb nl)->M1 (lb gl)->aI ∉ D.ls.map (·.1)->D.ls.length<=20->D.la.length<=20->D.db.length<=20->(∀H' lb' db',Fr M1 H H' lb lb'->DkO t H' d a lb' n f { D with la:=xu D.la (.inl aI) v,db:=db',ls:=D.ls++[(aI,e.gi)] }->(D.db.Nodup->db'.Nodup)->(∀y,y∈db'↔y∈D.db\/y=aI)->Q .non H')->vK t vs H Q _E
inductive xT(t:aU)(vs:LV)(H:Hp)(Q:VK)(_E:XK):Prop
 |mk (d nl gl v e:_) (a:Au) (lb n f aI) (D:DkV):vs=[.ref a.jb,.int aI]->DkO t H d a lb n f D->yu D.la (.inl aI)=Y v->PpV H v e nl gl->(∀H',aJ H H'->Q .non H')->xT t vs H Q _E
inductive vb(t:aU)(vs:LV)(H:Hp)(Q:VK)(_E:XK):Prop
 |mk (d:_) (a:Au) (lb n f) (D:DkV):vs=[.ref a.jb]->DkO t H d a lb n f D->D.db.Nodup->D.db.length<=20->((∀r∈D.db,∃v e,yu D.la (.inl r)=Y v/\PpA H lb v e))->(∀H',Fr M1 H H' lb lb->DkO t H' d a lb n f { D with db:=[] }->Q .non H')->vb t vs H Q _E
inductive xZ(t:aU)(vs:LV)(H:Hp)(Q:VK)(_E:XK):Prop
 |mk (d v e:_) (a:Au) (lb n f aI) (D:DkV):vs=[.ref a.jb,.int aI]->DkO t H d a lb n f D->yu D.la (.inl aI)=Y v->PpA H lb v e->(∀H',Fr M1 H H' lb lb->DkO t H' d a lb n f { D with la:=yB D.la (.inl aI),db:=D.db.filter λy=>decide (y≠aI) }->Q v H')->xZ t vs H Q _E
def Ja(t:aU):Sp:=λb H Q _=>∃x a,b=[.ref x]/\H x=Y (.ins t.q0b a [])/\Q .non (upd H x (.ins t.q0b a [(bb "times",.int 0)]))
def S0:DS:={[],[],[],[],[],0}
inductive jx(t:aU)(vs:LV)(H:Hp)(Q:VK)(_E:XK):Prop
 |mk (x l w dx dw n f wo:_) (g:zF):vs=[.ref x,.ref l,.int n,.ref w,.int f]->H x=Y (.ins t.q02 dx [])->aV H l g->g.length<=63->H w=Y wo->w≠x->((∀a:Au,a.dw=dw->zjw t a wo))->(∀H' a lb,x8 x H H'->(∀b o,b≠x->b≠w->H b=Y o->lb b=0)->u8 t H' x a lb n f g [] S0->Q .non H')->jx t vs H Q _E
inductive Zc(t:aU)(vs:LV)(H:Hp)(Q:VK)(_E:XK):Prop
 |mk (d dx:_) (a:Au) (n f) (en:LV):vs=[.ref d]->H d=Y (.ins t.q02 dx (zjv a n f))->H a.en=Y (.lst en)->Q (.int (f+en.length)) H->Zc t vs H Q _E
inductive kg(t:aU)(vs:LV)(H:Hp)(Q:VK)(_E:XK):Prop
 |mk (d dx:_) (a:Au) (n f) (cs:LV):vs=[.ref d]->H d=Y (.ins t.q02 dx (zjv a n f))->H a.cl=Y (.lst cs)->Q (.int (f+cs.length)) H->kg t vs H Q _E
inductive VD(t:aU)(vs:LV)(H:Hp)(Q:VK)(_E:XK):Prop
 |mk (d c x e:_) (a:Au) (lb n g) (CC:List Dl) (S:DS):vs=[.ref d,.ref c]->H c=Y (.lst [x])->RwA H x e->u8 t H d a lb n 0 g CC S->CC.length<=10->S.ws.length<=10->S.en<=CC.length->(∀H' lb',Fr M0 H H' lb lb'->u8 t H' d a lb' n 0 g (CC++[e]) { S with ws:=S.ws++[(CC.length:Int)] }->Q (.int CC.length) H')->VD t vs H Q _E
inductive Yr(t:aU)(vs:LV)(H:Hp)(Q:VK)(_E:XK):Prop
 |mk (x l:_) (ws:yz):vs=[.ref x,.ref l]->H l=Y (.lst (ws.map V.int))->ws≠[]->(∀w∈ws,Q (.int w) H)->Yr t vs H Q _E
inductive kh(t:aU)(vs:LV)(H:Hp)(Q:VK)(_E:XK):Prop
 |mk (x l:_) (ws:yz):vs=[.ref x,.ref l]->H l=Y (.lst (ws.map V.int))->ws≠[]->(∀w∈ws,Q (.int w) H)->kh t vs H Q _E
inductive ki(t:aU)(vs:LV)(H:Hp)(Q:VK)(_E:XK):Prop
 |mk (x l dw:_) (ws:yz) (k:Nat):vs=[.ref x,.ref l]->H l=Y (.lst (ws.map V.int))->ws≠[]->H x=Y (.ins t.q0b dw [(bb "times",.int k)])->(∀w∈ws,Q (.int w) (upd H x (.ins t.q0b dw [(bb "times",.int (k+1:Nat))])))->ki t vs H Q _E
inductive vL(t:aU)(vs:LV)(H:Hp)(Q:VK)(_E:XK):Prop
 |mk (d:_) (a:Au) (lb n h g CC) (S:DS):vs=[.ref d,.int h]->u8 t H d a lb n 0 g CC S->aY n CC S->h ∉ S.hl.map (·.1)->S.ws≠[]->(∀v H' lb' w,Fr M0 H H' lb lb'->w∈S.ws->EvV H' v->u8 t H' d a lb' n 0 g CC { S with ws:=S.ws.erase w,hl:=S.hl++[(h,w,0)] }->Q v H')->vL t vs H Q _E
def mvP(t:aU)(H:Hp)(d:B)(a:Au)(i:At)(n h:Int)(g:zF)(f:List Dl)(S:DS)(Q:VK):Prop:=∀v c b e,Fr M0 H c i b->EvV c v->Mv f S h e->u8 t c d a b n 0 g f e->Q v c
inductive jO(t:aU)(vs:LV)(H:Hp)(Q:VK)(_E:XK):Prop
 |mk (d:_) (a:Au) (lb n h g CC) (S:DS):vs=[.ref d,.int h]->u8 t H d a lb n 0 g CC S->aY n CC S->h ∉ S.hl.map (·.1)->mvP t H d a lb n h g CC S Q->jO t vs H Q _E
inductive X1(t:aU)(vs:LV)(H:Hp)(Q:VK)(_E:XK):Prop
 |mk (d:_) (a:Au) (lb n h g CC) (S:DS):vs=[.ref d,.int h]->u8 t H d a lb n 0 g CC S->aY n CC S->0<=h->h<n->mvP t H d a lb n h g CC S Q->X1 t vs H Q _E
inductive ZI(t:aU)(vs:LV)(H:Hp)(Q:VK)(_E:XK):Prop
 |mk (d:_) (a:Au) (lb n g) (CC:List Dl) (S:DS):vs=[.ref d]->u8 t H d a lb n 0 g CC S->aY n CC S->1<=n->n<=8->(∀l xs H' lb' S',Fr M0 H H' lb lb'->lb' l=0->H l=af->H' l=Y (.lst xs)->(∀v∈xs,EvV H' v)->xs.length<=900->(S.en=CC.length->xs=[])->u8 t H' d a lb' n 0 g CC S'->S'.en=CC.length->aY n CC S'->Q (.ref l) H')->ZI t vs H Q _E
def zdq(f:Pl->Int)(a:zF):Prop:=pv a/\∀p w,(p,w)∈a↔f p=w/\w≠0
def zjx(g:zF)(a:Ar):Prop:=g.length+(a.map λy=>y.2.length).sum<=63
inductive jP(t:aU)(vs:LV)(H:Hp)(Q:VK)(_E:XK):Prop
 |mk (m aI F g aQ:_):vs=[.ref m,.int aI]->uW t H m F g aQ->0<=aI->zjx g aQ->(∀l ac H',aJ H H'->H l=af->aV H' l ac->zdq (λp=>w6 g aQ p aI) ac->Q (.ref l) H')->jP t vs H Q _E
inductive Ys(t:aU)(vs:LV)(H:Hp)(Q:VK)(_E:XK):Prop
 |mk (d:_) (a:Au) (lb n f g) (CC:List Dl) (S:DS):vs=[.ref d]->u8 t H d a lb n f g CC S->S.en<=CC.length->0<=f->zjx g S.ls->(∀l ac H',aJ H H'->H l=af->aV H' l ac->zdq (λp=>w6 g S.ls p (f+S.en)) ac->Q (.ref l) H')->Ys t vs H Q _E
def dlL(a:List Dl)(k:Nat):zQ:=match a with
 |[]=>[]
 |e::a=>xq (xR (k:Int) e.oc e.gi)::dlL a (k+1)
def Aj(g:zF)(a:List Dl):zQ:=xq (jq 0 g)::dlL a 0
def kD(a:zQ):Str:=a.foldr (λl z=>l++Ag++z) (bb "")
structure YX(g:zF):Prop where
 rs:ZF g
 up:pv g
 le:g.length<=5
 nz:∀x∈g,x.2≠0
def zeY(a:List Dl):Prop:=a.length<=10/\∀e∈a,e.ok
def giL(a:List Dl):zF:=a.flatMap Dl.gi
def AnA(H:Hp)(v:V)(i:Nat)(e:Dl):Prop:=∃r o,v=.ref r/\H r=Y (.tup [.int i,o])/\za H o e.oc
def Ah(H:Hp)(a:LV)(b:List Dl):Prop:=a.length=b.length/\∀(i:Nat) v e,a[i]?=Y v->b[i]?=Y e->AnA H v i e
inductive Ko(vs:LV)(H:Hp)(Q:VK)(_E:XK):Prop
 |mk (l:_) (ls:zQ):vs=[.ref l]->H l=Y (.lst (ls.map V.str))->ls.length<=20->((∀x∈ls,x.length<=20000/\Asc x))->(∀H',aJ H H'->Q (.str (kD ls)) H')->Ko vs H Q _E
def VE:Sp:=λc H Q _=>∃g a,c=[.str (kD (Aj g a))]/\YX g/\zeY a/\∀l b,aJ H b->H l=af->b l=Y (.lst ((Aj g a).map V.str))->Q (.ref l) b
def EnA(P:uZ)(H:Hp)(g:zF)(b:List Dl)(i:Nat)(v:V):Prop:=(i=0/\∃p a,v=.ref p/\H p=Y (.tup [.str "mark",.int 0,.ref a])/\aV H a g/\P a)\/∃(j:Nat)(e:Dl)(p:B)(o:V)(a:B),i=j+1/\b[j]?=Y e/\v=.ref p/\H p=Y (.tup [.str "deal",.int j,o,.ref a])/\za H o e.oc/\aV H a e.gi/\P a
inductive VF(vs:LV)(H:Hp)(Q:VK)(_E:XK):Prop
 |mk (g es:_) (i:Nat) (x):vs=[.str x]->(Aj g es)[i]?=Y x->YX g->zeY es->(∀v H',aJ H H'->EnA (λb=>H b=af) H' g es i v->Q v H')->VF vs H Q _E
def zoc(H:Hp)(g:zF)(b:List Dl)(a:LV):Prop:=a.length=b.length+1/\∀(i:Nat) v,a[i]?=Y v->EnA (λ_=>True) H g b i v
def Qy:Sp:=λd H Q _=>∃g b,d=[.str (kD (Aj g b))]/\YX g/\zeY b/\∀l c a,aJ H a->a l=Y (.lst c)->zoc a g b c->Q (.ref l) a
def Kq:Sp:=λh H Q _=>∃g,∃c:List Dl,h=[.str (kD (Aj g c))]/\YX g/\zeY c/\∀r f d b e a,aJ H a->a r=Y (.tup [.int c.length,.ref f,.ref d])->aV a f b->xA (g++giL c) b->a d=Y (.lst e)->Ah a e c->H d=af->Q (.ref r) a
def Kr:Sp:=λb H Q _=>∃l g,b=[.ref l]/\aV H l g/\YX g/\∀a,aJ H a->Q (.str (kD (Aj g []))) a
inductive YY(vs:LV)(H:Hp)(Q:VK)(_E:XK):Prop
 |mk (a b:_) (g gs:zF):vs=[.ref a,.ref b]->aV H a g->aV H b gs->g.length<=40->gs.length<=10->(∀l out H',aJ H H'->H l=af->aV H' l out->xA (g++gs) out->Q (.ref l) H')->YY vs H Q _E
structure HAd where
 dx:B
 td:B
 ln:B
 d:B
def zle(b:HAd)(k:Nat):LSV:=[(bb "due",.int k),(bb "told",.ref b.td),(bb "lines",.ref b.ln),(bb "desk",.ref b.d)]
structure HsF(K:bE)(t:aU):Prop where
 cl:Ae K t.q00
 n1:aL K t.q00 "due"
 n2:aL K t.q00 "told"
 n3:aL K t.q00 "lines"
 n4:aL K t.q00 "desk"
structure HsA(t:aU)(H:Hp)(x:B)(b:HAd)(lb:At)(k:Nat)(ts ls:LV):Prop where
 ix:H x=Y (.ins t.q00 b.dx (zle b k))
 ht:H b.td=Y (.lst ts)
 hl:H b.ln=Y (.lst ls)
 ne:b.td≠b.ln
 l0:lb x=0/\lb b.td=0/\lb b.ln=0
structure HsG(t:aU)(H:Hp)(x:B)(b:HAd)(a:Au)(lb:At)(n:Int)(g:zF)(CC:List Dl)(S:DS)(ts:LV):Prop where
 h:HsA t H x b lb S.en ts ((Aj g (CC.take S.en)).map V.str)
 an:Ah H ts (CC.take S.en)
 d:u8 t H b.d a lb n 0 g CC S
 o:aY n CC S
 gr:YX g
def HsN(x:B)(b:HAd)(a:At)(c:B):Prop:=a c≠0\/c=x\/c=b.td\/c=b.ln
def Ad(t:aU)(H:Hp)(x:B)(n:Int)(g:zF)(f:List Dl)(S:DS)(N:uZ):Prop:=∃b a d e,HsG t H x b a d n g f S e/\∀c,N c↔HsN x b d c
structure FrN(N N':uZ)(H H':Hp):Prop where
 kp:∀b o,¬ N b->H b=Y o->H' b=Y o
 ts:∀b zs,H b=Y (.tup zs)->H' b=Y (.tup zs)
 al:∀b o,H b=Y o->∃o',H' b=Y o'
 nw:∀b,N' b->N b\/H b=af
 up:∀b,N b->N' b
inductive wj(t:aU)(vs:LV)(H:Hp)(Q:VK)(_E:XK):Prop
 |mk (x w dx dw n wo g:_) (es:List Dl):vs=[.ref x,.str (kD (Aj g es)),.int n,.ref w]->YX g->zeY es->H x=Y (.ins t.q00 dx [])->H w=Y wo->((∀a:Au,a.dw=dw->zjw t a wo))->w≠x->(∀H' b a lb ts out,x8 x H H'->(∀c o,c≠x->c≠w->H c=Y o->¬ HsN x b lb c)->xA (g++giL es) out->HsA t H' x b lb es.length ts ((Aj g es).map V.str)->Ah H' ts es->(∀c,HsN x b lb c->∃o,H' c=Y o)->u8 t H' b.d a lb n es.length out [] S0->Q .non H')->wj t vs H Q _E
inductive vM(t:aU)(vs:LV)(H:Hp)(Q:VK)(_E:XK):Prop
 |mk (x:_) (e:Dl) (n g) (CC:List Dl) (S:DS) (N):vs=[.ref x,.str e.tx]->Ad t H x n g CC S N->e.ok->CC.length<10->(∀H' N',FrN N N' H H'->Ad t H' x n g (CC++[e]) { S with ws:=S.ws++[(CC.length:Int)] } N'->Q (.int CC.length) H')->vM t vs H Q _E
inductive vc(t:aU)(vs:LV)(H:Hp)(Q:VK)(_E:XK):Prop
 |mk (x:_) (b:HAd) (a:Au) (lb n g) (CC:List Dl) (S:DS) (k:Nat) (ts):vs=[.ref x]->HsA t H x b lb k ts ((Aj g (CC.take k)).map V.str)->Ah H ts (CC.take k)->k<=S.en->u8 t H b.d a lb n 0 g CC S->aY n CC S->(∀H' ts',(∀c o,c≠x->c≠b.td->c≠b.ln->H c=Y o->H' c=Y o)->HsA t H' x b lb S.en ts' ((Aj g (CC.take S.en)).map V.str)->Ah H' ts' (CC.take S.en)->Q .non H')->vc t vs H Q _E
inductive kE(t:aU)(vs:LV)(H:Hp)(Q:VK)(_E:XK):Prop
 |mk (x h n g CC:_) (S:DS) (N):vs=[.ref x,.int h]->Ad t H x n g CC S N->0<=h->h<n->(∀v H' N' S',FrN N N' H H'->Ad t H' x n g CC S' N'->Q v H')->kE t vs H Q _E
inductive xH(t:aU)(vs:LV)(H:Hp)(Q:VK)(_E:XK):Prop
 |mk (x n g:_) (CC:List Dl) (S:DS) (N):vs=[.ref x]->Ad t H x n g CC S N->1<=n->n<=8->(∀l xs H' N' S',FrN N N' H H'->¬ N' l->H l=af->H' l=Y (.lst xs)->(∀v∈xs,EvV H' v)->xs.length<=900->(S.en=CC.length->xs=[])->Ad t H' x n g CC S' N'->S'.en=CC.length->Q (.ref l) H')->xH t vs H Q _E
inductive vN(t:aU)(vs:LV)(H:Hp)(Q:VK)(_E:XK):Prop
 |mk (x n g CC:_) (S:DS) (N):vs=[.ref x]->Ad t H x n g CC S N->(∀H',aJ H H'->Q (.int S.en) H')->vN t vs H Q _E
inductive yT(t:aU)(vs:LV)(H:Hp)(Q:VK)(_E:XK):Prop
 |mk (x:_) (b:HAd) (a:Au) (lb) (k:Nat) (n f g) (CC:List Dl) (S:DS) (ts ls):vs=[.ref x]->HsA t H x b lb k ts ls->u8 t H b.d a lb n f g CC S->S.en<=CC.length->0<=f->zjx g S.ls->(∀l ac H',aJ H H'->H l=af->aV H' l ac->zdq (λp=>w6 g S.ls p (f+S.en)) ac->Q (.ref l) H')->yT t vs H Q _E
inductive jy(t:aU)(vs:LV)(H:Hp)(Q:VK)(_E:XK):Prop
 |mk (x n g:_) (CC:List Dl) (S:DS) (N):vs=[.ref x]->Ad t H x n g CC S N->(∀H',aJ H H'->Q (.str (kD (Aj g (CC.take S.en)))) H')->jy t vs H Q _E
inductive yQ(t:aU)(vs:LV)(H:Hp)(Q:VK)(_E:XK):Prop
 |mk (x b lb:_) (k:Nat) (ts ls):vs=[.ref x]->HsA t H x b lb k ts ls->(∀l2 H',aJ H H'->H l2=af->H' l2=Y (.lst ts)->Q (.ref l2) H')->yQ t vs H Q _E
def grR(r:Row):Prop:=(yK r.1.1=ae/\wB r.1.2)/\wB r.2/\r.2≠0
inductive kF(vs:LV)(H:Hp)(Q:VK)(_E:XK):Prop
 |mk (c a ws:_):vs=[.int c,.ref a]->Ap H a ws->ws.length=2->(∀l tab H',aJ H H'->H l=af->aV H' l tab->pv tab->(∀r∈tab,grR r)->tab.length<=5->Q (.ref l) H')->kF vs H Q _E
inductive uY(H:Hp):Nat->V->V->Prop
 |int {n:Nat} (i:Int):uY H (n+1) (.int i) (.int i)
 |str {n:Nat} (x:Str):uY H (n+1) (.str x) (.str x)
 |lst {n:Nat} {a b:B} {xs ys:LV}:H a=Y (.lst xs)->H b=Y (.lst ys)->xs.length=ys.length->(∀(i:Nat)(x y:V),xs[i]?=Y x->ys[i]?=Y y->uY H n x y)->uY H (n+1) (.ref a) (.ref b)
 |tup {n:Nat} {a b:B} {xs ys:LV}:H a=Y (.tup xs)->H b=Y (.tup ys)->xs.length=ys.length->(∀(i:Nat)(x y:V),xs[i]?=Y x->ys[i]?=Y y->uY H n x y)->uY H (n+1) (.ref a) (.ref b)
def yH(n:Nat):Sp:=λb H Q _=>∃v u,b=[v,u]/\uY H n v u/\∀a,aJ H a->Q (.bl ae) a
inductive TpV(H:Hp):Nat->V->Prop
 |int {n:Nat} (i:Int):TpV H (n+1) (.int i)
 |str {n:Nat} (x:Str):TpV H (n+1) (.str x)
 |tup {n:Nat} {a:B} {xs:LV}:H a=Y (.tup xs)->(∀x∈xs,TpV H n x)->TpV H (n+1) (.ref a)
def DeA(H:Hp)(b:At)(v:V)(e:Dl):Prop:=∃r o a,v=.ref r/\H r=Y (.tup [.str e.tx,o,.ref a])/\za H o e.oc/\aV H a e.gi/\b a=0
def HeA(H:Hp)(c:At)(v:V):Prop:=∃r l b a,v=.ref r/\H r=Y (.tup [.ref l,.ref b])/\H l=Y (.lst a)/\H b=Y (.lst a)/\a.length<=900/\(∀y∈a,TpV H 4 y)/\c l=0/\c b=0
def kG(t:aU):Sp:=λc H Q _=>∃g n k,c=[.str (kD (Aj g [])),.int n,.int k]/\YX g/\∀x N a,aJ H a->(∀b o,H b=Y o->¬ N b)->Ad t a x n g [] S0 N->Q (.ref x) a
def Yt:Sp:=λf H Q _=>∃c,f=[.int c]/\∀v e a,aJ H a->e.ok->(∀d:At,(∀b,d b≠0->∃o,H b=Y o)->DeA a d v e)->Q v a
inductive wc(t:aU)(vs:LV)(H:Hp)(Q:VK)(_E:XK):Prop
 |mk (x d tl hl b n g CC:_) (S:DS) (N lw) (ds hs:LV):vs=[.ref x,.ref d,.ref tl,.bl b,.ref hl]->Ad t H x n g CC S N->((∀c,N c->lw c≠0))->((∀c,lw c≠0->∃o,H c=Y o))->H d=Y (.lst ds)->Bl (DeA H lw) ds CC->aV H tl g->H hl=Y (.lst hs)->¬ N hl->hl≠d->hl≠tl->lw hl≠0->hs.length<=400->(∀H' u w,x8 hl H H'->H' hl=Y (.lst (hs++[u,w]))->HeA H' lw u->HeA H' lw w->Q (.bl ae) H')->wc t vs H Q _E
inductive sp_law(K:bE)(vs:LV)(H:Hp)(Q:VK)(_E:XK):Prop
 |mk (a:_) (ns:yz):vs=[.ref a]->aM K H a (ns.map V.int)->ns.length<=63->(∀i∈ns,Cb i)->(∀H',Q (.bl ae) H')->sp_law K vs H Q _E
section
variable(K:bE)(t:aU)
def Yu(K:bE)(t:aU):TS:=zB (yp (vj zm) (zG 2)) (zB (yp (aO aC (aO ad (ze 0) (tC (.int 1000003))) (tC (.int 17))) (zG 3)) (zB (yp (aO aC (aO ad (aO aD (ze 0) (tC (.int 1000003))) (tC (.int 999983))) (tC (.int 29))) (zG 4)) (zB (Zl (zcd (zf (ze 1) zm)) (zG 5) (zB (yp (aO ad (aO aC (aO aC (aO aF (ze 3) (ze 3)) (aO aF (tC (.int 3)) (ze 4))) (ze 5)) (tC (.int 1000003))) (zG 3)) (zB (yp (aO ad (aO aC (aO aC (aO aF (ze 4) (ze 3)) (aO aF (tC (.int 7)) (ze 3))) (tC (.int 11))) (tC (.int 999983))) (zG 4)) (yL (Av K "list" yt (ze 2) (zf (aO aC (aO aF (ze 3) (tC (.int 999983))) (ze 4)) zm)))))) (yw (ze 2)))))
def VG(K:bE)(t:aU):TS:=zB (yp (uS (zl7 K) (zf (kS (zma (zf (ze 0) zm)) (za1 K 2 (vY (zG 0) (vY (zG 1) za0))) Qd (aO aF (uS zoO (zf (ze 1) zm)) (aO aC (tC (.int 1)) (aO ad (ze 0) (tC (.int 1008))))) 2 []) zm)) (zG 1)) (yw (Av K "str" JW (uS zmB (zf (aO ad (ze 1) (tC (.int 1009))) zm)) (zf (tC (.int 4)) zm)))
def YZ(K:bE)(t:aU):TS:=zB (yp (Av K "str" (WC K) (tC (.str " ")) (zf (ze 0) zm)) (zG 1)) (yw (aO zh5 (aO zh5 (ze 1) (tC (.str " "))) (zZ j8 [] E0 (zf (ze 1) zm))))
def Y0(K:bE)(t:aU):TS:=yw (uS zmB (zf (ze 0) zm))
def ZJ(K:bE)(t:aU):TS:=yL (Av K "list" zcW (ze 1) (zf (vj (zf (aO (wb K) (ze 2) (tC (.int 0))) (zf (zZ jM [] E0 (zf (aO (wb K) (ze 2) (tC (.int 1))) zm)) (zf (zZ jM [] E0 (zf (ze 3) zm)) zm)))) zm))
def X2:TS:=zB (yp (vj zm) (zG 1)) (zB (Zl (qS K (ze 0)) (za1 K 2 (vY (zG 2) (vY (zG 3) za0))) (ZJ K t)) (yw (ze 1)))
def ZK(K:bE)(t:aU):TS:=yw (zmo (aO zcx (yR K (ze 0) "why") (tC .non)) (aO (rI0 λi j=>.bl (decide (j<=i))) (yR K (ze 0) "at") (uS (kO K) (zf (yR K (ze 0) "code") zm))))
def Qz(K:bE)(t:aU):TS:=zB (yp (zem K "list" kX (ze 2)) (zG 4)) (zB (yp (zem K "list" kX (ze 2)) (zG 5)) (yL (Av K "list" yt (ze 2) (zf (zZ zaL [] E0 (zf (ze 3) (zf (ze 5) (zf (ze 4) zm)))) zm))))
def QA(K:bE)(t:aU):TS:=yL (Av K "list" yt (ze 2) (zf (tIf (tB (uS (Yg K) (zf (ze 3) (zf (tC (.ty "str")) zm)))) (JC (ze 1) (ze 3) (tC (.int 0))) (ze 3)) zm))
def Yv:TS:=yF (yb (aO (rIn K ah) (ze 3) (tC (.ref t.q0c)))) (Qz K t) (QA K t)
def VH:TS:=zB (yp (vj zm) (zG 2)) (zB (Zl (zmq K (ze 0)) (zG 3) (Yv K t)) (yw (zem K "list" kX (ze 2))))
def QB:TS:=zB (yL (yk t.q03 "heed_fold" (xE t) [] E0 (ze 0) (zf (ze 2) zm))) (zB (yp (JC (yR K (ze 0) "ranks") (ze 1) (vj zm)) (zG 3)) (zB (yp (zZ wf [] E0 (zf (ze 3) (zf (ze 2) zm))) (zG 4)) (zB (yF (yb (aO rEq (ze 4) (tC (.int 0)))) (yw (JC (yR K (ze 0) "ground") (ze 1) (tC (.int 0))))
   ym) (yw (Q8 (Q8 (yR K (ze 0) "worths") (aO (y9 K) (ze 3) (aO aE (ze 4) (tC (.int 1))))) (ze 1))))))
def VI:TS:=zB (yF (tB (yk t.q01 "over" (jc t) [] E0 (ze 0) zm))
   zlN
   ym) (xD K (ze 0) (yk t.q01 "led_by" (kB t) [] E0 (ze 0) (zf (aO (y9 K) (yR K (ze 0) "code") (yR K (ze 0) "at")) (zf (ze 1) zm))) "at")
def kH:TS:=zB (yp (yk t.q05 "changed_note" (xT t) [] E0 (ze 0) (zf (ze 2) zm)) (zG 3)) (zB (yF (yb (aO zcx (ze 3) (tC .non))) (yw (aO (zcm K) (xO (zf (ze 2) zm)) (ze 3)))
   ym) (yL (zeo (yR K (ze 0) "doubted") (ze 2))))
def kj(K:bE)(t:aU):TS:=zB (yp (aO ad (yR K (ze 0) "times") (uS (kO K) (zf (ze 1) zm))) (zG 2)) (zB (za2 K (ze 0) (tC (.int 1)) zmt "times") (yw (aO (y9 K) (ze 1) (ze 2))))
def ZM(K:bE)(t:aU):TS:=zB (xD K (ze 0) (uS (zef K) (zf (ze 1) zm)) "code") (zB (xD K (ze 0) (tC (.int 0)) "at") (zB (xD K (ze 0) (tC .non) "why") (zB (xD K (ze 0) Wx "slots") (zB (xD K (ze 0) JB "gifts") (zB (xD K (ze 0) JB "notes") (xD K (ze 0) (vj zm) "sayings"))))))
def jQ:TS:=zB (yL (Av K "list" Vj (yR K (ze 0) "waiting") (zf (ze 2) zm))) (zB (Xh (yR K (ze 0) "held") (ze 1) (xO (zf (ze 2) (zf (Xf t.q01 (kb t) [] E0 (zf (aO (y9 K) (yR K (ze 0) "codes") (aO aE (ze 2) (yR K (ze 0) "first"))) zm)) zm)))) (yw (xO (zf (tC (.str "take")) (zf (ze 1) (zf (ze 2) zm))))))
def ZO:TS:=zB (yL (Av K "list" yt (yR K (ze 0) "ended") (zf (yk t.q05 "take_off" (xZ t) [] E0 (yR K (ze 0) "jobs") (zf (ze 2) zm)) zm))) (yw (xO (zf (tC (.str "settle")) (zf (ze 1) (zf (ze 2) zm)))))
def jd:TS:=zB (yF (yb (aO (zbn K) (yR K (ze 0) "waiting") (vj zm))) (yw (yk t.q02 "taken_up" (vL t) [] E0 (ze 0) (zf (ze 1) zm)))
   ym) (yw (xO (zf (tC (.str "rest")) (zf (ze 1) zm))))
def ZP(K:bE)(t:aU):TS:=Zl (qS K (ze 2)) (zG 3) (yL (zZ qG [] E0 (zf (yR K (ze 0) "ranks") (zf (ze 3) (zf (ze 1) zm)))))
def ZQ(K:bE)(t:aU):TS:=Xh (yR K (ze 0) "worths") (ze 1) (ze 3)
def ZR:TS:=zB (znZ (Zl (iDT (ze 3)) (zG 4) (yL (zZ j9 [] E0 (zf (yR K (ze 0) "ranks") (zf (ze 4) (zf (ze 1) zm))))))) (ZQ K t)
def zbC:TS:=zB (yL (yk t.q03 "heed_fold" (xE t) [] E0 (ze 0) (zf (ze 1) zm))) (zB (yL (yk t.q03 "take_away" (wH t) [] E0 (ze 0) (zf (ze 1) zm))) (zB (yp (uS ziD (zf (ze 2) zm)) (zG 3)) (ZR K t)))
def Y1(K:bE)(t:aU):TS:=zB (Xh (yR K (ze 0) "doubted") (ze 1) (tC (.bl ae))) (Zl (qS K (aO (wb K) (ze 2) (tC (.int 1)))) (za1 K 2 (vY (zG 4) (vY (zG 5) za0))) (yL (zZ j9 [] E0 (zf (yR K (ze 0) "readers") (zf (ze 4) (zf (ze 1) zm))))))
def jR:TS:=zB (Xh (yR K (ze 0) "laid") (ze 1) (ze 2)) (Y1 K t)
def ZS(K:bE)(t:aU):TS:=zB (yF (yb (aO zcx (yR K (ze 0) "why") (tC .non))) (yw (xO (zf (xO (zf (tC (.str "off")) (zf (yR K (ze 0) "why") zm))) (zf (ze 1) (zf (vj zm) zm)))))
   ym) (yw (xO (zf (xO (zf (tC (.str "done")) (zf (uS (znO K) (zf (yR K (ze 0) "sayings") zm)) zm))) (zf (ze 1) (zf (uS zl1 (zf (zeD (yR K (ze 0) "gifts")) zm)) zm)))))
def ZU:TS:=zB (yL (zeo (yR K (ze 0) "held") (ze 1))) (zB (yL (yk t.q05 "lay_down" (vK t) [] E0 (yR K (ze 0) "jobs") (zf (ze 2) (zf (yk t.q01 "paper" (X0 t) [] E0 (ze 3) zm) zm)))) (yw (xO (zf (tC (.str "lay")) (zf (ze 1) (zf (ze 2) zm))))))
def ZV:TS:=zB (yp (yk t.q01 "asks" (VC t) [] E0 (ze 3) zm) (zG 4)) (zB (yF (yb (aO zov (ze 4) (tC .non))) (zB (yL (yk t.q01 "step" (kc t) [.int 0] E0 (ze 3) zm)) (yw (xO (zf (tC (.str "step")) (zf (ze 1) (zf (ze 2) zm))))))
   ym) (zB (yp (yk t.q03 "seen" (vU t) [] E0 (yR K (ze 0) "makes") (zf (ze 4) (zf (ze 2) zm))) (zG 5)) (zB (yL (yk t.q01 "step" (kc t) [] E0 (ze 3) (zf (ze 5) zm))) (yw (xO (zf (tC (.str "read")) (zf (ze 1) (zf (ze 2) (zf (ze 4) (zf (ze 5) zm))))))))))
def Ks:TS:=zB (yp (aO (wb K) (Q8 (yR K (ze 0) "held") (ze 1)) (tC (.int 0))) (zG 2)) (zB (yp (aO (wb K) (Q8 (yR K (ze 0) "held") (ze 1)) (tC (.int 1))) (zG 3)) (zB (yF (tB (yk t.q01 "over" (jc t) [] E0 (ze 3) zm)) (ZU K t)
   ym) (ZV K t)))
def kI(K:bE)(t:aU):TS:=zB (yL (Av K "list" yt (yR K (ze 0) "lines") (zf (zZ qD [] E0 (zf (yR K (ze 0) "due") (zf (ze 1) zm))) zm))) (zB (yL (Av K "list" yt (yR K (ze 0) "told") (zf (xO (zf (yR K (ze 0) "due") (zf (aO (wb K) (ze 1) (tC (.int 0))) zm))) zm))) (za2 K (ze 0) (tC (.int 1)) zmt "due"))
def Kt:TS:=zB (yF (tOr (yb (aO rEq (ze 0) (tC (.str "")))) (yb (aO (rI0 λi j=>.bl (decide (j<i))) (uS (kO K) (zf (ze 0) zm)) (tC (.int 6))))) (yw (tC (.bl ah)))
   ym) (zB (yF (tOr (yb (aO (rIn K ah) (ze 0) (tC (.ref t.q0c)))) (yb (aO (rIn K ah) (ze 0) (tC (.ref t.q17))))) (yw (tC (.bl ah)))
   ym) (yw (uS (zkz K) (zf (kS (zkA (ze 0)) (zG 0) Qd (aO zmA (ze 0) (tC (.str "abcdefghijklmnopqrstuvwxyz"))) 1 []) zm))))
def ZW(K:bE)(t:aU):TS:=zB (yF (Xc (tB (zZ YS [] E0 (zf (ze 0) zm))))
   xC
   ym) (yw (ze 0))
def VJ(K:bE)(t:aU):TS:=zB (yF (tOr (Xc (tB (uS (Yg K) (zf (ze 0) (zf (tC (.ty "int")) zm))))) (tB (uS (Yg K) (zf (ze 0) (zf (tC (.ty "bool")) zm))))) (yw (tC (.bl ah)))
   ym) (yw (zed (rI0 λi j=>.bl (decide (i<=j))) (rI0 λi j=>.bl (decide (i<=j))) (tUn (rU λi=>.int (-i)) (aO (rI zhO λi j=>.int (i^j.toNat)) (tC (.int 10)) (tC (.int 30)))) (ze 0) (aO (rI zhO λi j=>.int (i^j.toNat)) (tC (.int 10)) (tC (.int 30)))))
def kJ(K:bE)(t:aU):TS:=yw (Va (aO rNe (ze 0) (tC (.str ""))) (uS (zkz K) (zf (kS (zkA (ze 0)) (zG 0) Qd (aO zmA (ze 0) (tC (.str "0123456789"))) 1 []) zm)))
def Zd(K:bE)(t:aU):TS:=zB (yF (tOr (yb (aO (rI0 λi j=>.bl (decide (j<i))) (uS (kO K) (zf (ze 1) zm)) (tC (.int 31)))) (Xc (tB (zZ Yp [] E0 (zf (ze 1) zm))))) (yw (tC (.bl ah)))
   ym) (zB (yp (uS znH (zf (ze 0) zm)) (zG 2)) (yw (Va (zZ (Vz K) [] E0 (zf (ze 2) zm)) (aO rEq (zZ jM [] E0 (zf (ze 2) zm)) (ze 0)))))
def Yw:TS:=zB (yp (tIf (tB (Av K "str" qU (ze 0) (zf (tC (.str "-")) zm))) (tSl znI (ze 0) (qT (tC (.int 1))) jV) (ze 0)) (zG 1)) (Zd K t)
def X4(K:bE)(t:aU):TS:=zB (yp (xO (zf (zZ VA [] E0 (zf (aO (y9 K) (ze 0) (ze 2)) zm)) (zf (zZ xY [] E0 (zf (aO (y9 K) (ze 0) (aO aC (ze 2) (tC (.int 1)))) zm)) zm))) (zG 3)) (yL (Av K "list" yt (ze 1) (zf (xO (zf (ze 3) (zf (zZ xY [] E0 (zf (aO (y9 K) (ze 0) (aO aC (ze 2) (tC (.int 2)))) zm)) zm))) zm)))
def qK(K:bE)(t:aU):TS:=zB (yF (yb (aO (zmQ K ae) (ze 4) (zji K (zf (ze 4) zm))))
   xC
   ym) (yw (ze 1))
def X5:TS:=zB (yp (kS (qS K (ze 1)) (za1 K 2 (vY (zG 0) (vY (zG 1) za0))) Qd (ze 0) 2 []) (zG 4)) (qK K t)
def Ku:TS:=zB (yF (yb (aO rNe (aO ad (uS (kO K) (zf (ze 0) zm)) (tC (.int 3))) (tC (.int 0))))
   xC
   ym) (zB (yp (vj zm) (zG 1)) (zB (Zl (zl5 (zf (tC (.int 0)) (zf (uS (kO K) (zf (ze 0) zm)) (zf (tC (.int 3)) zm)))) (zG 2) (X4 K t)) (X5 K t)))
def Yx:TS:=zB (yF (yb (aO (zmJ K ah) (tSl (Qc K) (ze 0) jV (qT (tC (.int 1)))) (vj (zf (tC (.str "done")) zm)))) (yw (xO (zf (tC (.str "done")) (zf (uS (znO K) (zf (kS (qS K (tSl (Qc K) (ze 0) (qT (tC (.int 1))) jV)) (zG 0) Qd (zZ xY [] E0 (zf (ze 0) zm)) 1 []) zm)) zm))))
   ym) (zB (yF (zgu (yb (aO rEq (uS (kO K) (zf (ze 0) zm)) (tC (.int 2)))) (zgu (yb (aO rEq (aO (y9 K) (ze 0) (tC (.int 0))) (tC (.str "off")))) (yb (aO (rIn K ah) (aO (y9 K) (ze 0) (tC (.int 1))) (tC (.ref t.q1j)))))) (yw (xO (zf (tC (.str "off")) (zf (aO (y9 K) (ze 0) (tC (.int 1))) zm))))
   ym)
  xC)
def Y2(K:bE)(t:aU):TS:=zB (yp (zZ xY [] E0 (zf (ze 0) zm)) (zG 1)) (zB (yF (tOr (yb (aO aG (ze 1) (tC (.int 0)))) (yb (aO (rI0 λi j=>.bl (decide (j<i))) (ze 1) (aO (rI zhO λi j=>.int (i^j.toNat)) (tC (.int 10)) (tC (.int 29))))))
   xC
   ym) (yw (ze 1)))
def Kv(K:bE)(t:aU):TS:=zB (yF (yb (aO rNe (uS (kO K) (zf (ze 0) zm)) (tC (.int 2))))
   xC
   ym) (zB (yF (tB (uS (zn5 K) (zf (kS (qS K (ze 1)) (za1 K 2 (vY (zG 0) (vY (zG 1) za0))) Qd (aO rEq (ze 1) (tC (.int 0))) 2 []) zm)))
   xC
   ym) (yw (xO (zf (tC (.str "mark")) (zf (zZ Kj [] E0 (zf (aO (y9 K) (ze 0) (tC (.int 1))) zm)) (zf (ze 1) zm))))))
def Kw(K:bE)(t:aU):TS:=zB (yp (Av K "str" qV (ze 0) (zf (tC (.str " ")) zm)) (zG 1)) (zB (yF (yb (aO rNe (aO (wb K) (ze 1) (tC (.int 2))) (zZ j8 [] E0 (zf (aO (wb K) (ze 1) (tC (.int 0))) zm))))
   xC
   ym) (yw (aO (wb K) (ze 1) (tC (.int 0)))))
def xz(K:bE)(t:aU):TS:=zB (yF (yb (aO rEq (aO (y9 K) (ze 1) (tC (.int 0))) (tC (.str "deal")))) (yw (zZ YU [] E0 (zf (tSl (Qc K) (ze 1) jV (qT (ze 2))) (zf (ze 3) zm))))
   ym) (zB (yF (yb (aO rEq (aO (y9 K) (ze 1) (tC (.int 0))) (tC (.str "mark")))) (yw (zZ qF [] E0 (zf (tSl (Qc K) (ze 1) jV (qT (ze 2))) (zf (ze 3) zm))))
   ym)
  xC)
def jS:TS:=zB (yp (zZ qE [] E0 (zf (tSl (Qc K) (ze 1) (qT (aO aC (ze 2) (tC (.int 1)))) jV) zm)) (zG 3)) (xz K t)
def jT:TS:=zB (yF (yb (aO (rIn K ae) (tC (.str ";")) (ze 1)))
   xC
   ym) (zB (yp (Av K "list" YL (ze 1) (zf (tC (.str ";")) zm)) (zG 2)) (jS K t))
def jA:TS:=zB (yp (Av K "str" vH (zZ YV [] E0 (zf (ze 0) zm)) (zf (tC (.str " ")) zm)) (zG 1)) (jT K t)
def kK(K:bE)(t:aU):TS:=zB (xD K (ze 0) (uS ziD (zf (ze 1) zm)) "ground") (zB (xD K (ze 0) (tC (.int 0)) "folded") (zB (xD K (ze 0) Wx "worths") (xD K (ze 0) JB "ranks")))
def qL(K:bE)(t:aU):TS:=zB (xD K (ze 0) (ze 1) "makes") (zB (xD K (ze 0) Wx "laid") (zB (xD K (ze 0) JB "readers") (xD K (ze 0) Wx "doubted")))
def qM:TS:=zB (xD K (ze 0) (ze 2) "hands") (zB (xD K (ze 0) (ze 3) "way") (zB (xD K (ze 0) (ze 4) "first") (zB (xD K (ze 0) (vj zm) "codes") (zB (xD K (ze 0) (vj zm) "waiting") (zB (xD K (ze 0) Wx "held") (zB (xD K (ze 0) (Xf t.q03 (vT t) [] E0 (zf (ze 1) zm)) "makes") (zB (xD K (ze 0) (Xf t.q05 (qJ t) [] E0 (zf (yR K (ze 0) "makes") zm)) "jobs") (xD K (ze 0) (vj zm) "ended"))))))))
def Yy:TS:=zB (yp (zZ Kq [] E0 (zf (ze 1) zm)) (zG 4)) (zB (xD K (ze 0) (aO (wb K) (ze 4) (tC (.int 0))) "due") (zB (xD K (ze 0) (aO (wb K) (ze 4) (tC (.int 2))) "told") (zB (xD K (ze 0) (zZ VE [] E0 (zf (ze 1) zm)) "lines") (xD K (ze 0) (Xf t.q02 (jx t) [] E0 (zf (aO (wb K) (ze 4) (tC (.int 1))) (zf (ze 2) (zf (ze 3) (zf (yR K (ze 0) "due") zm))))) "desk"))))
def Ze(K:bE)(t:aU):TS:=zB (yF (yb (aO aG (ze 1) (uS (kO K) (zf (ze 0) zm)))) (yw (aO (y9 K) (ze 0) (ze 1)))
   ym) (yw (tC (.int 0)))
def Zf(K:bE)(t:aU):TS:=xD K (ze 0) (tC (.int 0)) "times"
def kL(K:bE)(t:aU)(n:Nat):TS:=zB (yF (tOr (tB (uS (Yg K) (zf (ze 1) (zf (tC (.ty "list")) zm)))) (tB (uS (Yg K) (zf (ze 1) (zf (tC (.ty "tuple")) zm))))) (zB (yF (zgu (Xc (tB (uS (Yg K) (zf (ze 0) (zf (tC (.ty "list")) zm))))) (Xc (tB (uS (Yg K) (zf (ze 0) (zf (tC (.ty "tuple")) zm)))))) (yw (tC (.bl ah)))
   ym) (zB (yF (tOr (yb (aO rNe (uS (Yg K) (zf (ze 0) (zf (tC (.ty "list")) zm))) (uS (Yg K) (zf (ze 1) (zf (tC (.ty "list")) zm))))) (yb (aO rNe (uS (kO K) (zf (ze 0) zm)) (uS (kO K) (zf (ze 1) zm))))) (yw (tC (.bl ah)))
   ym) (zB (Zl (zl6 K (zf (ze 0) (zf (ze 1) zm))) (za1 K 2 (vY (zG 2) (vY (zG 3) za0))) (yF (Xc (tB (zZ (yH  n) [] E0 (zf (ze 2) (zf (ze 3) zm))))) (yw (tC (.bl ah)))
   ym)) (yw (tC (.bl ae))))))
   ym) (zB (yF (tB (uS (Yg K) (zf (ze 1) (zf (tC (.ty "str")) zm)))) (yw (Va (uS (Yg K) (zf (ze 0) (zf (tC (.ty "str")) zm))) (aO rEq (ze 0) (ze 1))))
   ym) (yw (Va (uS (Yg K) (zf (ze 0) (zf (tC (.ty "int")) zm))) (Va (zlM (uS (Yg K) (zf (ze 0) (zf (tC (.ty "bool")) zm)))) (aO rEq (ze 0) (ze 1))))))
def ZX:TS:=yw (zZ ZG [] E0 (zf (kS (qS K (ze 2)) (zG 0) Qd (xO (zf (ze 0) (zf (yk t.q03 "seen" (vU t) [] E0 (ze 1) (zf (ze 0) (zf (ze 2) zm))) zm))) 1 [0,1]) zm))
def Zg(K:bE)(t:aU):TS:=zB (xD K (ze 0) (vj zm) "rows") (zB (xD K (ze 0) (vj zm) "blocks") (xD K (ze 0) (vj zm) "turned"))
def qf(K:bE)(t:aU):TS:=zB (xD K (ze 0) (ze 1) "words") (zB (xD K (ze 0) (ze 2) "number") (xD K (ze 0) (tC (.int 0)) "at"))
def ZY:TS:=zB (yp (tC (.int 1)) (zG 2)) (zB (yp (ze 1) (zG 3)) (zB (zhM (yb (aO (rI0 λi j=>.bl (decide (j<i))) (ze 2) (tC (.int 0)))) (zB (yF (yb (aO (rI0 λi j=>.bl (decide (j<=i))) (ze 3) (uS (kO K) (zf (ze 0) zm))))
   xC
   ym) (zB (yF (yb (aO rEq (aO aE (ze 3) (ze 1)) (tC (.int 60))))
   xC
   ym) (zB (yp (tIf (yb (aO (rIn K ah) (aO (y9 K) (ze 0) (ze 3)) (tC (.ref t.q0c)))) (aO aC (ze 2) (tC (.int 1))) (aO aE (ze 2) (tC (.int 1)))) (zG 2)) (znz 3 (tC (.int 1)) (ipI λi j=>i+j)))))) (yw (ze 3))))
def Kx(K:bE)(t:aU):TS:=zB (yp (zem K "list" kX (ze 3)) (zG 5)) (zB (yp (zem K "list" kX (ze 3)) (zG 6)) (yL (Av K "list" yt (ze 3) (zf (aO (zcm K) (aO (zcm K) (ze 5) (ze 6)) (xO (zf (ze 4) zm))) zm))))
def Ky(K:bE)(t:aU):TS:=yL (Av K "list" yt (ze 3) (zf (xO (zf (zZ Km [] E0 (zf (ze 4) zm)) zm)) zm))
def Kz(K:bE)(t:aU):TS:=yw (xO (zf (zem K "list" kX (ze 3)) (zf (ze 2) zm)))
def X7:TS:=zB (yp (zZ va [] E0 (zf (ze 0) (zf (ze 1) zm))) (zG 2)) (zB (yp (vj zm) (zG 3)) (zB (Zl (znM K (zf (tSl (Qc K) (ze 0) (qT (ze 1)) (qT (ze 2))) zm)) (zG 4) (yF (yb (aO (rIn K ah) (ze 4) (tC (.ref t.q0c)))) (Kx K t) (Ky K t))) (Kz K t)))
def zaM:TS:=zB (yp (Av K "str" vH (ze 0) (zf (tC (.str " ")) zm)) (zG 2)) (zB (yF (tOr (yb (aO (rI0 λi j=>.bl (decide (j<=i))) (ze 1) (tC (.int 40)))) (yb (aO (rI0 λi j=>.bl (decide (j<i))) (uS (kO K) (zf (ze 2) zm)) (tC (.int 60)))))
   xC
   ym) (zB (yp (Xf t.q07 (vI t) [] E0 (zf (ze 2) (zf (ze 1) zm))) (zG 3)) (zB (yp (zZ (qI t) [] E0 (zf (ze 3) zm)) (zG 4)) (zB (yL (yk t.q07 "draw_end" (xS t) [] E0 (ze 3) zm)) (yw (ze 4))))))
def zaN(K:bE)(t:aU):TS:=zB (yF (yb (aO (zbn K) (yR K (ze 2) "blocks") (vj zm)))
   xC
   ym) (yw (yR K (ze 2) "rows"))
def zhg:TS:=zB (Zl (zn3 K (zf (ze 1) zm)) (za1 K 2 (vY (zG 3) (vY (zG 4) za0))) (yL (yk t.q04 "reads" (vJ t) [] E0 (ze 2) (zf (zZ WT [] E0 (zf (ze 4) (zf (ze 3) zm))) (zf (ze 3) zm))))) (zaN K t)
def zhh:TS:=zB (yp (Xf t.q04 (jh t) [] E0 zm) (zG 2)) (zhg K t)
def zfZ:TS:=zB (yp (tIf (yb (aO rNe (ze 0) (tC (.str "")))) (Av K "str" vH (ze 0) (zf (tC (.str "\n")) zm)) (vj zm)) (zG 1)) (zhh K t)
def ve(K:bE)(t:aU):TS:=zB (yp (aO (y9 K) (ze 1) (aO aE (ze 5) (tC (.int 1)))) (zG 10)) (yw (zZ (yH  6) [] E0 (zf (zZ XW [] E0 (zf (aO (y9 K) (ze 9) (ze 5)) zm)) (zf (xO (zf (tC (.str "deal")) (zf (aO aE (ze 5) (tC (.int 1))) (zf (aO (wb K) (ze 10) (tC (.int 1))) (zf (aO (wb K) (ze 10) (tC (.int 2))) zm))))) zm))))
def vf:TS:=zB (yp (Av K "str" vH (yk t.q00 "log" (jy t) [] E0 (ze 0) zm) (zf (tC (.str "\n")) zm)) (zG 9)) (zB (yF (tOr (yb (aO rNe (uS (kO K) (zf (ze 9) zm)) (aO aC (ze 5) (tC (.int 2))))) (yb (aO rNe (aO (y9 K) (ze 9) (tUn (rU λi=>.int (-i)) (tC (.int 1)))) (tC (.str ""))))) (yw (tC (.bl ah)))
   ym) (zB (yF (yb (aO rEq (ze 5) (tC (.int 0)))) (yw (tC (.bl ae)))
   ym) (ve K t)))
def vg:TS:=zB (yL (Av K "list" yt (yk t.q00 "table" (yT t) [] E0 (ze 0) zm) (zf (xO (zf (xO (zf (tC (.str "zz")) (zf (tC (.int 1)) zm))) (zf (tC (.int 1)) zm))) zm))) (zB (yL (Av K "list" yt (yk t.q00 "answers" (yQ t) [] E0 (ze 0) zm) (zf (xO (zf (ze 5) (zf (xO (zf (tC (.str "off")) (zf (tC (.str "told")) zm))) zm))) zm))) (vf K t))
def vx:TS:=zB (yL (Av K "list" yt (ze 4) (zf (xO (zf (ze 7) (zf (uS (zef K) (zf (ze 7) zm)) zm))) zm))) (zB (yL (Av K "list" yt (ze 4) (zf (xO (zf (ze 8) (zf (uS (zef K) (zf (ze 8) zm)) zm))) zm))) (vg K t))
def vy:TS:=zB (yp (yk t.q00 "table" (yT t) [] E0 (ze 0) zm) (zG 8)) (zB (yF (Xc (tB (zZ (yH  6) [] E0 (zf (ze 8) (zf (ze 2) zm))))) (yw (tC (.bl ah)))
   ym) (vx K t))
def vz:TS:=zB (yp (yk t.q00 "answers" (yQ t) [] E0 (ze 0) zm) (zG 7)) (zB (yF (Xc (tB (zZ (yH  6) [] E0 (zf (ze 7) (zf (kS (zcd (zf (ze 5) zm)) (zG 0) Qd (xO (zf (ze 0) (zf (aO (wb K) (aO (y9 K) (ze 1) (ze 0)) (tC (.int 1))) zm))) 1 [1]) zm))))) (yw (tC (.bl ah)))
   ym) (vy K t))
def vA:TS:=zB (yF (zgu (tB (ze 3)) (Xc (tB (zZ (yH  6) [] E0 (zf (yk t.q00 "table" (yT t) [] E0 (ze 0) zm) (zf (ze 2) zm)))))) (yw (tC (.bl ah)))
   ym) (vz K t)
def Zk:TS:=zB (Zl (zcd (zf (ze 5) zm)) (zG 6) (yp (zZ YY [] E0 (zf (ze 2) (zf (aO (wb K) (aO (y9 K) (ze 1) (ze 6)) (tC (.int 2))) zm))) (zG 2))) (vA K t)
def KA:TS:=yF (Xc (tB (zZ (wc t) [] E0 (zf (aO (y9 K) (ze 5) (ze 10)) (zf (aO (y9 K) (ze 6) (ze 10)) (zf (ze 1) (zf (aO rEq (aO ad (aO aD (aO (y9 K) (ze 0) (ze 8)) (tC (.int 64))) (tC (.int 2))) (tC (.int 0))) (zf (ze 7) zm)))))))) (yw (tC (.bl ah)))
   ym
def zds:TS:=yF (yb (aO rEq (ze 8) (tC (.int 10)))) (zB (yp (yk t.q00 "finish" (xH t) [] E0 (aO (y9 K) (ze 5) (tC (.int 1))) zm) (zG 11)) (yL (Av K "list" yt (ze 7) (zf (xO (zf (ze 11) (zf (uS (zef K) (zf (ze 11) zm)) zm))) zm))))
   ym
def zdt:TS:=zB (yp (aO ad (aO aD (aO (y9 K) (ze 0) (ze 8)) (tC (.int 32))) (tC (.int 2))) (zG 9)) (zB (Zl (zmq K (xO (zf (ze 9) (zf (aO aE (tC (.int 1)) (ze 9)) zm)))) (zG 10) (KA K t)) (zds K t))
def zjz(K:bE)(t:aU):TS:=yF (Xc (tB (zZ (yH  6) [] E0 (zf (ze 13) (zf (ze 14) zm))))) (yw (tC (.bl ah)))
   ym
def zdu:TS:=yF (yb (aO aG (ze 8) (tC (.int 10)))) (zB (yL (Av K "list" yt (aO (y9 K) (ze 6) (ze 9)) (zf (zZ Yt [] E0 (zf (aO aD (aO (y9 K) (ze 0) (ze 8)) (tC (.int 2))) zm)) zm))) (yF (yb (aO rNe (yk t.q00 "hand_in" (vM t) [] E0 (aO (y9 K) (ze 5) (ze 9)) (zf (aO (wb K) (aO (y9 K) (aO (y9 K) (ze 6) (ze 9)) (tUn (rU λi=>.int (-i)) (tC (.int 1)))) (tC (.int 0))) zm)) (aO aE (uS (kO K) (zf (aO (y9 K) (ze 6) (ze 9)) zm)) (tC (.int 1))))) (yw (tC (.bl ah)))
   ym))
   ym
def zdv:TS:=zB (yp (aO ad (aO aD (aO (y9 K) (ze 0) (ze 8)) (tC (.int 2))) (tC (.int 2))) (zG 9)) (zB (yL (yk t.q00 "move" (kE t) [] E0 (aO (y9 K) (ze 5) (ze 9)) (zf (aO ad (aO aD (aO (y9 K) (ze 0) (ze 8)) (tC (.int 4))) (aO (y9 K) (ze 3) (ze 9))) zm))) (zdt K t))
def KB:TS:=zB (yp (aO ad (aO (y9 K) (ze 0) (ze 8)) (tC (.int 2))) (zG 9)) (zB (zdu K t) (zdv K t))
def zaO:TS:=zB (yp (Xf t.q00 (wj t) [] E0 (zf (yk t.q00 "log" (jy t) [] E0 (aO (y9 K) (ze 5) (tC (.int 0))) zm) (zf (tC (.int 1)) (zf (ziZ t.q0h) zm)))) (zG 15)) (yw (Va (zZ (yH  6) [] E0 (zf (yk t.q00 "answers" (yQ t) [] E0 (ze 15) zm) (zf (yk t.q00 "answers" (yQ t) [] E0 (aO (y9 K) (ze 5) (tC (.int 0))) zm) zm))) (zZ (yH  6) [] E0 (zf (yk t.q00 "table" (yT t) [] E0 (ze 15) zm) (zf (yk t.q00 "table" (yT t) [] E0 (aO (y9 K) (ze 5) (tC (.int 0))) zm) zm)))))
def zaP:TS:=zB (Zl (qS K (ze 7)) (za1 K 2 (vY (zG 13) (vY (zG 14) za0))) (zjz K t)) (zaO K t)
def zaQ:TS:=zB (yF (tOr (yb (aO (zbn K) (yk t.q00 "finish" (xH t) [] E0 (aO (y9 K) (ze 5) (tC (.int 0))) zm) (vj zm))) (tOr (yb (aO (zn8 K) (ze 11) (ze 12))) (yb (aO rNe (yk t.q00 "settled" (vN t) [] E0 (aO (y9 K) (ze 5) (tC (.int 0))) zm) (uS (kO K) (zf (aO (y9 K) (ze 6) (tC (.int 0))) zm)))))) (yw (tC (.bl ah)))
   ym) (zaP K t)
def zdw:TS:=zB (yp (yk t.q00 "finish" (xH t) [] E0 (aO (y9 K) (ze 5) (tC (.int 0))) zm) (zG 11)) (zB (yp (uS (zef K) (zf (ze 11) zm)) (zG 12)) (zaQ K t))
def zdx:TS:=zB (Zl (zcd (zf (uS (kO K) (zf (ze 0) zm)) zm)) (zG 8) (KB K t)) (zdw K t)
def zdy:TS:=zB (yp (vj (zf (vj zm) (zf (vj zm) zm))) (zG 6)) (zB (yp (vj zm) (zG 7)) (zdx K t))
def zdz:TS:=zB (yp (vj (zf (aO aC (tC (.int 1)) (aO ad (zZ (xf K) [] E0 (zf (ze 0) (zf (tC (.int 0)) zm))) (tC (.int 8)))) (zf (aO aC (tC (.int 1)) (aO ad (aO aD (zZ (xf K) [] E0 (zf (ze 0) (zf (tC (.int 0)) zm))) (tC (.int 8))) (tC (.int 8)))) zm))) (zG 3)) (zB (yp (aO aD (zZ (xf K) [] E0 (zf (ze 0) (zf (tC (.int 0)) zm))) (tC (.int 64))) (zG 4)) (zB (yp (vj (zf (zZ (kG t) [] E0 (zf (ze 2) (zf (aO (y9 K) (ze 3) (tC (.int 0))) (zf (aO ad (ze 4) (tC (.int 3))) zm)))) (zf (zZ (kG t) [] E0 (zf (ze 2) (zf (aO (y9 K) (ze 3) (tC (.int 1))) (zf (aO ad (aO aD (ze 4) (tC (.int 3))) (tC (.int 3))) zm)))) zm))) (zG 5)) (zdy K t)))
def zjA:TS:=zB (yp (zZ kF [] E0 (zf (aO aD (zZ (xf K) [] E0 (zf (ze 0) (zf (tC (.int 1)) zm))) (tC (.int 7))) (zf (vj (zf (tC (.str "a")) (zf (tC (.str "b")) zm))) zm))) (zG 1)) (zB (yp (zZ Kr [] E0 (zf (ze 1) zm)) (zG 2)) (zdz K t))
end
variable {G F N N':uZ}{H' H0 H2:Hp}{P:Pl->Int->Prop}{aI n h f h0 way:Int}{g no ac:zF}{aQ:Ar}{kv la:xN}{v y:V}{lb lb' lw lw':At}{Bp:List (B×HO)}{re b r d dx x w l tl dw tb:B}{cs en xs ys ds hs:LV}{o' wo:HO}{ld:List (Int×RSt×zF)}{s:RSt}{M:Nat->Prop}{a:Au}{db:yz}{S S':DS}{p:Pl}{e:Dl}{D:DkV}{CC es:List Dl}{ra:RAd}{hl:List (Int×Int×Nat)}{o6 o7 o8 o9 o10 o11 o12 o13 o14 o15:Option V}{C:LwC}{j:Nat}{lg:Str}
section
variable {K:bE}{t:aU}{H:Hp}{Q:VK}
theorem zf0{j:Int}(h0:0<=j)(c:j<=100):zhO 10 j:={h0,(),()}
theorem yf{n:Nat}(h:n<=100000):n<=Bb:=b9 h ()
theorem wq(T:String):gF K (.type T) (.type T)=Y ae:=by unfold gF;rw[ao (by simp)]
theorem kf(K:bE):KF K:={by with_unfolding_all rfl,by with_unfolding_all rfl,by with_unfolding_all rfl,by with_unfolding_all rfl,by with_unfolding_all rfl,by with_unfolding_all rfl,by with_unfolding_all rfl,by with_unfolding_all rfl}
theorem dB{i j:Int}(h0:0<j:=by lia)(k:j<10000000000000000000000000000000000000000000000:=by lia):kU i j:=by
 have c:(10000000000000000000000000000000000000000000000:Int)<big:=by lia
 exact{h0,()}
theorem zod{k:Type}{xs:List k}{i:Int}(h0:0<=i)(m:i<xs.length):∃x,atI xs i=Y x/\x∈xs:=by
 obtain⟨n,rfl⟩:∃n:Nat,i=(n:Int):={i.toNat,()};have c:n<xs.length:=by lia
 refine{xs[n],?_,c9 c};unfold atI ixN;rw[ao h0,ao m];simp[c]
theorem zm7{c:Type}{xs:List c}(e:Int)(n:Nat)(hl:xs.length=n)(i:0<(n:Int)):∃x,atI xs (e%n)=Y x/\x∈xs:=
 zod (du _ ()) (by rw[hl];exact cN _ i)
theorem vh{H H':Hp}(s:aJ H H')(c:H w=af):aJ H (upd H' w o):=λb u e=>by rw[zk (zq e c)];exact s b u e
theorem yi{H H':Hp}{D:B}(s:aJ H H')(h:H' D=af):H D=af:=by
 cases e:H D with
 |none=>rfl
 |some o=>rw[s _ _ e] at h;cases h
def TSm(H H':Hp):Prop:=∀b ys,H b=Y (.tup ys)->H' b=Y (.tup ys)
theorem je{H H':Hp}{a:B}(e:upd H a o=H')(h:H a=af):aJ H H'/\H' a=Y o:={e ▸ hX a h,e ▸ zh}
theorem zbD{c:Type}[DecidableEq c]{i:List (c×V)}{k:c}(h:k ∉ i.map (·.1)):yu i k=af:=by
 cases e:yu i k with
 |none=>rfl
 |some v=>exact absurd (zfy e) h
theorem zf1:∀(c:zF)(i:ya),(∀r∈c,zD r.1 ∉ i.map (·.1))->(c.map (·.1)).Nodup->c.foldl Xs i=i++c.map λr=>(zD r.1,V.int r.2)
 |[],i,_,_=>by simp
 |r::c,i,h,nd=>by
  rw[bC,cx] at nd;rw[fU,Xs,jE _ (zbD (h r bu)),zf1 c _ (λq k=>?_) nd.2,bC,cF,List.singleton_append];rw[b7,bP,not_or];refine{h q (bw _ k),λz=>nd.1 ?_};have m:zD q.1=zD r.1:=by simpa using z
  rw[<-y7 m];exact bL k
theorem WU{c:zF}(i:(c.map (·.1)).Nodup):mx c=c.map λr=>(zD r.1,V.int r.2):=by unfold mx;rw[zf1 c [] (λ_ _ h=>nomatch h) i,fY]
theorem qg{H H':Hp}(s:aJ H H'):∀ {ys:LV}{ac:zF},Bl (PrAt H) ys ac->Bl (PrAt H') ys ac
 |_,_,.nil=>.nil
 |_,_,.cons ⟨r,p,e1,e2,e3⟩ t=>.cons {r,p,e1,s _ _ e2,s _ _ e3} (qg s t)
def zdA(H H':Hp):Prop:=∀b ys,H b=Y (.tup ys)->H' b=Y (.tup ys)
theorem aJ.ts{H H':Hp}(s:aJ H H'):zdA H H':=λb ys e=>s _ _ e
theorem X8{J:It}{D:B}{k:Hp}{Q:Hp->Prop}{Bo:V->St->Hp->(V->uU)->uU->Prop}(n:Nat)(hn:n<=1000000)(C:St->Prop)(R:Nat->LV->Hp->Prop)(hm:∀i ys H H',zdA H H'->R i ys H->R i ys H')(hC:C τ₀)(h0:R 0 [] k)(go:∀i H,aJ k H->i<n->J.go i H)(I:∀H,aJ k H->J.stop n H)(hD:k D=af)(hs:∀i x q ys H H',C q->aJ k H->i<n->R i ys H->J.yld i H x H'->Bo x q H' (λv c A=>C c/\R (i+1) (ys++[v]) A/\aJ H A) (λc A=>C c/\R (i+1) ys A/\aJ H A))(hd:∀ys H,ys.length<=n->R n ys H->aJ k H->H D=Y (.lst ys)->Q H) :
  ∃W:Nat->Nat->LV->uU,(∃m,W 0 m [] τ₀ (upd k D (.lst [])))/\∀i m ys q H,W i m ys q H->H D=Y (.lst ys) /\
  ((J.stop i H/\Q H)\/(J.go i H/\ys.length<Bb/\∃N:V->uU,
   (∀v c H',N v c H'->H' D=Y (.lst ys)/\∃T,T<m/\W (i+1) T (ys++[v]) c (upd H' D (.lst (ys++[v]))))/\∃Nf:uU,(∀c H',Nf c H'->∃T,T<m/\W (i+1) T ys c H') /\
   ∀x H',J.yld i H x H'->Bo x q H' N Nf)):=by
 have z:∀ {H:Hp}{o:HO},aJ k H->aJ k (upd H D o):=λ{H o} h b u e=>by rw[zk (zq e hD)];exact h b u e
 refine{λi m ys q H=>m=n-i/\i<=n/\ys.length<=i/\R i ys H/\aJ k H/\H D=Y (.lst ys)/\C q,{n,by simp,bQ _,bo _,hm _ _ _ _ (aJ.ts (z (aJ.refl _))) h0,z (aJ.refl _),zh,hC},?_};rintro i m ys q H ⟨rfl,hi,hl,hR,E,hy,hc⟩;refine{hy,?_};by_cases hlt:i<n
 .refine .inr {go i H E hlt,dN (by lia:ys.length<=1000000) (),_,?_,_,?_,λx H' y=>hs i x q ys H H' hc E hlt hR y}
  .rintro v c A ⟨c4,r4,O⟩;have y4:=O _ _ hy;exact{y4,n-(i+1),(),U,hlt,by simp;lia,hm _ _ _ _ (λb zs e=>by rw[zk (zJ e y4 (by simp))];exact e) r4,z (E.trans O),zh,c4}
  .rintro c A ⟨c4,r4,O⟩;exact{n-(i+1),(),U,hlt,(),r4,E.trans O,O _ _ hy,c4}
 .obtain rfl:i=n:=by lia
  exact .inl {I H E,hd ys H hl hR E hy}
theorem zdB{H:Hp}{u:uU}{A:V->St->Hp->uU->Prop}{q c:Int}{n:Nat}(Pv:Nat->uU)(h0:Pv 0 k H)(hs:∀i k H,i<n->Pv i k H->A (.int (q+i*c)) k H (Pv (i+1)))(I:∀k H,Pv n k H->u k H) :
  ∃W:Nat->Nat->uU,(∃m,W 0 m k H)/\∀i m k H,W i m k H->((ziO q c n).stop i H/\u k H)\/((ziO q c n).go i H/\∃N:uU,(∀o H',N o H'->∃z,z<m/\W (i+1) z o H')/\∀x H',(ziO q c n).yld i H x H'->A x k H' N):=by
 refine{λi m k H=>m=n-i/\i<=n/\Pv i k H,{n,by simp,bQ _,h0},?_};rintro i m k H ⟨rfl,J,p⟩;by_cases hlt:i<n
 .refine .inr {hlt,Pv (i+1),λo H' E=>{n-(i+1),(),U,hlt,E},?_};rintro x H' ⟨rfl,rfl⟩;exact hs i k _ hlt p
 .obtain rfl:i=n:=by lia
  exact .inl {bo _,I k H p}
theorem _root_.L2.PrAt.same{H H':Hp}(h:zdl H v q)(s:aJ H H'):zdl H' v q:=by have #[r,p,e,i,c]:=h;exact{r,p,e,s _ _ i,s _ _ c}
theorem _root_.L2.PrAt.tsame{H H':Hp}(h:zdl H v q)(s:zdA H H'):zdl H' v q:=by have #[r,p,e,i,c]:=h;exact{r,p,e,s _ _ i,s _ _ c}
theorem KC{H H':Hp}(s:zdA H H'):∀ {c:LV}{ac:zF},YR H c ac->YR H' c ac
 |_,_,.nil=>.nil
 |_,_,.cons h r=>.cons (h.tsame s) (KC s r)
theorem WV{H H':Hp}(s:aJ H H'):∀ {c:LV}{ac:zF},YR H c ac->YR H' c ac
 |_,_,.nil=>.nil
 |_,_,.cons h r=>.cons (h.same s) (WV s r)
theorem zaR{H:Hp}{v:V}{q:Row}:∀ {ys:LV}{ac:zF},YR H ys ac->zdl H v q->YR H (ys++[v]) (ac++[q])
 |_,_,.nil,h=>.cons h .nil
 |_,_,.cons a r,h=>.cons a (zaR r h)
theorem KD(ac:zF):∃c:List Pl,(mx ac).map (·.1)=c.map zD/\c.Nodup/\∀p,p∈c↔(zP ac p).isSome=ae:=by
 have h:=k8 ac;have:∀(k:ya),(∀kv∈k,∃(p:Pl)(w:Int),kv=(zD p,.int w))->∃c:List Pl,k.map (·.1)=c.map zD:=λk=>by
  induction k with
  |nil=>exact λ_=>{[],U}
  |cons kv r ih=>
   intro i;have #[c,e]:=ih λz E=>i z (bw _ E);have #[p,w,I]:=i kv bu;exact{p::c,by rw[bC,bC,e,I]}
 have #[c,e]:=this _ h.2;refine{c,e,xI (f:=zD) (by rw[<-e];exact h.1),λp=>?_};constructor
 .intro q;have:zD p∈(mx ac).map (·.1):=by rw[e];exact bL q
  have #[kv,i,u]:=bH.mp this;have #[A,w,rfl,m]:=Aw.mp i;have:=y7 u;subst this;rw[m];rfl
 .intro q;have #[w,m]:=gJ.mp q;have:zD p∈c.map zD:=by rw[<-e];exact bL (f:=(·.1)) (Aw.mpr {p,w,U,m})
  have #[A,o,u]:=bH.mp this;rw[<-y7 u];exact o
def KG(ac:zF)(p:Pl):Option Row:=match zP ac p with
 |some w=>if w=0 then af else Y (p,w)
 |none=>af
def zm8(ac:zF)(k:List Pl)(i:Nat)(ys:LV)(H:Hp):Prop:=∃c:zF,YR H ys c/\c=(k.take i).filterMap (KG ac)
theorem zlf{H H':Hp}(s:zdA H H')(h:zm8 ac qs i ys H):zm8 ac qs i ys H':=by have #[c,m,k]:=h;exact{c,KC s m,k}
theorem Ao{b:Row}:KG ac p=Y b↔b.1=p/\zP ac p=Y b.2/\b.2≠0:=by
 unfold KG;have #[k,i]:=b;cases e:zP ac p with
 |none=>simp
 |some w=>
  by_cases h:w=0
  .subst h;simp only[if_true];constructor
   .intro z;cases z
   .rintro⟨_,z,c⟩;exact absurd (bX z).symm c
  .simp only[ag h,cz,Prod.mk.injEq];constructor
   .rintro⟨rfl,rfl⟩;exact{U,U,h}
   .rintro⟨rfl,rfl,_⟩;exact{U,U}
theorem zm9{i:List Pl}(o:i.Pairwise λa b=>yc a b=ae)(q:∀p,p∈i↔(zP ac p).isSome=ae):xA ac (i.filterMap (KG ac)):=by
 constructor
 .unfold pv;rw[List.pairwise_filterMap];refine o.imp λ{a E} h b u A k=>?_;rw[(Ao.mp u).1,(Ao.mp k).1];exact h
 .intro p w;rw[List.mem_filterMap];constructor
  .rintro⟨a,_,h⟩;have #[c,m,z]:=Ao.mp h;cases c;exact{m,z}
  .rintro⟨c,m⟩;exact{p,(q p).mpr (by rw[c];rfl),Ao.mpr {U,c,m}}
theorem X9{p:Pl}{w:Int}:∀ {l:zF},zP l p=Y w->(p,w)∈l
 |[],h=>by cases h
 |r::t,h=>by
  rw[zP] at h;cases e:zP t p with
  |some w'=>
   rw[e] at h;have:w'=w:=by simpa using h
   subst this;exact bw _ (X9 e)
  |none=>
   rw[e] at h;by_cases c:r.1=p
   .rw[ao c] at h;have:r.2=w:=by simpa using h
    rw[<-c,<-this];exact bu
   .rw[ag c] at h;cases h
theorem aV.same{H H':Hp}{a:B}(h:aV H a ac)(s:aJ H H'):aV H' a ac:=by have #[xs,i,c]:=h;exact{xs,s _ _ i,WV s c}
theorem Ap.same{H H':Hp}(h:Ap H nm ws)(s:aJ H H'):Ap H' nm ws:={s _ _ h.1,h.2}
theorem zjB(h:Ap H nm ws)(n:Nat)(hl:ws.length=n)(k:0<(n:Int))(e:Int):∃x,atI (ws.map V.str) (e%n)=Y (.str x)/\x∈ws/\yK x=ae:=by have #[v,i,m]:=zm7 e n (xs:=ws.map V.str) (by rw[bh,hl]) k;have #[x,c,rfl]:=bH.mp m;exact{x,i,c,h.2 x c}
theorem zhi{J:It}{D:B}{k:Hp}{Q:Hp->Prop}{Bo:V->St->Hp->(V->uU)->uU->Prop}(n:Nat)(hn:n<=1000000)(C:St->Prop)(R:Nat->LV->Hp->Prop)(hm:∀i ys H H',(∀b o,b≠D->H b=Y o->H' b=Y o)->R i ys H->R i ys H')(hC:C τ₀)(h0:R 0 [] k)(go:∀i H,aJ k H->i<n->J.go i H)(E:∀H,aJ k H->J.stop n H)(hD:k D=af)(hs:∀i x q ys H H',C q->aJ k H->i<n->R i ys H->H D=Y (.lst ys)->J.yld i H x H'->Bo x q H' (λv c z=>C c/\R (i+1) (ys++[v]) z/\aJ H z) (λc z=>C c/\R (i+1) ys z/\aJ H z))(hd:∀ys H,ys.length<=n->R n ys H->aJ k H->H D=Y (.lst ys)->Q H) :
  ∃W:Nat->Nat->LV->uU,(∃m,W 0 m [] τ₀ (upd k D (.lst [])))/\∀i m ys q H,W i m ys q H->H D=Y (.lst ys) /\
  ((J.stop i H/\Q H)\/(J.go i H/\ys.length<Bb/\∃N:V->uU,
   (∀v c H',N v c H'->H' D=Y (.lst ys)/\∃O,O<m/\W (i+1) O (ys++[v]) c (upd H' D (.lst (ys++[v]))))/\∃Nf:uU,(∀c H',Nf c H'->∃O,O<m/\W (i+1) O ys c H') /\
   ∀x H',J.yld i H x H'->Bo x q H' N Nf)):=by
 have aa:∀ {H:Hp}{o:HO},aJ k H->aJ k (upd H D o):=λ{H o} h b u e=>by rw[zk (zq e hD)];exact h b u e
 refine{λi m ys q H=>m=n-i/\i<=n/\ys.length<=i/\R i ys H/\aJ k H/\H D=Y (.lst ys)/\C q,{n,by simp,bQ _,bo _,hm _ _ _ _ (λb o hb e=>by rw[zk hb];exact e) h0,aa (aJ.refl _),zh,hC},?_};rintro i m ys q H ⟨rfl,hi,hl,hR,A,T,hc⟩;refine{T,?_};by_cases hlt:i<n
 .refine .inr {go i H A hlt,dN (by lia:ys.length<=1000000) (),_,?_,_,?_,λx H' y=>hs i x q ys H H' hc A hlt hR T y}
  .rintro v c z ⟨c4,r4,I⟩;have y4:=I _ _ T;exact{y4,n-(i+1),(),U,hlt,by simp;lia,hm _ _ _ _ (λb o hb e=>by rw[zk hb];exact e) r4,aa (A.trans I),zh,c4}
  .rintro c z ⟨c4,r4,I⟩;exact{n-(i+1),(),U,hlt,(),r4,A.trans I,I _ _ T,c4}
 .obtain rfl:i=n:=by lia
  exact .inl {E H A,hd ys H hl hR A T}
theorem zna{j c:Int}(o:0<=j)(k:0<c)(h:i<Qh 0 j c):(i:Int)*c<j:=by
 unfold Qh at h;split at h
 .have m:(i:Int)<=(j-0-1)/c:=by lia
  have q:=(Int.le_ediv_iff_mul_le k).mp m;lia
 .lia
structure MkF(K:bE)(t:aU):Prop where
 cl:Ae K t.q03
 g:aL K t.q03 "ground"
 f:aL K t.q03 "folded"
 w:aL K t.q03 "worths"
 r:aL K t.q03 "ranks"
theorem mkF{P:Ak}(T:Txt K P t):MkF K t:={T.q0e,T.q3l,T.q3k,T.q3n,T.q3m}
section
variable {gr wo rk:B}{low:Int}
theorem zoe:dC (bb "ground") (YW gr low wo rk)=Y (.ref gr):=by simp only[YW,cC,beq_self_eq_true]
theorem znb:dC (bb "folded") (YW gr low wo rk)=Y (.int low):=by
 have c:(bb "folded" == bb "ground")=ah:=by lia
 simp only[YW,cC,c,beq_self_eq_true]
theorem zlg:dC (bb "worths") (YW gr low wo rk)=Y (.ref wo):=by
 have i:(bb "worths" == bb "ground")=ah:=by lia
 have c:(bb "worths" == bb "folded")=ah:=by lia
 simp only[YW,cC,i,c,beq_self_eq_true]
theorem zjC:dC (bb "ranks") (YW gr low wo rk)=Y (.ref rk):=by
 have k:(bb "ranks" == bb "ground")=ah:=by lia
 have i:(bb "ranks" == bb "folded")=ah:=by lia
 have c:(bb "ranks" == bb "worths")=ah:=by lia
 simp only[YW,cC,k,i,c,beq_self_eq_true]
end
theorem zf2{i:yz}{k:Nat}{x:Int}(h:i.Pairwise (· < ·))(e:i[k]?=Y x):∀r∈i.take (k+1),r<=x:=λr m=>by
 have #[j,c]:=cQ m;rw[ik] at c;split at c
 .have #[q,z]:=bp.mp c;have #[o,u]:=bp.mp e;obtain hl|hg:=fM j k
  .have:=gD.mp h j k q o hl;lia
  .have:j=k:=by lia
   subst this;lia
 .cases c
theorem zlh{c:yz}{k:Nat}{x:Int}(h:c.Pairwise (· < ·))(e:c[k]?=Y x):∀r∈c.drop k,x<=r:=λr m=>by
 have #[j,i]:=cQ m;rw[oy] at i;have #[u,q]:=bp.mp i;have #[o,z]:=bp.mp e;obtain rfl|hp:=gA j
 .simp only[Nat.add_zero] at q;lia
 .have:=gD.mp h k (k+j) o u ();lia
def mbW(a:B)(aI:Int)(k:yz)(H:Hp)(m:Nat)(q:St)(H':Hp):Prop:=∃(i c:Nat)(o:Option V),q=[Y (.ref a),Y (.int aI),Y (.int i),Y (.int c),o]/\aJ H H'/\i<=c/\c<=k.length/\m=c-i/\(∀r∈k.take i,r<aI)/\(∀r∈k.drop c,aI<=r)
theorem KH(p:Pl)(c:Int):∀(i:zF)(s:Int×Int),zfX p c i s=match zP i p with|none=>s|some w=>(c,w)
 |[],s=>rfl
 |r::i,s=>by
  rw[zfX,KH p c i,zP];cases zP i p with
  |some w=>rfl
  |none=>
   by_cases e:r.1=p
   .rw[ao e,ao e];rfl
   .rw[ag e,ag e];rfl
theorem wR(p:Pl)(aI:Int):∀(aQ:Ar)(s:Int×Int),(zdn p aI aQ s=s/\∀y∈aQ,s.1<y.1->y.1<aI->zP y.2 p=af) \/
  ∃y∈aQ,∃w,zP y.2 p=Y w/\y.1<aI/\s.1<y.1/\zdn p aI aQ s=(y.1,w)/\∀z∈aQ,z.1<aI->zP z.2 p≠af->z.1<=y.1
 |[],s=>.inl {U,λ_ h=>nomatch h}
 |l::ls,s=>by
  rw[zdn];by_cases c:s.1<l.1/\l.1<aI
  .rw[ao c,KH];cases e:zP l.2 p with
   |some w=>
    obtain ⟨h1,h2⟩|⟨y,hy,w',e1,e2,e3,e4,e5⟩:=wR p aI ls (l.1,w)
    .refine .inr {l,bu,w,e,c.2,c.1,h1,λz hz i k=>?_};obtain rfl|hz:=bn.mp hz
     .exact Int.le_refl _
     .obtain hl|hl:=mM l.1 z.1
      .exact absurd (h2 z hz hl i) k
      .exact hl
    .have m:l.1<y.1:=e3;refine .inr {y,bw _ hy,w',e1,e2,(),e4,λz hz i k=>?_};obtain rfl|hz:=bn.mp hz
     .lia
     .exact e5 z hz i k
   |none=>
    obtain ⟨h1,h2⟩|⟨y,hy,w',e1,e2,e3,e4,e5⟩:=wR p aI ls s
    .refine .inl {h1,λy hy a b=>?_};obtain rfl|hy:=bn.mp hy
     .exact e
     .exact h2 y hy a b
    .refine .inr {y,bw _ hy,w',e1,e2,e3,e4,λz hz i k=>?_};obtain rfl|hz:=bn.mp hz
     .exact absurd e k
     .exact e5 z hz i k
  .rw[ag c];obtain ⟨h1,h2⟩|⟨y,hy,w',e1,e2,e3,e4,e5⟩:=wR p aI ls s
   .refine .inl {h1,λy hy a b=>?_};obtain rfl|hy:=bn.mp hy
    .exact absurd {a,b} c
    .exact h2 y hy a b
   .refine .inr {y,bw _ hy,w',e1,e2,e3,e4,λz hz i k=>?_};obtain rfl|hz:=bn.mp hz
    .obtain hl|hl:=mM s.1 z.1
     .exact absurd {hl,i} c
     .lia
    .exact e5 z hz i k
theorem Yc{c:zF}{p:Pl}(i:(c.map (·.1)).Nodup):p∈c.map (·.1)↔zP c p≠af:=by
 constructor
 .intro h e;have #[r,k,rfl]:=bH.mp h;have:=(vS (p:=r.1) (w:=r.2) i).mpr k;rw[e] at this;cases this
 .intro h;cases e:zP c p with
  |none=>exact absurd e h
  |some w=>exact bH.mpr {_,(vS i).mp e,U}
theorem zbE{rk:B}{F:uZ}{r:Int}{i:zF}:∀ {c:xN}{l:Ar},Bl (zdo H rk F) c l->(l.map (·.1)).Nodup->(r,i)∈l->∃d,yu c (.inl r)=Y (.ref d)/\F d/\d≠rk/\H d=Y (.dT (mx i))
 |_,_,.nil,_,h=>nomatch h
 |_,_,@Paired.cons _ _ _ kv y c l ⟨e,d,e2,fd,nd,hd⟩ rest,n,h=>by
  rw[bC,cx] at n;obtain rfl|h:=bn.mp h
  .exact{d,by rw[xa e,e2],fd,nd,hd}
  .have k:¬ kv.1=.inl r:=λz=>n.1 (by rw[e] at z;cases z;exact bL (f:=(·.1)) h);rw[xb k];exact zbE rest n.2 h
theorem zf3{rk:B}{F:uZ}:∀ {c:xN}{l:Ar},Bl (zdo H rk F) c l->c.map (·.1)=l.map λy=>(lK y.1:Key)
 |_,_,.nil=>rfl
 |_,_,.cons h rest=>by rw[bC,bC,h.1,zf3 rest]
theorem zbF{rk:B}{F:uZ}{r:Int}{c:xN}{l:Ar}(h:Bl (zdo H rk F) c l)(n:r ∉ l.map (·.1)):yu c (.inl r)=af:=by refine zbD λz=>n ?_;rw[zf3 h] at z;have #[y,i,e]:=bH.mp z;cases e;exact bL i
theorem zbG{rk:B}{F:uZ}{r:Int}:∀ {c:xN}{l:Ar},Bl (zdo H rk F) c l->Bl (zdo H rk F) (yB c (.inl r)) (Qx l r)
 |_,_,.nil=>.nil
 |_,_,@Paired.cons _ _ _ kv y c l h rest=>by
  unfold Qx;by_cases e:y.1=r
  .rw[zac (by rw[h.1,e]),gP (by simp[e])];exact zbG rest
  .rw[Wz (λz=>e (by rw[h.1] at z;cases z;rfl)),gQ (by simp[e])];exact .cons h (zbG rest)
theorem zli{l:Ar}{r:Int}(h:r ∉ l.map (·.1)):Qx l r=l:=lC.mpr λy c=>Bj λe=>h (by rw[<-e];exact bL c)
theorem KI{l:Ar}{r:Int}:r ∉ (Qx l r).map (·.1):=λh=>by have #[y,c,e]:=bH.mp h;exact of_decide_eq_true (da.mp c).2 e
theorem hU.get{rk:B}{F:uZ}{P:Pl->Int->Prop}{c:ya}(h:hU H rk F P c)(p:Pl):(∃a rs,(zD p,V.ref a)∈c/\yu c (zD p)=Y (.ref a)/\F a/\H a=Y (.lst (rs.map V.int))/\rs.Pairwise (· < ·)/\rs≠[]/\∀r,r∈rs↔P p r)\/(yu c (zD p)=af/\zD p ∉ c.map (·.1)/\∀r,¬ P p r):=by
 by_cases hm:zD p∈c.map (·.1)
 .have #[kv,i,e]:=bH.mp hm;have #[k,a,rs,rfl,z]:=h.ls kv i;have:k=p:=y7 e;subst this;exact .inl {a,rs,i,zbk h.nk _ i,z}
 .exact .inr {zbD hm,hm,λr m=>hm (h.al p r m)}
theorem znc{c:yz}{l:Ar}{p:Pl}(h:c.Pairwise (· < ·))(m:∀r,r∈c->qe l p r):c.length<=l.length:=by
 have i:c.Nodup:=oO (λh=>Int.ne_of_lt h) h;have:=vG (b:=l.map (·.1)) i λx k=>let ⟨gs,h1,_⟩:=m x k;bH.mpr {_,h1,U}
 simpa using this
section
variable {rk a:B}{H'':Hp}
theorem aZ.refl:aZ G rk H H:=λ_ _ e _ _=>e
theorem aZ.same(k:aZ G rk H H')(s:aJ H' H''):aZ G rk H H'':=λb o e n z=>s _ _ (k b o e n z)
theorem aZ.dct(k:aZ G rk H H')(o:HO):aZ G rk H (upd H' rk o):=λb u e n z=>by rw[zk n];exact k b u e n z
theorem aZ.lst(k:aZ G rk H H')(i:H' a=Y (.lst xs))(m:G a):aZ G rk H (upd H' a (.lst ys)):=λb u e n z=>by
 have c:=k b u e n z;by_cases hb:b=a
 .subst hb;obtain z|z:=z
  .rw[i] at c;exact absurd (bX c).symm (z xs)
  .exact absurd m z
 .rw[zk hb];exact c
end
theorem zbH{i k:Type}{f:i->k}:∀ {l:List i},(l.map f).Nodup->∀ {x y:i},x∈l->y∈l->f x=f y->x=y
 |[],_,_,_,h,_,_=>nomatch h
 |c::l,n,x,y,hx,hy,e=>by
  rw[bC,cx] at n;obtain h1|h1:=bn.mp hx
  .obtain h2|h2:=bn.mp hy
   .rw[h1,h2]
   .exact absurd (by rw[<-h1,e];exact bL h2) n.1
  .obtain h2|h2:=bn.mp hy
   .exact absurd (by rw[<-h2,<-e];exact bL h1) n.1
   .exact zbH n.2 h1 h2 e
section
variable {rk a:B}{P':Pl->Int->Prop}{kk:ya}{q0:Pl}{rs:yz}
theorem hU.one(h:hU H rk G P kk)(k:(zD q0,V.ref a)∈kk){i:Pl}(c:(zD i,V.ref a')∈kk):a'=a↔i=q0:=by
 constructor
 .intro e;have:=zbH h.nv c k (by rw[e]);exact y7 (congrArg Prod.fst this)
 .intro e;have:=zbH h.nk c k (by rw[e]);exact V.ref.inj (congrArg Prod.snd this)
theorem zdC(h:hU H rk G P kk)(c:H a=Y (.lst (rs.map V.int))):rk≠a:=zJ h.at_ c ()
theorem zaS{r:Int}(hs:rs.Pairwise (· < ·)):r∈rs.erase aI↔r∈rs/\r≠aI:=by have c:rs.Nodup:=oO (λh=>Int.ne_of_lt h) hs;rw[c.mem_erase_iff,and_comm]
theorem hU.out1(h:hU H rk G P kk)(O:(zD q0,V.ref a)∈kk)(ha:H a=Y (.lst (rs.map V.int)))(hs:rs.Pairwise (· < ·))(hi:∀r,r∈rs↔P q0 r)(o:rs.erase aI≠[])(E:∀p r,P' p r↔P p r/\¬ (r=aI/\p=q0)):hU (upd H a (.lst ((rs.erase aI).map V.int))) rk G P' kk where
 at_:=by rw[zk (zdC h ha)];exact h.at_
 nk:=h.nk
 nv:=h.nv
 ls:=λkv c=>by
  have #[k,J,i,rfl,T,A,m,q,u]:=h.ls kv c;by_cases e:J=a
  .have I:=(h.one O c).mp e;subst e I;refine{k,J,rs.erase aI,U,T,zh,hs.sublist List.erase_sublist,o,λr=>?_};rw[zaS hs,E,hi];exact{λz=>{z.1,λy=>z.2 y.1},λz=>{z.1,λy=>z.2 {y,U}}}
  .have I:¬ k=q0:=λz=>e ((h.one O c).mpr z);refine{k,J,i,U,T,by rw[zk e];exact A,m,q,λr=>?_};rw[u,E];exact{λz=>{z,λy=>I y.2},λz=>z.1}
 al:=λp r z=>h.al p r ((E p r).mp z).1
theorem hU.out2(h:hU H rk G P kk)(hk:(zD q0,V.ref a)∈kk)(ha:H a=Y (.lst (rs.map V.int)))(hs:rs.Pairwise (· < ·))(hi:∀r,r∈rs↔P q0 r)(q:rs.erase aI=[])(J:∀p r,P' p r↔P p r/\¬ (r=aI/\p=q0)){us:LV}:hU (upd (upd H a (.lst us)) rk (.dT (yB kk (zD q0)))) rk G P' (yB kk (zD q0)) where
 at_:=zh
 nk:=ii (gY _ fX) h.nk
 nv:=ii (gY _ fX) h.nv
 ls:=λkv c=>by have i:=zgF c;have ne:kv.1≠zD q0:=of_decide_eq_true (da.mp c).2;have #[I,T,m,rfl,ga,k,o,u,A]:=h.ls kv i;have O:¬ I=q0:=λz=>ne (by rw[z]);have e:¬ T=a:=λz=>O ((h.one hk i).mp z);refine{I,T,m,U,ga,by rw[zk (zdC h k).symm,zk e];exact k,o,u,λr=>?_};rw[A,J];exact{λz=>{z,λy=>O y.2},λz=>z.1}
 al:=λp r z=>by
  have #[E,z2]:=(J p r).mp z;have #[kv,c,e]:=bH.mp (h.al p r E);refine bH.mpr {kv,da.mpr {c,Bj λy=>?_},e};have:p=q0:=y7 (e.symm.trans y);subst this;have hr:r∈rs:=(hi r).mpr E;by_cases er:r=aI
  .exact z2 {er,U}
  .have:=(zaS (aI:=aI) hs).mpr {hr,er};rw[q] at this;cases this
theorem ze0{k:Nat}(hs:rs.Pairwise (· < ·))(i:∀r∈rs.take k,r<aI)(m:∀r∈rs.drop k,aI<=r)(c:aI ∉ rs):(rs.take k++aI::rs.drop k).Pairwise (· < ·):=by
 have gt:∀r∈rs.drop k,aI<r:=λr o=>by have A:=m r o;have u:r≠aI:=λz=>c (by rw[<-z];exact sy o);lia
 rw[List.pairwise_append,on];refine{hs.sublist (tK ..),{gt,hs.sublist (tU ..)},λx q y hy=>?_};have:=i x q;obtain rfl|hy:=bn.mp hy
 .exact this
 .have:=gt y hy;lia
theorem zlj{r:Int}:r∈rs.take k++aI::rs.drop k↔r∈rs\/r=aI:=by
 rw[bP,bn];constructor
 .rintro(h|h|h)
  .exact .inl (nu h)
  .exact .inr h
  .exact .inl (sy h)
 .rintro(h|h)
  .have:r∈rs.take k++rs.drop k:=by rw[iH];exact h
   obtain z|z:=bP.mp this
   .exact .inl z
   .exact .inr (.inr z)
  .exact .inr (.inl h)
theorem hU.in1{k:Nat}(h:hU H rk G P kk)(E:(zD q0,V.ref a)∈kk)(ha:H a=Y (.lst (rs.map V.int)))(hs:rs.Pairwise (· < ·))(hi:∀r,r∈rs↔P q0 r)(A:∀r∈rs.take k,r<aI)(J:∀r∈rs.drop k,aI<=r)(q:¬ P q0 aI)(T:∀p r,P' p r↔P p r\/(r=aI/\p=q0)):hU (upd H a (.lst ((rs.take k++aI::rs.drop k).map V.int))) rk G P' kk where
 at_:=by rw[zk (zdC h ha)];exact h.at_
 nk:=h.nk
 nv:=h.nv
 ls:=λkv c=>by
  have #[m,a',i,rfl,ga,O,o,u,I]:=h.ls kv c;by_cases e:a'=a
  .have ep:=(h.one E c).mp e;subst e ep;refine{m,a',_,U,ga,zh,ze0 hs A J (λz=>q ((hi _).mp z)),by simp,λr=>?_};rw[zlj,T,hi];exact{λz=>z.imp_right λy=>{y,U},λz=>z.imp_right λy=>y.1}
  .have ep:¬ m=q0:=λz=>e ((h.one E c).mpr z);refine{m,a',i,U,ga,by rw[zk e];exact O,o,u,λr=>?_};rw[I,T];exact{λz=>.inl z,λz=>z.elim id λy=>absurd y.2 ep}
 al:=λp r z=>by
  rcases(T p r).mp z with z|⟨_,rfl⟩
  .exact h.al p r z
  .exact bH.mpr {_,E,U}
theorem hU.in2(h:hU H rk G P kk)(O:zD q0 ∉ kk.map (·.1))(q:∀r,¬ P q0 r)(ga:G a)(T:∀kv∈kk,kv.2≠.ref a)(ha:a≠rk)(E:∀p r,P' p r↔P p r\/(r=aI/\p=q0)):hU (upd (upd H rk (.dT (kk++[(zD q0,V.ref a)]))) a (.lst [V.int aI])) rk G P' (kk++[(zD q0,V.ref a)]) where
 at_:=by rw[zk ha.symm];exact zh
 nk:=by
  rw[b7,fS];refine{h.nk,by simp,λx m y k=>?_};have:y=zD q0:=by simpa using k
  rw[this];exact λz=>O (by rw[<-z];exact m)
 nv:=by
  rw[b7,fS];refine{h.nv,by simp,λx m y k=>?_};have:y=V.ref a:=by simpa using k
  rw[this];have #[kv,hkv,rfl]:=bH.mp m;exact T kv hkv
 ls:=λkv hkv=>by
  obtain hkv|hkv:=bP.mp hkv
  .have #[J,a',i,rfl,I,c,o,u,A]:=h.ls kv hkv;have e:a'≠a:=λz=>T _ hkv (by rw[z]);have ep:J≠q0:=λz=>O (bH.mpr {_,hkv,by rw[z]});refine{J,a',i,U,I,by rw[zk e,zk (zdC h c).symm];exact c,o,u,λr=>?_};rw[A,E];exact{λz=>.inl z,λz=>z.elim id λy=>absurd y.2 ep}
  .have:=bB.mp hkv;subst this;refine{q0,a,[aI],U,ga,zh,by simp,by simp,λr=>?_};rw[E,bB];exact{λz=>.inr {z,U},λz=>z.elim (λy=>absurd y (q r)) λy=>y.1}
 al:=λp r z=>by
  rw[b7,bP];rcases(E p r).mp z with z|⟨_,rfl⟩
  .exact .inl (h.al p r z)
  .exact .inr (by simp)
theorem hU.eqv(h:hU H rk G P kk)(e:∀p r,P p r↔P' p r):hU H rk G P' kk:={h.at_,h.nk,h.nv,λkv c=>let ⟨p,a,rs,e1,fa,ha,hs,hn,hi⟩:=h.ls kv c;{p,a,rs,e1,fa,ha,hs,hn,λr=>(hi r).trans (e p r)},λp r z=>h.al p r ((e p r).mpr z)}
end
def taI(m Bp rk:B)(aI:Int)(ys:LV)(F:uZ)(P:Pl->Int->Prop)(q:zF)(H:Hp)(i:Nat)(c:St)(H':Hp):Prop:=(∃k,c=[Y (.ref m),Y (.int aI),Y (.ref Bp),k])/\aZ F rk H H'/\Dm H H'/\∃o,hU H' rk F (λp r=>P p r/\¬ (r=aI/\p∈(q.take i).map (·.1))) o
theorem hU.keep2{H':Hp}{rk:B}{F F':uZ}{P:Pl->Int->Prop}(h:hU H rk F P aK)(c:H' rk=H rk)(k:∀b xs,F b->H b=Y (.lst xs)->H' b=Y (.lst xs))(m:∀b,F b->(∃o,H' b=Y o)->F' b):hU H' rk F' P aK:=
 {c.trans h.at_,h.nk,h.nv,λkv i=>let ⟨p,a,rs,e,fa,ha,z⟩:=h.ls kv i;{p,a,rs,e,m a fa {_,k _ _ fa ha},k _ _ fa ha,z},h.al}
theorem Dm.refl:Dm H H:=λb o e=>{o,e,λ_ z=>z}
theorem Dm.trans{i H2:Hp}(h:Dm H i)(k:Dm i H2):Dm H H2:=λb o e=>by have #[A,I,q]:=h b o e;have #[u,E,m]:=k b A I;exact{u,E,λc z=>q c (m c z)}
theorem Dm.of_same{H1:Hp}(s:aJ H H1):Dm H H1:=λb o e=>{o,s _ _ e,λ_ z=>z}
theorem Dm.upd{a:B}(n:∀i,o'≠.tup i):Dm H (upd H a o'):=λb o e=>by
 by_cases c:b=a
 .subst c;exact{_,zh,λi z=>absurd z (n i)}
 .exact{o,by rw[zk c];exact e,λ_ z=>z}
theorem aZ.trans{G:uZ}{rk:B}{c H2:Hp}(h:aZ G rk H c)(k:aZ G rk c H2):aZ G rk H H2:=λb o e n z=>k b o (h b o e n z) n z
theorem zjD{m dx E wo rk:B}{low:Int}{F:uZ}{g:zF}{u:Ar}{i:xN}{A:ya}{q H':Hp}(me:F m)(fg:F E)(fw:F wo)(fk:F rk)(O:E≠rk)(im:q m=Y (.ins t.q03 dx (YW E low wo rk)))(hg:q E=Y (.dT (mx g)))(hw:q wo=Y (.dK i))(c:∃T,q rk=Y (.dT T))(wp:Bl (zdo q rk F) i u)(k:aZ F rk q H')(J:∀b,F b->∃o,H' b=Y o)(rr:hU H' rk F (qe u) A)(I:(u.map (·.1)).Nodup)(ok:∀y∈u,0<=y.1/\Qw y.2):u5 t H' m F g u low:=by have #[T,c]:=c;exact{J,me,I,ok,dx,E,wo,rk,i,A,k _ _ im (zJ im c ()) (.inl nofun),fg,fw,fk,O,k _ _ hg O (.inl nofun),k _ _ hw (zJ hw c ()) (.inl nofun),Paired.mapP wp λ_ _ ⟨e,d,e2,fd,I,hd⟩=>{e,d,e2,fd,I,k _ _ hd I (.inl nofun)},rr}
theorem zaT{F:uZ}{rk:B}{H H':Hp}(c:F rk)(k:aZ F rk H H'):∀b o,¬ F b->H b=Y o->H' b=Y o:=λb o n e=>k b o e (λz=>n (by rw[z];exact c)) (.inr n)
theorem zjE{l:Ar}{aI:Int}{m:zF}(o:(l.map (·.1)).Nodup)(h:(aI,m)∈l)(p:Pl)(r:Int):(qe l p r/\¬ (r=aI/\p∈m.map (·.1)))↔qe (Qx l aI) p r:=by
 constructor
 .rintro⟨⟨k,i,c⟩,n⟩;refine{k,da.mpr {i,Bj λz=>?_},c};have z:r=aI:=z;subst z;have:=zbH o i h rfl;cases this;exact n {U,c}
 .rintro⟨k,i,c⟩;have #[u,q]:=da.mp i;exact{{k,u,c},λz=>of_decide_eq_true q z.1}
theorem znd{rk:B}{F:uZ}{l:Ar}{P:Pl->Int->Prop}(h:hU H rk F P kk)(u:∀p r,P p r->qe l p r)(c:∀y∈l,Qw y.2)(hl:l.length<=300):kk.length<=18900:=by
 have J:=vG (b:=(l.flatMap λy=>y.2.map (·.1)).map zD) h.nk λx o=>by
  have #[kv,i,rfl]:=bH.mp o;have #[p,a,rs,rfl,_,_,_,A,E]:=h.ls kv i;obtain⟨r,q⟩:∃r,r∈rs:=by
   cases rs with
   |nil=>exact absurd U A
   |cons r _=>exact{r,bu}
  have #[O,k,I]:=u p r ((E r).mp q);exact bL (mZ.mpr {_,k,I})
 rw[bh,bh] at J;have k:∀l:Ar,(∀y∈l,Qw y.2)->(l.flatMap λy=>y.2.map (·.1)).length<=63*l.length:=by
  intro l;induction l with
  |nil=>intro _;simp
  |cons y l ih=>
   intro c;rw[tV,bx,bh,bG];have:=(c y bu).le;have:=ih λz m=>c z (bw _ m);lia
 have:=k l c;lia
def lyI(m q d rk:B)(aI:Int)(G:uZ)(P:Pl->Int->Prop)(u:zF)(H:Hp)(i:Nat)(c:St)(H':Hp):Prop:=(∃k,c=[Y (.ref m),Y (.int aI),Y (.ref q),Y (.ref d),k])/\aZ G rk H H'/\Dm H H'/\∃o,hU H' rk G (λp r=>P p r\/(r=aI/\p∈(u.take i).map (·.1))) o
theorem zX{i:Nat}{x C dx:B}{k:LSV}{f:Str}{v:V}{R:VK}(o:H x=Y (.ins C dx k))(c:Ae K C)(n:aL K C f)(h0:σ[i]?=Y (Y (.ref x)))(m:k.lookup f=Y v)(q:R v H):ze i σ H (zfs K f R):={_,h0,x,C,dx,k,v,U,o,c,n,m,q}
theorem xK{i:Nat}{x C dx:B}{c:LSV}{m:Str}{R:VK}(o:H x=Y (.ins C dx c))(h0:σ[i]?=Y (Y (.ref x)))(k:c.lookup m=af)(q:R (.ref x) H):ze i σ H (zej C m R):={_,h0,x,dx,c,U,o,k,q}
theorem zV{b:Bool}{P R:Prop}(h:b=ah)(r:R):if b=ae then P else R:=by rw[ag (by rw[h];decide)];exact r
theorem yC{b:Bool}{P R:Prop}(h:b=ae)(p:P):if b=ae then P else R:=by rw[ao h];exact p
theorem mB{i j:Int}(a:-10000000000000000000000000000000000000000000000<i)(b:i<10000000000000000000000000000000000000000000000)(c:-10000000000000000000000000000000000000000000000<j)(d:j<10000000000000000000000000000000000000000000000):CMulB i j:=by
 have k:(10000000000000000000000000000000000000000000000:Int)<big:=by lia
 exact{{(),()},(),()}
def drI(c:Int)(m:Nat)(l:B)(H0:Hp)(i:Nat)(k:St)(H:Hp):Prop:=∃(ds:yz)(x y:Int),(∃o,k=[Y (.int c),Y (.int (m:Nat)),Y (.ref l),Y (.int x),Y (.int y),o])/\aJ H0 H/\H l=Y (.lst (ds.map V.int))/\ds.length=i/\(∀d∈ds,okD d)/\0<=x/\x<1000100/\0<=y/\y<1000100
theorem mS{i j:Int}(a:0<=i)(b:i<1000100)(c:0<=j)(d:j<1000100):CMulB i j:=mB () () () ()
theorem zlk{c:St}{i:TE}{y n:Int}(o:∀Q:VK,Q (.int y) H->i c H Q)(m:0<n)(q:∀k,0<=k->k<n->Q (.int k) H):aO ad i (tC (.int n)) c H Q:=o _ {_,_,U,U,m,q _ (du _ ()) (cN _ m)}
theorem KJ{c:Int}{m:Nat}(hm:m<=120)(q:∀(l:B)(ds:yz)(H':Hp),aJ H H'->H l=af->H' l=Y (.lst (ds.map V.int))->ds.length=m->(∀d∈ds,okD d)->Q (.ref l) H') :
  Yu K t (mt Q) (zZZ 6 [.int c,.int m]) H:=by
 refine{(),λl hl=>?_};generalize c_:upd H l _=H0;have #[s0,e0]:=je c_ hl;unfold zB yp zG;show aO ad (ze 0) (tC (.int 1000003)) _ _ _;refine zlk (λ_ q=>{_,U,q}) () λu a1 a2=>{_,_,U,U,?_};show aO ad (aO aD (ze 0) (tC (.int 1000003))) (tC (.int 999983)) _ _ _;refine zlk (λ_ q=>{_,U,_,_,U,U,dB,q}) () λo a3 a4=>{_,_,U,U,?_};refine{_,U,m,U,(),(),qu (drI c m l H) {[],u+17,o+29,{_,U},s0,e0,U,(λd z=>nomatch z),(),(),(),()} ?_ ?_}
 .rintro i σ H1 hi ⟨ds,x,y,⟨o5,rfl⟩,O,E,li,T,u,x1,o,y1⟩;have hi:i<m:=by lia
  show aO _ _ (tC (.int 1000003)) _ _ _;refine zlk (λ_ q=>{_,U,_,U,_,_,U,U,mS u x1 u x1,_,U,_,_,U,U,mS () () o y1,_,_,U,U,_,U,_,_,U,U,q}) () λJ A n2=>?_;have k:J<1000100:=by lia
  dsimp only;refine zlk (λ_ q=>{_,U,_,U,_,_,U,U,mS o y1 A k,_,U,_,_,U,U,mS () () A k,_,_,U,U,_,_,U,U,q}) () λI n3 n4=>?_;have aa:I<1000100:=by lia
  refine{_,U,.inl {U,_,aM.of E},_,U,_,_,U,U,mS A k () (),_,U,_,_,U,U,l,_,_,U,U,E,dN (by rw[bh];lia:_<=120) (),ds++[J*999983+I],J,I,{_,U},vh O hl,by rw[b7];exact zh,by rw[bx,li];rfl,λd hd=>?_,A,k,n3,aa};obtain hd|hd:=bP.mp hd
  .exact T d hd
  .rw[bB.mp hd];exact{(),()}
 .rintro σ H1 ⟨ds,x,y,⟨o5,rfl⟩,O,E,li,T,_⟩;exact{_,U,q l ds H1 O hl E (by simpa using li) T}
theorem zne{n:Int}:inW (n*1000000021000000147000000343%2000000000000000000000000000001-1000000000000000000000000000000)=ae:=by have i:=du (n*1000000021000000147000000343) (b:=2000000000000000000000000000001) ();have c:=cN (n*1000000021000000147000000343) (b:=2000000000000000000000000000001) ();exact inW_iff.mpr ()
theorem zmc(h0:σ[k]?=Y (Y (.ref d)))(hc:zep [k] σ=[Y (.ref d)])(hd:H d=Y (.dT (mx ac)))(hl:(mx ac).length<=63)(ht:∀(p:B)(q:Pl)(w:Int)(H':Hp)(A Bo:Hp->Prop),zP ac q=Y w->Am H' d (.ref p) (Y (.int w))->(w≠0->A H')->(w=0->Bo H')->tt [Y (.ref p),Y (.ref d)] H' λb H3=>if b=ae then A H3 else Bo H3)(q:∀l c H',aJ H H'->H l=af->aV H' l c->xA ac c->c.length<=(mx ac).length->Q (.ref l) H') :
  kS (qS K (uS zlZ (zf (ze k) zm))) (zG 0) tt (xO (zf (ze 0) (zf (Q8 (ze 1) (ze 0)) zm))) 1 [k] σ H Q:=by
 have #[qs,O,aj,I]:=KD ac;refine{_,h0,d,mx ac,qs,U,hd,O,(),λl z ai m aa ab=>?_};generalize c_:upd H l _=H1;have #[s1,q1]:=je c_ ai;have lp:z.length=(mx ac).length:=by have a1:=m.length_eq;have a2:=congrArg dQ O;rw[bh] at a1;rw[bh,bh] at a2;lia
 refine{l,U,{_,aM.of q1},λD hD=>?_};rw[hc];refine X8 (J:=Itl K l) z.length () (λτ=>∃o,τ=[o,Y (.ref d)]) (zm8 ac (z.map (·.2))) (λi ys H H' s h=>zlf s h) {_,U} {[],.nil,U} (λi H s h=>{_,_,aM.of (s _ _ q1),bd (by rw[bh];exact h)}) (λH s=>{_,aM.of (s _ _ q1),by rw[bh];exact bo _}) hD ?_ ?_
 .rintro i v τ ys H4 H5 ⟨o,rfl⟩ E hi hR ⟨rfl,hv⟩;have hv:=hv _ (aM.of (E _ _ q1));rw[br] at hv;have #[n,hn,rfl]:=cm.mp hv;have hp:=E _ _ (s1 _ _ (ab n (bU hn)));have hm:n.2∈qs:=m.mem_iff.mp (bL (bU hn));have #[w,hw]:=gJ.mp ((I n.2).mp hm);have g:Am H5 d (.ref n.1) ((zP ac n.2).map V.int):=.inr {mx ac,zD n.2,n.1,.inl (E _ _ (s1 _ _ hd)),U,hp,(Xt ac n.2).symm};rw[hw] at g;have tk:(z.map (·.2)).take (i+1)=(z.map (·.2)).take i++[n.2]:=by rw[dY,br,hn];rfl
  have #[c,hr,T]:=hR;refine ht n.1 n.2 w H5 _ _ hw g (λw0=>{_,U,_,U,_,U,d,_,U,g,(),λp u=>{{_,U},?_,hX p u}}) λw0=>{{_,U},?_,aJ.refl _}
  .refine{c++[(n.2,w)],zaR (WV (hX p u) hr) {p,n.1,U,zh,hX p u _ _ hp},?_};rw[tk,rS,<-T];simp[KG,hw,w0]
  .refine{c,hr,?_};rw[tk,rS,<-T];simp[KG,hw,w0]
 .rintro ys H4 al ⟨c,hr,T⟩ E hq;rw[cB (by rw[bh];exact bo _)] at T;subst T;refine q D _ H4 (s1.trans E) (yi s1 hD) {ys,hq,hr} (zm9 aa λp=>(m.mem_iff.trans (I p))) ?_;have:=List.length_filterMap_le (KG ac) (z.map (·.2));rw[bh] at this;lia
theorem zdD{f:Pl->Int}{p:Pl}:∀ {qs:List Pl},zP (qs.map λq=>(q,f q)) p=if p∈qs then Y (f p) else af
 |[]=>rfl
 |q::qs=>by
  rw[bC,zP,zdD (qs:=qs)];by_cases h:p∈qs
  .rw[ao h,ao (bw _ h)];rfl
  .rw[ag h];by_cases e:q=p
   .subst e;rw[ao U,ao bu];rfl
   .rw[ag e,ag (λz=>(bn.mp z).elim (λy=>e y.symm) h)];rfl
theorem zbI:∀ {ys:LV}{i:ya}{c:List Pl},Bl (zeL H) ys i->i.map (·.1)=c.map zD->Bl (PlV H) ys c
 |_,_,[],.nil,_=>.nil
 |_,_,_::_,.nil,e=>by cases e
 |_,_,[],.cons _ _,e=>by cases e
 |_,_,q::c,.cons ⟨p,e1,e2⟩ r,e=>by rw[bC,bC] at e;have #[m,k]:=iN e;exact .cons {p,e1,by rw[m] at e2;exact e2} (zbI r k)
theorem zjF{k i:Type}{F:k->i->Prop}:∀ {a:List k}{b:List i}{c:List k}{d:List i},Bl F a b->Bl F c d->Bl F (a++c) (b++d)
 |_,_,_,_,.nil,h=>h
 |_,_,_,_,.cons h r,h2=>.cons h (zjF r h2)
def tfR(ac:zF)(i:Nat)(ys:LV)(H:Hp):Prop:=Bl (PrAt H) ys (ac.take i)
section
variable {m:B}
theorem zll{E:B}{ys:LV}{qs:List Pl}(h1:uW t H m F g aQ)(h2:0<=aI)(hl:H E=Y (.lst ys))(hy:Bl (PlV H) ys qs)(le:qs.length<=63)(q:∀l c H',aJ H H'->H l=af->aV H' l c->xA (qs.map λq=>(q,w6 g aQ q aI)) c->Q (.ref l) H') :
  ZX K t (mt Q) [Y (.ref m),Y (.int aI),Y (.ref E)] H:=by
 have ly:=bO hy;obtain⟨ac,er⟩:∃ac,ac=qs.map λq=>(q,w6 g aQ q aI):={_,U};have lr:ac.length=qs.length:=by rw[er,bh]
 rw[<-er] at q;refine{_,U,E,U,{_,aM.of hl},λD hD=>?_};refine X8 (J:=Itl K E) ys.length () (λτ=>∃o,τ=[o,Y (.ref m),Y (.int aI)]) (tfR ac) (λi ys H H' s h=>Paired.mapP h λ_ _ z=>L2.PrAt.tsame z s) {_,U} .nil (λi H s h=>{_,_,aM.of (s _ _ hl),bd h}) (λH s=>{_,aM.of (s _ _ hl),bo _}) hD ?_ ?_
 .rintro i v τ us H4 H5 ⟨o,rfl⟩ k hi A ⟨rfl,T⟩;have T:=T _ (aM.of (k _ _ hl));have #[O,aa,p,rfl,hp]:=Paired.getP hy T;have u:=h1.same k;have #[dx,fs,i1,i2,i3,i4]:=u.ins;refine yC (R:=False) U {_,U,xK i1 U i3 {_,U,_,U,m,p,aI,F,g,aQ,O,U,u,h2,k _ _ hp,λH6 I=>{(),λr hr=>{{_,U},?_,I.trans (hX r hr)}}}};have tk:ac.take (i+1)=ac.take i++[(O,w6 g aQ O aI)]:=by rw[dY,er,br,aa];rfl
  unfold tfR;rw[tk];exact Paired.snocP (Paired.mapP A λ_ _ z=>L2.PrAt.same z (I.trans (hX r hr))) {r,p,U,zh,(k.trans (I.trans (hX r hr))) _ _ hp}
 .intro us H4 ai A k hq;unfold tfR at A;rw[cB ()] at A;have ld:=jv ac;exact{D,ac,U,{us,hq,A},(),(),λl c H' s ab ho ht=>q l c H' (k.trans s) (yi k ab) ho ht}
end
theorem zjG(xs:LV)(n:Nat):jU xs (Y (n:Int)) af=xs.drop n:=by
 unfold jU;rw[HT.sIx_none,HT.sIx_nat];by_cases c:n<=xs.length
 .rw[eC c];exact cB (by rw[fD];exact bo _)
 .rw[ue (),lZ (bo _),lZ (),List.take_nil]
theorem znf(xs:LV)(k m:Nat)(i:k<=m)(c:m<=xs.length):jU xs (Y (k:Int)) (Y (m:Int))=(xs.drop k).take (m-k):=by unfold jU;rw[HT.sIx_nat,HT.sIx_nat,eC c,eC (by lia:k<=xs.length)]
theorem uY.mono{H H':Hp}{n:Nat}(s:aJ H H')(h:uY H n v u):uY H' n v u:=by
 induction h with
 |int i=>exact .int i
 |str x=>exact .str x
 |lst e1 e2 l _ ih=>exact .lst (s _ _ e1) (s _ _ e2) l ih
 |tup e1 e2 l _ ih=>exact .tup (s _ _ e1) (s _ _ e2) l ih
theorem ZZ{H:Hp}{Q:VK}{E:XK}(h:yH 0 vs H Q E):False:=by have #[v,u,_,h,_]:=h;cases h
theorem VL{i:Nat}{T:String}{b:Bool}(h0:σ[i]?=Y (Y v))(c:YD K H v tv)(k:gF K tv (.type T)=Y b)(q:Q (.bl b) H):uS (Yg K) (zf (ze i) (zf (tC (.ty T)) zm)) σ H Q:={_,h0,v,.ty T,tv,b,U,c,{T,U,k},q}
theorem qh{i:Nat}{T:String}{b:Bool}{Q:Bool->Hp->Prop}(h0:σ[i]?=Y (Y v))(c:YD K H v tv)(k:gF K tv (.type T)=Y b)(q:Q b H):tB (uS (Yg K) (zf (ze i) (zf (tC (.ty T)) zm))) σ H Q:=VL h0 c k {b,U,q}
theorem zmd(q:Q (.bl ae) H):Q (.bl (decide (v=v))) H:=by rw[Bj rfl];exact q
theorem KK{n:Nat}{v u:V}(F:KF K)(h:uY H (n+1) v u)(q:∀H',aJ H H'->Q (.bl ae) H') :
  kL K t n (mt Q) (zZZ 4 [v,u]) H:=by
 unfold kL zB yF tOr zgu Xc;cases h with
 |int i=>
  refine qh U (.int i) F.i_l (zV U (qh U (.int i) F.i_t (zV U (qh U (.int i) F.i_s (zV U ?_)))));exact VL U (.int i) (wq _) {ae,U,yC U (VL U (.int i) F.i_b {ah,U,ae,U,yC U {_,U,_,U,U,zmd (q _ (aJ.refl _))}})}
 |str y=>
  refine qh U (.str y) F.s_l (zV U (qh U (.str y) F.s_t (zV U (qh U (.str y) (wq _) (yC U ?_)))));exact VL U (.str y) (wq _) {ae,U,yC U {_,U,_,U,U,zmd (q _ (aJ.refl _))}}
 |@lst _ a b xs ys ha hb ll hx=>
  refine qh U (.lst hb) (wq _) (yC U (yC U (qh U (.lst ha) (wq _) (zV U (zV U ?_)))));refine VL U (.lst ha) (wq _) (VL U (.lst hb) (wq _) {U,_,U,zV U ?_});refine{_,U,.ref a,xs.length,U,.inl {_,aM.of ha,U},_,U,.ref b,ys.length,U,.inl {_,aM.of hb,U},U,_,U,zV (by rw[Bj (by rw[ll])];rfl) ?_};refine{_,U,_,U,a,b,xs,ys,U,ll,.inl {aM.of ha,aM.of hb,zgQ xs ys (λ_ c H'=>(∃A m,c=[Y (.ref a),Y (.ref b),A,m])/\aJ H H') {{_,_,U},aJ.refl _} (λi c H' z=>{aM.of (z.2 _ _ ha),aM.of (z.2 _ _ hb)}) ?_ ?_}}
  .rintro i x y T c H1 J I O ⟨⟨A,m,rfl⟩,S⟩;have k:=hX (o:=HO.tup [x,y]) T O;exact{T,_,U,aX.of zh,U,_,_,U,_,_,U,U,_,U,_,U,x,y,U,uY.mono (S.trans k) (hx i x y J I),λH2 E=>{_,U,zV U {{_,_,U},S.trans (k.trans E)}}}
  .rintro c H' ⟨_,S⟩;exact q _ S
 |@tup _ a b xs ys ha hb ll hx=>
  refine qh U (.tup hb) F.t_l (zV U (qh U (.tup hb) (wq _) (yC U (qh U (.tup ha) F.t_l (yC U (qh U (.tup ha) (wq _) (zV U ?_)))))));refine VL U (.tup ha) F.t_l (VL U (.tup hb) F.t_l {U,_,U,zV U ?_});refine{_,U,.ref a,xs.length,U,.inr {_,aX.of ha,U},_,U,.ref b,ys.length,U,.inr {_,aX.of hb,U},U,_,U,zV (by rw[Bj (by rw[ll])];rfl) ?_};refine{_,U,_,U,a,b,xs,ys,U,ll,.inr {aX.of ha,aX.of hb,zir xs ys (λ_ c H'=>(∃A m,c=[Y (.ref a),Y (.ref b),A,m])/\aJ H H') {{_,_,U},aJ.refl _} (λi c H' z=>{aX.of (z.2 _ _ ha),aX.of (z.2 _ _ hb)}) ?_ ?_}}
  .rintro i x y T c H1 J I O ⟨⟨A,m,rfl⟩,S⟩;have k:=hX (o:=HO.tup [x,y]) T O;exact{T,_,U,aX.of zh,U,_,_,U,_,_,U,U,_,U,_,U,x,y,U,uY.mono (S.trans k) (hx i x y J I),λH2 E=>{_,U,zV U {{_,_,U},S.trans (k.trans E)}}}
  .rintro c H' ⟨_,S⟩;exact q _ S
section
variable {β:Type}{R R':Int->V->β->Prop}{l:List (Int×β)}{b:β}
theorem Aa{e:Int×β}:e∈yY l h↔e∈l/\e.1≠h:=by unfold yY;rw[da,decide_eq_true_eq]
theorem Pk.get(p:Pk R kv l):(yu kv (.inl h)=af/\h ∉ l.map (·.1))\/∃v b,yu kv (.inl h)=Y v/\(h,b)∈l/\R h v b:=by
 unfold Pk at p;induction p with
 |nil=>exact .inl {zcn,nofun}
 |@cons x e kv l hd tl ih=>
  by_cases c:e.1=h
  .subst c;exact .inr {x.2,e.2,xa hd.1,bu,hd.2}
  .have n:¬ x.1=.inl h:=by rw[hd.1];exact λz=>c (oZ z)
   rw[xb n,bC,bn];exact ih.imp (λz=>{z.1,λy=>y.elim (λy=>c y.symm) z.2}) λ⟨v,b,m,k,i⟩=>{v,b,m,bw _ k,i}
theorem Pk.drop(p:Pk R kv l):Pk R (yB kv (.inl h)) (yY l h):=by
 unfold Pk at p;induction p with
 |nil=>exact .nil
 |@cons x e kv l hd tl ih=>
  by_cases c:e.1=h
  .rw[zac (hd.1.trans (congrArg _ c)),yY,eY,ag (by rw[decide_eq_true_eq];exact λz=>z c)];exact ih
  .rw[Wz (by rw[hd.1];exact λz=>c (oZ z)),yY,eY,ao (Bj c)];exact .cons hd ih
theorem Pk.put(p:Pk R kv l)(n:h ∉ l.map (·.1))(r:R h v b):Pk R (xu kv (.inl h) v) (l++[(h,b)]):=by
 obtain ⟨e,_⟩|⟨v,b,_,m,_⟩:=p.get (h:=h)
 .rw[jE _ e];exact Paired.snocP p {U,r}
 .exact absurd (bL (f:=λe:Int×β=>e.1) m) n
theorem Pk.set(p:Pk R kv l)(o:(l.map (·.1)).Nodup)(f:∀k v i,(k,i)∈l->k≠h->R k v i->R' k v i)(g:∀v,yu kv (.inl h)=Y v->R' h v b):Pk R' kv (zbB l h b):=by
 unfold Pk at p;induction p with
 |nil=>exact .nil
 |@cons x e kv l hd tl ih=>
  rw[bC,cx] at o;have q:=λk v i m=>f k v i (bw e m);by_cases c:e.1=h
  .refine .cons ?_ (ih o.2 q λv z=>?_)
   .dsimp only;rw[ao c];subst c;exact{hd.1,g _ (xa hd.1)}
   .obtain ⟨y,_⟩|⟨_,i,_,m,_⟩:=Pk.get (R:=R) tl (h:=h)
    .rw[y] at z;cases z
    .exact absurd (bL (f:=λe:Int×β=>e.1) m) (by rw[<-c];exact o.1)
  .refine .cons ?_ (ih o.2 q λv z=>g v ((xb (by rw[hd.1];exact λz=>c (oZ z))).trans z));dsimp only;rw[ag c];exact{hd.1,f _ _ _ bu c hd.2}
end
section
variable {L':List (B×HO)}{m:B}{CC:List (List Cs)}{o:HO}{i:Nat}{gi:zF}
theorem TSm.of(s:aJ H H'):TSm H H':=λ_ _ e=>s _ _ e
theorem qN:∀k u,H k=Y u->∃u',upd H b o k=Y u':=λk u e=>by
 by_cases c:k=b
 .exact{o,by rw[c];exact zh}
 .exact{u,by rw[zk c];exact e}
theorem Z0(e:H b=Y o)(n:∀k,o≠.tup k):TSm H (upd H b o'):=λq ys c=>by rw[zk (zJ c e (λz=>n ys z.symm))];exact c
end
section
variable {CC:List (List Cs)}{ws:yz}{o:HO}{i:Nat}{gi:zF}
theorem zng(x:Int):∃k,xu (dbL db) (.inl x) (.bl ae)=dbL k/\(db.Nodup->k.Nodup)/\∀y,y∈k↔y∈db\/y=x:=by
 by_cases c:x∈db
 .refine{db,?_,id,λy=>{.inl,λz=>z.elim id λz=>by rw[z];exact c}};unfold xu;rw[ao (ud.mpr {(.inl x,.bl ae),bL (f:=λr=>((.inl r:Key),V.bl ae)) c,Bj U})];refine(dR λkv A=>?_).trans (List.map_id _);have #[y,_,rfl]:=bH.mp A;split <;> rfl
 .refine{db++[x],?_,λq=>?_,λy=>by rw[bP,bB]}
  .rw[jE _ (zbD λz=>?_)]
   .unfold dbL;rw[b7];rfl
   rw[dbL,fm] at z;have #[y,m,e]:=bH.mp z;exact c (by rw[<-oZ e];exact m)
  .refine List.nodup_append.mpr {q,by simp,λy m z u e=>c ?_};rw[<-bB.mp u,<-e];exact m
theorem zf4(x:Int):yB (dbL db) (.inl x)=dbL (db.filter λy=>decide (y≠x)):=by unfold yB dbL;rw[List.filter_map];congr 1;refine List.filter_congr λy _=>?_;show decide ((lK y:Key)≠.inl x)=decide (y≠x);simp
theorem zjH{x:Int}(h:x∈db):yu (dbL db) (.inl x)=Y (.bl ae):=by
 cases e:yu (dbL db) (.inl x) with
 |none=>
  refine absurd ?_ (zcv e);rw[dbL,fm];exact bL (f:=λy:Int=>(lK y:Key)) h
 |some v=>
  have #[p,c,rfl]:=zim e;have #[y,_,rfl]:=bH.mp c;rfl
end
section
variable {CC:List (List Cs)}{ws:yz}{o:HO}{i:Nat}{gi:zF}
theorem zof{c:Type}{x y:Int×c}:∀ {l:List (Int×c)},(l.map (·.1)).Nodup->x∈l->y∈l->x.1=y.1->x=y
 |z::l,nd,hx,hy,e=>by
  rw[bC,cx] at nd;obtain h1|h1:=bn.mp hx <;> obtain h2|h2:=bn.mp hy
  .rw[h1,h2]
  .exact absurd (bH.mpr {y,h2,by rw[<-e,h1]}) nd.1
  .exact absurd (bH.mpr {x,h1,by rw[e,h2]}) nd.1
  .exact zof nd.2 h1 h2 e
end
section
variable {m:B}{CC:List (List Cs)}{ws:yz}{o:HO}{i:Nat}{gi:zF}
theorem zog(h:Bl (zeL H) ys (mx gs)):∀y∈ys,∃c q,y=.ref c/\H c=Y (.tup ((zD q).map kV)):=λy k=>by have #[i,A]:=cQ k;have #[kv,u,c,e,E]:=Paired.getP h A;have #[O,I,_]:=KD gs;have z:=bL (f:=λx:xt×V=>x.1) (bU u);rw[I] at z;have #[q,_,J]:=bH.mp z;exact{c,q,e,by rw[J];exact E}
theorem znh{ys:LV}{c:zF}(h:Bl (zeL H) ys (mx c))(k:(c.map (·.1)).Nodup):ys.length=c.length:=by rw[bO h,WU k,bh]
end
section
variable {m:B}{CC:List (List Cs)}{C:List Cs}{ws:yz}{o:HO}{i k:Nat}{hl:List (Int×Int×Nat×RSt)}
theorem WW{x:B}(D:DkF K t)(h:H x=Y (.ins t.q0b dx []))(q:Q .non (upd H x (.ins t.q0b dx [(bb "times",.int 0)]))):Zf K t (mt Q) (zZZ 1 [.ref x]) H:={_,U,x,_,dx,[],U,h,D.cT,D.t1,(),q}
theorem Y3{x l:B}(D:DkF K t)(h:H l=Y (.lst (ws.map V.int)))(A:ws≠[])(c:H x=Y (.ins t.q0b dx [(bb "times",.int k)]))(q:∀w∈ws,Q (.int w) (upd H x (.ins t.q0b dx [(bb "times",.int (k+1:Nat))]))):kj K t (mt Q) (zZZ 3 [.ref x,.ref l]) H:=by have z:0<ws.length:=sQ.mpr A;have u:k%ws.length<ws.length:=mh _ z;refine(zX c D.cT D.t1 U U {_,U,.ref l,ws.length,U,.inl {_,aM.of h,(bh ..).symm},_,_,U,U,by show (0:Int)<(ws.length:Int);lia,?_});refine{_,U,x,_,dx,_,_,U,c,D.cT,D.t1,U,_,_,U,U,dx,_,c,(),?_};refine{_,U,_,U,l,_,(k%ws.length:Nat),_,U,congrArg V.int (Int.natCast_emod _ _).symm,aM.of (by rw[zk (zJ h c ())];exact h),yy (by rw[br,bd u];rfl),q _ (c9 u)}
end
structure PO(H0:Hp)(x w:B)(ox:HO)(H:Hp)(lb:At)(F:uZ)(E:List (Nat×B×HO)):Prop where
 hx:H x=Y ox
 lx:lb x=1
 ob:∀e∈E,1<e.1/\H e.2.1=Y e.2.2/\lb e.2.1=e.1
 ow:∀b,lb b≠0->∃o,H b=Y o
 kp:x8 x H0 H
 fr:∀b,lb b≠0->b=x\/b=w\/H0 b=af
 f10:∀b,lb b=10↔F b
section
variable {c:B}{ox o:HO}{E:List (Nat×B×HO)}{n:Nat}
theorem PO.put(h:PO H0 x w ox H lb F E)(o:HO):PO H0 x w o (upd H x o) lb F E:=by
 refine{zh,h.lx,λe k=>?_,λb z=>?_,λb u z e=>by rw[zk z];exact h.kp b u z e,h.fr,h.f10}
 .have #[q,m,i]:=h.ob e k;exact{q,by rw[zk (λy=>by rw[y,h.lx] at i;lia)];exact m,i}
 .have #[u,e]:=h.ow b z;exact qN b u e
theorem PO.same(h:PO H0 x w ox H lb F E)(s:aJ H H'):PO H0 x w ox H' lb F E:={s _ _ h.hx,h.lx,λe i=>let ⟨h1,h2,h3⟩:=h.ob e i;{h1,s _ _ h2,h3},λb z=>let ⟨o,e⟩:=h.ow b z;{o,s _ _ e},λb o z e=>s _ _ (h.kp b o z e),h.fr,h.f10}
theorem PO.l0(h:PO H0 x w ox H lb F E)(i:H c=af):lb c=0/\H0 c=af:=by
 have k:c≠x:=λz=>by rw[z,h.hx] at i;cases i
 refine{cp (λz=>by have #[o,e]:=h.ow c z;rw[i] at e;cases e),?_};cases e:H0 c with
 |none=>rfl
 |some u=>have:=h.kp c u k e;rw[i] at this;cases this
open Classical in
theorem PO.lab{F':uZ}(h:PO H0 x w ox H lb F E)(n:Nat)(m:∀b,(N b/\n=10\/F b)↔F' b)(i:∀b,N b->lb b=0/\H0 b=af/\∃o,H b=Y o):∃lb',PO H0 x w ox H lb' F' E/\(∀b,N b->lb' b=n)/\∀b,¬ N b->lb' b=lb b:=by
 have I:∀b,lb b≠0->¬ N b:=λb z y=>z (i b y).1;refine{λb=>if N b then n else lb b,{h.hx,(ag (I x (by rw[h.lx];decide))).trans h.lx,λe k=>?_,λb z=>?_,h.kp,λb z=>?_,λb=>?_},λb z=>ao z,λb z=>ag z}
 .have #[A,u,q]:=h.ob e k;by_cases y:N e.2.1
  .have:=(i _ y).1;lia
  .exact{A,u,(ag y).trans q}
 .by_cases y:N b
  .exact(i b y).2.2
  .exact h.ow b (λw=>z ((ag y).trans w))
 .by_cases y:N b
  .exact .inr (.inr (i b y).2.1)
  .exact h.fr b (λw=>z ((ag y).trans w))
 .rw[<-m,<-h.f10];by_cases y:N b
  .rw[ao y,(i b y).1];simp[y]
  .rw[ag y];simp[y]
theorem PO.new(h:PO H0 x w ox H lb F E)(n:Nat)(q:1<n)(m:n≠10)(k:H c=af):∃lb',PO H0 x w ox (upd H c o) lb' F ((n,c,o)::E):=by
 have #[l0,u]:=h.l0 k;have #[lb',i,A,I]:=(h.same (hX c k (o:=o))).lab (N:=λb=>b=c) n (λb=>{λz=>z.resolve_left λy=>m y.2,.inr}) λb z=>by rw[z];exact{l0,u,_,zh}
 exact{lb',i.hx,i.lx,λe he=>by
  obtain rfl|he:=bn.mp he
  .exact{q,zh,A c U}
  .exact i.ob e he,i.ow,i.kp,i.fr,i.f10}
theorem PO.init(h:H0 x=Y o)(i:∃u,H0 w=Y u):∃lb,PO H0 x w o H0 lb (λ_=>False) []/\(w≠x->lb w=2)/\∀b,b≠x->b≠w->lb b=0:=by
 refine{λb=>if b=x then 1 else if b=w then 2 else 0,{h,ao U,(λe k=>nomatch k),λb z=>?_,λb u _ e=>e,λb z=>?_,λb=>?_},λz=>(ag z).trans (ao U),λb z y=>(ag z).trans (ag y)}
 .by_cases y:b=x
  .rw[y];exact{_,h}
  .by_cases v:b=w
   .rw[v];exact i
   .rw[ag y,ag v] at z;exact absurd U z
 .by_cases y:b=x
  .exact .inl y
  .by_cases v:b=w
   .exact .inr (.inl v)
   .rw[ag y,ag v] at z;exact absurd U z
 .by_cases y:b=x
  .rw[ao y];simp
  .by_cases v:b=w
   .rw[ag y,ao v];simp
   .rw[ag y,ag v];simp
section
variable {C:B}{fs:LSV}{fl:Str}{σ:St}{D:VT}{k:Nat}
theorem PO.st(P:PO H0 x w (.ins C dx fs) H lb F E)(h0:σ[0]?=Y (Y (.ref x)))(c:Ae K C)(n:aL K C fl)(hl:fs.length<1000)(q:∀H',PO H0 x w (.ins C dx (xW fl y fs)) H' lb F E->D.nx σ H'):ze 0 σ H (zcg K fl (D.nx σ) y):={_,h0,x,C,dx,fs,U,P.hx,c,n,hl,q _ (P.put _)}
theorem PO.stM(M:uW t H m F g [])(P:PO H0 x w (.ins C dx fs) H lb F E)(h0:σ[0]?=Y (Y (.ref x)))(c:Ae K C)(n:aL K C fl)(hl:fs.length<1000)(q:∀H',PO H0 x w (.ins C dx (xW fl y fs)) H' lb F E->uW t H' m F g []->D.nx σ H'):ze 0 σ H (zcg K fl (D.nx σ) y):={_,h0,x,C,dx,fs,U,P.hx,c,n,hl,q _ (P.put _) (M.keep (λb o i e=>by rw[zk (λz=>by have:=(P.f10 b).mpr i;rw[z,P.lx] at this;cases this)];exact e) (Z0 P.hx nofun))}
theorem PO.sv(P:PO H0 x w (.ins C dx fs) H lb F E)(h0:σ[0]?=Y (Y (.ref x)))(i:σ[k]?=Y (Y y))(c:Ae K C)(n:aL K C fl)(hl:fs.length<1000)(q:∀H',PO H0 x w (.ins C dx (xW fl y fs)) H' lb F E->D.nx σ H'):xD K (ze 0) (ze k) fl D σ H:={_,i,P.st h0 c n hl q}
theorem PO.so(o:HO)(m:Nat)(u:1<m)(i:m≠10)(P:PO H0 x w (.ins C dx fs) H lb F E)(h0:σ[0]?=Y (Y (.ref x)))(c:Ae K C)(n:aL K C fl)(hl:fs.length<1000)(q:∀c H' lb',PO H0 x w (.ins C dx (xW fl (.ref c) fs)) H' lb' F ((m,c,o)::E)->D.nx σ H')(p:B)(z:H p=af):ze 0 σ (upd H p o) (zcg K fl (D.nx σ) (.ref p)):=by have #[lb',A]:=P.new (o:=o) m u i z;exact A.st h0 c n hl λH'=>q p H' lb'
end
theorem QC{J:LV}{_E:XK}(D:DkF K t)(h:qJ t J H Q _E) :
  qL K t (mt Q) (zZZ 2 J) H:=by
 have #[x,m,dx,rfl,A,q]:=h;have #[lb,P,_]:=PO.init A {_,A};unfold qL zB;refine P.sv U U D.cJ D.j1 () λH1 P=>P.so (.dK []) 7 () () U D.cJ D.j2 () λla H2 aa P=>P.so (.dT []) 11 () () U D.cJ D.j3 () λre H3 T P=>P.so (.dK []) 8 () () U D.cJ D.j4 () λdb H7 k i=>?_;have I:∀n c o,(n,c,o)∈[(8,db,HO.dK []),(11,re,.dT []),(7,la,.dK [])]->H7 c=Y o/\H c=af/\k c=n:=λn c o z=>by
  have #[A,h2,u]:=i.ob _ z;have A:1<n:=A;have u:k c=n:=u;obtain y|y|y:=i.fr c ()
  .rw[y,i.lx] at u;lia
  .rw[y,i.lx] at u;lia
  .exact{h2,y,u}
 have #[a1,a2,O]:=I 7 la _ (.tail _ (.tail _ (.head _)));have #[b1,b2,b3]:=I 11 re _ (.tail _ (.head _));have #[c1,c2,c3]:=I 8 db _ (.head _);exact q _ la re db i.kp i.hx a1 b1 c1 a2 b2 c2 (λz=>by rw[z,c3] at O;cases O)
end
section
variable {β:Type}{l:List (Int×β)}{b b0:β}{q:Int×β->Nat}
theorem zdE:∀ {l:List (Int×β)},h ∉ l.map (·.1)->yY l h=l
 |[],_=>rfl
 |e::l,n=>by rw[bC,bn] at n;have c:e.1≠h:=λz=>n (.inl z.symm);rw[yY,eY,ao (Bj c)];exact congrArg _ (zdE λz=>n (.inr z))
theorem Yf:∀ {l:List (Int×β)},(l.map (·.1)).Nodup->(h,b0)∈l->(zbB l h b).Perm ((h,b)::yY l h)/\l.Perm ((h,b0)::yY l h)
 |e::l,nd,m=>by
  rw[bC,cx] at nd;by_cases c:e.1=h
  .have u:e=(h,b0):=zof (l:=e::l) (by rw[bC,cx];exact nd) bu m c;have n:h ∉ l.map (·.1):=by rw[<-c];exact nd.1
   have z:yY (e::l) h=l:=by rw[yY,eY,ag (by rw[decide_eq_true_eq];exact λz=>z c)];exact zdE n
   have y:zbB l h b=l:=(dR λe o=>ag λw=>n (bH.mpr {e,o,w})).trans (List.map_id _);rw[z];refine{?_,by rw[u]};show ((if e.1=h then (h,b) else e)::zbB l h b).Perm _;rw[ao c,y]
  .have m:=(bn.mp m).resolve_left λz=>c (by rw[<-z]);have #[k,i]:=Yf nd.2 m;have z:yY (e::l) h=e::yY l h:=by rw[yY,eY,ao (Bj c)];rfl
   rw[z];refine{?_,(i.cons e).trans (.swap ..)};show ((if e.1=h then (h,b) else e)::zbB l h b).Perm _;rw[ag c];exact(k.cons e).trans (.swap ..)
theorem zdF(k:(l.map (·.1)).Nodup)(m:(h,b0)∈l):((zbB l h b).map q).sum=q (h,b)+((yY l h).map q).sum/\(l.map q).sum=q (h,b0)+((yY l h).map q).sum:=by have #[i,c]:=Yf (b:=b) k m;exact{(i.map q).sum_nat.trans (by rw[bC,gj]),(c.map q).sum_nat.trans (by rw[bC,gj])}
end
section
variable {C:List Cs}{out:zF}{CC CA:List (List Cs)}{ps es:List (RSt×zF)}{ts:List zF}{e:RSt×zF}
theorem Wa(p:Pl)(b:zF):∀a:zF,zP (a++b) p=match zP b p with|some w=>Y w|none=>zP a p
 |[]=>by rw[fY];cases zP b p <;> rfl
 |x::a=>by rw[fE,zP,Wa p b a,zP];cases zP b p <;> rfl
end
section
variable {n:Nat}{x x' y' u w:V}{a c:B}{e:RSt×zF}
theorem zjI(i:Nat)(u w:V)(h:([]:LV)[i]?=Y u):uY H n u w:=nomatch h
theorem xw(h:uY H n x x')(k:∀(i:Nat) u w,xs[i]?=Y u->ys[i]?=Y w->uY H n u w)(i:Nat)(u w:V)(o:(x::xs)[i]?=Y u)(m:(x'::ys)[i]?=Y w):uY H n u w:=by
 cases i with
 |zero=>cases o;cases m;exact h
 |succ i=>exact k i u w o m
theorem zni{o:Type}{R A:V->o->Prop}{es:List o}(h1:H a=Y (.lst xs))(T:H c=Y (.lst ys))(z:Bl R xs es)(q:Bl A ys es)(k:∀u w e,R u e->A w e->uY H n u w):uY H (n+1) (.ref a) (.ref c):=by refine .lst h1 T ((bO z).trans (bO q).symm) λi u w J I=>?_;have #[e,O,r]:=Paired.getP z J;have #[e',m,E]:=Paired.getP q I;cases O.symm.trans m;exact k u w e r E
theorem Jo(A:aV H a ac)(z:aV H c ac):uY H (n+4) (.ref a) (.ref c):=by have #[xs,O,J]:=A;have #[ys,I,E]:=z;refine zni O I J E ?_;rintro u w e ⟨r,p,rfl,q,o⟩ ⟨T,p',rfl,m,k⟩;exact .tup q m U (xw (.tup o k U (xw (.str _) (xw (.int _) λi u w h _=>zjI i u w h))) (xw (.int _) λi u w h _=>zjI i u w h))
end
theorem zhj{m p:B}{aI aa:Int}{F:uZ}{g:zF}{aQ:Ar}{c:Pl}(MF:MkF K t)(A:u5 t H m F g aQ aa)(h2:aa<=aI)(h3:H p=Y (.tup [.str c.1,.int c.2]))(q:∀H',aJ H H'->Q (.int (w6 g aQ c aI)) H') :
  QB K t (mt Q) (zZZ 5 [.ref m,.ref p,.int aI]) H:=by
 have #[dx,gr,wo,rk,wk,kk,M]:=A.ex;refine{_,U,m,_,_,U,M.im,jN (),_,U,m,_,_,_,_,U,M.im,znb,h2,λH1 s1=>?_};have M1:=M.keep A.me λb o _ e=>s1 _ _ e;refine(zX M1.im MF.cl MF.r U zjC {rk,U,.inr {_,.inl M1.rr.at_},_,U,(),λl hl=>?_});generalize c_:upd H1 l _=H2;have #[s2,q2]:=je c_ hl;have S2:=s1.trans s2;have M2:=M1.keep A.me λb o _ e=>s2 _ _ e;have O:H2 p=Y (.tup ((zD c).map kV)):=S2 _ _ h3;refine{_,.t M2.rr.at_ O,?_};have gd:∀ {I:Hp}{σ:St},σ[0]?=Y (Y (.ref m))->σ[1]?=Y (Y (.ref p))->MrIn t I m F g aQ aa dx gr wo rk wk kk->I p=Y (.tup ((zD c).map kV))->aJ H I->(∀r,qe aQ c r->¬ r<aI)->JC (yR K (ze 0) "ground") (ze 1) (tC (.int 0)) σ I Q:=λ{I σ} e0 E T az S3 ab=>by
  refine(zX T.im MF.cl MF.g e0 zoe {gr,U,.inr {_,.inl T.hg},_,E,_,.t T.hg az,?_});have ev:w6 g aQ c aI=(zP g c).getD 0:=by
   unfold w6;obtain ⟨E,_⟩|⟨y,hy,w,E,e2,_⟩:=wR c aI aQ (-1,(zP g c).getD 0)
   .rw[E]
   .exact absurd e2 (ab y.1 {y.2,hy,(Yc (A.ok y hy).2.nd).mpr (by rw[E];exact nofun)})
  have e2:(yu (mx g) (zD c)).getD (V.int 0)=V.int ((zP g c).getD 0):=by rw[Xt];cases zP g c <;> rfl
  rw[e2,<-ev];exact q I S3
 obtain ⟨a,rs,hk,hv,fa,ha,hs,hne,hi⟩|⟨hv,hk,ab⟩:=M2.rr.get c
 .rw[hv];refine{_,U,_,U,a,rs,_,U,ha,hs,λk I J aj aK an=>{_,U,U,_,U,?_}};have S3:=S2.trans J;have T:=M2.keep A.me λb o _ e=>J _ _ e;by_cases h0:k=0
  .subst h0;exact yC U (gd U U T (J _ _ O) S3 λr hr a0=>by have:=an r (by rw[oA];exact(hi r).mpr hr);lia)
  .refine zV (Bk λz=>h0 (by injection z with z;lia)) ?_;obtain⟨x,hx⟩:∃x,rs[k-1]?=Y x:={_,bd ()};have ek:(k:Int)-1=((k-1:Nat):Int):=by lia
   have #[gs,u,as]:=(hi x).mp (bU hx);have #[d,v1,fd,nd,hd]:=zbE T.wp A.nd u;have ar:=(A.ok _ u).2;obtain⟨w,hw⟩:∃w,zP gs c=Y w:=by
    cases e:zP gs c with
    |none=>exact absurd e ((Yc ar.nd).mp as)
    |some w=>exact{w,U}
   have vd:yu (mx gs) (zD c)=Y (.int w):=by rw[Xt,hw];rfl
   refine(zX T.im MF.cl MF.w U zlg {_,U,_,U,_,_,U,U,a,_,((k-1:Nat):Int),_,U,congrArg V.int ek,aM.of (J _ _ ha),yy (j:=k-1) (by rw[br,hx];rfl),wo,.ref d,U,(show Am I wo (kV (.inl x)) (Y (.ref d)) by rw[<-v1];exact .k T.hw),_,U,d,V.int w,U,by rw[<-vd];exact .t hd (J _ _ O),?_});have xr:x<aI:=aK x (List.mem_iff_getElem?.mpr {k-1,by rw[ik,ao ()];exact hx});have x0:0<=x:=(A.ok _ u).1;have ev:w6 g aQ c aI=w:=by
    unfold w6;obtain ⟨E,e2⟩|⟨y,hy,w',E,e2,e3,e4,e5⟩:=wR c aI aQ (-1,(zP g c).getD 0)
    .have:=e2 _ u (by show (-1:Int)<x;lia) xr;rw[this] at hw;cases hw
    .rw[e4];have yx:x<=y.1:=e5 _ u xr (by rw[hw];exact nofun);have yr:y.1∈rs:=(hi y.1).mpr {y.2,hy,(Yc (A.ok y hy).2.nd).mpr (by rw[E];exact nofun)};have xy:y.1<=x:=by
      have:y.1∈rs.take k\/y.1∈rs.drop k:=bP.mp (by rw[iH];exact yr);obtain z|z:=this
      .have aS:k=k-1+1:=by lia
       rw[aS] at z;exact zf2 hs hx _ z
      .have:=an _ z;lia
     have ey:y.1=x:=by lia
     have e6:y=(x,gs):=by
      have n1:=A.nd;have #[i,ai]:=cQ hy;have #[j,al]:=cQ u;have a1:(aQ.map (·.1))[i]?=Y x:=by rw[br,ai,<-ey];rfl
      have a2:(aQ.map (·.1))[j]?=Y x:=by rw[br,al];rfl
      have ij:=(ms (bp.mp a1).1 n1).mp (a1.trans a2.symm);rw[ij,al] at ai;exact(bX ai).symm
     rw[e6] at E;rw[hw] at E;exact(bX E).symm
   rw[<-ev];exact q I S3
 .rw[hv];refine{_,U,_,U,l,[],_,U,q2,iM,λk I J aj _ _=>{_,U,U,_,U,?_}};obtain rfl:k=0:=Nat.le_zero.mp aj;exact yC U (gd U U (M2.keep A.me λb o _ e=>J _ _ e) (J _ _ O) (S2.trans J) λr hr=>absurd hr (ab r))
theorem zf5{m Bp dx gr wo rk:B}{aI aa:Int}{ys:LV}{F:uZ}{P:Pl->Int->Prop}{gs:zF}{kk:ya}{o3:Option V}(MF:MkF K t)(hm:H m=Y (.ins t.q03 dx (YW gr aa wo rk)))(hL:H Bp=Y (.lst ys))(nL:¬ F Bp)(hy:Bl (zeL H) ys (mx gs))(nd:(gs.map (·.1)).Nodup)(hP:∀r∈gs,P r.1 aI)(hr:hU H rk F P kk)(fk:F rk)(q:∀H' o,aZ F rk H H'->Dm H H'->hU H' rk F (λp r=>P p r/\¬ (r=aI/\p∈gs.map (·.1))) o->Q .non H') :
  ZP K t (mt Q) [Y (.ref m),Y (.int aI),Y (.ref Bp),o3] H:=by
 have mr:m≠rk:=zJ hm hr.at_ ();have ly:ys.length=gs.length:=by rw[bO hy,WU nd,bh]
 refine{_,U,Bp,U,{_,aM.of hL},wP ys (taI m Bp rk aI ys F P gs H) {{_,U},aZ.refl,Dm.refl,kk,hr.eqv λp r=>by simp} (λi σ H' ⟨_,k,_⟩=>aM.of (k _ _ hL (λz=>nL (by rw[z];exact fk)) (.inr nL))) ?_ ?_}
 .rintro i u σ H' hu ⟨⟨o3,rfl⟩,k,dm,o,E⟩;have #[kv,J,p,rfl,O]:=Paired.getP hy hu;rw[WU nd,br] at J;have #[A,I,rfl]:=cm.mp J;have O:H p=Y (.tup ((zD A.1).map kV)):=O;have ai:H' p=Y (.tup ((zD A.1).map kV)):=k _ _ O (zJ O hr.at_ ()) (.inl nofun);have al:=k _ _ hm mr (.inl nofun);have aj:A.1 ∉ (gs.take i).map (·.1):=λz=>by
   have #[j,T]:=cQ z;rw[br,ik] at T;split at T
   .rename_i hji;have a1:(gs.map (·.1))[j]?=Y A.1:=by rw[br];exact T
    have a2:(gs.map (·.1))[i]?=Y A.1:=by rw[br,I];rfl
    have:=(ms (bp.mp a1).1 nd).mp (a1.trans a2.symm);lia
   .cases T
  have an:∀p r,((P p r/\¬ (r=aI/\p∈(gs.take i).map (·.1)))/\¬ (r=aI/\p=A.1))↔(P p r/\¬ (r=aI/\p∈(gs.take (i+1)).map (·.1))):=λp r=>by
   rw[dY,I,b7,bP];have:p∈oz (·.1) (Y A).toList↔p=A.1:=by simp
   rw[this];exact{λ⟨⟨a,b⟩,c⟩=>{a,λd=>d.2.elim (λe=>b {d.1,e}) λe=>c {d.1,e}},λ⟨a,b⟩=>{{a,λc=>b {c.1,.inl c.2}},λc=>b {c.1,.inr c.2}}}
  refine zX al MF.cl MF.r U zjC {_,U,_,U,rk,p,aI,F,_,o,A.1,U,E,fk,ai,{hP A (bU I),λz=>aj z.2},λH2 ab k2 d2 r2=>{{_,U},k.trans k2,dm.trans d2,ab,r2.eqv an}}
 .rintro σ H' ⟨⟨o3,rfl⟩,k,dm,o,E⟩;rw[ly,f8] at E;exact q H' o k dm E
theorem zjJ{D:VT}{gv d m dx gr wo rk:B}{aI T:Int}{G:uZ}{c:zF}{l:Ar}{kk:ya}(MF:MkF K t)(hm:H m=Y (.ins t.q03 dx (YW gr T wo rk)))(hd:H d=Y (.dT (mx c)))(dr:d≠rk)(gf:Qw c)(hr:hU H rk G (qe l) kk)(az:aI ∉ l.map (·.1))(ok:∀y∈l,Qw y.2)(hl:l.length<=200)(gk:G rk)(gn:∀b,H b=af->G b)(q:∀H' o4 u,aZ G rk H H'->(∀b o,H b=Y o->∃o',H' b=Y o')->hU H' rk G (λp r=>qe l p r\/(r=aI/\p∈c.map (·.1))) u->ZQ K t D [Y (.ref m),Y (.int aI),Y (.ref gv),Y (.ref d),o4] H') :
  ZR K t D [Y (.ref m),Y (.int aI),Y (.ref gv),Y (.ref d),af] H:=by
 have mr:m≠rk:=zJ hm hr.at_ ();have md:m≠d:=zJ hm hd ();refine{d,_,mx c,hd,.inl U,λI=>?_};have f0:upd H d (.frz I (.dT (mx c))) d=Y (.frz I (.dT (mx c))):=zh;have an:hU (upd H d (.frz I (.dT (mx c)))) rk G (qe l) kk:=hr.keep2 (by rw[zk dr.symm]) (λb xs _ e=>by rw[zk (zJ e hd ())];exact e) (λ_ z _=>z);have aS:upd H d (.frz I (.dT (mx c))) m=Y (.ins t.q03 dx (YW gr T wo rk)):=by rw[zk md];exact hm
 have d0:Dm H (upd H d (.frz I (.dT (mx c)))):=Dm.upd nofun
 have al:∀ {H'},aZ G rk (upd H d (.frz I (.dT (mx c)))) H'->aZ G rk H (upd H' d (.dT (mx c))):=λ{H'} k b o e n z=>by
  by_cases eb:b=d
  .subst eb;rw[zh,<-hd];exact e
  .rw[zk eb];exact k b o (by rw[zk eb];exact e) n z
 have a5:∀b,upd H d (.frz I (.dT (mx c))) b=af->G b:=λb e=>gn b (by
  by_cases eb:b=d
  .subst eb;rw[zh] at e;cases e
  .rw[zk eb] at e;exact e)
 generalize upd H d (.frz I (.dT (mx c)))=H0 at *
 have kd:∀ {H'},aZ G rk H0 H'->H' d=Y (.frz I (.dT (mx c))):=λ{H'} k=>k _ _ f0 dr (.inl nofun);refine{_,U,d,I,mx c,U,f0,zeB (lyI m gv d rk aI G (qe l) c H0) {{_,U},aZ.refl,Dm.refl,kk,an.eqv λp r=>by simp} (λi σ H' ⟨_,k,_⟩=>kd k) ?_ ?_}
 .rintro i k v p σ H' ai hp ⟨⟨o4,rfl⟩,J,dm,u,E⟩;rw[WU gf.nd,br] at ai;have #[A,aa,er]:=cm.mp ai;cases er;have a0:=J _ _ aS mr (.inl nofun);have ab:A.1 ∉ (c.take i).map (·.1):=λz=>by
   have #[j,hj]:=cQ z;rw[br,ik] at hj;split at hj
   .rename_i hji;have a1:(c.map (·.1))[j]?=Y A.1:=by rw[br];exact hj
    have a2:(c.map (·.1))[i]?=Y A.1:=by rw[br,aa];rfl
    have:=(ms (bp.mp a1).1 gf.nd).mp (a1.trans a2.symm);lia
   .cases hj
  have a3:∀p r,((qe l p r\/(r=aI/\p∈(c.take i).map (·.1)))\/(r=aI/\p=A.1))↔(qe l p r\/(r=aI/\p∈(c.take (i+1)).map (·.1))):=λp r=>by
   rw[dY,aa,b7,bP];have:p∈oz (·.1) (Y A).toList↔p=A.1:=by simp
   rw[this,and_or_left,or_assoc]
  have aK:¬ (qe l A.1 aI\/(aI=aI/\A.1∈(c.take i).map (·.1))):=λz=>z.elim (λ⟨g2,h2,_⟩=>az (bH.mpr {_,h2,U})) λy=>ab y.2;have kl:u.length<=18900:=znd (l:=(aI,c)::l) E (λp r z=>z.elim (λ⟨g2,h2,h3⟩=>{g2,bw _ h2,h3}) λ⟨e,h3⟩=>{c,by rw[e];exact bu,(by
   have #[x,hx,rfl]:=bH.mp h3;exact bL (nu hx))}) (λy hy=>by
   obtain rfl|hy:=bn.mp hy
   .exact gf
   .exact ok y hy) (by rw[bG];lia)
  have a4:∀b,H' b=af->G b:=λb e=>a5 b (by
   cases e0:H0 b with
   |none=>rfl
   |some o=>have #[o',e',_]:=dm b o e0;rw[e] at e';cases e')
  have as:∀O:yz,O.Pairwise (· < ·)->(∀r∈O,qe l A.1 r\/(r=aI/\A.1∈(c.take i).map (·.1)))->O.length<=300:=λO hs aj=>by have rl:O.length<=((aI,c)::l).length:=znc (p:=A.1) hs λr hr=>(aj r hr).elim (λ⟨g2,h2,h3⟩=>{g2,bw _ h2,h3}) λy=>absurd y.2 ab;rw[bG] at rl;lia
  exact zX a0 MF.cl MF.r U zjC {_,U,_,U,rk,p,aI,G,_,u,A.1,U,E,gk,a4,hp,aK,kl,as,λH2 ar k2 d2 r2=>{{_,U},J.trans k2,dm.trans d2,ar,r2.eqv a3}}
 .rintro σ H' ⟨⟨o4,rfl⟩,J,dm,u,E⟩;rw[WU gf.nd,bh,f8] at E;have D2:Dm H (upd H' d (.dT (mx c))):=(d0.trans dm).trans (Dm.upd nofun);refine{kd J,q _ o4 u (al J) (λb o e=>let ⟨o',e',_⟩:=D2 b o e;{o',e'}) (E.keep2 (by rw[zk dr.symm]) (λb xs _ e=>by rw[zk (zJ e (kd J) ())];exact e) (λ_ z _=>z))}
theorem zjK{m gv:B}{aI O:Int}{F:uZ}{g:zF}{aQ:Ar}{gs:zF}(MF:MkF K t)(h1:u5 t H m F g aQ O)(h2:O<=aI)(a6:0<=aI)(h3:aV H gv gs)(a4:¬ F gv)(h4:Qw gs)(h5:aQ.length<=200)(q:∀H' F',(∀b o,¬ F b->H b=Y o->H' b=Y o)->(∀b zs,H b=Y (.tup zs)->H' b=Y (.tup zs))->u5 t H' m F' g (zhf aQ aI gs) O->(∀b,F' b->F b\/H b=af)->(∀b,F b->F' b)->Q .non H') :
  zbC K t (mt Q) (zZZ 5 [.ref m,.int aI,.ref gv]) H:=by
 have #[dx,gr,wo,rk,T,kk,M]:=h1.ex;refine xK M.im U (jN ()) {_,U,m,_,_,_,_,U,M.im,znb,h2,λH1 A=>?_};have M1:=h1.keep (H':=H1) λb o _ e=>A _ _ e;refine xK (A _ _ M.im) U (jN ()) {_,U,m,aI,F,g,aQ,O,U,M1,λH2 F2 an aa J aK az=>?_};clear M T kk gr wo rk dx;have #[xs,hx,hp]:=h3;have a2:=an _ _ a4 (A _ _ hx);have a3:Bl (PrAt H2) xs gs:=Paired.mapP hp λ_ _ ⟨r,p,e,e1,u⟩=>{r,p,e,aa _ _ (A _ _ e1),aa _ _ (A _ _ u)};refine{_,U,gv,xs,gs,U,a2,a3,by have:=h4.le;lia,λd hd=>?_};generalize c_:upd _ d _=H3;have #[s3,q3]:=je c_ hd;have #[dx,gr,wo,rk,T,kk,M2]:=J.ex;have i:=M2.keep J.me λb o _ e=>s3 _ _ e;have a0:¬ F2 d:=λz=>by have #[o,e]:=J.own d z;rw[hd] at e;cases e
 have dr:d≠rk:=λz=>a0 (by rw[z];exact M2.fk);have hl:(Qx aQ aI).length<=200:=b9 (mI _ _) h5;have al:∀b,H2 b=af->H b=af:=λb e=>by
  cases u:H b with
  |none=>rfl
  |some o=>
   exfalso;by_cases fb:F b
   .have #[o',e']:=J.own b (az b fb);rw[e] at e';cases e'
   .have:=an _ _ fb (A _ _ u);rw[e] at this;cases this
 refine zjJ (G:=λb=>F2 b\/H2 b=af) MF i.im q3 dr h4 (i.rr.keep (F':=λb=>F2 b\/H2 b=af) i.fk (λb o _ e=>e) (λ_ z=>.inl z)) KI (λy hy=>(J.ok y hy).2) hl (.inl M2.fk) (λb e=>.inr (yi s3 e)) λH4 o4 a1 ke dm I=>?_;have ai:=ke _ _ i.im (zJ i.im i.rr.at_ ()) (.inl nofun);have c:=ke _ _ i.hw (zJ i.hw i.rr.at_ ()) (.inl nofun);have as:=ke _ _ i.hg i.nr (.inl nofun);have aj:=ke _ _ q3 dr (.inl nofun);have wl:T.length<=200:=by rw[bO M2.wp];exact hl
 refine{_,U,zX ai MF.cl MF.w U zlg {_,U,wo,_,U,(.k (k:=.inl aI) c (by rw[cu];lia)),?_}};rw[jE _ (zbF i.wp KI)];have mw:m≠wo:=zJ ai c ();have gw:gr≠wo:=zJ as c ();have aS:rk≠wo:=zJ I.at_ c ();have dw:d≠wo:=zJ aj c ();have E:∀b o,b≠wo->H4 b=Y o->upd H4 wo (HO.dK (T++[(.inl aI,V.ref d)])) b=Y o:=λb o n e=>by rw[zk n];exact e
 have w5:upd H4 wo (HO.dK (T++[(.inl aI,V.ref d)])) wo=Y (HO.dK (T++[(.inl aI,V.ref d)])):=zh;have a7:∀b o,H3 b=Y o->∃o',upd H4 wo (HO.dK (T++[(.inl aI,V.ref d)])) b=Y o':=λb o e=>by
  by_cases eb:b=wo
  .subst eb;exact{_,w5}
  .have #[o',e']:=dm b o e;exact{o',E _ _ eb e'}
 generalize upd H4 wo (HO.dK (T++[(.inl aI,V.ref d)]))=H5 at *
 refine q H5 (λb=>F2 b\/(H2 b=af/\∃o,H5 b=Y o)) (λb o nf e=>?_) (λb zs e=>?_) ?_ (λb z=>?_) λb z=>.inl (az b z)
 .have u:=an _ _ nf (A _ _ e);have ab:¬ F2 b:=λz=>(aK b z).elim nf λy=>by rw[A _ _ e] at y;cases y
  have nr:b≠rk:=λz=>ab (by rw[z];exact M2.fk);have nw:b≠wo:=λz=>ab (by rw[z];exact M2.fw);exact E _ _ nw (ke _ _ (s3 _ _ u) nr (.inr λz=>z.elim ab λy=>by rw[u] at y;cases y))
 .have u:=s3 _ _ (aa _ _ (A _ _ e));have e4:=ke _ _ u (zJ u i.rr.at_ ()) (.inl nofun);exact E _ _ (zJ e4 c ()) e4
 .refine{λb z=>z.elim (λf=>let ⟨o,e⟩:=J.own b f;a7 b o (s3 _ _ e)) λy=>y.2,.inl J.me,?_,?_,dx,gr,wo,rk,_,a1,E _ _ mw ai,.inl M2.fg,.inl M2.fw,.inl M2.fk,M2.nr,E _ _ gw as,w5,?_,?_}
  .unfold zhf;rw[b7,fS];refine{J.nd,by simp,λx hx y hy=>?_};have:y=aI:=by simpa using hy
   rw[this];exact λz=>KI (l:=aQ) (r:=aI) (by have h:=hx;rw[z] at h;exact h)
  .intro y hy;obtain hy|hy:=bP.mp hy
   .exact J.ok y hy
   .rw[bB.mp hy];exact{a6,h4}
  .refine Paired.snocP (Paired.mapP i.wp λ_ _ ⟨e,d',u,fd,ar,a5⟩=>?_) {U,d,U,.inr {hd,_,E _ _ dw aj},dr,E _ _ dw aj};have e4:=ke _ _ a5 ar (.inl nofun);exact{e,d',u,.inl fd,ar,E _ _ (zJ e4 c ()) e4}
  .refine(I.keep2 (F':=λb=>F2 b\/(H2 b=af/\∃o,H5 b=Y o)) ((E _ _ aS I.at_).trans I.at_.symm) (λb xs _ e=>E _ _ (zJ e c ()) e) (λb z ex=>z.imp id λy=>{y,ex})).eqv λp r=>?_;unfold zhf;constructor
   .rintro(⟨g2,h6,h7⟩|⟨rfl,h7⟩)
    .exact{g2,eX _ h6,h7}
    .exact{gs,cw _ (bB.mpr U),h7}
   .rintro⟨g2,h6,h7⟩;obtain h6|h6:=bP.mp h6
    .exact .inl {g2,h6,h7}
    .cases bB.mp h6;exact .inr {U,h7}
 .obtain z|z:=z
  .exact(aK b z).imp id λy=>yi A y
  .exact .inr (al b z.1)
theorem KL{A:LV}{_E:XK}(i:MkF K t)(h:vT t A H Q _E) :
  kK K t (mt Q) (zZZ 2 A) H:=by
 have #[x,h,dx,ac,rfl,I,h2,h3,q]:=h;have #[xs,hx,hp]:=h2;have #[lb,P,_]:=PO.init I {_,I};unfold kK zB;refine{_,U,h,xs,ac,U,hx,hp,(),P.so (.dT (mx ac)) 4 () () U i.cl i.g () λJ H1 aa P=>P.st U i.cl i.f () λH2 P=>P.so (.dK []) 5 () () U i.cl i.w () λwo H3 T P=>P.so (.dT []) 6 () () U i.cl i.r () λrk O k P=>?_};have u:∀n c o,(n,c,o)∈_->O c=Y o/\k c=n:=λn c o z=>(P.ob (n,c,o) z).2;have o6:=u 6 rk _ (.head _);have E:=u 5 wo _ (.tail _ (.head _));have m:=u 4 J _ (.tail _ (.tail _ (.head _)));refine q O (λb=>k b≠0) P.kp {P.ow,(by rw[P.lx];decide),dU,(λ_ h=>(nomatch h)),dx,J,wo,rk,[],[],P.hx,(by rw[m.2];decide),(by rw[E.2];decide),(by rw[o6.2];decide),(λz=>by rw[z,o6.2] at m;exact absurd m.2 ()),m.1,E.1,.nil,o6.1,dU,dU,λ_ h=>(nomatch h),λp r ⟨_,h,_⟩=>(nomatch h)} λb z=>?_;obtain y|y|y:=P.fr b z
 .exact .inl y
 .exact .inl y
 .exact .inr y
theorem zme{p:Prop}[Decidable p]{A Bo:Prop}(a:p->A)(b:¬ p->Bo):if decide p=ae then A else Bo:=by
 by_cases h:p
 .exact yC (Bj h) (a h)
 .exact zV (Bk h) (b h)
theorem WX{a:B}{m:yz}{k:Nat}(o:aM K H a (m.map V.int))(hl:m.length<=63)(u:∀i∈m,Cb i)(q:∀c H',aJ H H'->Cb c->c=m.getD k 0->Q (.int c) H') :
  Ze K t (mt Q) (zZZ 2 [.ref a,.int k]) H:=by
 refine{_,U,_,U,.ref a,m.length,U,.inl {_,o,(bh ..).symm},_,_,U,U,_,U,zme (λe=>?_) λe=>q _ _ (aJ.refl _) (Cb.of ()) ?_}
 .have e:k<m.length:=by lia
  exact{_,U,_,U,a,_,_,_,U,U,o,yy (by rw[br,bd e];rfl),q _ _ (aJ.refl _) (u _ (c9 e)) (by rw[bA,bd e];rfl)}
 .rw[bA,bV ()];rfl
theorem Jp{w:Int}(i:inW w=ae):w.natAbs.log2<1920:=by
 have c:-1000000000000000000000000000000<=w/\w<=1000000000000000000000000000000:=of_decide_eq_true i;by_cases h0:w.natAbs=0
 .rw[h0];decide
 .exact cb ((Nat.log2_lt h0 (k:=100)).mpr (dN (by lia:w.natAbs<=1000000000000000000000000000000) ())) ()
theorem zdG{c:LV}{_E:XK}(h:jM c H Q _E) :
  Y0 K t (mt Q) (zZZ 1 c) H:=by have #[w,rfl,i,q]:=h;simp only[Y0,kA,zZZ,yw,zf,zm,uS,zmB,oz,dF,dQ,cL,ca,cz,ay,V.int.injEq,cW,and_true,iS,iT];exact{Jp i,q _ (aJ.refl H)}
theorem zf6{x:Str}{f:Nat->Bool}(hl:ys.length=x.cps.size)(m:∀(i:Nat)(v:V),ys[i]?=Y v->∃c,x.cps[i]?=Y c/\v=.bl (f c)):ys=(x.cps.toList.map f).map V.bl:=by
 apply cY;intro i;by_cases hi:i<ys.length
 .have #[c,o,e]:=m i ys[i] (bd hi);rw[bd hi,e,br,br];have k:x.cps.toList[i]?=Y c:=by simpa using o
  rw[k];rfl
 .rw[bV (),bV];rw[bh,bh];have:x.cps.toList.length=x.cps.size:=by simp
  lia
theorem KM{x:Str}(I:x.length<=1000)(q:∀H',aJ H H'->Q (.bl (kW x)) H') :
  kJ K t (mt Q) (zZZ 1 [.str x]) H:=by
 simp only[kJ,kA,zda,zoa,zZZ,zG,yw,aO,tC,zf,zm,Va,uS,kS,Qd,zep,zkA,zmA,zkz,zkp,oz,dF,dQ,cL,ca,cz,ay,V.ref.injEq,V.str.injEq,V.bl.injEq,cW,and_true,true_and,exists_and_left,iS,iT,dH,decide_eq_false_iff_not,if_true];refine zou (λc D E=>?_) λc=>?_
 .refine jF (J:=Its x) x.cps.size (by show x.length<=_;lia) (λk=>∃o,k=[o]) (λi v=>∃c,x.cps[i]?=Y c/\v=.bl (inF c)) {_,U} (λi H _ h=>h) (λH _=>bo _) E ?_ ?_
  .rintro i v k H2 H' ⟨o,rfl⟩ m O ⟨rfl,c,A,rfl⟩;exact{_,U,_,U,{_,U},{c,A,U},aJ.refl _}
  .intro ys H' hl u m z;refine{x.cps.toList.map inF,aM.of (by rw[<-zf6 hl u];exact z),?_};have e:kW x=(x.cps.toList.map inF).all id:=by unfold kW;rw[Bk c,ua];rfl
   rw[<-e];exact q _ m
 .have e:kW x=ah:=by unfold kW;rw[Bj (tN.mp c)];rfl
  rw[e] at q;exact q _ (aJ.refl H)
theorem zbJ{i:Int}(m:zlb K)(h:inW i=ae)(q:Q (.bl ae) H) :
  VJ K t (mt Q) (zZZ 1 [.int i]) H:=by
 have k:-1000000000000000000000000000000<=i/\i<=1000000000000000000000000000000:=of_decide_eq_true h;have c:(10:Int)^(30:Int).toNat=1000000000000000000000000000000:=by lia
 refine{_,U,_,_,_,ae,U,.int i,{_,U,wq _},_,U,zV U {_,U,_,_,_,ah,U,.int i,{_,U,m},_,U,zV U {_,_,U,U,zf0 () (),_,U,_,U,_,_,U,U,_,U,yC (Bj (by rw[c];exact k.1)) {_,_,U,U,zf0 () (),_,_,U,U,?_}}}};rw[c,Bj k.2];exact q
theorem zjL{x:Str}{o:Option V}(h:jH x=ae)(q:∀H',aJ H H'->Q (.bl ae) H') :
  Zd K t (mt Q) [Y (.str x),Y (.str (we x)),o] H:=by have z:=zib x;have u:=WB x;unfold jH at h;rw[bY,dH,gG,decide_eq_false_iff_not,bY] at h;have #[#[A,m],w,e]:=h;have c:kW (we x)=ae:=sW .. ▸ m;refine{_,U,.str (we x),_,U,{yf (),U},_,_,U,U,_,U,zV (Bk ()) {_,U,we x,U,(),λE k=>{_,U,zV (by rw[c];rfl) {_,U,x,_,U,JI c (),(),_,U,_,U,w,_,U,yC U {_,U,_,U,w,λH2 i=>{_,U,U,?_}}}}}};rw[Bj (congrArg V.str (of_decide_eq_true e))];exact q _ (k.trans i)
theorem KN{x:Str}(h:jH x=ae)(i:x.length<=1000)(q:∀H',aJ H H'->Q (.bl ae) H') :
  Yw K t (mt Q) (zZZ 3 [.str x]) H:=by
 have r:=zjL (K:=K) (t:=t) (o:=af) h q;unfold we at r;refine{_,U,U,_,_,U,U,_,U,?_};rw[zgH,show (bb "-").cps.toList=[45] by lia,show (bb "-").length=1 by lia];by_cases c:(x.cps.toList.take 1==[45])=ae
 .rw[ao c] at r;exact yC c {_,U,_,U,_,U,yf (),r}
 .rw[ag c] at r;exact zV (fe.mpr c) {_,U,r}
theorem zdH{x:Str}(h:6<x.length):yK x=ah:=by unfold yK;rw[Bj h];simp
theorem zdI{x:Str}(hx:x.length<=1000)(O:∀H,aX K H t.q0c jw)(I:∀H,aX K H t.q17 wl)(q:∀H',aJ H H'->Q (.bl (yK x)) H') :
  Kt K t (mt Q) (zZZ 1 [.str x]) H:=by
 have no:yK x=ah->Q (.bl ah) H:=λe=>by rw[e] at q;exact q _ (aJ.refl H)
 refine{_,U,U,_,U,?_};by_cases e0:x=bb ""
 .exact yC (Bj (congrArg V.str e0)) (yC U (no (by rw[e0];lia)))
 refine zV (Bk λz=>e0 (V.str.inj z)) {_,U,.str x,_,U,{yf (),U},_,_,U,U,_,U,?_};by_cases e6:6<x.length
 .exact yC (Bj ()) (no (zdH e6))
 refine zV (Bk ()) {_,U,_,_,U,.inr (O H),U,U,_,U,?_};cases eJ:inV (V.str x) jw with
 |true=>exact yC U (yC U (no (by unfold yK;rw[eJ];simp)))
 |false=>
  refine zV U {_,U,_,_,U,.inr (I H),U,U,_,U,?_};cases eR:inV (V.str x) wl with
  |true=>exact yC U (no (by unfold yK;rw[eR];simp))
  |false=>
   have en:yK x=x.cps.toList.all inL:=by unfold yK;rw[Bk e0,Bk e6,eJ,eR];simp
   refine zV U {_,U,x,U,λD T=>?_};refine jF (J:=Its x) x.cps.size (by show x.length<=_;lia) (λk=>∃o,k=[o]) (λi v=>∃c,x.cps[i]?=Y c/\v=.bl (inL c)) {_,U} (λi H _ h=>h) (λH _=>bo _) T ?_ ?_
   .rintro i v k H2 H' ⟨o,rfl⟩ m hi ⟨rfl,c,E,rfl⟩;exact yC (R:=False) U {_,U,_,_,U,U,{_,U},{c,E,U},aJ.refl _}
   .intro ys H' hl u m A;refine{_,x.cps.toList.map inL,U,aM.of (by rw[<-zf6 hl u];exact A),?_};rw[ua,show (id ∘ inL)=inL from rfl,<-en];exact q _ m
theorem KO{c:Type}(f:c->V)(xs:List c)(h:k<=xs.length):jU (xs.map f) (Y (k:Int)) af=(xs.drop k).map f:=by
 unfold jU;have m:HT.sIx (xs.map f).length 0 (Y (k:Int))=k:=by show (if (k:Int)<0 then ((k:Int)+((xs.map f).length:Int)).toNat else min (k:Int).toNat (xs.map f).length)=k;rw[ag (),cy,bh];lia
 have i:HT.sIx (xs.map f).length (xs.map f).length af=xs.length:=by show (xs.map f).length=_;rw[bh]
 rw[m,i,<-List.map_drop,cB (by rw[bh,fD];lia)]
theorem wI{m k:Type}{F G:m->k->Prop}(h:∀a b,F a b->G a b):∀ {i:List m}{c:List k},Bl F i c->Bl G i c
 |_,_,.nil=>.nil
 |_,_,.cons a t=>.cons (h _ _ a) (wI h t)
theorem VM{m k:Type}{F:m->k->Prop}{a:m}{b:k}(h:F a b):∀ {i:List m}{c:List k},Bl F i c->Bl F (i++[a]) (c++[b])
 |_,_,.nil=>.cons h .nil
 |_,_,.cons x t=>.cons x (VM h t)
theorem PlV.same{H H':Hp}(s:aJ H H')(h:PlV H v q):PlV H' v q:=by have #[p,e,c]:=h;exact{p,e,s _ _ c}
theorem zbK{H H':Hp}(s:aJ H H')(h:PrAt H v q):PrAt H' v q:=by have #[r,p,e,i,c]:=h;exact{r,p,e,s _ _ i,s _ _ c}
theorem zf7{H:Hp}{A p:B}(c:H A=Y (.lst xs))(h:H p=Y (.tup zs)):upd H A (.lst ys) p=Y (.tup zs):=by rw[zk (λz=>by subst z;rw[c] at h;cases h)];exact h
theorem zjM{H:Hp}(c:H A=Y (.lst xs))(h:PrAt H v q):PrAt (upd H A (.lst ys)) v q:=by have #[r,p,e,k,i]:=h;exact{r,p,e,zf7 c k,zf7 c i}
def plD(q:Pl):PyData:=.tuple [.str q.1,.int q.2]
theorem zlm{H:Hp}(h:PlV H v q):Dat K H v (plD q):=by have #[p,rfl,c]:=h;exact .tup (aX.of c) (.cons (.str _) (.cons (.int _) .nil))
theorem zbL{H:Hp}:∀ {xs:LV}{c:List Pl},Bl (PlV H) xs c->u6 K H xs (c.map plD)
 |_,_,.nil=>.nil
 |_,_,.cons h t=>.cons (zlm h) (zbL t)
theorem znj(h:yK q.1=ae):yv (plD q)=ae:=by have e:gN q.1=ae:=(zcD h).flat;unfold plD;rw[yv,xl,xl,xl,yv,yv,e];rfl
theorem vB{w:Int}(h:wB w):inW w=ae:=Bj h
theorem zjN{w:Int}(h:rB w):wB w:=by have #[a,b]:=h;constructor <;> lia
theorem KP{w:Int}(h:inW w=ae):Wd (zU w):=by
 refine{(xQ h).2.2,Asc.num w,λz=>?_};have i:∀m,32 ∉ dg m:=λm k=>by have:=ky m 32 k;lia
 obtain c|c:=rT 0 w
 .rw[show w=((w.toNat:Nat):Int) by lia,yM] at z;exact i _ z
 .obtain e|e:=gA w.natAbs
  .have:w=((0:Nat):Int):=by lia
   rw[this,yM] at z;exact i _ z
  .rw[show w=-((w.natAbs:Nat):Int) by lia,xP e] at z;obtain z|z:=bn.mp z
   .cases z
   .exact i _ z
theorem zf8{w:Str}(h:yK w=ae):Wd w:=by
 have #[_,a,_,b]:=wX h;refine{(),zcD h,λz=>?_};have:=cI.mp b 32 z
 revert this;lia
theorem Z1{x:String}(h:((bb x).cps.toList.all λc=>decide (c<128)&&decide (c≠32))=ae)(l:(bb x).length<=40):Wd (bb x):=by
 have i:=cI.mp h;refine{l,λc k=>?_,λz=>?_}
 .have:=i c k;simp only[bY,decide_eq_true_eq] at this;exact this.1
 .have:=i 32 z;simp at this
theorem zf9(h:∀r∈ac,zjs r.1/\wB r.2):∀w∈Aq ac,Wd w:=λw i=>by
 have #[r,k,i]:=mZ.mp i;have #[#[a,b],c]:=h r k;unfold rwW at i;simp only[bn,bZ,or_false] at i;obtain rfl|rfl|rfl:=i
 .exact zf8 a
 .exact KP (vB b)
 .exact KP (vB c)
theorem jB:∀(ac:zF),(Aq ac).length=3*ac.length
 |[]=>rfl
 |r::ac=>by show (rwW r++Aq ac).length=_;rw[bx,jB ac,bG];show 3+_=_;lia
theorem zdJ(h:Kh oc):(∀w∈ocW oc,Wd w)/\(ocW oc).length<=21/\(";":Str) ∉ ocW oc:=by
 have o:∀w:Int,(";":Str)≠zU w:=λw z=>by
  have e:(bb ";").cps.toList=[59]:=by lia
  have k:=congrArg (λx:Str=>x.cps.toList) z;have k:(bb ";").cps.toList=(zU w).cps.toList:=k;rw[e] at k;have q:∀m,59 ∉ dg m:=λm A=>by have:=ky m 59 A;lia
  obtain c|c:=rT 0 w
  .rw[show w=((w.toNat:Nat):Int) by lia,yM] at k;exact q w.toNat (by rw[<-k];simp)
  .obtain e|e:=gA w.natAbs
   .have:w=((0:Nat):Int):=by lia
    rw[this,yM] at k;exact q 0 (by rw[<-k];simp)
   .rw[show w=-((w.natAbs:Nat):Int) by lia,xP e] at k;cases k
 cases oc with
 |done sa=>
  have #[I,E]:=h;refine{λw hw=>?_,?_,λz=>?_}
  .obtain rfl|hw:=bn.mp hw
   .exact Z1 () ()
   .have #[i,u,rfl]:=bH.mp hw;exact KP (vB (E i u))
  .show ((bb "done")::sa.map zU).length<=21;rw[bG,bh];lia
  .obtain z|z:=bn.mp z
   .exact absurd z ()
   .have #[i,u,e]:=bH.mp z;exact o i e.symm
 |off w=>exact h.elim
def b32:Str:=⟨#[32]⟩
theorem WY:(bb " ")=b32:=by lia
theorem Jq:(bb " ").length=1:=by lia
theorem zjO:∀ {ws:zQ},(∀w∈ws,Wd w)->(ws.map (·.length)).sum<=40*ws.length
 |[],_=>bo _
 |w::ws,h=>by have a:=zjO (ws:=ws) λx c=>h x (bw _ c);have b:=(h w bu).1;simp only[bC,gj,bG];lia
theorem zdK(h:∀w∈ws,Wd w):zes (bb " ") ws<=41*ws.length:=by have:=Jj (bb " ") ws 0;unfold zes;rw[this,Jq];have:=zjO h;lia
theorem zbM(h:∀w∈ws,Wd w):(Zs (bb " ") ws).length<=41*ws.length:=b9 (zaf _ _) (zdK h)
theorem Wb:∀ {ws:zQ},(∀w∈ws,Wd w)->Asc (Zs (bb " ") ws)
 |[],_=>by rw[k9];intro c m;revert m;decide +revert
 |[w],h=>by rw[k9];exact(h w bu).2.1
 |w::x::ws,h=>by have i:=Wb (ws:=x::ws) λy k=>h y (bw _ k);rw[k9] at i ⊢;rw[zao];exact((h w bu).2.1.app (by unfold Asc;lia)).app i
theorem Jr(z:Str):0<=zjt z/\zjt z<1009:={du _ (),cN _ ()}
theorem zln:((cG 1009).all λn=>decide (zfS (zU (n:Nat)) 4=znK (bb "0") (4-((zU (n:Nat)).length:Int))++zU (n:Nat))&&(decide ((zfS (zU (n:Nat)) 4).length=4)&&((zfS (zU (n:Nat)) 4).cps.toList.all λc=>decide (c<128)&&decide (c≠32))))=ae:=by lia
theorem zlo{i:Int}(h0:0<=i)(o:i<1009):zfS (zU i) 4=znK (bb "0") (4-((zU i).length:Int))++zU i/\(zfS (zU i) 4).length=4/\Asc (zfS (zU i) 4)/\32 ∉ (zfS (zU i) 4).cps.toList:=by
 have:=cI.mp zln i.toNat (gZ.mpr ());rw[show ((i.toNat:Nat):Int)=i by lia] at this;simp only[bY,decide_eq_true_eq] at this;have #[a,b,c]:=this;have k:=cI.mp c;refine{a,b,λd m=>?_,λz=>?_}
 .have:=k d m;simp only[bY,decide_eq_true_eq] at this;exact this.1
 .have:=k 32 z;simp at this
theorem ze1(z:Str):(Ki z).length=4/\Asc (Ki z)/\32 ∉ (Ki z).cps.toList:=(zlo (Jr z).1 (Jr z).2).2
theorem zga:∀(cs:xo)(i:Nat),(ckL i cs).length=cs.length
 |[],_=>rfl
 |_::cs,i=>by show (ckL (i+1) cs).length+1=_;rw[zga cs];rfl
theorem zgb:∀(cs:xo)(i j:Nat)(c:Nat),cs[j]?=Y c->(ckL i cs)[j]?=Y ((c:Int)*(1+((i+j:Nat):Int)%1008))
 |[],_,j,c,h=>by simp at h
 |d::cs,i,0,c,h=>by simp only[ca,cz] at h;subst h;rfl
 |d::cs,i,j+1,c,h=>by have:=zgb cs (i+1) j c (by simpa using h);rw[show i+1+j=i+(j+1) by lia] at this;exact this
theorem zlp{z:Str}(h:Asc z):z.cps.all (· < 128)=ae:=by rw[<-Array.all_toList,cI];exact λc i=>Bj (h c i)
theorem zaU{i:Int}(h0:0<=i)(c:i<1000000):-big<i/\i<big:=by unfold big;constructor <;> lia
theorem zbN{z:Str}(I:Asc z)(h2:z.length<=20000)(q:∀H',aJ H H'->Q (.str (Ki z)) H') :
  VG K t (mt Q) (zZZ 2 [.str z]) H:=by
 refine{_,U,z,U,zlp I,λD hD=>?_};refine jF (J:=zm3 z) z.cps.size (by show z.length<=_;lia) (λm=>∃u o,m=[u,o]) (λi v=>∃c,z.cps[i]?=Y c/\v=.int ((c:Int)*(1+(i:Int)%1008))) {_,_,U} (λi H _ h=>h) (λH _=>bo _) hD ?_ ?_
 .rintro i v m H2 H' ⟨u,o,rfl⟩ E hi ⟨T,c,rfl,hT,rfl,k⟩;have lc:c<128:=I c (by rw[<-ce] at k;exact bU k);exact{T,_,U,aX.of zh,U,_,_,U,_,_,U,U,yC (R:=False) U {_,U,_,U,U,_,U,_,_,U,U,(),_,_,U,U,_,_,U,U,{zaU (tG _) (by show ((c:Nat):Int)<_;lia),zaU () ()},{_,_,U},{c,k,U},hX T hT}}
 .intro ys H' hl O E A;have e:ys=(ckL 0 z.cps.toList).map V.int:=by
   apply cY;intro i;obtain z1|z1:=fM i ys.length
   .have #[c,k,e]:=O i ys[i] (bd z1);rw[<-ce] at k;rw[bd z1,e,br,zgb _ 0 i c k,gy];rfl
   .rw[bV z1,bV (by rw[bh,zga,bW];lia)]
  rw[e] at A;have r:=Jr z;exact{_,_,U,aM.of A,_,U,_,_,U,U,(),_,U,Jp (w:=zjt z) (Bj {(),()}),U,_,4,U,U,(),q H' E}
theorem za.same{H H':Hp}(h:za H v oc)(s:aJ H H'):za H' v oc:=by
 cases oc with
 |done sa=>have #[o,y,e,a,b]:=h;exact{o,y,e,s _ _ a,s _ _ b}
 |off w=>have #[o,e,a]:=h;exact{o,e,s _ _ a}
theorem zbO{r:Int}(k:rB r)(i:Kh oc)(c:ZF gs):∀w∈xR r oc gs,Wd w:=λw hw=>by
 unfold xR at hw;simp only[bn,bP] at hw;obtain rfl|rfl|hw|rfl|hw:=hw
 .exact Z1 () ()
 .exact KP (vB (zjN k))
 .exact(zdJ i).1 w hw
 .exact Z1 () ()
 .exact zf9 c.nm w hw
theorem zbP{r:Int}(i:rB r)(c:ZF gs):∀w∈jq r gs,Wd w:=λw hw=>by
 unfold jq at hw;simp only[bn] at hw;obtain rfl|rfl|rfl|hw:=hw
 .exact Z1 () ()
 .exact KP (vB (zjN i))
 .exact Z1 () ()
 .exact zf9 c.nm w hw
theorem zdL{k:LV}{_E:XK}(h:YT k H Q _E) :
  YZ K t (mt Q) (zZZ 2 k) H:=by have #[a,i,rfl,o,c,A,q]:=h;simp only[YZ,j8,kA,zZZ,WC,zB,yp,zG,yw,aO,tC,zf,zm,Av,tyV,zZ,zh5,oz,dF,dQ,fE,fY,cL,ca,dZ,cz,ay,V.ref.injEq,V.str.injEq,cW,and_true,true_and,exists_and_left,io,ip,iS,iT];have z:=zdK c;have u:=zbM c;have m:=(ze1 (Zs (bb " ") i)).1;refine{i,aM.of o,yf (),yf (by rw[Jq];lia),Wb c,(),λH' s=>{yf (by rw[xk,Jq,m];lia),q H' s}}
theorem zdM:V.str (bb "done")≠V.str (bb "off"):=by intro z;injection z with z;revert z;lia
theorem zlq{ws:zQ}(hl:ys.length=ws.length)(h:∀(i:Nat)(v:V),ys[i]?=Y v->∃w,ws[i]?=Y w/\v=.str w):ys=ws.map V.str:=by
 apply cY;intro i;obtain z|z:=fM i ys.length
 .have #[w,c,e]:=h i ys[i] (bd z);rw[bd z,e,br,c];rfl
 .rw[bV z,bV (by rw[bh];lia)]
def rwI(a A:B)(ac:zF)(H:Hp)(i:Nat)(c:St)(H':Hp):Prop:=∃m k,c=[Y (.ref a),Y (.ref A),m,k]/\H' A=Y (.lst ((Aq (ac.take i)).map V.str))/\aJ H H'
theorem zjP{i:Nat}{r:Row}(h:ac[i]?=Y r):Aq (ac.take (i+1))=Aq (ac.take i)++rwW r:=by rw[sE,h];unfold Aq;rw[sR];show _++(rwW r++[])=_;rw[cL]
theorem KQ{D:VT}{a A p:B}{c:zQ}{r:Row}(E:H A=Y (.lst (c.map V.str)))(u:H p=Y (.tup [.str r.1.1,.int r.1.2]))(o:zjs r.1/\wB r.2)(T:c.length<=1000)(q:∀H',aJ H H'->D.nx [Y (.ref a),Y (.ref A),Y (.ref p),Y (.int r.2)] (upd H' A (.lst ((c++rwW r).map V.str)))) :
  ZJ K t D [Y (.ref a),Y (.ref A),Y (.ref p),Y (.int r.2)] H:=by
 have I:3<=Bb:=by rw[cu];decide
 refine{_,U,.inl {U,_,aM.of E},_,U,p,_,0,_,U,U,aX.of u,U,_,U,p,_,1,_,U,U,aX.of u,U,r.1.2,U,vB o.1.2,λH1 m=>{_,U,r.2,U,vB o.2,λH2 k=>{I,λb J=>?_}}};generalize e3:upd H2 b _=H3;have #[i,O]:=je e3 J;refine{A,b,_,_,U,U,i _ _ (k _ _ (m _ _ E)),O,yf (by rw[bh];show _+3<=_;lia),?_};have z:=q H3 ((m.trans k).trans i);rw[b7] at z;exact z
theorem QD{m:LV}{_E:XK}(h:XU m H Q _E) :
  X2 K t (mt Q) (zZZ 4 m) H:=by
 have #[a,ac,rfl,h1,I,q]:=h;have #[xs,u,o]:=h1;have lx:=bO o;refine{bQ _,λA c=>{_,U,a,U,{xs,aM.of (hX A c _ _ u)},wP xs (rwI a A ac H) {_,_,U,zh,hX A c} (λi k H' ⟨_,_,_,_,s⟩=>aM.of (s _ _ u)) ?_ ?_}}
 .rintro i x k J E ⟨o2,T,rfl,g,s⟩;have il:=(bp.mp E).1;have z:=bd (l:=ac) (i:=i) ();have #[r,p,rfl,e1,e2]:=yW o E z;refine{r,_,U,aX.of (s _ _ e1),U,_,_,U,_,_,U,U,?_};refine KQ (r:=ac[i]) g (s _ _ e2) (I.nm _ (c9 _)) (by rw[jB,cf];have:=I.le;lia) λH2 O=>{_,_,U,?_,vh (s.trans O) c};rw[zh,zjP z]
 .rintro k J ⟨o2,T,rfl,g,s⟩;refine{_,U,q A J s c ?_};rw[g,cB ()]
theorem zdN{w:Int}(c:rB w)(q:∀H',aJ H H'->Q (.int w) H') :
  Y2 K t (mt Q) (zZZ 2 [.str (zU w)]) H:=by simp only[Y2,xY,kA,zoP,zjo,zda,zZZ,zB,yp,zG,yw,ym,xC,aO,tC,zf,zm,yF,tOr,yb,zZ,oz,dF,dQ,fE,fY,cL,ca,dZ,cz,ay,V.int.injEq,V.str.injEq,V.bl.injEq,cW,and_true,exists_and_left,io,ip,iS,iT,decide_eq_true_eq,Int.reduceToNat,Int.reducePow,if_true];have #[a,b]:=c;refine{w,U,vB (zjN {a,b}),λH' s=>?_};rw[ag ()];refine{zf0 () (),?_};rw[ag ()];exact q H' s
theorem zbQ{w:Str}(c:yK w=ae)(q:∀H',aJ H H'->Q (.str w) H') :
  ZW K t (mt Q) (zZZ 1 [.str w]) H:=by simp only[ZW,YS,kA,zda,zZZ,zB,yw,ym,xC,zf,zm,yF,Xc,tB,zZ,oz,dF,dQ,cL,ca,cz,ay,V.str.injEq,V.bl.injEq,cW,and_true,iS,iT,dH];refine{by have:=(zf8 c).1;lia,λH' s=>?_};rw[ag (by rw[c];decide)];exact q H' s
theorem ze2{c:Type}(f:c->V)(xs:List c)(h:k<=xs.length):jU (xs.map f) af (Y (k:Int))=(xs.take k).map f:=by
 unfold jU;have m:HT.sIx (xs.map f).length 0 af=0:=rfl;have i:HT.sIx (xs.map f).length (xs.map f).length (Y (k:Int))=k:=by show (if (k:Int)<0 then ((k:Int)+((xs.map f).length:Int)).toNat else min (k:Int).toNat (xs.map f).length)=k;rw[ag (),cy,bh];lia
 rw[m,i,oA,List.map_take];rfl
theorem zdO{b:Str}(o:Asc b)(m:b.length<=20000)(q:∀H',aJ H H'->Q (.str b) H') :
  Kw K t (mt Q) (zZZ 2 [.str (b++bb " " ++ Ki b)]) H:=by have #[z,A,u]:=ze1 b;have lb:b32.length=1:=rfl;rw[WY];refine{_,U,U,_,_,U,U,U,by rw[xk,xk,lb,z];lia,λl hl=>?_};generalize e1:upd H l _=H1;have #[k,c]:=je e1 hl;rw[show rpL (b++b32++Ki b) (bb " ")=[.str b,.str b32,.str (Ki b)] from zjn u] at c;exact{_,U,l,_,2,_,U,U,aX.of c,U,_,U,l,_,0,_,U,U,aX.of c,U,b,U,o,m,λH2 i=>{U,_,U,zV (congrArg not (Bj U)) {_,U,l,_,0,_,U,U,aX.of (i _ _ c),U,q H2 (k.trans i)}}}
theorem znk{x:String}(h:((bb x).cps.toList.all λc=>decide (c<128))=ae):yV (V.str (bb x))=ae:=Asc.flat λc i=>of_decide_eq_true (cI.mp h c i)
theorem KR{vs:LV}{_E:XK}(h:Yq vs H Q _E) :
  Yx K t (mt Q) (zZZ 1 vs) H:=by
 have #[a,oc,rfl,h1,h2,q]:=h;cases oc with
 |off w=>exact h2.elim
 |done sa=>
  have #[l1,l2]:=h2;have c1:jU ((ocW (.done sa)).map V.str) af (Y ((1:Nat):Int))=[V.str (bb "done")]:=ze2 V.str (ocW (.done sa)) (lf (bQ _));have c2:jU ((ocW (.done sa)).map V.str) (Y ((1:Nat):Int)) af=(sa.map zU).map V.str:=KO V.str (ocW (.done sa)) (lf (bQ _));have m1:1<=Bb:=by rw[cu];decide
  have m2:2<=Bb:=by rw[cu];decide
  refine{_,U,((1:Nat):Int),U,a,_,U,aM.of h1,λp hp=>{m1,λp1 c=>?_}};rw[c1] at c ⊢;generalize e1:upd H p _=H1 at c;have #[s1,g1]:=je e1 hp;generalize e2:upd H1 p1 _=H2;have #[s2,g2]:=je e2 c;have fl:([V.str (bb "done")].all yV)=ae:=by rw[iK,znk ()];rfl
  have S2:=s1.trans s2;refine{p,p1,_,_,U,U,aM.of (s2 _ _ g1),aM.of g2,{fl,fl,U},_,U,yC ((ag bM).trans (Bj U)) {_,U,((1:Nat):Int),U,a,_,U,aM.of (S2 _ _ h1),λA E=>?_}};rw[c2];generalize e3:upd H2 A _=H3;have #[s3,u]:=je e3 E;have lm:((sa.map zU).map V.str).length=sa.length:=by rw[bh,bh]
  refine{A,U,{_,aM.of u},λD hD=>?_};refine jF (J:=Itl K A) sa.length () (λT=>∃o,T=[o]) (λi v=>∃w,sa[i]?=Y w/\v=.int w) {_,U} (λi H s h=>{_,_,aM.of (s _ _ u),bd (by rw[lm];exact h)}) (λH s=>{_,aM.of (s _ _ u),ir lm}) hD ?_ ?_
  .rintro i x T O H5 ⟨o',rfl⟩ m I ⟨rfl,k⟩;have k:=k _ (aM.of (m _ _ u));rw[br,br,bd I] at k;cases k;exact yC (R:=False) U {_,U,_,U,vB (l2 _ (c9 I)),λO m=>{{_,U},{_,bd I,U},m}}
  .intro ys O hl k m hq;obtain rfl:ys=sa.map V.int:=cY λi=>by
    obtain z|z:=fM i ys.length
    .have #[w,hw,e]:=k i ys[i] (bd z);rw[bd z,e,br,hw];rfl
    .rw[bV z,bV (by rw[bh,<-hl];exact z)]
   refine{_,_,U,.inl {aM.of hq,λl hl=>{m2,λb hb=>?_}}};generalize e5:upd O l _=H5 at hb;have #[s5,g5]:=je e5 hl;have s6:=hX (o:=HO.tup [V.str (bb "done"),V.ref l]) b hb;exact q _ _ (((S2.trans s3).trans m).trans (s5.trans s6)) {b,l,U,zh,s6 _ _ g5}
theorem zdP{I:LV}{_E:XK}(h:qF I H Q _E) :
  Kv K t (mt Q) (zZZ 2 I) H:=by
 have #[a,g,r,A,rfl,h1,h2,h4,h5,h6,q]:=h;have #[xs,m,O]:=h4;have lx:=bO O;have m3:3<=Bb:=by rw[cu];decide
 refine{_,U,.ref a,_,U,.inl {_,aM.of h1,U},U,_,U,zV (congrArg not (Bj U)) {_,U,g,U,{_,aM.of m},λD hD=>?_}};refine jF (J:=Itl K g) A.length () (λE=>∃o1 T,E=[o1,T]) (λi v=>v=.bl ah) {_,_,U} (λi H s h=>{_,_,aM.of (s _ _ m),bd ()}) (λH s=>{_,aM.of (s _ _ m),ir lx}) hD ?_ ?_
 .rintro i x E H4 H5 ⟨o1,T,rfl⟩ c o ⟨rfl,k⟩;have k:=k _ (aM.of (c _ _ m));have hr:=bd (l:=A) (i:=i) o;have #[rr,pp,rfl,e1,e2]:=yW O k hr;exact{rr,_,U,aX.of (c _ _ e1),U,_,_,U,_,_,U,U,yC (R:=False) U {_,U,U,{_,_,U},congrArg V.bl (Bk (λz=>h6 _ (c9 o) (V.int.inj z))),aJ.refl _}}
 .intro ys H4 hl k c hq;obtain rfl:ys=(dF A.length ah).map V.bl:=by rw[List.map_replicate];exact List.eq_replicate_iff.mpr {hl,λb u=>by have #[i,o]:=cQ u;exact k i b o}
  exact{_,_,U,aM.of hq,_,U,zV (by rw[List.any_replicate];exact ite_self _) {_,U,a,_,((1:Nat):Int),_,U,U,aM.of (c _ _ h1),yy U,r,U,h2,λH5 s5=>{_,U,m3,λb u=>q b _ ((c.trans s5).trans (hX b u)) zh}}}
theorem zjQ:∀ {ac:zF}{i:Nat}{r:Row},ac[i]?=Y r->(Aq ac)[3*i]?=Y r.1.1/\(Aq ac)[3*i+1]?=Y (zU r.1.2)/\(Aq ac)[3*i+2]?=Y (zU r.2)
 |[],i,r,h=>by simp at h
 |x::ac,0,r,h=>by simp only[ca,cz] at h;subst h;exact{U,U,U}
 |x::ac,i+1,r,h=>by have:=zjQ (ac:=ac) (i:=i) (r:=r) (by simpa using h);exact this
def riI(a A:B)(ac:zF)(H:Hp)(i:Nat)(c:St)(H':Hp):Prop:=∃m k xs,c=[Y (.ref a),Y (.ref A),m,k,af]/\H' A=Y (.lst xs)/\Bl (PrAt H') xs (ac.take i)/\aJ H H'
theorem zhk{c:Type}{l:List c}{i:Nat}{r:c}(h:l[i]?=Y r):l.take (i+1)=l.take i++[r]:=by rw[sE,h];rfl
theorem yD{n:Nat}(h:n<1000000):n<Bb:=cb h ()
theorem zaV{q o:Type}{F:q->o->Prop}:∀ {k:List q}{c:List o},k.length=c.length->(∀(i:Nat) a b,k[i]?=Y a->c[i]?=Y b->F a b)->Bl F k c
 |[],[],_,_=>.nil
 |[],b::l,h,_=>by simp at h
 |a::l,[],h,_=>by simp at h
 |a::l,b::m,h,f=>.cons (f 0 a b U U) (zaV (by simpa using h) λi x y z u=>f (i+1) x y (by simpa using z) (by simpa using u))
theorem zbR{D:VT}{a A:B}{ac:zF}{i:Nat}{o3:Option V}{H0:Hp}(J:H0 A=af)(s0:aJ H0 H)(h1:H0 a=Y (.lst ((Aq ac).map V.str)))(hi:i<ac.length)(hr:ac.length<=60)(ok:∀r∈ac,zjs r.1/\wB r.2)(o:H A=Y (.lst xs))(pr:Bl (PrAt H) xs (ac.take i))(q:∀T H',riI a A ac H0 (i+1) T H'->D.nx T H') :
  X4 K t D [Y (.ref a),Y (.ref A),Y (.int (0+(i:Int)*3)),o3,af] H:=by
 have hg:=bd hi;have #[w1,w2,w3]:=zjQ hg;have #[#[k1,k2],k3]:=ok _ (c9 hi);generalize ac[i]=r at *
 have m:∀ {k:Nat}{w:Str},(Aq ac)[k]?=Y w->atI ((Aq ac).map V.str) (k:Int)=Y (V.str w):=λh=>yy (by rw[br,h];rfl);have lx:=bO pr;have m2:2<=Bb:=by rw[cu];decide
 rw[show (0+(i:Int)*3)=((3*i:Nat):Int) by lia];have I:=s0 _ _ h1;refine{_,U,_,U,a,_,_,_,U,U,aM.of I,m w1,_,U,k1,λH1 s1=>{_,U,_,U,_,_,U,U,a,_,((3*i+1:Nat):Int),_,U,U,aM.of (s1 _ _ I),m w2,_,U,vB k2,λH2 s2=>{m2,λp hp=>?_}}};generalize e3:upd H2 p _=H3;have #[s3,g3]:=je e3 hp;have O:=s1.trans (s2.trans s3);refine{_,U,.inl {U,_,aM.of (O _ _ o)},_,U,_,U,_,U,_,_,U,U,a,_,((3*i+2:Nat):Int),_,U,U,aM.of (O _ _ I),m w3,_,U,vB k3,λH4 s4=>{m2,λu E=>?_}};generalize e5:upd H4 u _=H5;have #[s5,g5]:=je e5 E;have c:=O.trans (s4.trans s5);refine{A,xs,_,U,U,c _ _ o,yD (by rw[lx,cf];lia),q _ _ {_,_,xs++[V.ref u],U,zh,?_,vh (s0.trans c) J}};rw[zhk hg];refine VM ?_ (wI (λ_ _ z=>zjM (c _ _ o) (zbK c z)) pr);exact zjM (c _ _ o) {u,p,U,g5,s5 _ _ (s4 _ _ g3)}
theorem zdQ:∀ {a b:List Pl},a.Pairwise (λa b=>yc a b=ae)->b.Pairwise (λa b=>yc a b=ae)->a.Perm b->a=b
 |[],b,_,_,h=>h.nil_eq
 |x::a,[],_,_,h=>absurd h.length_eq (by simp)
 |x::a,y::b,ha,hb,h=>by
  rw[on] at ha hb;have e:x=y:=by
   obtain e|e:=bn.mp (h.mem_iff.mp (bu ..))
   .exact e
   .obtain e'|e':=bn.mp (h.mem_iff.mpr (bu ..))
    .exact e'.symm
    .have z:=Yk (ha.1 y e') (hb.1 x e);rw[wQ] at z;cases z
  subst e;rw[zdQ ha.2 hb.2 (List.perm_cons x |>.mp h)]
theorem zoh{a:List Pl}(h:a.Pairwise (λa b=>yc a b=ae)):a.Nodup:=h.imp λ{x y} z e=>by rw[e,wQ] at z;cases z
theorem zgc:∀ {c:List Pl},(∀q∈c,yK q.1=ae)->xl (c.map plD)=ae
 |[],_=>by rw[lE,xl]
 |r::t,h=>by rw[bC,xl,zgc λx i=>h x (bw _ i),Bool.and_true,znj (h r bu)]
theorem zaW(c:List Pl):(PyData.list (c.map plD)).depth<=64:=by
 have h:∀l:List Pl,fj (l.map plD)<=10:=λl=>by
  induction l with
  |nil=>simp[fj]
  |cons r t ih=>
   rw[bC,fj];have:(plD r).depth<=10:=by simp[plD,mO,fj]
   lia
 have:=h c;rw[mO];lia
theorem zbS{a A D:B}{ac:zF}{o2 o3:Option V}{xs ys:LV}(i:ZF ac)(hA:H A=Y (.lst xs))(pr:Bl (PrAt H) xs ac)(E:H D=Y (.lst ys))(u:Bl (PlV H) ys (ac.map (·.1)))(q:∀H',aJ H H'->Q (.ref A) H') :
  qK K t (mt Q) [Y (.ref a),Y (.ref A),o2,o3,Y (.ref D)] H:=by
 simp only[qK,kA,zda,zmQ,zji,zB,yw,ym,xC,aO,zf,zm,yF,yb,ca,dZ,cz,ay,V.ref.injEq,V.bl.injEq,cW,and_true,and_assoc,exists_and_left,dH,if_true];have m:(ac.map (·.1)).Pairwise (λa b=>yc a b=ae):=List.pairwise_map.mpr i.up;refine{_,aM.of E,ac.map λr:Row=>r.1,wI (F:=PlV H) (G:=zeI H) (λ_ _ z=>z) u,zoh m,by rw[bh];have:=i.le;lia,λl zs J k c _ g1 T I O=>?_};have e:=zdQ I m O;subst e;have o:yv (.list ((ac.map (·.1)).map plD))=ae:=by rw[yv];refine zgc λq hq=>?_;have #[r,hr,rfl]:=bH.mp hq;exact(i.nm r hr).1.1
 refine{_,.lst (aM.of (c _ _ E)) (zbL (wI (λ_ _ z=>PlV.same c z) u)),_,.lst (aM.of g1) (zbL (wI (F:=zeI k) (G:=PlV k) (λ_ _ z=>z) T)),o,o,zaW _,zaW _,λb hb=>?_};rw[hb.mpr U,ag ()];exact q k c
theorem zbT{a A:B}{ac:zF}{o o3:Option V}{xs:LV}(O:ZF ac)(m:H A=Y (.lst xs))(u:Bl (PrAt H) xs ac)(q:∀H',aJ H H'->Q (.ref A) H') :
  X5 K t (mt Q) [Y (.ref a),Y (.ref A),o,o3,af] H:=by
 have lx:=bO u;have l6:=O.le;refine{_,U,A,U,{_,aM.of m},λD hD=>?_};refine jF (J:=Itl K A) ac.length () (λI=>∃T o,I=[T,o]) (λi v=>∃p r,v=.ref p/\ac[i]?=Y r/\H p=Y (.tup [.str r.1.1,.int r.1.2])) {_,_,U} (λi H s h=>{_,_,aM.of (s _ _ m),bd ()}) (λH s=>{_,aM.of (s _ _ m),ir lx}) hD ?_ ?_
 .rintro i x I H4 H5 ⟨T,o,rfl⟩ c hi ⟨rfl,k⟩;have k:=k _ (aM.of (c _ _ m));have hr:=bd (l:=ac) (i:=i) hi;have #[rr,pp,rfl,E,z]:=yW u k hr;exact{rr,_,U,aX.of (c _ _ E),U,_,_,U,_,_,U,U,yC (R:=False) U {_,U,{_,_,U},{_,_,U,hr,z},aJ.refl _}}
 .intro ys H4 hl k c hq;refine zbS (t:=t) O (c _ _ m) (wI (λ_ _=>zbK c) u) hq ?_ λH5 s5=>q H5 (c.trans s5);refine zaV (by rw[bh];exact hl) λi v x h1 h2=>?_;have #[p,r,E,z,e3]:=k i v h1;rw[br,z] at h2;cases h2;exact{p,E,c _ _ e3}
theorem zdR{I:LV}{_E:XK}(h:qE I H Q _E) :
  Ku K t (mt Q) (zZZ 5 I) H:=by
 have #[a,ac,rfl,u,o,q]:=h;have T:=o.le;have lw:(((Aq ac).map V.str).length:Int)=(ac.length:Int)*3:=by rw[bh,jB];lia
 refine{_,U,.ref a,_,U,.inl {_,aM.of u,U},_,_,U,U,(),U,_,U,zV (by rw[lw,Int.mul_emod_left];exact congrArg not (Bj U)) {bQ _,λA k=>{_,U,.ref a,_,U,.inl {_,aM.of (hX A k _ _ u),U},_,_,_,U,{(),(),(),(),(),()},zdB (riI a A ac H) {_,_,[],U,zh,.nil,hX A k} ?_ ?_}}}
 .rintro i E H1 hi ⟨O,J,xs,rfl,g,c,s⟩;have hl:=zna () () hi;rw[lw] at hl;exact zbR (t:=t) k s u () T o.nm g c λE H' z=>z
 .rintro E H1 ⟨O,J,xs,rfl,g,c,s⟩;rw[cB (by rw[lw];unfold Qh;split <;> lia)] at c;exact zbT o g c λH2 m=>q A H2 (s.trans m) k {xs,m _ _ g,wI (λ_ _=>zbK m) c}
theorem zjR(ys:LV)(v:V):jU (ys++[v]) af (Y (-1))=ys:=by
 unfold jU;have i:HT.sIx (ys++[v]).length 0 af=0:=by unfold HT.sIx;rfl
 have c:HT.sIx (ys++[v]).length (ys++[v]).length (Y (-1))=ys.length:=by unfold HT.sIx;simp;lia
 rw[i,c];simp
theorem zdS(w:Int):bb ";"≠zU w:=λz=>by
 have e:=(zdJ (oc:=.done [0]) {(),λi u=>by rw[bB.mp u];exact{(),()}}).2.2;have A:(bb ";").cps.toList=[59]:=by lia
 have k:(bb ";").cps.toList=(zU w).cps.toList:=congrArg (λx:Str=>x.cps.toList) z;rw[A] at k;have o:∀m,59 ∉ dg m:=λm q=>by have:=ky m 59 q;lia
 obtain c|c:=rT 0 w
 .rw[show w=((w.toNat:Nat):Int) by lia,yM] at k;exact o w.toNat (by rw[<-k];simp)
 .obtain e|e:=gA w.natAbs
  .have:w=((0:Nat):Int):=by lia
   rw[this,yM] at k;exact o 0 (by rw[<-k];simp)
  .rw[show w=-((w.natAbs:Nat):Int) by lia,xP e] at k;cases k
theorem zlr{a b:zQ}{x:Str}(h:x ∉ a):(a++x::b).idxOf x=a.length:=by rw[List.idxOf_append,ag h];simp
theorem qO(r:Int)(c:Oc)(gs:zF):xR r c gs=(bb "deal" :: zU r::ocW c)++bb ";" :: Aq gs:=rfl
theorem Y4(r:Int)(gs:zF):jq r gs=[bb "mark",zU r]++bb ";" :: Aq gs:=rfl
theorem zls{r:Int}(h:Kh oc):bb ";" ∉ (bb "deal" :: zU r::ocW oc):=λz=>by
 obtain z|z:=bn.mp z
 .exact absurd z ()
 .obtain z|z:=bn.mp z
  .exact zdS _ z
  .exact(zdJ h).2.2 z
theorem zlu{r:Int}:bb ";" ∉ [bb "mark",zU r]:=λz=>by
 obtain z|z:=bn.mp z
 .exact absurd z ()
 .exact zdS _ (bB.mp z)
theorem zhl:V.str (bb "mark")≠V.str (bb "deal"):=by intro z;injection z with z;revert z;lia
theorem ze3{x:Str}{l g:B}{r:Int}{oc:Oc}{i:zF}(J:rB r)(I:Kh oc)(E:aV H g i)(A:∀w,oc=.off w->i=[])(hl:H l=Y (.lst ((xR r oc i).map V.str)))(q:∀p v H',aJ H H'->za H' v oc->H' p=Y (.tup [.str "deal",.int r,v,.ref g])->Q (.ref p) H') :
  xz K t (mt Q) [Y (.str x),Y (.ref l),Y (.int ((bb "deal" :: zU r::ocW oc).length:Nat)),Y (.ref g)] H:=by
 have c:=ze2 V.str (xR r oc i) (k:=(bb "deal" :: zU r::ocW oc).length) (by rw[qO,bx];lia);have O:(xR r oc i).take (bb "deal" :: zU r::ocW oc).length=bb "deal" :: zU r::ocW oc:=by rw[qO];exact List.take_left
 rw[O] at c;exact{_,U,l,_,((0:Nat):Int),_,U,U,aM.of hl,yy U,U,_,U,yC (Bj U) {_,U,_,U,_,U,l,_,U,aM.of hl,λp m=>{_,U,p,g,r,oc,i,U,by rw[zh];exact congrArg (λz=>Y (HO.lst z)) c,J,I,E.same (hX p m),A,λb v H' s o u=>q b v H' ((hX p m).trans s) o u}}}
theorem ze4{x:Str}{l g:B}{r:Int}{i:zF}(I:rB r)(E:aV H g i)(A:i.length<=60)(u:∀x∈i,x.2≠0)(hl:H l=Y (.lst ((jq r i).map V.str)))(q:∀p H',aJ H H'->H' p=Y (.tup [.str "mark",.int r,.ref g])->Q (.ref p) H') :
  xz K t (mt Q) [Y (.str x),Y (.ref l),Y (.int (([bb "mark",zU r]:zQ).length:Nat)),Y (.ref g)] H:=by have c:=ze2 V.str (jq r i) (k:=2) (by rw[Y4,bx];exact dE ..);exact{_,U,l,_,((0:Nat):Int),_,U,U,aM.of hl,yy U,U,_,U,zV (Bk zhl) {_,U,l,_,((0:Nat):Int),_,U,U,aM.of hl,yy U,U,_,U,yC (Bj U) {_,U,_,U,_,U,l,_,U,aM.of hl,λp m=>{_,U,p,g,r,i,U,by rw[zh];exact congrArg (λz=>Y (HO.lst z)) c,I,E.same (hX p m),A,u,λb H' s o=>q b H' ((hX p m).trans s) o}}}}
theorem in_strs{ws:zQ}{w:Str}:inV (.str w) (ws.map V.str)=ae↔w∈ws:=by
 unfold inV;rw[List.any_eq_true];constructor
 .rintro⟨x,i,e⟩;have #[y,c,rfl]:=bH.mp i;simp only[eqV,beq_iff_eq] at e;exact e ▸ c
 .intro h;exact{_,bL h,by simp[eqV]}
theorem zhm{x:Str}{l:B}{k:Nat}{i:zQ}{ac:zF}(A:H l=Y (.lst (i.map V.str)))(E:k<i.length)(z:i.drop (k+1)=Aq ac)(u:ZF ac)(q:∀g H',aJ H H'->H g=af->aV H' g ac->xz K t (mt Q) [Y (.str x),Y (.ref l),Y (.int k),Y (.ref g)] H') :
  jS K t (mt Q) [Y (.str x),Y (.ref l),Y (.int k),af] H:=by simp only[jS,qE,kA,zjo,zjp,zm4,zB,yp,zG,aO,tC,zf,zm,tSl,qT,jV,zZ,cL,ca,dZ,cz,ay,V.int.injEq,V.ref.injEq,cW,and_true,exists_and_left,io,ip];have c:=KO V.str i (k:=k+1) ();rw[z] at c;refine{_,aM.of A,λp o=>{ac,by rw[zh,show ((k:Int)+1)=((k+1:Nat):Int) by lia,c],u,λg H' s n m=>q g H' ((hX p o).trans s) (yi (hX p o) n) m}}
theorem zhn{x:Str}{l:B}{a:zQ}{ac:zF}(i:H l=Y (.lst ((a++bb ";" :: Aq ac).map V.str)))(o:bb ";" ∉ a)(m:ZF ac)(q:∀g H',aJ H H'->H g=af->aV H' g ac->xz K t (mt Q) [Y (.str x),Y (.ref l),Y (.int (a.length:Nat)),Y (.ref g)] H') :
  jT K t (mt Q) [Y (.str x),Y (.ref l),af,af] H:=by
 simp only[jT,kA,zda,YL,zB,yp,zG,ym,xC,aO,tC,zf,zm,yF,yb,Av,tyV,rIn,ca,dZ,cz,ay,V.ref.injEq,V.str.injEq,V.bl.injEq,cW,and_true,true_and,exists_and_left,io,ip,dH,if_true];have c:bb ";"∈a++bb ";" :: Aq ac:=cw _ bu;refine{_,.inl (aM.of i),U,?_,?_}
 .rw[cI];intro v k;have #[w,_,rfl]:=bH.mp k;rfl
 .rw[ag (by rw[in_strs.mpr c];decide)];refine{.inl {_,aM.of i},_,i,c,?_};rw[zlr o];exact zhm i (by rw[bx];simp) (by rw[ul];simp) m q
theorem zaX{a:zQ}{ac:zF}(i:∀w∈a++bb ";" :: Aq ac,Wd w)(O:bb ";" ∉ a)(h3:(a++bb ";" :: Aq ac).length<=400)(J:ZF ac)(q:∀x l g c H',aJ H c->aJ c H'->c l=Y (.lst ((a++bb ";" :: Aq ac).map V.str))->c g=af->aV H' g ac->xz K t (mt Q) [Y (.str x),Y (.ref l),Y (.int (a.length:Nat)),Y (.ref g)] H') :
  jA K t (mt Q) (zZZ 4 [.str (xq (a++bb ";" :: Aq ac))]) H:=by
 simp only[jA,YV,kA,vH,zZZ,zB,yp,zG,tC,zf,zm,Av,tyV,zZ,oz,dF,dQ,fE,fY,cL,ca,cz,ay,V.str.injEq,cW,and_true,true_and,exists_and_left,io,ip,iS,iT];have T:=zbM i;have k:fJ (Zs (bb " ") (a++bb ";" :: Aq ac)) (bb " ")=a++bb ";" :: Aq ac:=by rw[k9,WY];exact qx (by simp) λp I=>(i p I).2.2
 refine{_,U,Wb i,(),λc z=>{U,(),by rw[k];lia,λl hl=>?_}};rw[k];have u:=hX (o:=HO.lst ((a++bb ";" :: Aq ac).map V.str)) l hl;exact zhn zh O J λg H' m E A=>q _ _ g _ H' (z.trans u) m zh E A
theorem QE{v:V}(h:(∃(r:Int)(u:Oc)(c:zF),v=.str (xq (xR r u c))/\rB r/\Kh u/\ZF c/\(∀w,u=.off w->c=[])/\∀p v g H',aJ H H'->za H' v u->H g=af->aV H' g c->H' p=Y (.tup [.str "deal",.int r,v,.ref g])->Q (.ref p) H') \/
  (∃(r:Int)(tb:zF),v=.str (xq (jq r tb))/\rB r/\ZF tb/\(∀x∈tb,x.2≠0)/\∀p g H',aJ H H'->H g=af->aV H' g tb->H' p=Y (.tup [.str "mark",.int r,.ref g])->Q (.ref p) H')) :
  jA K t (mt Q) (zZZ 4 [v]) H:=by
 obtain ⟨r,u,c,rfl,h1,h2,h3,h4,q⟩|⟨r,c,rfl,h1,h3,h4,q⟩:=h
 .have I:=h3.le;have #[_,T,_]:=zdJ h2;rw[qO];refine zaX (by rw[<-qO];exact zbO h1 h2 h3) (zls h2) (by simp[jB];lia) h3 λx l g O H2 m k A n o=>?_;exact ze3 h1 h2 o h4 (k _ _ A) λp v E i J z=>q p v g E (m.trans (k.trans i)) J (yi m n) (o.same i) z
 .have I:=h3.le;rw[Y4];refine zaX (by rw[<-Y4];exact zbP h1 h3) zlu (by simp[jB];lia) h3 λx l g O H2 m k A n o=>?_;exact ze4 h1 o I h4 (k _ _ A) λp E i z=>q p g E (m.trans (k.trans i)) (yi m n) (o.same i) z
theorem rwF{P:Ak}(T:Txt K P t):RwF K t:={T.q0g,T.q3t,T.q3s,T.q3r}
theorem rgF{P:Ak}(T:Txt K P t):RgF K t:={T.q0p,T.q3p,T.q3o,T.q3q}
theorem rnF{P:Ak}(T:Txt K P t):RnF K t:={T.q09,T.q3v,T.q3u,T.q40,T.q3z,T.q3w,T.q3x,T.q3y}
theorem dkF{P:Ak}(T:Txt K P t):DkF K t:={T.q0d,T.q0m,T.q2a,T.q36,T.q3b,T.q35,T.q33,T.q3a,T.q37,T.q39,T.q38,T.q34,T.q3i,T.q3h,T.q3j,T.q3g,T.q41}
theorem hsF{P:Ak}(T:Txt K P t):HsF K t:={T.q08,T.q3d,T.q3f,T.q3e,T.q3c}
theorem sz1:1<=Bb:=by rw[cu];decide
theorem sz2:2<=Bb:=by rw[cu];decide
theorem sz3:3<=Bb:=by rw[cu];decide
theorem sz4:4<=Bb:=by rw[cu];decide
theorem uV{c H':Hp}{p:B}(e:upd c p o=H')(i:c p=af):aJ c H'/\H' p=Y o:={e ▸ hX p i,e ▸ zh}
theorem zjS{n:Int}{w:Str}(h:zeX n w):jH w=ae/\w.length<=40/\yK w=ah/\isJ (.str w)=ah:=by have #[rfl,h]:=h;have #[a,b,c]:=xQ h;exact{a,c,fe.mpr (λz=>by rw[Qg z] at a;cases a),fe.mpr (λz=>by rw[(zkH z).2] at a;cases a)}
section
variable {ws:zQ}{k:Nat}{w:Str}
theorem Jb{u:LV}{_E:XK}(I:∀H:Hp,aX K H t.q0c jw)(h:va u H Q _E) :
  ZY K t (mt Q) (zZZ 4 u) H:=by
 have #[l,ws,k,n,w,rfl,E,A,J,T,q]:=h;have O:=(bp.mp A).1;refine{_,U,λm i H'=>H'=H/\((m=1/\i=[Y (.ref l),Y (.int k),Y (.int 1),Y (.int k)])\/m=0/\i=[Y (.ref l),Y (.int k),Y (.int 0),Y (.int (k+1:Nat))]),{1,U,.inl {U,U}},?_};rintro m i H' ⟨rfl,⟨rfl,rfl⟩|⟨rfl,rfl⟩⟩
 .refine{_,U,_,_,U,U,_,U,yC U {λc H2=>∃o,o<1/\(H2=H'/\((o=1/\c=[Y (.ref l),Y (.int k),Y (.int 1),Y (.int k)])\/o=0/\c=[Y (.ref l),Y (.int k),Y (.int 0),Y (.int (k+1:Nat))])),λ_ _ z=>z,?_}};refine{_,U,_,U,.ref l,ws.length,U,.inl {_,aM.of E,(bh ..).symm},_,_,U,U,_,U,zV (Bk ()) {_,U,_,U,_,_,U,U,U,_,U,zV (Bk λz=>?_) ?_}}
  .rw[Int.sub_self] at z;cases z
  .refine{_,U,_,U,l,_,_,_,U,U,aM.of E,yy (by rw[br,A];rfl),t.q0c,jw,U,.inr (I _),U,U,_,U,zV (zjS J).2.2.2 {_,U,_,_,U,U,_,U,_,_,U,U,0,(),U,.inr {U,U}}}
 .exact{_,U,_,_,U,U,_,U,zV U {_,U,q _ (aJ.refl _)}}
theorem QF{vs:LV}{_E:XK}(hJ:∀H:Hp,aX K H t.q0c jw)(h:qH vs H Q _E) :
  X7 K t (mt Q) (zZZ 7 vs) H:=by
 have #[l,ws,k,n,w,rfl,h1,h2,h3,h4,q]:=h;have lk:=(bp.mp h2).1;refine{_,U,_,U,l,ws,k,n,w,U,h1,h2,h3,h4,λH1 T=>{bQ _,λa ha=>?_}};generalize c1:upd H1 a _=H2;have #[s2,e2]:=uV c1 ha;have S2:=T.trans s2;refine{_,U,_,U,_,U,_,U,_,U,l,_,U,aM.of (S2 _ _ h1),λp hp=>?_};have J:jU (ws.map V.str) (Y (k:Int)) (Y ((k+1:Nat):Int))=[V.str w]:=by rw[znf _ _ _ (gO k) (by rw[bh];exact lk),i8 (by rw[bh];exact lk),List.getElem_map,(bp.mp h2).2,Nat.succ_sub (bo k),rV];rfl
 rw[J];generalize c2:upd H2 p _=H3;have #[s3,e3]:=uV c2 hp;have ab:a≠p:=zq e2 hp;have S3:=S2.trans s3;refine{p,_,U,aM.of e3,zij [V.str w] (λi u H'=>aJ H H'/\H' p=Y (.lst [V.str w])/\(i=0/\u=[Y (.ref l),Y (.int k),Y (.int (k+1:Nat)),Y (.ref a),af,af,af]/\H' a=Y (.lst [])\/i=1/\∃m,u=[Y (.ref l),Y (.int k),Y (.int (k+1:Nat)),Y (.ref a),Y (.str w),af,af]/\H' a=Y (.lst [.ref m])/\H' m=Y (.tup [.int n]))) {S3,e3,.inl {U,U,s3 _ _ e2}} (λi u H' z=>aM.of z.2.1) ?_ ?_}
 .rintro i v u H' hi hv ⟨S,I,⟨rfl,rfl,c⟩|⟨rfl,_⟩⟩
  .cases hv;refine{_,U,t.q0c,jw,U,.inr (hJ _),U,U,_,U,zV (zjS h3).2.2.2 {_,U,.inl {U,_,aM.of c},_,U,w,n,U,h3,λH4 O=>{sz1,λm E=>?_}}};have A:=hX (o:=HO.tup [V.int n]) m E;have na:=zq (O _ _ c) E;refine{a,[],_,U,U,A _ _ (O _ _ c),(),vh (S.trans (O.trans A)) (T.free ha),?_,.inr {U,m,U,zh,?_}}
   .rw[zk ab.symm];exact A _ _ (O _ _ I)
   .rw[zk na.symm];exact zh
  .exact absurd hi (gb 1)
 .rintro u H' ⟨S,I,⟨e,_⟩|⟨_,m,rfl,c,E⟩⟩
  .cases e
  .have A:aJ H (upd H' a (.lst [])):=vh S (T.free ha);refine{_,U,.inl {U,_,aM.of c},a,_,_,U,U,c,U,_,U,sz2,λr hr=>?_};have nt:m≠a:=zJ E c ();have aa:upd H' a (.lst []) m=Y (.tup [.int n]):=by rw[zk nt];exact E
   exact q r m _ (A.trans (hX r hr)) zh (hX r hr _ _ aa)
end
section
variable {ws:zQ}{k:Nat}{w:Str}
theorem UpR.same{H':Hp}(s:aJ H H'):UpR x H H':=λb o _ h=>s _ _ h
theorem UpR.trans{c H2:Hp}(h:UpR x H c)(g:UpR x c H2):UpR x H H2:=λb o n z=>g b o n (h b o n z)
theorem UpR.up(o:HO):UpR x H (upd H x o):=λb u n z=>by rw[zk n];exact z
theorem RwO.ne(R:RwO t H x dx l ws k):l≠x:=zJ R.hw R.ix ()
theorem RwO.same{H':Hp}(R:RwO t H x dx l ws k)(s:aJ H H'):RwO t H' x dx l ws k:={s _ _ R.ix,s _ _ R.hw}
theorem RwO.at_(R:RwO t H x dx l ws k)(k':Nat):RwO t (upd H x (.ins t.q07 dx (zlc l k'))) x dx l ws k':={zh,by rw[zk R.ne];exact R.hw}
theorem Wc{c:LV}{_E:XK}(F:RwF K t)(h:vI t c H Q _E) :
  qf K t (mt Q) (zZZ 3 c) H:=by have #[x,l,dx,rfl,i,q]:=h;refine{_,U,_,U,x,_,_,_,U,i,F.cl,F.n1,(),_,U,_,U,x,_,_,_,U,zh,F.cl,F.n2,(),_,U,x,_,_,_,U,zh,F.cl,F.n3,(),?_};exact q _ (((UpR.up _).trans (UpR.up _)).trans (UpR.up _)) zh
theorem RwA.up{H':Hp}(h:RwA H v e)(s:∀b m,H b=Y (.tup m)->H' b=Y (.tup m)):RwA H' v e:=by
 cases e with
 |say n=>have #[r,i,a,b,c]:=h;exact{r,i,a,s _ _ b,s _ _ c}
 |give p n=>have #[r,o,i,a,b,c,d]:=h;exact{r,o,i,a,s _ _ b,s _ _ c,s _ _ d}
theorem RwA.same{H':Hp}(h:RwA H v e)(s:aJ H H'):RwA H' v e:=h.up λb c z=>s _ _ z
theorem zjT{n:Int}(h:wB n):zeX n (zU n):={U,vB h}
theorem zjU{p:Nat}(h:p<3):zeX (p:Int) (zU (p:Int)):={U,Bj {(),()}}
theorem zjV{A c:L2.TS}{D:VT}{w u:Str}(h:σ[1]?=Y (Y (.str w)))(a:w=u->A D σ H)(b:w≠u->c D σ H):yF (yb (aO rEq (ze 1) (tC (.str u)))) A c D σ H:=zl8 (λ_ q=>zn6 h q) a b
end
theorem zmf(w:Int):∀c∈(zU w).cps.toList,45<=c/\c<=57:=by
 have i:∀m,∀c∈dg m,45<=c/\c<=57:=λm c o=>by have:=ky m c o;lia
 obtain c|c:=rT 0 w
 .rw[show w=((w.toNat:Nat):Int) by lia,yM];exact i _
 .obtain e|e:=gA w.natAbs
  .have:w=((0:Nat):Int):=by lia
   rw[this,yM];exact i _
  .rw[show w=-((w.natAbs:Nat):Int) by lia,xP e];intro z k;obtain z|z:=bn.mp k
   .lia
   .exact i _ _ z
theorem zgd(e:Dl):e.tx=eU b32 e.ws:=by
 apply wW;cases e with
 |say n=>
  show (bb "say " ++ zU n).cps.toList=(bb "say" ++ b32++zU n).cps.toList;rw[show bb "say "=bb "say" ++ b32 by lia]
 |give p n=>
  show (bb "give a " ++ zU p++bb " " ++ zU n).cps.toList=(bb "give" ++ b32++(bb "a" ++ b32++(zU p++b32++zU n))).cps.toList;rw[WY,show bb "give a "=bb "give" ++ (b32++(bb "a" ++ b32)) by lia];simp only[xX,cF]
theorem zoi(e:Dl):∀w∈e.ws,∀c∈w.cps.toList,45<=c/\c<128:=by
 have k:∀w:Str,((w.cps.toList.all λc=>decide (45<=c)&&decide (c<128))=ae)->∀c∈w.cps.toList,45<=c/\c<128:=λw h c m=>by have:=cI.mp h c m;rw[bY,decide_eq_true_eq,decide_eq_true_eq] at this;exact this
 have i:∀n:Int,∀c∈(zU n).cps.toList,45<=c/\c<128:=λn c m=>by have:=zmf n c m;lia
 intro w hw;cases e with
 |say n=>
  obtain rfl|hw:=bn.mp hw
  .exact k _ ()
  .rw[bB.mp hw];exact i n
 |give p n=>
  obtain rfl|hw:=bn.mp hw
  .exact k _ ()
  obtain rfl|hw:=bn.mp hw
  .exact k _ ()
  obtain rfl|hw:=bn.mp hw
  .exact i p
  .rw[bB.mp hw];exact i n
theorem zoj(e:Dl):e.ws≠[]:=by cases e <;> exact nofun
theorem KS(e:Dl):fJ e.tx b32=e.ws:=by rw[zgd];exact qx (zoj e) λw c z=>by have:=zoi e w c 32 z;lia
theorem znl(e:Dl):e.ws.length<=4:=by
 cases e with
 |say n=>show 2<=4;decide
 |give p n=>show 4<=4;decide
theorem zjW(c:e.ok):e.tx.length<=100:=by
 cases e with
 |say n=>
  show (bb "say " ++ zU n).length<=100;have:=(xQ (vB c)).2.2;rw[xk,show (bb "say ").length=4 from by lia];lia
 |give p n=>
  show (bb "give a " ++ zU p++bb " " ++ zU n).length<=100;have a:=(xQ (vB c.2)).2.2;have b:=(xQ (zjU c.1).2).2.2;rw[xk,xk,xk,show (bb "give a ").length=7 from by lia,show (bb " ").length=1 from by lia];lia
theorem zoT(e:Dl):∀c∈e.tx.cps.toList,c=32\/45<=c/\c<128:=by
 rw[zgd];have:∀(k:zQ),(∀w∈k,∀c∈w.cps.toList,45<=c/\c<128)->∀c∈(eU b32 k).cps.toList,c=32\/45<=c/\c<128:=λk=>by
  induction k with
  |nil=>intro _ c i;cases i
  |cons w k ih=>
   intro h c i;cases k with
   |nil=>exact .inr (h w bu c i)
   |cons u us=>
    have i:c∈(w++b32++eU b32 (u::us)).cps.toList:=i;rw[xX,xX] at i;obtain z|z:=bP.mp i
    .obtain z|z:=bP.mp z
     .exact .inr (h w bu c z)
     .exact .inl (bB.mp z)
    .exact ih (λv m=>h v (bw _ m)) c z
 exact this _ (zoi e)
theorem zge(e:Dl):fJ e.tx Ag=[e.tx]:=by
 have:=qx (c:=10) (ws:=[e.tx]) () λw i z=>by rw[bB.mp i] at z;have:=zoT e 10 z;lia
 rw[show Ag=(⟨#[10]⟩:Str) from by lia];exact this
theorem zok(e:Dl):e.tx≠bb "":=λz=>by
 have h:=KS e;rw[z,show fJ (bb "") b32=[bb ""] from by lia] at h;cases e with
 |say n=>have:=congrArg dQ h;cases this
 |give p n=>have:=congrArg dQ h;cases this
section
variable {rl bl:B}
theorem vV{c:Hp}{y d:B}{C:B}(i:c y=af)(k:c d=af):aJ c (upd (upd c d (.own y)) y (.ins C d [])):=λb o h=>by rw[zk (zq h i),zk (zq h k)];exact h
theorem UpR.new{c H':Hp}(s:aJ H c)(u:UpR x c H')(i:H x=af):aJ H H':=λb o h=>u b o (zq h i) (s _ _ h)
theorem ze5{m:LV}{_E:XK}{P:Ak}(T:Txt K P t)(h:WT m H Q _E) :
  zaM K t (mt Q) (zZZ 5 m) H:=by
 have #[e,rfl,E,q]:=h;have l4:=znl e;refine{_,U,U,_,_,U,U,U,b9 (zjW E) (),?_,?_}
 .rw[show (bb " ")=b32 from WY,KS];lia
 intro l hl;rw[show (bb " ")=b32 from WY,KS];generalize c1:upd H l _=H1;have #[O,k]:=uV c1 hl;refine{_,U,_,_,U,U,_,U,zV U {_,U,.ref l,e.ws.length,U,.inl {_,aM.of k,(bh ..).symm},_,_,U,U,_,U,zV (Bk ()) {_,U,_,U,?_}}};intro y d c hd nd;have z:=vV (C:=t.q07) c hd;refine{y,l,d,U,zh,λH2 u e2=>{U,_,U,y,d,l,e,U,{e2,u _ _ (zq k c) (z _ _ k)},E,λv H3 J I i=>?_}};have S3:aJ H1 H3:=UpR.new (x:=y) (λb o h=>u b o (zq h c) (z _ _ h)) J c;refine xK I.ix U U {y,d,l,_,U,I,λH4 A=>{_,U,q v H4 (O.trans (S3.trans A)) (i.same A)}}
theorem WZ{J:LV}{_E:XK}(F:RgF K t)(h:jh t J H Q _E) :
  Zg K t (mt Q) (zZZ 1 J) H:=by
 have #[x,dx,rfl,c,q]:=h;have k:∀ {H:Hp}{fs:LSV}{p:B}{o:HO}{u:HO},H x=Y (.ins t.q04 dx fs)->H p=af->UpR x H (upd (upd H p o) x u)/\upd (upd H p o) x u p=Y o/\p≠x:=λ{H fs p o u} c hp=>by have np:p≠x:=(zq c hp).symm;exact{λb w n z=>by rw[zk n];exact hX p hp _ _ z,by rw[zk np];exact zh,np}
 refine{bQ _,λrl m=>{_,U,x,_,_,_,U,hX rl m _ _ c,F.cl,F.n1,(),?_}};have #[u1,T,n1]:=k (o:=.lst []) (u:=.ins t.q04 dx (xW (bb "rows") (.ref rl) [])) c m;have I:upd (upd H rl (.lst [])) x (.ins t.q04 dx (xW (bb "rows") (.ref rl) [])) x=Y (.ins t.q04 dx [(bb "rows",.ref rl)]):=zh;generalize upd (upd H rl (.lst [])) x (.ins t.q04 dx (xW (bb "rows") (.ref rl) []))=H1 at *
 refine{bQ _,λbl A=>{_,U,x,_,_,_,U,hX bl A _ _ I,F.cl,F.n2,(),?_}};have #[O,r2,n2]:=k (o:=.lst []) (u:=.ins t.q04 dx (xW (bb "blocks") (.ref bl) [(bb "rows",.ref rl)])) I A;have E:upd (upd H1 bl (.lst [])) x (.ins t.q04 dx (xW (bb "blocks") (.ref bl) [(bb "rows",.ref rl)])) x=Y (.ins t.q04 dx [(bb "rows",.ref rl),(bb "blocks",.ref bl)]):=zh;generalize upd (upd H1 bl (.lst [])) x (.ins t.q04 dx (xW (bb "blocks") (.ref bl) [(bb "rows",.ref rl)]))=H2 at *
 refine{bQ _,λtl ht=>{_,U,x,_,_,_,U,hX tl ht _ _ E,F.cl,F.n3,(),?_}};have #[i,r3,n3]:=k (o:=.lst []) (u:=.ins t.q04 dx (xW (bb "turned") (.ref tl) [(bb "rows",.ref rl),(bb "blocks",.ref bl)])) E ht;exact q _ rl bl tl (u1.trans (O.trans i)) zh (i _ _ n1 (O _ _ n1 T)) (i _ _ n2 r2) (zq T A) m
theorem zjX{vs:LV}{_E:XK}{P:Ak}(T:Txt K P t)(F:RgF K t)(h:zfY vs H Q _E) :
  zfZ K t (mt Q) (zZZ 5 vs) H:=by
 have #[e,rfl,ok,q]:=h;refine{_,U,U,_,U,yC (by rw[Bk λz=>zok e (V.str.inj z)];rfl) {_,U,U,_,_,U,U,U,b9 (zjW ok) (),?_,?_}}
 .show (fJ e.tx Ag).length<=_;rw[zge];show 1<=100000;decide
 intro w hw;rw[show fJ e.tx (bb "\n")=[e.tx] from zge e];generalize c1:upd H w _=H1;have #[s1,e1]:=uV c1 hw;intro y d hy hd nd;have sm:=vV (C:=t.q04) hy hd;refine{y,d,U,zh,λH2 rl bl tl u2 e2 er eb ai nr=>{U,?_}};have S2:aJ H1 H2:=λb o h=>u2 b o (zq h hy) (sm _ _ h);have fr:H rl=af:=s1.free (yi sm nr);have ab:w≠rl:=zq e1 (yi sm nr);refine{_,U,w,_,U,aM.of (S2 _ _ e1),zeH [V.str e.tx] (λi σ H'=>aJ H H'/\H' w=Y (.lst [V.str e.tx])/\(∃a b,σ=[Y (.str e.tx),Y (.ref w),Y (.ref y),a,b])/\H' y=Y (.ins t.q04 d [(bb "rows",.ref rl),(bb "blocks",.ref bl),(bb "turned",.ref tl)])/\H' bl=Y (.lst [])/\(i=0/\H' rl=Y (.lst [])\/i=1/\∃v,H' rl=Y (.lst [v])/\RwA H' v e)) {s1.trans S2,S2 _ _ e1,{_,_,U},e2,eb,.inl {U,er}} (λi σ H' z=>aM.of z.2.1) ?_ ?_}
 .rintro i u A σ H' hu hA ⟨S,O,⟨a,b,rfl⟩,c,m,⟨rfl,k⟩|⟨rfl,_⟩⟩
  .cases hu;have I:=hX (o:=HO.tup [V.int (0:Nat),V.str e.tx]) A hA;refine{A,_,U,aX.of zh,U,{_,_,U,_,_,U,U,?_}};refine xK (I _ _ c) U U {_,U,_,U,e,U,ok,λv H3 s3 J=>{_,U,y,d,rl,bl,tl,v,e,U,s3 _ _ (I _ _ c),s3 _ _ (I _ _ m),s3 _ _ (I _ _ k),J,λH4 E e4=>?_}};have S3:=I.trans s3;exact{λb o h=>E b o (zq h fr) (S3 _ _ (S _ _ h)),E _ _ ab (S3 _ _ O),{_,_,U},E _ _ (zJ c k ()) (S3 _ _ c),E _ _ ai.symm (S3 _ _ m),.inr {U,v,e4,J.up λb zs z=>E _ _ (zJ z (S3 _ _ k) ()) z}}
  .exact absurd hu ()
 .rintro σ H' ⟨S,O,⟨a,b,rfl⟩,c,m,⟨z,_⟩|⟨_,v,k,aa⟩⟩
  .cases z
  .unfold zaN zB yF;refine zX c F.cl F.n2 U U {bQ _,λp hp=>{bl,p,[],U,U,aM.of (hX p hp _ _ m),aM.of zh,_,U,zV U ?_}};have s:=hX (o:=HO.lst []) p hp;exact zX (s _ _ c) F.cl F.n1 U U (q v rl _ (S.trans s) fr (s _ _ k) (aa.same s))
end
theorem Zh(e:Dl):pv e.gi/\(e.gi.map (·.1)).Nodup/\e.gi.length<=1:=by
 cases e with
 |say n=>exact{.nil,.nil,bQ _}
 |give p n=>exact{List.pairwise_singleton _ _,cx.mpr {bZ,.nil},bo _}
theorem zbU(e:Dl):e.gi.take 1=e.gi:=cB (Zh e).2.2
theorem ze6(e:Dl):e.sa.length<=1:=by
 cases e with
 |say n=>exact bo _
 |give p n=>exact bQ _
theorem zbV(e:Dl):e.sa.take 1=e.sa:=cB (ze6 e)
theorem znm{w:Int}:mx [(q,w)]=[(zD q,V.int w)]:=WU (cx.mpr {bZ,.nil})
section
variable {a:RAd}{k m:Nat}
theorem Al.same(R:Al t H x a e k m)(s:aJ H H'):Al t H' x a e k m:={s _ _ R.ix,let ⟨v,h,p⟩:=R.hc;{v,s _ _ h,p.same s},s _ _ R.hs,s _ _ R.hg,s _ _ R.hn,s _ _ R.ha,R.nc,R.ng}
theorem zbW{c:LV}{_E:XK}(F:RnF K t)(h:jc t c H Q _E) :
  ZK K t (mt Q) (zZZ 1 c) H:=by have #[x,a,e,k,m,rfl,R,q]:=h;have #[v,i,o]:=R.hc;simp only[ZK,kA,zjo,zla,zm5,yR,zZZ,yw,aO,tC,zf,zm,zmo,uS,zms,zcx,oz,dF,dQ,cL,ca,cz,ay,V.int.injEq,V.ref.injEq,V.bl.injEq,cW,and_true,true_and,exists_and_left,iS,iT,dH,decide_eq_false_iff_not];refine{_,_,_,R.ix,F.cl,F.n3,_,U,?_};rw[ag (λz=>z U)];refine{_,_,_,R.ix,F.cl,F.n2,_,U,_,_,_,R.ix,F.cl,F.n1,_,U,1,.inl {_,aM.of i,U},_,U,?_};rw[show decide (((1:Nat):Int)<=(k:Int))=decide (1<=k) from decide_eq_decide.mpr ()];exact q
theorem Al.ts(R:Al t H x a e k m)(h:H b=Y (.tup zs)):b≠x/\b≠a.sa/\b≠a.gi:={zJ h R.ix (),zJ h R.ha (),zJ h R.hg ()}
theorem Al.kp(R:Al t H x a e k m)(kp:KpR x a H H'):TSm H H':=λb c z=>let ⟨n1,n2,n3⟩:=R.ts z;kp b _ n1 n2 n3 z
theorem Al.said(R:Al t H x a e k 0)(hg:e.gi=[])(o:HO)(c:o=.lst (e.sa.map V.int)):Al t (upd H a.sa o) x a e k 1:=by
 have u:∀ {b w},b≠a.sa->H b=Y w->upd H a.sa o b=Y w:=λ{b w} z y=>by rw[zk z];exact y
 refine{u (zJ R.ix R.ha ()) R.ix,let ⟨v,h,p⟩:=R.hc;{v,u R.nc h,p.up λb i z=>u (zJ z R.ha ()) z},u (zJ R.hs R.ha ()) R.hs,?_,u (zJ R.hn R.ha ()) R.hn,by rw[zh,zbV,c],R.nc,R.ng};have g:=u (zJ R.hg R.ha ()) R.hg;rw[zbU,hg];exact g
theorem Al.gave(R:Al t H x a e k 0)(hs:e.sa=[])(o:HO)(c:o=.dT (mx e.gi)):Al t (upd H a.gi o) x a e k 1:=by
 have u:∀ {b w},b≠a.gi->H b=Y w->upd H a.gi o b=Y w:=λ{b w} z y=>by rw[zk z];exact y
 refine{u (zJ R.ix R.hg ()) R.ix,let ⟨v,h,p⟩:=R.hc;{v,u (zJ h R.hg ()) h,p.up λb i z=>u (zJ z R.hg ()) z},u (zJ R.hs R.hg ()) R.hs,by rw[zh,zbU,c],u R.ng.symm R.hn,?_,R.nc,R.ng};have g:=u (zJ R.ha R.hg ()) R.ha;rw[zbV,hs];exact g
theorem Al.at_(R:Al t H x a e k m)(c:Nat):Al t (upd H x (.ins t.q01 a.dx (zm6 a c))) x a e c m:=by
 have u:∀ {b o},b≠x->H b=Y o->upd H x (.ins t.q01 a.dx (zm6 a c)) b=Y o:=λ{b o} z e=>by rw[zk z];exact e
 exact{zh,let ⟨v,h,p⟩:=R.hc;{v,u (zJ h R.ix ()) h,p.up λb i z=>u (zJ z R.ix ()) z},u (zJ R.hs R.ix ()) R.hs,u (zJ R.hg R.ix ()) R.hg,u (zJ R.hn R.ix ()) R.hn,u (zJ R.ha R.ix ()) R.ha,R.nc,R.ng}
theorem zbX{vs:LV}{_E:XK}(F:RnF K t)(h:kb t vs H Q _E) :
  ZM K t (mt Q) (zZZ 2 vs) H:=by
 have #[x,l,dx,v,e,rfl,T,h2,h3,q]:=h;have #[lb,P,_]:=PO.init T {_,T};unfold ZM zB;refine{_,U,l,[v],U,.inl (aM.of h2),P.so (.lst [v]) 2 () () U F.cl F.n1 () λco H1 aj P=>P.st U F.cl F.n2 () λH2 P=>P.st U F.cl F.n3 () λH3 P=>P.so (.dK []) 3 () () U F.cl F.n4 () λsl H4 ai P=>P.so (.dT []) 4 () () U F.cl F.n5 () λgi H5 ab P=>P.so (.dT []) 5 () () U F.cl F.n6 () λno H6 aa P=>{(),P.so (.lst []) 6 () () U F.cl F.n7 () λJ H7 A P=>?_}};have i:∀n c o,(n,c,o)∈_->H7 c=Y o/\A c=n:=λn c o z=>(P.ob (n,c,o) z).2;have I:=i 2 co _ (.tail _ (.tail _ (.tail _ (.tail _ (.head _)))));have o3:=i 3 sl _ (.tail _ (.tail _ (.tail _ (.head _))));have E:=i 4 gi _ (.tail _ (.tail _ (.head _)));have O:=i 5 no _ (.tail _ (.head _));have o6:=i 6 J _ (.head _);have u:∀ {n:Nat}{b:B},A b=n+2->b=x\/H b=af:=λ{n b} z=>(P.fr b ()).imp id λy=>y.elim (λy=>by rw[y,P.lx] at z;lia) id;refine q H7 {dx,co,sl,gi,no,J} P.kp {P.hx,{v,I.1,h3.up (λb zs y=>P.kp _ _ (zJ y T ()) y)},o3.1,E.1,O.1,o6.1,(λz=>by rw[show co=J from z,o6.2] at I;exact absurd I.2 ()),λz=>by rw[show gi=no from z,O.2] at E;exact absurd E.2 ()} λb z=>?_;obtain z|z|z|z|z|z:=z
 .exact .inl z
 .rw[z];exact u I.2
 .rw[z];exact u o3.2
 .rw[z];exact u E.2
 .rw[z];exact u O.2
 .rw[z];exact u o6.2
theorem RwA.hd(h:RwA H v e):∃(r:B)(i:LV)(f:Str),v=.ref r/\H r=Y (.tup i)/\atI i 0=Y (.str f)/\f≠bb "take"/\f≠bb "go"/\f≠bb "skip"/\f≠bb "off":=by
 cases e with
 |say n=>have #[r,o,a,b,c]:=h;exact{r,_,_,a,b,U,(),(),(),()}
 |give p n=>have #[r,q,o,a,b,c,d]:=h;exact{r,_,_,a,b,U,(),(),(),()}
theorem KU{Qr:VK}(c:gF K (.type "int") (.type "str")=Y ah)(i:aX K H t.q0c jw)(hl:H l=Y (.lst []))(q:R [Y (.ref tm),Y (.ref sl),Y (.ref l),Y (.int n),o4,o5] (upd H l (.lst [.int n]))) :
  Yv K t { nx:=R,rt:=Qr } [Y (.ref tm),Y (.ref sl),Y (.ref l),Y (.int n),o4,o5] H:=
 {_,U,t.q0c,jw,U,.inr i,U,U,_,U,zV U {_,U,.inl {U,_,aM.of hl},qh U (.int n) c (zV U {_,U,l,_,_,U,U,hl,yD (),q})}}
theorem zbY{u A:B}(hi:gF K (.type "int") (.type "str")=Y ah)(hJ:∀H:Hp,aX K H t.q0c jw)(T:H u=Y (.tup [.int n]))(_h2:H A=Y (.dK []))(q:∀H',aJ H H'->Q (.int n) H') :
  VH K t (mt Q) (zZZ 6 [.ref u,.ref A]) H:=by
 refine{(),λl hl=>{_,U,u,U,{_,aX.of (hX l hl _ _ T)},?_}};refine zcB [.int n] (λi o H'=>aJ H H'/\∃J I E,o=[Y (.ref u),Y (.ref A),Y (.ref l),J,I,E]/\H' l=Y (.lst ([V.int n].take i))) {hX l hl,_,_,_,U,zh} (λi o H' z=>aX.of (z.1 _ _ T)) ?_ ?_
 .rintro i v o H' O ⟨s,J,I,E,rfl,c⟩;obtain rfl:i=0:=Nat.lt_one_iff.mp (bp.mp O).1;cases O;exact KU (Qr:=Q) hi (hJ H') c {vh s hl,_,_,_,U,zh}
 .rintro o H' ⟨s,J,I,E,rfl,c⟩;exact{_,U,.inl {U,_,aM.of c},l,_,_,U,U,c,U,q _ (vh s hl)}
theorem zbZ{c:LV}{_E:XK}(F:RnF K t)(h:kc t c H Q _E) :
  VI K t (mt Q) (zZZ 2 c) H:=by have #[x,a,e,rfl,R,q]:=h;have #[v,O,A]:=R.hc;refine xK R.ix U U {x,a,e,0,0,U,R,_,U,zV U (xK R.ix U U (zX R.ix F.cl F.n1 U U (zX R.ix F.cl F.n2 U U {a.co,_,_,_,U,U,aM.of O,U,_,U,x,v,a,e,U,R,A,λT J u=>?_})))};exact{_,U,x,_,_,_,U,u.ix,F.cl,F.n2,(),q _ (λb o i I E z=>by rw[zk i];exact J b o i I E z) (u.at_ 1)}
theorem zol(h:pv out)(k:∀p w,(p,w)∈out↔zP e.gi p=Y w):out=e.gi:=jJ h (Zh e).1 λ⟨p,w⟩=>(k p w).trans (vS (Zh e).2.1)
theorem ze7{l:B}(F:RnF K t)(z:Al t H x a e 1 1)(T:H l=Y (.lst []))(q:∀v gl H',aJ H H'->PpV H' v e l gl->H gl=af->Q v H') :
  ZS K t (mt Q) [Y (.ref x),Y (.ref l)] H:=by
 refine zX z.ix F.cl F.n3 U U {U,_,U,zV U (zX z.ix F.cl F.n7 U U {a.sa,_,U,.inl {aM.of z.ha,λy hy=>{sz2,λp hp=>?_}}})};rw[zbV] at hp ⊢;generalize c1:upd H y _=H1 at *
 have #[t1,e1]:=uV c1 hy;generalize c2:upd H1 p _=H3 at *
 have #[t2,e2]:=uV c2 hp;have u:=t1.trans t2;have R3:=z.same u;have c:=R3.hg;rw[zbU] at c;refine{_,U,zX R3.ix F.cl F.n5 U U {a.gi,_,U,c,λr3 J=>?_}};generalize c3:upd H3 r3 _=H5;have #[E,e4]:=uV c3 J;have lg:=(Zh e).2.2;have ld:=jv e.gi;refine{r3,a.gi,e.gi,U,e4,E _ _ c,(),λg zs aa H4 s4 fg hg ps ri mi=>{sz3,λI O=>?_}};rw[zol ri mi] at ps;have A:=hX (o:=HO.tup [V.ref p,V.ref l,V.ref g]) I O;have i:=E.trans (s4.trans A);exact q (.ref I) g _ (u.trans i) {I,.ref p,U,zh,{p,y,U,i _ _ e2,(t2.trans i) _ _ e1},(u.trans i) _ _ T,zs,A _ _ hg,qg A ps} (yi u (yi E fg))
end
section
variable {lb2:At}{c:B}{o:HO}{i:Nat}{D':DkV}
theorem OwL.at(h:OwL H lb Bp)(e:Bp[i]?=Y (b,o)):H b=Y o:=(h.ob i b o e).1
theorem OwL.out(h:OwL H lb Bp)(e:H b=af):lb b=0:=cp λz=>by have #[o,y]:=h.ow b z;rw[e] at y;cases y
theorem OwL.put(h:OwL H lb Bp)(e:Bp[i]?=Y (b,o)):OwL (upd H b o') lb (Bp.set i (b,o')):=by
 have k:=h.ob i b o e;refine{λj c u z=>?_,λc z=>let ⟨u,y⟩:=h.ow c z;qN c u y};by_cases ij:j=i
 .subst ij;rw[lW (bp.mp e).1] at z;cases z;exact{zh,k.2}
 .rw[m7 (eh ij)] at z;have #[q,m]:=h.ob j c u z;exact{by rw[zk (λy=>by rw[y,k.2] at m;lia)];exact q,m}
theorem Fr.same(s:aJ H H'):Fr M H H' lb lb:={λ_ _ _=>rfl,λ_ _ _ e=>s _ _ e,λ_ _ e=>s _ _ e,λ_ o e=>{o,s _ _ e}}
theorem Fr.trans(h:Fr M H H' lb lb')(k:Fr M H' H2 lb' lb2):Fr M H H2 lb lb2:=
 {λb o e=>let ⟨o',e'⟩:=h.al b o e;(k.ex b o' e').trans (h.ex b o e),λb o z e=>k.kp b o (by rw[h.ex b o e];exact z) (h.kp b o z e),λb zs e=>k.ts _ _ (h.ts _ _ e),λb o e=>let ⟨o',e'⟩:=h.al b o e;k.al b o' e'}
theorem Fr.m0(h:Fr M1 H H' lb lb'):Fr M0 H H' lb lb':={h.ex,λb o z e=>h.kp b o (z.imp id λy=>by lia) e,h.ts,h.al}
theorem OwL.fput(h:OwL H lb Bp)(e:Bp[i]?=Y (b,o))(n:∀k,o≠.tup k)(m:i<9):Fr M1 H (upd H b o') lb lb:=by refine{λ_ _ _=>rfl,λc u z y=>?_,Z0 (h.at e) n,qN};have l:=(h.ob i b o e).2;have z:lb c=0\/14<=lb c:=z;rw[zk (λw=>by rw[w] at z;lia)];exact y
theorem za.ts(h:za H v oc)(s:TSm H H'):za H' v oc:=by
 cases oc with
 |done sa=>have #[o,y,e,a,b]:=h;exact{o,y,e,s _ _ a,s _ _ b}
 |off w=>have #[o,e,a]:=h;exact{o,e,s _ _ a}
theorem PrAt.ts(h:PrAt H v q)(s:TSm H H'):PrAt H' v q:=let ⟨p,r,e,h1,h2⟩:=h;{p,r,e,s _ _ h1,s _ _ h2}
theorem aV.to(h:aV H l rs)(s:TSm H H')(k:∀o,H l=Y o->H' l=Y o):aV H' l rs:=let ⟨xs,hx,px⟩:=h;{xs,k _ hx,Paired.mapP px λ_ _ z=>PrAt.ts z s}
theorem aV.has(h:aV H l rs):∃o,H l=Y o:=let ⟨xs,hx,_⟩:=h;{_,hx}
theorem PpV.to(h:PpV H v e nl gl)(s:TSm H H')(m:∀o,H nl=Y o->H' nl=Y o)(k:∀o,H gl=Y o->H' gl=Y o):PpV H' v e nl gl:=by have #[r,o,E,A,z,u,q]:=h;exact{r,o,E,s _ _ A,z.ts s,m _ u,q.to s k}
theorem PpA.fr(h:PpA H lb v e)(F:Fr M H H' lb lb')(z:M 14):PpA H' lb' v e:=by have #[A,I,p,q,m]:=h;have #[r,o,T,O,J,E,k]:=id p;have #[u,k]:=k.has;exact{A,I,p.to F.ts (λo e=>F.kp _ _ (by rw[q];exact z) e) (λo e=>F.kp _ _ (by rw[m];exact z) e),(F.ex _ _ E).trans q,(F.ex _ _ k).trans m}
theorem OwL.same(h:OwL H lb Bp)(s:aJ H H'):OwL H' lb Bp:={λi b o e=>{s _ _ (h.ob i b o e).1,(h.ob i b o e).2},λb z=>let ⟨o,e⟩:=h.ow b z;{o,s _ _ e}}
theorem DkO.same(h:DkO t H d a lb n f D)(s:aJ H H'):DkO t H' d a lb n f D:={h.o.same s,h.m.same s,s _ _ h.r.1,h.r.2}
theorem DkO.set(h:DkO t H d a lb n f D)(e:(dkL t d a n f D)[i]?=Y (b,o))(q:∀k,o≠.tup k)(A:i<9)(o':HO)(J:(dkL t d a n f D).set i (b,o')=dkL t d a n f D')(I:D'.g=D.g)(E:D'.ls=D.ls):DkO t (upd H b o') d a lb n f D'/\Fr M1 H (upd H b o') lb lb:=by
 have F:=h.o.fput (o':=o') e q A;have l:=(h.o.ob i b o e).2;refine{{by rw[<-J];exact h.o.put e,?_,?_,h.r.2},F}
 .rw[I,E];exact h.m.keep (λc u z y=>by rw[zk (λw=>by rw[w] at z;lia)];exact y) F.ts
 .have:=h.r.2;rw[zk (λw=>by rw[w] at this;lia)];exact h.r.1
open Classical in
theorem DkO.relab{N:uZ}(m:Nat)(T:14<=m)(h:DkO t H d a lb n f D)(s:aJ H H')(k:∀b,N b->H b=af/\∃o,H' b=Y o):∃lb',Fr M H H' lb lb'/\DkO t H' d a lb' n f D/\∀b,N b->lb' b=m:=by
 have u:∀b,N b->lb b=0:=λb z=>h.o.out (k b z).1;have A:∀b,lb b≠0->(if N b then m else lb b)=lb b:=λb z=>ag λy=>z (u b y);have q:(λb=>(if N b then m else lb b)=10)=λb=>lb b=10:=funext λb=>propext (by
  by_cases y:N b
  .rw[ao y,u b y];lia
  .rw[ag y])
 refine{λb=>if N b then m else lb b,{λb o e=>ag (λy=>by rw[(k b y).1] at e;cases e),λb o _ e=>s _ _ e,λb O e=>s _ _ e,λb o e=>{o,s _ _ e}},{{λi b o e=>?_,λb E=>?_},by rw[q];exact h.m.same s,s _ _ h.r.1,(A _ (by rw[h.r.2];decide)).trans h.r.2},λb z=>ao z}
 .have #[J,I]:=h.o.ob i b o e;exact{s _ _ J,(A b ()).trans I}
 .by_cases y:N b
  .exact(k b y).2
  .have #[o,e]:=h.o.ow b (λz=>E ((ag y).trans z));exact{o,s _ _ e}
theorem DkO.relay{F':uZ}(h:DkO t H d a lb n f D)(k:∀b o,lb b≠10->H b=Y o->H' b=Y o)(J:TSm H H')(M:uW t H' a.mks F' D.g ls')(A:∀b,F' b->lb b=10\/H b=af)(q:∀b,lb b=10->F' b):∃lb',Fr M1 H H' lb lb'/\DkO t H' d a lb' n f { D with ls:=ls' }:=by
 classical
 have e0:∀b,lb b≠0->¬ lb b=10->¬ F' b:=λb z y w=>(A b w).elim y λv=>by have #[o,e]:=h.o.ow b z;rw[v] at e;cases e
 have E:∀b,lb b≠0->(if F' b then 10 else lb b)=lb b:=λb z=>by
  by_cases y:lb b=10
  .rw[ao (q b y),y]
  .rw[ag (e0 b z y)]
 have u:(λb=>(if F' b then 10 else lb b)=10)=F':=funext λb=>propext {λz=>by
  by_cases y:F' b
  .exact y
  .rw[ag y] at z;exact q b z,λz=>ao z}
 have I:∀b o,H b=Y o->∃o',H' b=Y o':=λb o e=>by
  by_cases y:lb b=10
  .exact M.own b (q b y)
  .exact{o,k b o y e}
 have O:=h.r.2;refine{λb=>if F' b then 10 else lb b,{λb o e=>?_,λb o z e=>k b o (by unfold M1 at z;lia) e,J,I},{λi b o e=>?_,λb T=>?_},by rw[u];exact M,k _ _ () h.r.1,(E _ ()).trans O}
 .by_cases y:F' b
  .rw[ao y];exact((A b y).resolve_right λz=>by rw[z] at e;cases e).symm
  .rw[ag y]
 .have #[h1,h2]:=h.o.ob i b o e;have:=(bp.mp e).1;have l9:(dkL t d a n f { D with ls:=ls' }).length=9:=rfl;exact{k b o () h1,(E b ()).trans h2}
 .by_cases y:F' b
  .exact M.own b y
  .have #[o,e]:=h.o.ow b (λz=>T ((ag y).trans z));exact I b o e
theorem zdT{z:uU}{E:V->St->Hp->uU->Prop}(hl:H l=Y (.lst []))(q:z u H) :
  ∃W:Nat->Nat->uU,(∃m,W 0 m u H)/\∀i m u H,W i m u H->((Itl K l).stop i H/\z u H)\/((Itl K l).go i H/\∃N:uU,(∀k H',N k H'->∃A,A<m/\W (i+1) A k H')/\∀x H',(Itl K l).yld i H x H'->E x u H' N):=
 {λi _ k H'=>i=0/\k=u/\H'=H,{0,U,U,U},by rintro i m k H' ⟨rfl,rfl,rfl⟩;exact .inl {{_,aM.of hl,bo _},q}}
theorem DkO.jb(h:DkO t H d a lb n f D):H a.jb=Y (.ins t.q05 a.dj (zld a.mks a.la a.re a.db)):=h.o.at (i:=2) rfl
theorem KW{p l:B}{k:Nat}{E:V}(hl:H l=Y (.lst []))(q:∀A H',aJ H H'->R A H') :
  Zl (qS K (tSl (Qc K) (ze 3) (qT (zZ wf [] E0 (zf (ze 3) (zf (aO aC (ze 2) (tC (.int 1))) zm)))) (qT (ze 5)))) (zG 6) (Xh (yR K (ze 0) "doubted") (ze 6) (tC (.bl ae))) { nx:=R,rt:=Q } [Y (.ref a.jb),Y (.ref p),Y (.int aI),Y (.ref l),Y E,Y (.int k),af] H:=by
 refine{_,U,_,U,_,U,_,_,U,U,l,[],_,U,hl,.nil,λu O m _ _ _=>{u,U,_,U,k,U,l,_,U,aM.of (m _ _ hl),λz I=>?_}};have J:jU [] (Y (u:Int)) (Y (k:Int))=[]:=by unfold jU;simp
 rw[J];exact{z,U,{_,aM.of zh},zdT zh (q _ _ (m.trans (hX z I)))}
theorem zlv{r z gl l:B}{o:V}{I E:Option V}(F:DkF K t)(h:DkO t H d a lb n f D)(e1:H r=Y (.tup [o,.ref z,.ref gl]))(e3:H z=Y (.lst []))(T:M1 (lb z))(h7:D.la.length<=20)(h8:D.db.length<=20)(q:∀H' m,Fr M1 H H' lb lb->DkO t H' d a lb n f { D with la:=xu D.la (.inl aI) (.ref r),db:=m }->(D.db.Nodup->m.Nodup)->(∀y,y∈m↔y∈D.db\/y=aI)->Q .non H') :
  jR K t (mt Q) [Y (.ref a.jb),Y (.int aI),Y (.ref r),Y (.ref l),I,E] H:=by have #[A,F5]:=h.set (i:=6) (D':={ D with la:=xu D.la (.inl aI) (.ref r) }) rfl () () (.dK (xu D.la (.inl aI) (.ref r))) rfl rfl rfl;have #[m,ed,O,J]:=zng (db:=D.db) aI;have #[g6,F6]:=A.set (i:=7) (D':={ D with la:=xu D.la (.inl aI) (.ref r),db:=m }) rfl () () (.dK (xu (dbL D.db) (.inl aI) (.bl ae))) (by rw[ed];rfl) U rfl;have G:=F5.trans F6;have u:=G.kp _ _ T e3;refine{_,U,zX h.jb F.cJ F.j2 U U {_,U,a.la,_,U,DPut.k (k:=.inl aI) (h.o.at (i:=6) U) (yD (by show D.la.length<1000000;lia)),?_}};exact zX A.jb F.cJ F.j4 U U {_,U,a.db,_,U,DPut.k (k:=.inl aI) (A.o.at (i:=7) U) (yD (by show (dbL D.db).length<1000000;unfold dbL;rw[bh];lia)),_,U,r,_,1,_,U,U,aX.of (G.ts _ _ e1),U,z,U,{_,aM.of u},zdT u (q _ m G g6 O J)}
def lcI(t:aU)(H:Hp)(d:B)(a:Au)(lb:At)(n f:Int)(D:DkV)(l:B)(k:yz)(i:Nat)(q:St)(H':Hp):Prop:=(∃z u,q=[Y (.ref a.jb),Y (.ref l),z,u])/\H' l=Y (.lst (k.map V.int))/\Fr M1 H H' lb lb/\∃m,DkO t H' d a lb n f { D with db:=m }/\∀r,r∈k.drop i↔r∈m
theorem zlw{x:Int}{H0:Hp}(F:DkF K t)(nd:srt.Nodup)(hx:srt[i]?=Y x)(hp:∃v e,yu D.la (.inl x)=Y v/\PpA H0 lb v e)(z:lcI t H0 d a lb n f D l srt i [Y (.ref a.jb),Y (.ref l),Y (.int x),o3] H) :
  kH K t { nx:=λσ H'=>lcI t H0 d a lb n f D l srt (i+1) σ H',rt:=Q } [Y (.ref a.jb),Y (.ref l),Y (.int x),o3] H:=by
 have #[_,m,A,db',I,O]:=z;have li:=(bp.mp hx).1;have ex:srt[i]=x:=(bp.mp hx).2;have J:srt.drop i=x::srt.drop (i+1):=by rw[i8 li,ex]
 have xd:x∈db':=(O x).mp (by rw[J];exact bu);have #[v,e,hv,nl,gl,Z,l1,l2]:=hp;have E:=Z.to A.ts (λo e=>A.kp _ _ (by rw[l1];exact .inr ()) e) (λo e=>A.kp _ _ (by rw[l2];exact .inr ()) e);refine xK I.jb U U {_,U,d,nl,gl,v,e,a,lb,n,f,x,{ D with db:=db' },rfl,I,hv,E,λH3 u=>?_};have q:=I.same u;have #[g4,F4]:=q.set (i:=7) (D':={ D with db:=db'.filter λy=>decide (y≠x) }) rfl () () (.dK (yB (dbL db') (.inl x))) (by rw[zf4];rfl) U rfl;refine{_,U,U,_,U,zV U (zX q.jb F.cJ F.j4 U U {a.db,U,.inl {_,.inl (q.o.at (i:=7) U)},_,U,_,.inl x,_,q.o.at (i:=7) U,U,zjH xd,{_,_,U},by rw[zk (zJ (u _ _ m) (q.o.at (i:=7) U) ())];exact u _ _ m,A.trans ((Fr.same u).trans F4),_,g4,λr=>?_})};have k:=nd.sublist (tU i srt);rw[J,cx] at k;have T:=O r;rw[J,bn] at T;rw[da,decide_eq_true_eq,<-T];exact{λz=>{.inr z,λy=>k.1 (by rw[<-y];exact z)},λz=>z.1.resolve_left z.2}
end
section
variable {r:Int}{k m:Nat}
theorem rks_mem:r∈V9 k m↔∃j:Nat,r=j/\k<=j/\j<m:=by
 unfold V9;rw[List.mem_map];constructor
 .rintro⟨i,c,rfl⟩;rw[gZ] at c;exact{k+i,U,(),()}
 .rintro⟨j,rfl,q,o⟩;exact{j-k,by rw[gZ];lia,by rw[show k+(j-k)=j by lia]}
theorem znn:(V9 k m).Nodup:=by unfold V9;refine List.Pairwise.map _ (λa b (h:a≠b)=>?_) pO;lia
theorem zdU(h:k<m):V9 k m=(k:Int)::V9 (k+1) m:=by unfold V9;rw[show m-k=(m-(k+1))+1 by lia,List.range_succ_eq_map,bC,fm];refine congr (congrArg _ ()) (dR λi _=>?_);show ((k+(i+1):Nat):Int)=((k+1+i:Nat):Int);lia
theorem aY.rk(h:aY n CC S)(m:r∈S.ws++(S.hl.map (·.2.1)++S.ld.map (·.1))):∃j:Nat,r=j/\S.en<=j/\j<CC.length:=rks_mem.mp (h.pm.mem_iff.mp m)
theorem aY.rw_(h:aY n CC S)(m:r∈S.ws):∃j:Nat,r=j/\S.en<=j/\j<CC.length:=h.rk (eX _ m)
theorem aY.rh(h:aY n CC S){e:Int×Int×Nat}(m:e∈S.hl):∃j:Nat,e.2.1=j/\S.en<=j/\j<CC.length:=h.rk (cw _ (eX _ (bL (f:=λe:Int×Int×Nat=>e.2.1) m)))
theorem aY.rl(h:aY n CC S)(m:r∈S.ld.map (·.1)):∃j:Nat,r=j/\S.en<=j/\j<CC.length:=h.rk (cw _ (cw _ m))
theorem aY.nd(h:aY n CC S):S.ws.Nodup/\((S.hl.map (·.2.1)).Nodup/\(S.ld.map (·.1)).Nodup/\∀x∈S.hl.map (·.2.1),∀y∈S.ld.map (·.1),x≠y)/\∀x∈S.ws,∀y∈S.hl.map (·.2.1)++S.ld.map (·.1),x≠y:=by have z:=h.pm.nodup_iff.mpr znn;rw[fS,fS] at z;exact z
theorem aY.len(h:aY n CC S):S.ws.length+(S.hl.length+S.ld.length)+S.en=CC.length:=by have z:=h.pm.length_eq;have:=h.el;unfold V9 at z;simp only[bx,bh,mz] at z;lia
theorem aY.nl(h:aY n CC S){e:Int×Int×Nat}(m:e∈S.hl):e.2.1 ∉ S.ls.map (·.1):=λz=>by
 have #[y,o,c]:=bH.mp z;have #[j,d,rfl,_,h2]:=(h.ly y).mp o;have #[i,u,q,_]:=h.rh m;have c:((j:Nat):Int)=e.2.1:=c;obtain h2|h2:=h2
 .lia
 .exact h.nd.2.1.2.2 _ (bL (f:=λe:Int×Int×Nat=>e.2.1) m) _ h2 c.symm
end
section
variable {k m:Nat}{ld:List (Int×Unit)}{w:Int}{ws:yz}
theorem Al.has(R:Al t H x ra e k m)(z:OwA x ra b):∃o,H b=Y o:=by
 obtain z|z|z|z|z|z:=z
 .rw[z];exact{_,R.ix}
 .rw[z];have #[v,h,_]:=R.hc;exact{_,h}
 .rw[z];exact{_,R.hs}
 .rw[z];exact{_,R.hg}
 .rw[z];exact{_,R.hn}
 .rw[z];exact{_,R.ha}
theorem Al.fr{N:Nat}(R:Al t H x ra e k m)(l:∀b,OwA x ra b->lb b=N)(F:Fr M H H' lb lb')(i:M N):Al t H' x ra e k m/\∀b,OwA x ra b->lb' b=N:=by have c:∀ {b o},OwA x ra b->H b=Y o->H' b=Y o:=λ{b o} z e=>F.kp b o (by rw[l b z];exact i) e;refine{{c (.inl U) R.ix,let ⟨v,hx,px⟩:=R.hc;{v,c (.inr (.inl U)) hx,px.up F.ts},c (.inr (.inr (.inl U))) R.hs,c (.inr (.inr (.inr (.inl U)))) R.hg,c (.inr (.inr (.inr (.inr (.inl U))))) R.hn,c (.inr (.inr (.inr (.inr (.inr U))))) R.ha,R.nc,R.ng},λb z=>?_};have #[o,e]:=R.has z;exact(F.ex b o e).trans (l b z)
theorem HhA.fr{y:Int×Nat}(h:HhA t H lb CC h0 v y)(F:Fr M H H' lb lb')(q:M (20+h0.toNat)):HhA t H' lb' CC h0 v y:=by have #[c,x,ra,e,u,z,A,R,i,l]:=h;have #[E,o]:=R.fr l F q;exact{c,x,ra,e,u,F.ts _ _ z,A,E,i,o}
theorem Y5(h:Pk (HhA t H lb CC) kv hl)(F:Fr M H H' lb lb')(c:∀k:Nat,M (20+k)):Pk (HhA t H' lb' CC) kv hl:=Paired.mapP h λ_ _ ⟨e,z⟩=>{e,z.fr F (c _)}
theorem qP(h:Pk (LaA H lb CC) la ld)(F:Fr M H H' lb lb')(c:M 14):Pk (LaA H' lb' CC) la ld:=Paired.mapP h λ_ _ ⟨e,d,i,z⟩=>{e,d,i,z.fr F c}
theorem CoA.fr(h:CoA H lb v e)(F:Fr M H H' lb lb')(q:M 14):CoA H' lb' v e:=by have #[c,x,u,i,o,l]:=h;exact{c,x,u,F.kp _ _ (by rw[l];exact q) i,o.up F.ts,(F.ex _ _ i).trans l}
theorem qQ(h:Bl (CoA H lb) cs CC)(F:Fr M H H' lb lb')(c:M 14):Bl (CoA H' lb') cs CC:=Paired.mapP h λ_ _ z=>z.fr F c
theorem Z2(h:Bl (PpA H lb) en CC)(F:Fr M H H' lb lb')(c:M 14):Bl (PpA H' lb') en CC:=Paired.mapP h λ_ _ z=>z.fr F c
theorem VN(k:Nat):M1 (20+k):=.inr ()
theorem xB:M1 14:=.inr ()
structure DkJ(t:aU)(H:Hp)(d:B)(a:Au)(lb:At)(n f:Int)(g:zF)(CC:List Dl)(S:DS)(D:DkV):Prop where
 dk:DkO t H d a lb n f D
 wy:zjw t a D.wo
 eg:D.g=g
 el:D.ls=S.ls
 e1:D.ws=S.ws
 e2:D.db=S.db
 c:Bl (CoA H lb) D.cs CC
 h:Pk (HhA t H lb CC) D.kv S.hl
 l:Pk (LaA H lb CC) D.la S.ld
 e:Bl (PpA H lb) D.en (CC.take S.en)
theorem u8.ex(h:u8 t H d a lb n f g CC S):∃D,DkJ t H d a lb n f g CC S D:=let ⟨D,a1,a2,a3,a4,a5,a6,a7,a8,a9,b1,b2,b3⟩:=h;{D,{a1,a2,a3},a4,a5,a6,a7,a8,a9,b1,b2,b3}
theorem DkJ.g_(J:DkJ t H d a lb n f g CC S D):u8 t H d a lb n f g CC S:={D,J.dk.o,J.dk.m,J.dk.r,J.wy,J.eg,J.el,J.e1,J.e2,J.c,J.h,J.l,J.e}
theorem DkJ.o(J:DkJ t H d a lb n f g CC S D):OwL H lb (dkL t d a n f D):=J.dk.o
theorem DkJ.d0(J:DkJ t H d a lb n f g CC S D):H d=Y (.ins t.q02 a.dx (zjv a n f)):=J.dk.o.at (i:=0) rfl
theorem u8.of(h:u8 t H d a lb n f g CC S)(k:∀b o,lb b≠0->H b=Y o->H' b=Y o)(c:TSm H H')(q:∀b o,H b=Y o->∃o',H' b=Y o'):u8 t H' d a lb n f g CC S:=by have #[D,J]:=h.ex;have F:Fr (λl=>l≠0) H H' lb lb:={λ_ _ _=>rfl,k,c,q};refine DkJ.g_ (D:=D) {{{λi b o e=>by have #[A,u]:=J.o.ob i b o e;exact{k b o () A,u},λb z=>let ⟨o,e⟩:=J.o.ow b z;q b o e},J.dk.m.keep (λb o z e=>k b o () e) c,k _ _ (by rw[J.dk.r.2];decide) J.dk.r.1,J.dk.r.2},J.wy,J.eg,J.el,J.e1,J.e2,qQ J.c F (),Y5 J.h F (λk=>by lia),qP J.l F (),Z2 J.e F ()}
theorem u8.same(h:u8 t H d a lb n f g CC S)(s:aJ H H'):u8 t H' d a lb n f g CC S:=h.of (λb o _ e=>s _ _ e) (TSm.of s) λb o e=>{o,s _ _ e}
theorem u8.put(h:u8 t H d a lb n f g CC S)(hl:H b=Y o)(q:∀i,o≠.tup i)(z:lb b=0):u8 t (upd H b o') d a lb n f g CC S:=h.of (λc u y e=>by rw[zk (λw=>y (by rw[w];exact z))];exact e) (Z0 hl q) qN
theorem u8.l0(h:u8 t H d a lb n f g CC S)(e:H b=af):lb b=0:=let ⟨_,J⟩:=h.ex;J.o.out e
theorem u8.ow(h:u8 t H d a lb n f g CC S)(z:lb b≠0):∃o,H b=Y o:=let ⟨_,J⟩:=h.ex;J.o.ow b z
theorem u8.cmp(h:u8 t H d a lb n f g CC S)(c:S.en<=CC.length):H d=Y (.ins t.q02 a.dx (zjv a n f))/\∃cs en,H a.cl=Y (.lst cs)/\H a.en=Y (.lst en)/\cs.length=CC.length/\en.length=S.en:=by have #[D,J]:=h.ex;exact{J.d0,D.cs,D.en,J.o.at (i:=3) U,J.o.at (i:=8) U,bO J.c,by rw[bO J.e,cf];lia}
theorem zb0{c:Type}{l r:List c}{i:Nat}{x:c}(h:l[i]?=Y x):(l++r)[i]?=Y x:=by rw[cR (bp.mp h).1];exact h
theorem aY.val(ok:aY n CC S)(J:DkJ t H d a lb n f g CC S D):∀r∈D.db,∃v e,yu D.la (.inl r)=Y v/\PpA H lb v e:=λr hr=>by
 obtain ⟨_,z⟩|⟨v,_,hv,_,e,_,p⟩:=J.l.get (h:=r)
 .exact absurd (ok.ds r (by rw[<-J.e2];exact hr)) z
 .exact{v,e,hv,p}
theorem aY.dbl(ok:aY n CC S):S.db.length<=S.ld.length:=by
 have z:=vG ok.dn (b:=S.ld.map (·.1)) ok.ds
 rwa [bh] at z
theorem EvV.ts(h:EvV H v)(s:TSm H H'):EvV H' v:=let ⟨r,s1,is,e,h1,h2⟩:=h;{r,s1,is,e,s _ _ h1,h2}
theorem ev3{p:B}{s:Str}{i j:Int}(h:H p=Y (.tup [V.str s,V.int i,V.int j]))(l:s.length<=10):EvV H (.ref p):={p,s,[i,j],U,h,bo _,l}
theorem KY(F:DkF K t)(J:DkJ t H d a lb n 0 g CC S D)(O:aY n CC S)(fr:h0 ∉ S.hl.map (·.1))(hw:w∈S.ws)(q:∀v H' lb',Fr M0 H H' lb lb'->EvV H' v->u8 t H' d a lb' n 0 g CC { S with ws:=S.ws.erase w,hl:=S.hl++[(h0,w,0)] }->Q v H') :
  jQ K t (mt Q) [Y (.ref d),Y (.int h0),Y (.int w)] H:=by
 have lc:=bO J.c;have an:=O.cc;have ln:=O.len;have ab:w∈D.ws:=by rw[J.e1];exact hw
 refine zX J.d0 F.cD F.d5 U U {.inl {U,_,aM.of (J.o.at (i:=4) U)},_,U,a.wl,D.ws,w,U,U,J.o.at (i:=4) U,ab,?_};have #[E,G2]:=J.dk.set (i:=4) (D':={ D with ws:=D.ws.erase w }) rfl () () (.lst ((D.ws.erase w).map V.int)) rfl rfl rfl;generalize upd H a.wl (.lst ((D.ws.erase w).map V.int))=H2 at *
 have #[k,rfl,_,hk]:=O.rw_ hw;obtain⟨v,hv⟩:∃v,D.cs[k]?=Y v:={_,bd ()};have #[e,hC,c,y,rfl,hc,px,al]:=Paired.getP (qQ J.c G2 xB) hv;refine{_,U,zX (E.o.at (i:=0) U) F.cD F.d4 U U {_,U,zX (E.o.at (i:=0) U) F.cD F.d3 U U {_,_,U,U,a.cl,_,_,_,U,U,aM.of (E.o.at (i:=3) U),(by rw[Int.sub_zero];exact yy hv),λx dx hx aj nx=>?_}}};have u:=vV (C:=t.q01) hx aj;refine{x,c,dx,y,e,U,zh,u _ _ hc,px.same u,λH5 ra k5 R5 A=>{U,sz2,λp hp=>?_}};have s5:aJ H2 H5:=λb o e=>k5 b o (zq e hx) (u _ _ e);have ow:∀b,OwA x ra b->H2 b=af:=λb z=>by
  obtain y|y:=A b z
  .rw[y];exact hx
  .exact yi u y
 generalize c_:upd H5 p _=H6;have #[s6,e6]:=uV c_ hp;have I:=s5.trans s6;have R6:=R5.same s6;clear R5 u k5 A c_;have #[T,G6,D6,aa]:=E.relab (M:=M1) (N:=OwA x ra) (20+h0.toNat) () I λb z=>{ow b z,R6.has z};have #[D7,G7]:=D6.set (i:=5) (D':={ D with ws:=D.ws.erase k,kv:=xu D.kv (.inl h0) (.ref p) }) rfl () () (.dK (xu D.kv (.inl h0) (.ref p))) rfl rfl rfl;have lk:=bO J.h;refine zX (D6.o.at (i:=0) U) F.cD F.d6 U U {_,U,a.hd,_,U,DPut.k (k:=.inl h0) (D6.o.at (i:=5) U) (yD (by show D.kv.length<1000000;lia)),_,U,_,U,sz3,λp2 ai=>?_};have G:=G2.trans (G6.trans G7);have s8:=hX (o:=HO.tup [V.str (bb "take"),V.int h0,V.int k]) p2 ai;have R7:=R6.fr aa G7 (VN _);exact q _ _ T (G.trans (Fr.same s8)).m0 (ev3 zh ()) (u8.same (DkJ.g_ {D7,J.wy,J.eg,J.el,by show D.ws.erase _=_;rw[J.e1],J.e2,qQ J.c G xB,(Y5 J.h G VN).put fr {p,x,ra,e,U,G7.ts _ _ e6,hC,R7.1,bQ _,R7.2},qP J.l G xB,Z2 J.e G xB}) s8)
end
section
variable {k m:Nat}{w:Int}
theorem zlx{o2 o3:Option V}(F:DkF K t)(h:u8 t H d a lb n 0 g CC S)(ok:aY n CC S)(A:h0 ∉ S.hl.map (·.1))(I:(S.en:Int) ∉ S.ld.map (·.1))(O:S.db=[])(q:mvP t H d a lb n h0 g CC S Q) :
  jd K t (mt Q) [Y (.ref d),Y (.int h0),o2,o3] H:=by
 have #[D,J]:=h.ex;have eS:({ S with db:=[] }:DS)=S:=by rw[<-O]
 refine zX J.d0 F.cD F.d5 U U {bQ _,λz hz=>?_};generalize c_:upd H z _=H2;have #[c,e2]:=uV c_ hz;have T:=J.dk.same c;refine{a.wl,z,_,U,U,aM.of (T.o.at (i:=4) U),aM.of e2,_,U,?_};rw[J.e1];cases ew:S.ws with
 |nil=>
  refine zV U {_,U,sz2,λp hp=>?_};have E:=c.trans (hX (o:=HO.tup [V.str "rest",V.int h0]) p hp);exact q _ _ lb _ (Fr.same E) {p,_,[h0],U,zh,by show 1<=2;decide,()} (eS ▸ .rest I A ew) (h.same E)
 |cons x xs=>
  refine yC U (xK (T.o.at (i:=0) U) U U {_,U,d,a,lb,n,h0,g,CC,S,U,h.same c,ok,A,(by rw[ew];exact nofun),λv H3 u w G3 hw ev g3=>q v H3 u _ ((Fr.same c).trans G3) ev (.take I A hw) ?_});rw[<-O];exact g3
theorem zly{o3:Option V}{u:Unit}{R:uU}(F:DkF K t)(h:u8 t H d a lb n 0 g CC S)(c:aY n CC S)(fr:h0 ∉ S.hl.map (·.1))(hm:((S.en:Int),u)∈S.ld)(e0:S.db=[])(q:mvP t H d a lb n h0 g CC S Q) :
  ZO K t { nx:=R,rt:=Q } [Y (.ref d),Y (.int h0),Y (.int S.en),o3] H:=by
 have #[D,J]:=h.ex;have le:=bO J.e;rw[cf,eC c.el] at le;have aa:=c.cc;have ln:=c.len;have E:=bL (f:=λe:Int×Unit=>e.1) hm;obtain ⟨_,hn⟩|⟨v,_,hv,_,e,hC,pp⟩:=J.l.get (h:=(S.en:Int))
 .exact absurd E hn
 refine zX J.d0 F.cD F.d9 U U {.inl {U,_,aM.of (J.o.at (i:=8) U)},zX J.d0 F.cD F.d8 U U {a.jb,_,_,U,J.dk.jb,U,_,U,d,v,e,a,lb,n,0,S.en,D,U,J.dk,hv,pp,λH2 O T=>{a.en,_,_,U,U,T.o.at (i:=8) U,yD (by show D.en.length<1000000;lia),_,U,_,U,sz3,λp hp=>?_}}};have #[D3,I]:=T.set (i:=8) (D':={ D with db:=D.db.filter λy=>decide (y≠(S.en:Int)),la:=yB D.la (.inl (S.en:Int)),en:=D.en++[v] }) rfl () () (.lst (D.en++[v])) rfl rfl rfl;have G:=O.trans I;have A:=hX (o:=HO.tup [V.str (bb "settle"),V.int h0,V.int S.en]) p hp;have z:CC.take (S.en+1)=CC.take S.en++[e]:=by rw[dY,show CC[S.en]?=Y e from hC];rfl
 refine q _ _ lb _ (G.trans (Fr.same A)).m0 (ev3 zh ()) (.settle E fr) (u8.same (DkJ.g_ {D3,J.wy,J.eg,J.el,J.e1,by show D.db.filter _=[];rw[J.e2,e0];rfl,qQ J.c G xB,Y5 J.h G VN,(qP J.l G xB).drop,?_}) A);show Bl _ (D.en++[v]) (CC.take (S.en+1));rw[z];exact Paired.snocP (Z2 J.e G xB) ((pp.fr O xB).fr I xB)
structure MvI(t:aU)(H:Hp)(d:B)(a:Au)(lb:At)(n h0:Int)(g:zF)(CC:List Dl)(S:DS)(D:DkV)(tp x:B)(ra:RAd)(r:Int)(k:Nat)(e:Dl):Prop where
 j:DkJ t H d a lb n 0 g CC S D
 hm:(h0,r,k)∈S.hl
 hv:yu D.kv (.inl h0)=Y (.ref tp)
 ht:H tp=Y (.tup [.int r,.ref x])
 ec:CC[r.toNat]?=Y e
 rn:Al t H x ra e k k
 le:k<=1
 l20:∀b,OwA x ra b->lb b=20+h0.toNat
theorem zho{r:Int}(F:DkF K t)(I:MvI t H d a lb n h0 g CC S D tp x ra r 1 e)(c:aY n CC S)(q:mvP t H d a lb n h0 g CC S Q) :
  ZU K t { nx:=R,rt:=Q } [Y (.ref d),Y (.int h0),Y (.int r),Y (.ref x),o4,o5] H:=by
 have J:=I.j;have ar:=c.cc;have ln:=c.len;have #[D1,G1]:=J.dk.set (i:=5) (D':={ D with kv:=yB D.kv (.inl h0) }) rfl () () (.dK (yB D.kv (.inl h0))) rfl rfl rfl;refine zX J.d0 F.cD F.d6 U U {a.hd,U,.inl {_,.inl (J.o.at (i:=5) U)},_,U,_,.inl h0,_,J.o.at (i:=5) U,U,I.hv,?_};have R1:=(I.rn.fr I.l20 G1 (VN _)).1;generalize upd H a.hd (.dK (yB D.kv (.inl h0)))=H1 at *
 refine zX (D1.o.at (i:=0) U) F.cD F.d8 U U {a.jb,_,_,U,D1.jb,U,_,U,xK R1.ix U U {x,ra,e,U,R1,λv O T H2 s2 Z n1 n2=>?_}};have #[A,G2,D2,z2]:=D1.relab (M:=M1) (N:=λb=>b=O\/b=T) 14 () s2 λb z=>by
  have #[r,o,_,_,_,e3,E]:=id Z;have #[u,E]:=E.has;obtain z|z:=z
  .rw[z];exact{n1,_,e3}
  .rw[z];exact{n2,_,E}
 have ll:=bO J.l;have dl:=c.dbl;have #[j,ej,_,hj]:=c.rh I.hm;have ej:r=(j:Int):=ej;have m1:M1 (A O):=by rw[z2 O (.inl U)];exact xB
 have m2:M1 (A T):=by rw[z2 T (.inr U)];exact xB
 have ai:=c.nl I.hm;have an:=c.ll;refine{d,O,T,v,e,a,A,n,0,r,_,U,D2,(),Z,m1,m2,by show r ∉ D.ls.map (·.1);rw[J.el];exact ai,by show D.ls.length<=20;rw[J.el];lia,by show D.la.length<=20;lia,by show D.db.length<=20;rw[J.e2];lia,λH3 al as G3 D3 aj aa=>{_,U,_,U,sz3,λp hp=>?_}};have G:=G1.trans (G2.trans G3);have s4:=hX (o:=HO.tup [V.str (bb "lay"),V.int h0,V.int r]) p hp;have nr:r ∉ S.ld.map (·.1):=λz=>c.nd.2.1.2.2 r (bL (f:=λe:Int×Int×Nat=>e.2.1) I.hm) _ z rfl;have ab:=Z.to G3.ts (λo y=>G3.kp _ _ m1 y) (λo y=>G3.kp _ _ m2 y);have #[_,_,_,_,_,e3,E]:=Z;have #[u,E]:=E.has;exact q _ _ al _ (G.trans (Fr.same s4)).m0 (ev3 zh ()) (.lay I.hm I.ec (aj (by show D.db.Nodup;rw[J.e2];exact c.dn)) λy hy=>by rw[<-J.e2];exact(aa y).mp hy) (u8.same (DkJ.g_ {D3,J.wy,J.eg,by show D.ls++_=S.ls++_;rw[J.el],J.e1,U,qQ J.c G xB,(Y5 J.h G VN).drop,(qP J.l G xB).put nr {e,I.ec,O,T,ab,(G3.ex _ _ e3).trans (z2 O (.inl U)),(G3.ex _ _ E).trans (z2 T (.inr U))},Z2 J.e G xB}) s4)
theorem MvI.step{r:Int}(I:MvI t H d a lb n h0 g CC S D tp x ra r 0 e)(u:aY n CC S)(O:KpR x ra H H')(T:Al t H' x ra e 1 1):Fr M0 H H' lb lb/\u8 t H' d a lb n 0 g CC { S with hl:=zbB S.hl h0 (r,1) }:=by
 have J:=I.j;have R:=I.rn;have E:∀b o,¬ OwA x ra b->H b=Y o->H' b=Y o:=λb o z y=>O b o (λw=>z (.inl w)) (λw=>z (.inr (.inr (.inr (.inr (.inr w)))))) (λw=>z (.inr (.inr (.inr (.inl w))))) y;have q:TSm H H':=R.kp O;have A:∀b o,H b=Y o->∃o',H' b=Y o':=λb o y=>by
  by_cases z:OwA x ra b
  .exact T.has z
  .exact{o,E b o z y}
 have G:Fr (λl=>l≠20+h0.toNat) H H' lb lb:={λ_ _ _=>rfl,λb o z y=>E b o (λw=>z (I.l20 b w)) y,q,A};have o1:DkO t H' d a lb n 0 D:={{λi b o y=>by have #[h1,h2]:=J.o.ob i b o y;have:i<9:=(bp.mp y).1;exact{G.kp b o (by show lb b≠20+h0.toNat;lia) h1,h2},λb z=>let ⟨o,y⟩:=J.o.ow b z;A b o y},J.dk.m.keep (λb o z y=>G.kp b o (by show lb b≠20+h0.toNat;lia) y) q,G.kp _ _ (by show lb a.re≠_;rw[J.dk.r.2];lia) J.dk.r.1,J.dk.r.2}
 have c:(14:Nat)≠20+h0.toNat:=by lia
 refine{{λ_ _ _=>rfl,λb o z y=>G.kp b o (by have z:lb b=0\/lb b=14:=z;show lb b≠20+h0.toNat;lia) y,q,A},DkJ.g_ {o1,J.wy,J.eg,J.el,J.e1,J.e2,qQ J.c G c,J.h.set u.hn (λk v b' m ne z=>z.fr G ?_) λv z=>{tp,x,ra,e,(bX (I.hv.symm.trans z)).symm,q _ _ I.ht,I.ec,T,bo _,I.l20},qP J.l G c,Z2 J.e G c}};have:=u.hr _ m;have this:0<=k/\k<n:=this;show 20+k.toNat≠20+h0.toNat;have:=u.hr _ I.hm;have this:0<=h0/\h0<n:=this;lia
theorem zhp{i x:B}{ra:RAd}{r:Int}{A z:Option V}(F:DkF K t)(I:MvI t H d a lb n h0 g CC S D i x ra r 0 e)(u:aY n CC S)(q:mvP t H d a lb n h0 g CC S Q) :
  ZV K t (mt Q) [Y (.ref d),Y (.int h0),Y (.int r),Y (.ref x),A,z] H:=by refine xK I.rn.ix U U {x,ra,e,U,I.rn,_,U,U,_,U,yC U (xK I.rn.ix U U {x,ra,e,U,I.rn,λH1 E T=>{_,U,_,U,sz3,λp J=>?_}})};have #[G0,O]:=I.step u E T;have c:=hX (o:=HO.tup [V.str (bb "step"),V.int h0,V.int r]) p J;exact q _ _ lb _ (G0.trans (Fr.same c)) (ev3 zh ()) (.step I.hm) (O.same c)
theorem zhq{o2 T O E:Option V}(F:DkF K t)(J:DkJ t H d a lb n 0 g CC S D)(o:aY n CC S)(A:yu D.kv (.inl h0)=Y v)(q:mvP t H d a lb n h0 g CC S Q) :
  Ks K t (mt Q) [Y (.ref d),Y (.int h0),o2,T,O,E] H:=by
 obtain ⟨z,_⟩|⟨u,⟨r,k⟩,z,hm,tp,x,ra,e,rfl,et,ec,R,c,l20⟩:=J.h.get (h:=h0)
 .rw[z] at A;cases A
 have I:MvI t H d a lb n h0 g CC S D tp x ra r k e:={J,hm,z,et,ec,R,c,l20};have dg:Am H a.hd (.int h0) (Y (.ref tp)):=z ▸ .k (k:=.inl h0) (J.o.at (i:=5) U);refine zX J.d0 F.cD F.d6 U U {_,U,a.hd,_,U,dg,tp,_,0,_,U,U,aX.of et,U,zX J.d0 F.cD F.d6 U U {_,U,a.hd,_,U,dg,tp,_,1,_,U,U,aX.of et,U,xK R.ix U U {x,ra,e,k,k,U,R,_,U,?_}}};have c:k<=1:=c;obtain rfl|rfl:k=0\/k=1:=by lia
 .exact zV U (zhp F I o q)
 .exact yC U (zho F I o q)
end
theorem Mv.ok_(o:aY n CC S)(mv:Mv CC S h S')(p0:0<=h)(pn:h<n):aY n CC S':=by
 cases mv with
 |@step r m=>
  have #[T,I]:=Yf (b:=(r,1)) o.hn m;have mm:∀e∈zbB S.hl h (r,1),e=(h,r,1)\/e∈S.hl:=λe q=>(bn.mp (T.mem_iff.mp q)).imp id λz=>(Aa.mp z).1;refine { o with pm:=?_,hn:=?_,hr:=λe q=>?_,rn:=λe q=>?_ }
  .exact iI (.append_left _ (.append_right _ ((T.map (·.2.1)).trans (I.map (·.2.1)).symm))) o.pm
  .exact((T.map (·.1)).trans (I.map (·.1)).symm).nodup_iff.mpr o.hn
  .obtain z|z:=mm e q
   .rw[z];exact o.hr (h,r,0) m
   .exact o.hr e z
  .obtain z|z:=mm e q
   .rw[z];exact bo 1
   .exact o.rn e z
 |@lay r e db m ec nd sub=>
  have #[_,I]:=Yf (b:=(r,0)) o.hn m;have #[i,J,_,hi]:=o.rh m;have J:r=(i:Int):=J;refine { o with pm:=?_,hn:=o.hn.sublist (gY _ fX),hr:=λe q=>o.hr e (Aa.mp q).1,rn:=λe q=>o.rn e (Aa.mp q).1,dn:=nd,ds:=λy hy=>?_,ly:=λy=>?_,ll:=?_ }
  .refine iI (.append_left _ ?_) o.pm;show ((yY S.hl h).map (·.2.1)++(S.ld++[(r,PUnit.unit)]).map (·.1)).Perm _;rw[b7,<-cF];exact(rW (l₁:=(yY S.hl h).map (·.2.1)++S.ld.map (·.1)) (l₂:=[r])).trans (.append_right _ (I.map (·.2.1)).symm)
  .show y∈(S.ld++[(r,PUnit.unit)]).map (·.1);rw[b7,bP];exact(sub y hy).imp (o.ds y) λz=>by rw[z];exact bB.mpr rfl
  .show y∈S.ls++[(r,e.gi)]↔∃(j:Nat)(d:Dl),y=((j:Int),d.gi)/\CC[j]?=Y d/\(j<S.en\/(j:Int)∈(S.ld++[(r,PUnit.unit)]).map (·.1));rw[bP,o.ly];constructor
   .rintro(⟨j,d,E,A,e3⟩|z)
    .exact{j,d,E,A,e3.imp id λz=>by rw[b7];exact eX _ z}
    .refine{i,e,by rw[bB.mp z,J],by rw[J] at ec;exact ec,.inr ?_};rw[b7];exact cw _ (bB.mpr J.symm)
   .rintro⟨j,d,E,A,e3|e3⟩
    .exact .inl {j,d,E,A,.inl e3}
    .rw[b7] at e3;obtain z|z:=bP.mp e3
     .exact .inl {j,d,E,A,.inr z}
     .have z:(j:Int)=r:=bB.mp z;obtain rfl:j=i:=by lia
      rw[J] at ec;have:Y d=Y e:=A.symm.trans ec;exact .inr (bB.mpr (by rw[E,J,bX this]))
  .show (S.ls++[(r,e.gi)]).length=S.en+(S.ld++[(r,PUnit.unit)]).length;have:=o.ll;rw[bx,bx,dz,dz];lia
 |settle m fr=>
  have #[e,q,ee]:=bH.mp m;have #[_,I]:=Yf (h:=(S.en:Int)) (b0:=PUnit.unit) (b:=PUnit.unit) o.nd.2.1.2.1 (by rw[<-ee];exact q);have #[j,ej,_,hj]:=o.rl m;refine { o with el:=(by show S.en+1<=CC.length;lia),pm:=?_,dn:=dU,ds:=(),ly:=λy=>?_,ll:=?_ }
  .have z:=o.pm;rw[zdU (show S.en<CC.length by lia)] at z;refine List.Perm.cons_inv (a:=(S.en:Int)) (iI ?_ z);have y:=I.map (·.1);refine iI ?_ (.append_left _ (.append_left _ y.symm));show ((S.en:Int)::(S.ws++(S.hl.map (·.2.1)++(yY S.ld S.en).map (·.1)))).Perm (S.ws++(S.hl.map (·.2.1)++((S.en:Int)::(yY S.ld S.en).map (·.1))));rw[<-cF,<-cF];exact(um).symm
  .show y∈S.ls↔∃(j:Nat)(d:Dl),y=((j:Int),d.gi)/\CC[j]?=Y d/\(j<S.en+1\/(j:Int)∈(yY S.ld S.en).map (·.1));rw[o.ly];have k:∀j:Nat,(j<S.en\/(j:Int)∈S.ld.map (·.1))↔(j<S.en+1\/(j:Int)∈(yY S.ld S.en).map (·.1)):=λj=>by
    constructor
    .rintro(z|z)
     .exact .inl (fR z)
     .by_cases c:j=S.en
      .exact .inl ()
      .have #[u,hu,O]:=bH.mp z;exact .inr (bH.mpr {u,Aa.mpr {hu,λz=>c (by have O:u.1=(j:Int):=O;lia)},O})
    .rintro(z|z)
     .by_cases c:j=S.en
      .exact .inr (by rw[c];exact m)
      .exact .inl ()
     .have #[u,hu,O]:=bH.mp z;exact .inr (bH.mpr {u,(Aa.mp hu).1,O})
   exact{λ⟨j,d,E,A,e3⟩=>{j,d,E,A,(k j).mp e3},λ⟨j,d,E,A,e3⟩=>{j,d,E,A,(k j).mpr e3}}
  .have:=o.ll;have l:=(I.map (·.1)).length_eq;rw[bh,bh,bG] at l;show S.ls.length=S.en+1+(yY S.ld S.en).length;lia
 |@take w nl fr hw=>
  have pw:=List.perm_cons_erase hw;refine { o with pm:=?_,hn:=?_,hr:=λe q=>?_,rn:=λe q=>?_,dn:=dU,ds:=nofun }
  .refine iI ?_ o.pm;refine iI ?_ (.append_right _ pw.symm);show (S.ws.erase w++((S.hl++[(h,w,0)]).map (λe:Int×Int×Nat=>e.2.1)++S.ld.map (λe=>e.1))).Perm (w::(S.ws.erase w++(S.hl.map (λe=>e.2.1)++S.ld.map (λe=>e.1))));rw[b7,cF,<-cF,<-cF (S.ws.erase w)];exact um
  .show ((S.hl++[(h,w,0)]).map (λe:Int×Int×Nat=>e.1)).Nodup;rw[b7,fS];exact{o.hn,cx.mpr {bZ,dU},λa ha b hb e=>fr (by rw[show b=h from bB.mp hb] at e;rw[<-e];exact ha)}
  .obtain z|z:=bP.mp q
   .exact o.hr e z
   .rw[bB.mp z];exact{p0,pn}
  .obtain z|z:=bP.mp q
   .exact o.rn e z
   .rw[bB.mp z];exact bQ _
 |rest=>exact { o with dn:=dU,ds:=nofun }
theorem zhr{c:Type}{l:List (Int×c)}{h:Int}{b:c}(i:(l.map (·.1)).Nodup)(m:(h,b)∈l):(yY l h).length+1=l.length:=by have #[_,p]:=Yf (b:=b) i m;have:=p.length_eq;rw[bG] at this;exact this.symm
def Phi(S:DS):Nat:=4*S.ws.length+((S.hl.map λe=>3-e.2.2).sum+S.ld.length)
theorem Mv.dec(c:aY n CC S)(i:Mv CC S h S'):(S'={ S with db:=[] }/\(S.en:Int) ∉ S.ld.map (·.1)/\h ∉ S.hl.map (·.1)/\S.ws=[])\/Phi S'<Phi S:=by
 cases i with
 |@step r m=>
  have #[z,u]:=zdF (b:=(r,1)) (q:=λe=>3-e.2.2) c.hn m;refine .inr ?_;unfold Phi;dsimp only at *
  lia
 |@lay r e db m ec nd sub=>
  have #[z,u]:=zdF (b:=(r,0)) (q:=λe=>3-e.2.2) c.hn m;refine .inr ?_;unfold Phi;dsimp only at *
  rw[bx,dz];lia
 |settle m fr=>
  have #[e,k,o]:=bH.mp m;have A:=zhr (h:=(S.en:Int)) (b:=PUnit.unit) c.nd.2.1.2.1 (by rw[<-o];exact k);refine .inr ?_;unfold Phi;dsimp only at *
  lia
 |@take w nl fr hw=>
  have:=oP hw;have:=p6 hw;refine .inr ?_;unfold Phi;dsimp only;rw[b7,List.sum_append];simp only[bC,gj,lE,List.sum_nil];lia
 |rest nl fr ew=>exact .inl {U,nl,fr,ew}
theorem zno(c:aY n CC S):Phi S<=40:=by
 have b:∀l:List (Int×Int×Nat),(l.map λe=>3-e.2.2).sum<=3*l.length:=λl=>by
  induction l with
  |nil=>exact bQ _
  |cons e l ih=>rw[bC,gj,bG];lia
 have:=b S.hl;have:=c.len;have:=c.cc;unfold Phi;lia
theorem Fr.up{M:Nat->Prop}(h:Fr M H H' lb lb')(hl:H' l=Y (.lst xs))(c:H l=af):Fr M H (upd H' l (.lst ys)) lb lb':={h.ex,λb o z e=>by rw[zk (λy=>by rw[y,c] at e;cases e)];exact h.kp b o z e,λb zs e=>Z0 hl () _ _ (h.ts b zs e),λb o e=>let ⟨o',e'⟩:=h.al b o e;qN b o' e'}
def TnI(n:Int)(S:DS)(i t:Nat):Prop:=t<8/\(S.hl=[]\/∃e∈S.hl,((i:Int)+t)%n=e.1)
theorem zjY(c:aY n CC S)(z:1<=n)(u:n<=8)(i:Nat):∃t,TnI n S i t:=by
 cases e:S.hl with
 |nil=>exact{0,(),.inl e}
 |cons x xs=>
  have m:x∈S.hl:=by rw[e];exact bu
  have #[q,o]:=c.hr x m;have k:=du (x.1-i) (show n≠0 by lia);have A:=cN (x.1-i) (show 0<n by lia);refine{((x.1-i)%n).toNat,(),.inr {x,m,?_}};rw[nT k,Int.add_emod,Int.emod_emod_of_dvd _ (Int.dvd_refl n),<-Int.add_emod,show (i:Int)+(x.1-i)=x.1 by lia,Int.emod_eq_of_lt q o]
structure FnI(t:aU)(H:Hp)(d l:B)(a:Au)(lb:At)(n:Int)(g:zF)(CC:List Dl)(e0:Nat)(m:Nat)(H':Hp)(lb':At)(xs:LV)(S:DS)(t':Nat):Prop where
 em:m=8*Phi S+t'
 lm:xs.length+m<=900
 tn:TnI n S xs.length t'
 fr:Fr M0 H H' lb lb'
 hl:H' l=Y (.lst xs)
 l0:lb' l=0
 ev:∀v∈xs,EvV H' v
 e0:e0=CC.length->xs=[]
 ok:aY n CC S
 dk:u8 t H' d a lb' n 0 g CC S
def FnE(t:aU)(H:Hp)(d l:B)(a:Au)(lb:At)(n:Int)(g:zF)(CC:List Dl)(c:Nat)(m:Nat)(i:St)(H':Hp):Prop:=i=[Y (.ref d),Y (.ref l)]/\∃lb' xs S k,c<=S.en/\FnI t H d l a lb n g CC c m H' lb' xs S k
theorem Mv.en_le(c:Mv CC S h S'):S.en<=S'.en:=by
 cases c with
 |settle m fr=>exact gO _
 |_=>exact bo _
theorem FnI.next{m t' e0:Nat}{H2:Hp}{c:At}(I:FnI t H d l a lb n g CC e0 m H' lb' xs S t')(aa:e0<=S.en)(h1:1<=n)(h8:n<=8)(hn:H l=af)(lt:S.en<CC.length)(J:Fr M0 H' H2 lb' c)(O:Mv CC S ((xs.length:Int)%n) S2)(ev:EvV H2 v)(G2:u8 t H2 d a c n 0 g CC S2):H2 l=Y (.lst xs)/\∃q,q<m/\FnE t H d l a lb n g CC e0 q [Y (.ref d),Y (.ref l)] (upd H2 l (.lst (xs++[v]))):=by
 have b1:=du (xs.length:Int) (show n≠0 by lia);have b2:=cN (xs.length:Int) (show 0<n by lia);have i:=J.kp _ _ (by rw[I.l0];exact .inl U) I.hl;have l2:c l=0:=(J.ex _ _ I.hl).trans I.l0;have o:=Mv.ok_ I.ok O b1 b2;have em:=I.em;have lm:=I.lm;refine{i,?_};have A:∀k,TnI n S2 (xs.length+1) k->8*Phi S2+k<m->∃q,q<m/\FnE t H d l a lb n g CC e0 q [Y (.ref d),Y (.ref l)] (upd H2 l (.lst (xs++[v]))):=λk E T=>{_,T,U,c,xs++[v],S2,k,b9 aa O.en_le,U,by rw[bx];show xs.length+1+_<=900;lia,by rw[bx];exact E,(I.fr.trans J).up i hn,zh,l2,λu hu=>by
  have ts:=Z0 (o':=.lst (xs++[v])) i ();obtain z|z:=bP.mp hu
  .exact(I.ev u z).ts λb zs y=>ts b zs (J.ts b zs y)
  .rw[bB.mp z];exact ev.ts ts,λz=>by lia,o,G2.put i () l2}
 obtain ⟨e12,nl,fr,w⟩|dc:=O.dec I.ok
 .have ne:S.hl≠[]:=λz=>by have:=I.ok.pm;rw[w,z,zdU lt] at this;exact nl (this.mem_iff.mpr bu)
  have #[x,hx,ex]:=I.tn.2.resolve_left ne;have t0:t'≠0:=λz=>fr (by rw[z,show (xs.length:Int)+((0:Nat):Int)=xs.length by lia] at ex;rw[ex];exact bL (f:=λe:Int×Int×Nat=>e.1) hx)
  have:=I.tn.1;have ph:Phi S2=Phi S:=by rw[e12];rfl
  exact A (t'-1) {(),.inr {x,by rw[e12];exact hx,by rw[show ((xs.length+1:Nat):Int)+((t'-1:Nat):Int)=xs.length+t' by lia];exact ex}} ()
 .have #[k,E]:=zjY o h1 h8 (xs.length+1);have:=E.1;exact A k E ()
theorem QG{vs:LV}{_E:XK}(D:DkF K t)(MF:MkF K t)(h:jx t vs H Q _E) :
  qM K t (mt Q) (zZZ 5 vs) H:=by
 have #[x,l,w,dx,dw,n,f,wo,g,rfl,h1,h2,h3,h4,nw,hy,q]:=h;have #[lb,P,lw,_]:=PO.init (w:=w) h1 {_,h4};have P:PO H x w _ H lb (λ_=>False) [(2,w,wo)]:={P.hx,P.lx,λe he=>by cases bB.mp he;exact{(),h4,lw nw},P.ow,P.kp,P.fr,P.f10};have #[xs,hx,px]:=h2;have a0:l≠x:=zJ hx h1 ();unfold qM zB;refine P.sv U U D.cD D.d1 () λH1 P=>P.sv U U D.cD D.d2 () λH2 P=>P.sv U U D.cD D.d3 () λH3 P=>{(),P.so (.lst []) 4 () () U D.cD D.d4 () λcl H4 A P=>{(),P.so (.lst []) 5 () () U D.cD D.d5 () λwl H5 I P=>P.so (.dK []) 6 () () U D.cD D.d6 () λhd H9 bi P=>?_}};refine{_,U,?_};intro m dm hm ar nm;have sm:aJ H9 (upd (upd H9 dm (HO.own m)) m (HO.ins t.q03 dm [])):=λb o e=>by rw[zk (zq e hm),zk (zq e ar)];exact e
 have an:aV H9 l g:={xs,P.kp _ _ a0 hx,Paired.mapP px λ_ _ ⟨r,p,e,e1,e2⟩=>{r,p,e,P.kp _ _ (zJ e1 h1 ()) e1,P.kp _ _ (zJ e2 h1 ()) e2}};refine{m,l,dm,g,U,zh,an.same sm,h3,λH10 F al aK az=>{U,?_}};have ai:aJ H9 H10:=λb o e=>al b o (zq e hm) (sm _ _ e);have fF:∀b,F b->H9 b=af:=λb z=>by
  obtain y|y:=az b z
  .rw[y];exact hm
  .cases e:H9 b with
   |none=>rfl
   |some o=>have:=sm b o e;rw[y] at this;cases this
 have #[bf,P',bs,_]:=(P.same ai).lab (N:=F) (F':=F) 10 (λb=>{λz=>z.elim (λy=>y.1) fP,λz=>.inl {z,U}}) λb z=>{(P.l0 (fF b z)).1,(P.l0 (fF b z)).2,aK.own b z};replace P:=P';clear P' al az ai sm hm ar nm an fF;refine P.stM aK U D.cD D.d7 () λk P a9=>?_;refine{_,U,x,_,_,_,_,U,P.hx,D.cD,D.d7,U,?_};intro jb dj hj as nj;have sj:aJ k (upd (upd k dj (HO.own jb)) jb (HO.ins t.q05 dj [])):=λb o e=>by rw[zk (zq e hj),zk (zq e as)];exact e
 refine{jb,m,dj,U,zh,λH12 la re db aj ab J u T nl nr nd ld=>{U,?_}};have aa:aJ k H12:=λb o e=>aj b o (zq e hj) (sj _ _ e);have fr:∀b,upd (upd k dj (HO.own jb)) jb (HO.ins t.q05 dj []) b=af->k b=af:=λb z=>by
  cases e:k b with
  |none=>rfl
  |some o=>have:=sj b o e;rw[z] at this;cases this
 have O:∀b,k b=af->_:=λb z=>P.l0 z;have a8:=a9.same aa;have Q0:=P.same aa;have #[bl,Q1,a1,b1]:=Q0.lab (N:=λb=>b=jb) (F':=F) 3 (λb=>{λz=>z.resolve_left (λy=>nomatch y.2),.inr}) λb z=>by rw[z];exact{(O _ hj).1,(O _ hj).2,_,ab}
 have n1:la≠jb:=λz=>by rw[z,zh] at nl;cases nl
 have n2:re≠jb:=λz=>by rw[z,zh] at nr;cases nr
 have n3:db≠jb:=λz=>by rw[z,zh] at nd;cases nd
 have n4:re≠la:=zJ u J ();have n5:db≠re:=zJ T u ();have #[bk,Q2,a2,b2]:=Q1.lab (N:=λb=>b=la) (F':=F) 7 (λb=>{λz=>z.resolve_left (λy=>nomatch y.2),.inr}) λb z=>by rw[z,b1 _ n1];exact{(O _ (fr _ nl)).1,(O _ (fr _ nl)).2,_,J}
 have #[bj,Q3,a3,b3]:=Q2.lab (N:=λb=>b=re) (F':=F) 11 (λb=>{λz=>z.resolve_left (λy=>nomatch y.2),.inr}) λb z=>by rw[z,b2 _ n4,b1 _ n2];exact{(O _ (fr _ nr)).1,(O _ (fr _ nr)).2,_,u}
 have #[A,Q4,a4,b4]:=Q3.lab (N:=λb=>b=db) (F':=F) 8 (λb=>{λz=>z.resolve_left (λy=>nomatch y.2),.inr}) λb z=>by rw[z,b3 _ n5,b2 _ ld.symm,b1 _ n3];exact{(O _ (fr _ nd)).1,(O _ (fr _ nd)).2,_,T}
 have y1:A jb=3:=by rw[b4 _ n3.symm,b3 _ n2.symm,b2 _ n1.symm,a1 _ rfl]
 have y2:A la=7:=by rw[b4 _ ld,b3 _ n4.symm,a2 _ rfl]
 have y3:A re=11:=by rw[b4 _ n5.symm,a3 _ rfl]
 have y4:=a4 _ rfl;have P:PO H x w _ H12 A F [(3,jb,.ins t.q05 dj (zld m la re db)),(7,la,.dK []),(11,re,.dT []),(8,db,.dK []),(6,hd,.dK []),(5,wl,.lst []),(4,cl,.lst []),(2,w,wo)]:={Q4.hx,Q4.lx,λe he=>by
  obtain rfl|he:=bn.mp he
  .exact{(),ab,y1}
  obtain rfl|he:=bn.mp he
  .exact{(),J,y2}
  obtain rfl|he:=bn.mp he
  .exact{(),u,y3}
  obtain rfl|he:=bn.mp he
  .exact{(),T,y4}
  exact Q4.ob e he,Q4.ow,Q4.kp,Q4.fr,Q4.f10}
 clear Q0 Q1 Q2 Q3 Q4 a1 a2 a3 a4 b1 b2 b3 b4 y1 y2 y3 y4 n1 n2 n3 n4 n5 aa sj aj O fr nl nr nd ld hj as nj ab J u T;refine P.stM a8 U D.cD D.d8 () λbe P a7=>?_;refine{(),λen hc=>?_};have a6:=a7.same (hX en hc (o:=.lst []));have #[I,P']:=P.new (o:=.lst []) 9 () () hc;replace P:=P';clear P';generalize upd be en (.lst [])=H14 at *
 refine P.stM a6 U D.cD D.d9 () λaS P a5=>?_;have eF:(λb=>I b=10)=F:=funext λb=>propext (P.f10 b);have E:∀n c o,(n,c,o)∈_->aS c=Y o/\I c=n:=λn c o z=>(P.ob (n,c,o) z).2;have #[r1,r2]:=E 11 re _ (.tail _ (.tail _ (.tail _ (.head _))));refine q aS {dx,dj,dw,jb,m,w,cl,wl,hd,la,re,db,en} I P.kp (λb o n1 n2 e=>cp λz=>by obtain y|y|y:=P.fr b z;exact n1 y;exact n2 y;rw[y] at e;cases e) {{wo,[],[],[],[],[],[],g,[]},{λi b o e=>?_,P.ow},by rw[eF];exact a5,{r1,r2},hy _ U,U,U,U,U,.nil,.nil,.nil,.nil}
 match i,e with
 |0,e=>cases e;exact{P.hx,P.lx}
 |1,e=>cases e;exact E 2 _ _ (.tail _ (.tail _ (.tail _ (.tail _ (.tail _ (.tail _ (.tail _ (.tail _ (.head _)))))))))
 |2,e=>cases e;exact E 3 _ _ (.tail _ (.head _))
 |3,e=>cases e;exact E 4 _ _ (.tail _ (.tail _ (.tail _ (.tail _ (.tail _ (.tail _ (.tail _ (.head _))))))))
 |4,e=>cases e;exact E 5 _ _ (.tail _ (.tail _ (.tail _ (.tail _ (.tail _ (.tail _ (.head _)))))))
 |5,e=>cases e;exact E 6 _ _ (.tail _ (.tail _ (.tail _ (.tail _ (.tail _ (.head _))))))
 |6,e=>cases e;exact E 7 _ _ (.tail _ (.tail _ (.head _)))
 |7,e=>cases e;exact E 8 _ _ (.tail _ (.tail _ (.tail _ (.tail _ (.head _)))))
 |8,e=>cases e;exact E 9 _ _ (.head _)
def zjZ(x:Str):Prop:=x.length<=20000/\Asc x/\10 ∉ x.cps.toList
theorem zgf(x:Str):x++bb ""=x:=wW (by rw[xX,show (bb "").cps.toList=[] from by lia,cL])
theorem zoU:Ag=(⟨#[10]⟩:Str):=by lia
theorem zdV:∀c:zQ,kD c=eU Ag (c++[bb ""])
 |[]=>rfl
 |x::c=>by have i:=zdV c;show x++Ag++kD c=_;rw[i];cases c <;> rfl
theorem zdW:∀c:zQ,eU (bb "") (c.map λx=>x++Ag)=kD c
 |[]=>rfl
 |[x]=>(zgf (x++Ag)).symm
 |x::y::c=>by have i:=zdW (y::c);show x++Ag++bb "" ++ eU (bb "") ((y::c).map λx=>x++Ag)=x++Ag++kD (y::c);rw[i,zgf]
theorem zaY(h:∀x∈ls,zjZ x):fJ (kD ls) Ag=ls++[bb ""]:=by
 rw[zdV,zoU];refine qx (λz=>by have:=congrArg dQ z;rw[bx] at this;cases this) λw c=>?_;obtain z|z:=bP.mp c
 .exact(h w z).2.2
 .rw[bB.mp z];lia
theorem zgg(h:∀x∈c,x.length<=4000)(l:c.length<=20):(kD c).length<=100000:=by
 have:∀c:zQ,(∀x∈c,x.length<=4000)->(kD c).length<=4001*c.length:=λc=>by
  induction c with
  |nil=>intro _;lia
  |cons x c ih=>
   intro h;have:=ih λy i=>h y (bw _ i);have:=h x bu;show (x++Ag++kD c).length<=_;rw[xk,xk,show Ag.length=1 from by lia,bG];lia
 have:=this c h;lia
def c33(w:Str):Prop:=∀c∈w.cps.toList,33<=c
theorem We(n:Int):c33 (zU n):=λc i=>by have:=zmf n c i;lia
theorem qk{x:String}(h:((bb x).cps.toList.all λc=>decide (33<=c))=ae):c33 (bb x):=λc i=>of_decide_eq_true (cI.mp h c i)
theorem zj0{w:Str}(h:yK w=ae):c33 w:=λc i=>by have #[_,_,_,b]:=wX h;have:=(zbe c (cI.mp b c i)).1;lia
theorem znp{k:zQ}(h:∀w∈k,c33 w):∀c∈(eU b32 k).cps.toList,32<=c:=by
 induction k with
 |nil=>intro c i;cases i
 |cons w k ih=>
  intro c i;cases k with
  |nil=>have:=h w bu c i;lia
  |cons u us=>
   have i:c∈(w++b32++eU b32 (u::us)).cps.toList:=i;rw[xX,xX] at i;obtain z|z:=bP.mp i
   .obtain z|z:=bP.mp z
    .have:=h w bu c z;lia
    .have:c=32:=bB.mp z;lia
   .exact ih (λv m=>h v (bw _ m)) c z
theorem zhs:((cG 1009).all λn=>decide (10 ∉ (zfS (zU (n:Nat)) 4).cps.toList))=ae:=by lia
theorem znq(z:Str):10 ∉ (Ki z).cps.toList:=by have #[a,b]:=Jr z;have:=cI.mp zhs (zjt z).toNat (gZ.mpr ());rw[decide_eq_true_eq,nT a] at this;exact this
theorem zgh(h:∀w∈ws,Wd w)(m:∀w∈ws,c33 w)(l:ws.length<=90):zjZ (xq ws)/\(xq ws).length<=4000:=by
 have #[k,i,_]:=ze1 (Zs (bb " ") ws);have o:=zbM h;have c:(xq ws).length<=4000:=by unfold xq;rw[xk,xk,Jq,k];lia
 refine{{(),((Wb h).app (by unfold Asc;lia)).app i,λz=>?_},c};unfold xq at z;rw[xX,xX] at z;obtain z|z:=bP.mp z
 .obtain z|z:=bP.mp z
  .rw[k9,show (bb " ")=b32 from WY] at z;have:=znp m 10 z;lia
  .revert z;lia
 .exact znq _ z
theorem zgi(h:∀r∈ac,zjs r.1/\wB r.2):∀w∈Aq ac,c33 w:=λw hw=>by
 have #[r,c,hw]:=mZ.mp hw;obtain rfl|hw:=bn.mp hw
 .exact zj0 (h r c).1.1
 obtain rfl|hw:=bn.mp hw
 .exact We _
 .rw[bB.mp hw];exact We _
theorem zgj(k:e.ok):Kh e.oc:=by
 refine{b9 (ze6 e) (),λi c=>?_};cases e with
 |say n=>rw[bB.mp c];exact k
 |give p n=>cases c
theorem zj1:yK (bb "a")=ae:=by lia
theorem zgk(c:e.ok):ZF e.gi:=by
 refine{(Zh e).1,b9 (Zh e).2.2 (),λr i=>?_};cases e with
 |say n=>cases i
 |give p n=>
  rw[bB.mp i];have:=c.1;exact{{zj1,(by show _<=(p:Int);lia),by show (p:Int)<=_;lia},c.2}
theorem zlz(c:e.ok){k:Nat}(m:k<=100):zjZ (xq (xR (k:Int) e.oc e.gi))/\(xq (xR (k:Int) e.oc e.gi)).length<=4000:=by
 have rk:rB (k:Int):={(),()};have i:=zgk c;refine zgh (zbO rk (zgj c) i) (λw hw=>?_) ?_
 .obtain rfl|hw:=bn.mp hw
  .exact qk ()
  obtain rfl|hw:=bn.mp hw
  .exact We _
  obtain hw|hw:=bP.mp hw
  .obtain rfl|hw:=bn.mp hw
   .exact qk ()
   .have #[n,_,rfl]:=bH.mp hw;exact We _
  obtain rfl|hw:=bn.mp hw
  .exact qk ()
  .exact zgi i.nm w hw
 .have:=ze6 e;have:=(Zh e).2.2;have:(ocW e.oc).length=e.sa.length+1:=by show (_::e.sa.map zU).length=_;rw[bG,bh]
  unfold xR;rw[bG,bG,bx,bG,jB];lia
theorem zgl(h:YX g):zjZ (xq (jq 0 g))/\(xq (jq 0 g)).length<=4000:=by
 refine zgh (zbP {(),()} h.rs) (λw hw=>?_) ?_
 .obtain rfl|hw:=bn.mp hw
  .exact qk ()
  obtain rfl|hw:=bn.mp hw
  .exact We _
  obtain rfl|hw:=bn.mp hw
  .exact qk ()
  .exact zgi h.rs.nm w hw
 .have:=h.le;unfold jq;rw[bG,bG,bG,jB];lia
theorem dl_at:∀ {es:List Dl}{k i:Nat}{x:Str},(dlL es k)[i]?=Y x↔∃e,es[i]?=Y e/\x=xq (xR ((k+i:Nat):Int) e.oc e.gi)
 |[],k,i,x=>by simp[dlL]
 |e::es,k,0,x=>by show Y _=Y x↔∃d,Y e=Y d/\_;exact{λz=>{e,U,(bX z).symm},λ⟨d,m,c⟩=>by rw[c,bX m];rfl}
 |e::es,k,i+1,x=>by show (dlL es (k+1))[i]?=Y x↔∃d,es[i]?=Y d/\_;rw[dl_at,show k+1+i=k+(i+1) by lia]
theorem zj2:∀(es:List Dl)(k:Nat),(dlL es k).length=es.length
 |[],_=>rfl
 |e::es,k=>congrArg (· + 1) (zj2 es (k+1))
theorem zj3:∀(es:List Dl)(e:Dl)(k:Nat),dlL (es++[e]) k=dlL es k++[xq (xR ((k+es.length:Nat):Int) e.oc e.gi)]
 |[],e,k=>rfl
 |x::es,e,k=>by show _::dlL (es++[e]) (k+1)=_::(dlL es (k+1)++_);rw[zj3,bG,show k+1+es.length=k+(es.length+1) by lia]
theorem KZ(g:zF)(es:List Dl):(Aj g es).length=es.length+1:=congrArg (· + 1) (zj2 es 0)
theorem ze8(o:YX g)(k:zeY es):∀x∈Aj g es,zjZ x/\x.length<=4000:=λx hx=>by
 obtain rfl|hx:=bn.mp hx
 .exact zgl o
 .have #[i,m]:=cQ hx;have #[e,c,rfl]:=dl_at.mp m;have:=(bp.mp c).1;have:=k.1;exact zlz (k.2 e (bU c)) ()
section
variable {P P':uZ}{i:Nat}
theorem EnA.up(h:EnA P H g es i v)(c:TSm H H')(k:∀b o,P b->H b=Y o->H' b=Y o)(p:∀b,P b->P' b):EnA P' H' g es i v:=by
 obtain ⟨e,q,gl,e1,e2,e3,e4⟩|⟨j,d,q,o,gl,e1,e2,e3,e4,e5,e6,e7⟩:=h
 .exact .inl {e,q,gl,e1,c _ _ e2,e3.to c λo z=>k _ o e4 z,p _ e4}
 .exact .inr {j,d,q,o,gl,e1,e2,e3,c _ _ e4,e5.ts c,e6.to c λo z=>k _ o e7 z,p _ e7}
def noD(D:B)(H:Hp):Hp:=λb=>if b=D then af else H b
theorem ze9{D b:B}(n:b≠D)(h:H b=Y o):noD D H b=Y o:=(ag n).trans h
theorem zj4{D:B}:aJ (noD D H) H:=λb o h=>by
 unfold noD at h;by_cases c:b=D
 .rw[ao c] at h;cases h
 .rw[ag c] at h;exact h
theorem zj5{D:B}(k:∀b o,b≠D->H b=Y o->H' b=Y o):aJ (noD D H) (noD D H'):=λb o h=>by
 by_cases c:b=D
 .rw[noD,ao c] at h;cases h
 .exact ze9 c (k b o c (zj4 b o h))
theorem EnA.same(h:EnA P H g es i v)(s:aJ H H'):EnA P H' g es i v:=h.up (.of s) (λb o _ z=>s b o z) λ_ z=>z
theorem zgm(h:es[i]?=Y e):giL (es.take (i+1))=giL (es.take i)++e.gi:=by unfold giL;rw[dY,h,sR];show _++List.flatMap Dl.gi [e]=_;rw[tV,List.flatMap_nil,cL]
theorem K0:∀es:List Dl,(giL es).length<=es.length
 |[]=>bQ _
 |e::es=>by have:=K0 es;have:=(Zh e).2.2;show (e.gi++giL es).length<=_;rw[bx,bG];lia
theorem Ah.ts{ts:LV}(h:Ah H ts es)(s:TSm H H'):Ah H' ts es:={h.1,λi v e m k=>let ⟨r,o,a,b,c⟩:=h.2 i v e m k;{r,o,a,s _ _ b,c.ts s}}
theorem Ah.snoc{ts:LV}(h:Ah H ts (es.take i))(q:es[i]?=Y e)(u:AnA H v i e):Ah H (ts++[v]) (es.take (i+1)):=by
 have z:=(bp.mp q).1;have o:ts.length=i:=by rw[h.1,cf];lia
 refine{by rw[bx,o,cf];simp;lia,λj w d k m=>?_};obtain c|c:=fM j i
 .rw[cR ()] at k;refine h.2 j w d k ?_;rw[cM ()] at m;rw[cM c];exact m
 .rw[dA ()] at k;obtain rfl:j=i:=by have:=(bp.mp k).1;have:j-ts.length<1:=this;lia
  rw[o,rV] at k;cases k;rw[cM (),q] at m;cases m;exact u
structure CuI(H0:Hp)(l l2 td lc:B)(xs:LV)(g:zF)(es:List Dl)(i:Nat)(H':Hp):Prop where
 sm:aJ H0 H'
 hc:H' lc=Y (.lst (xs.drop 1))
 en:∀j v,xs[j]?=Y v->EnA (λb=>b≠l2/\b≠td) H' g es j v
 hr:aV H' l2 (g++giL (es.take i))
 ht:∃ts,H' td=Y (.lst ts)/\Ah H' ts (es.take i)
end
section
variable {b:HAd}{N2:uZ}{k:Nat}{ts ls:LV}
theorem FrN.trans{N2:uZ}(h:FrN N N' H H')(k:FrN N' N2 H' H2):FrN N N2 H H2:=by
 refine{λb o z e=>k.kp b o (λy=>(h.nw b y).elim z λy=>by rw[y] at e;cases e) (h.kp b o z e),λb zs e=>k.ts _ _ (h.ts _ _ e),λb o e=>let ⟨o',c⟩:=h.al b o e;k.al b o' c,λb y=>?_,λb y=>k.up b (h.up b y)};obtain z|z:=k.nw b y
 .exact h.nw b z
 .refine .inr ?_;cases e:H b with
  |none=>rfl
  |some o=>have #[o',c]:=h.al b o e;rw[z] at c;cases c
theorem FrN.of(F:Fr M0 H H' lb lb')(i:∀b,lb b≠0->∃o,H b=Y o):FrN (HsN x b lb) (HsN x b lb') H H':=by
 refine{λc o z e=>F.kp c o (.inl (cp λy=>z (.inl y))) e,F.ts,F.al,λc z=>?_,λc z=>?_}
 .cases e:H c with
  |none=>exact .inr rfl
  |some o=>exact .inl (z.imp (λy=>by rw[<-F.ex c o e];exact y) id)
 .obtain z|z:=z
  .have #[o,e]:=i c z;exact .inl (by rw[F.ex c o e];exact z)
  .exact .inr z
theorem HsA.fr(h:HsA t H x b lb k ts ls)(F:Fr M0 H H' lb lb'):HsA t H' x b lb' k ts ls:=by have #[u,q,o,z,m,i,c]:=h;exact{F.kp _ _ (.inl m) u,F.kp _ _ (.inl i) q,F.kp _ _ (.inl c) o,z,(F.ex _ _ u).trans m,(F.ex _ _ q).trans i,(F.ex _ _ o).trans c}
theorem HsA.same(h:HsA t H x b lb k ts ls)(s:aJ H H'):HsA t H' x b lb k ts ls:={s _ _ h.ix,s _ _ h.ht,s _ _ h.hl,h.ne,h.l0}
theorem HsG.same(h:HsG t H x b a lb n g CC S ts)(s:aJ H H'):HsG t H' x b a lb n g CC S ts:={h.h.same s,h.an.ts (.of s),h.d.same s,h.o,h.gr}
theorem Ad.same(h:Ad t H x n g CC S N)(s:aJ H H'):Ad t H' x n g CC S N:=let ⟨b,a,lb,ts,G,z⟩:=h;{b,a,lb,ts,G.same s,z}
theorem Ad.to(h:Ad t H x n g CC S N)(k:∀c o,N c->H c=Y o->H' c=Y o)(ts:TSm H H')(q:∀c o,H c=Y o->∃o',H' c=Y o'):Ad t H' x n g CC S N:=by have #[b,a,lb,m,G,z]:=h;have i:∀c o,HsN x b lb c->H c=Y o->H' c=Y o:=λc o y e=>k c o ((z c).mpr y) e;exact{b,a,lb,m,{{i _ _ (.inr (.inl U)) G.h.ix,i _ _ (.inr (.inr (.inl U))) G.h.ht,i _ _ (.inr (.inr (.inr U))) G.h.hl,G.h.ne,G.h.l0},G.an.ts ts,G.d.of (λc o y e=>i c o (.inl y) e) ts q,G.o,G.gr},z}
theorem Ad.ow(h:Ad t H x n g CC S N)(z:N d):∃o,H d=Y o:=by
 have #[b,a,lb,c,G,y]:=h;rcases(y d).mp z with z|z|z|z
 .exact G.d.ow z
 .rw[z];exact{_,G.h.ix}
 .rw[z];exact{_,G.h.ht}
 .rw[z];exact{_,G.h.hl}
theorem HsG.i(G:HsG t H x b a lb n g CC S ts):Ad t H x n g CC S (HsN x b lb):={b,a,lb,ts,G,λ_=>tW}
theorem zfa(z:∀c,N c↔HsN x b lb c):N=HsN x b lb:=funext λc=>propext (z c)
theorem Ad.cc(h:Ad t H x n g CC S N):aY n CC S/\YX g:=let ⟨_,_,_,_,G,_⟩:=h;{G.o,G.gr}
theorem ds0(n:Int):aY n [] S0:={(),(),bo _,.nil,.nil,(),(),.nil,(),λy=>Iff.intro () (λz=>by have #[_,_,_,e,_]:=z;cases e),rfl}
theorem zj6(h:k<=m):V9 k (m+1)=V9 k m++[(m:Int)]:=by unfold V9;rw[show m+1-k=(m-k)+1 by lia,rO,b7];show _++[((k+(m-k):Nat):Int)]=_;rw[show k+(m-k)=m by lia]
theorem aY.add(h:aY n CC S)(l:CC.length<10)(ok:e.ok):aY n (CC++[e]) { S with ws:=S.ws++[(CC.length:Int)] }:=by
 have o:(CC++[e]).length=CC.length+1:=bx;have el:=h.el;refine{by rw[o];lia,λC A=>?_,by rw[o];exact Nat.le_succ_of_le h.el,?_,h.hn,h.hr,h.rn,h.dn,h.ds,λy=>(h.ly y).trans ?_,h.ll}
 .obtain z|z:=bP.mp A
  .exact h.ok C z
  .cases bB.mp z;exact ok
 .rw[o,zj6 h.el];show ((S.ws++[(CC.length:Int)])++_).Perm _;rw[cF];exact(List.perm_append_comm_assoc _ _ _).trans ((rW (l₁:=[(CC.length:Int)])).trans (h.pm.append_right _))
 .constructor
  .rintro⟨j,d,q,m,c⟩;exact{j,d,q,zb0 m,c}
  .rintro⟨j,d,q,m,c⟩;refine{j,d,q,?_,c};have u:j<CC.length:=by
    obtain z|z:=c
    .exact cb z el
    .have #[i,I,_,E]:=h.rl z;lia
   rw[cR u] at m;exact m
theorem zgn(h:xA ac out):out.length<=ac.length:=by rw[<-zkN h];exact b9 (mI _ _) (jv ac)
theorem K1{vs:LV}{_E:XK}(F:HsF K t)(D:DkF K t)(h:wj t vs H Q _E) :
  Yy K t (mt Q) (zZZ 5 vs) H:=by
 have #[x,w,dx,dw,n,wo,g,es,rfl,h1,h2,I,T,hy,O,q]:=h;have aj:=h2.1;have g5:=h1.le;refine{_,U,g,es,U,h1,h2,λr tb td out ts H1 i er lt m ed an nd=>?_};have #[us,et,pt]:=lt;have lo:=zgn m;have ai:=K0 es;rw[bx] at lo;have nr:r≠x:=zJ er (i _ _ I) ();have nb:tb≠x:=zJ et (i _ _ I) ();have nt:td≠x:=zJ ed (i _ _ I) ();have up:∀ {H:Hp}(u:HO),x8 x H (upd H x u):=λu b o z e=>by rw[zk z];exact e
 refine{_,U,r,_,0,_,U,U,aX.of er,U,_,U,x,_,_,_,U,i _ _ I,F.cl,F.n1,(),?_};generalize c2:upd H1 x _=H2;have k2:x8 x H1 H2:=c2 ▸ up _;have e2:H2 x=Y (.ins t.q00 dx (xW (bb "due") (V.int es.length) [])):=by rw[<-c2];exact zh
 refine{_,U,r,_,2,_,U,U,aX.of (k2 _ _ nr er),U,_,U,x,_,_,_,U,e2,F.cl,F.n2,(),?_};generalize c3:upd H2 x _=H3;have k3:x8 x H2 H3:=c3 ▸ up _;have e3:H3 x=Y (.ins t.q00 dx (xW (bb "told") (V.ref td) (xW (bb "due") (V.int es.length) []))):=by rw[<-c3];exact zh
 clear c2 c3;refine{_,U,g,es,U,h1,h2,λl H4 s4 hl el=>{_,U,x,_,_,_,U,s4 _ _ e3,F.cl,F.n3,(),?_}};generalize c5:upd H4 x _=H5;have k5:x8 x H4 H5:=c5 ▸ up _;have e5:H5 x=Y (.ins t.q00 dx (xW (bb "lines") (V.ref l) (xW (bb "told") (V.ref td) (xW (bb "due") (V.int es.length) [])))):=by rw[<-c5];exact zh
 clear c5;have k:∀c o,c≠x->H1 c=Y o->H5 c=Y o:=λc o z e=>k5 c o z (s4 _ _ (k3 c o z (k2 c o z e)));have J:TSm H1 H5:=λc zs e=>k c _ (zJ e (i _ _ I) ()) e;refine{_,U,r,_,1,_,U,U,aX.of (k _ _ nr er),U,_,U,_,U,zX e5 F.cl F.n1 U U λd dd hd aa ab=>?_};have sd:=vV (C:=t.q02) hd aa;have w5:=k _ _ O (i _ _ T);have t5:aV H5 tb out:={us,k _ _ nb et,Paired.mapP pt λ_ _ z=>PrAt.ts z J};refine{d,tb,w,dd,dw,n,es.length,wo,out,U,zh,t5.same sd,(),sd _ _ w5,zq w5 hd,hy,λH6 a lb k6 l6 G=>?_};have A:aJ H5 H6:=λb o e=>k6 b o (zq e hd) (sd _ _ e);have z6:∀c o,c≠w->H5 c=Y o->lb c=0:=λc o z e=>l6 c o (zq e hd) z (sd _ _ e);have lx:l≠x:=zJ el (s4 _ _ e3) ();have l5:=k5 _ _ lx el;have E:=k _ _ nt ed;have x0:lb x=0:=z6 x _ O.symm e5;have w3:=k3 _ _ O (k2 _ _ O (i _ _ T));have nl:∀c o,c≠x->H1 c=Y o->c≠l:=λc o z e y=>by have:=k3 c o z (k2 c o z e);rw[y,hl] at this;cases this
 have wl:w≠l:=nl _ _ O (i _ _ T);have wt:w≠td:=λy=>by rw[y,nd] at T;cases T
 refine{U,_,U,x,_,_,_,U,A _ _ e5,F.cl,F.n4,(),q _ {dx,td,l,d} a lb ts out (λc o z e=>by rw[zk z];exact A _ _ (k c o z (i _ _ e))) (λc o z1 z2 e y=>?_) m {zh,by rw[zk nt];exact A _ _ E,by rw[zk lx];exact A _ _ l5,nl _ _ nt ed,x0,z6 td _ wt.symm E,z6 l _ wl.symm l5} (an.ts λc zs z=>by rw[zk (zJ z (i _ _ I) ())];exact A _ _ (J _ _ z)) (λc y=>?_) (G.put (A _ _ e5) () x0)}
 .obtain y|y|y|y:=y
  .exact y (z6 c o z2 (k c o z1 (i _ _ e)))
  .exact z1 y
  .have y:c=td:=y;rw[y,nd] at e;cases e
  .exact nl c o z1 (i _ _ e) y
 .obtain y|y|y|y:=y
  .have #[o,e]:=G.ow y;exact qN c o e
  .rw[y];exact{_,zh}
  .rw[y];exact qN _ _ (A _ _ E)
  .rw[y];exact qN _ _ (A _ _ l5)
theorem aY.few(ok:aY n CC S)(l:g.length<=5):zjx g S.ls:=by
 have:∀y∈S.ls,y.2.length<=1:=λy i=>by have #[j,e,rfl,_]:=(ok.ly y).mp i;exact(Zh e).2.2
 have s:∀ls:Ar,(∀y∈ls,y.2.length<=1)->(ls.map λy=>y.2.length).sum<=ls.length:=λls=>by
  induction ls with
  |nil=>intro _;exact bQ _
  |cons y ls ih=>
   intro h;have:=ih λz c=>h z (bw _ c);have:=h y bu;rw[bC,gj,bG];lia
 have:=s S.ls this;have:=ok.ll;have:=ok.len;have:=ok.cc;unfold zjx;lia
theorem zb1(c:aY n CC S)(k:Nat):zeY (CC.take k):={by have:=c.cc;rw[cf];lia,λe i=>c.ok e (nu i)}
end
structure WsI(t:aU)(H:Hp)(x p:B)(b:HAd)(xs:LV)(g:zF)(CC:List Dl)(m:Nat)(H':Hp)(ts:LV):Prop where
 kp:∀c o,c≠x->c≠b.td->c≠b.ln->H c=Y o->H' c=Y o
 hp:H' p=Y (.lst xs)
 ix:H' x=Y (.ins t.q00 b.dx (zle b m))
 ht:H' b.td=Y (.lst ts)
 hl:H' b.ln=Y (.lst ((Aj g (CC.take m)).map V.str))
 an:Ah H' ts (CC.take m)
section
variable {p:B}{b:HAd}{m k:Nat}{nl gl:B}{ts:LV}
theorem zlA(g:zF)(c:CC[m]?=Y e):Aj g (CC.take (m+1))=Aj g (CC.take m)++[xq (xR (m:Int) e.oc e.gi)]:=by have i:=(bp.mp c).1;show _::dlL (CC.take (m+1)) 0=_::dlL (CC.take m) 0++_;rw[dY,c];show _::dlL (CC.take m++[e]) 0=_;rw[zj3,cf,eC (mH i),gy];rfl
theorem zlB(F:HsF K t)(n1:x≠p)(n2:b.td≠p)(n3:b.ln≠p)(n4:b.td≠b.ln)(he:CC[m]?=Y e)(hi:m<10)(ok:e.ok)(Z:PpV H' v e nl gl)(I:WsI t H x p b xs g CC m H' ts) :
  kI K t { nx:=λσ H'=>(∃o,σ=[Y (.ref x),o])/\∃ts,WsI t H x p b xs g CC (m+1) H' ts,rt:=Q } [Y (.ref x),Y v] H':=by
 have #[r,oc,rfl,hr,ho,ai,ab]:=Z;have lm:=(bp.mp he).1;have lt:ts.length=m:=by rw[I.an.1,cf];lia
 have ll:=KZ g (CC.take m);rw[cf,eC (mH lm)] at ll;refine zX I.ix F.cl F.n3 U U {.inl {U,_,aM.of I.hl},zX I.ix F.cl F.n1 U U {_,U,(m:Int),r,oc,nl,gl,e.oc,e.gi,U,hr,{(),()},ho,zgj ok,ab,zgk ok,λH2 s2=>{b.ln,_,_,U,U,s2 _ _ I.hl,yD (by rw[bh,ll];lia),?_}}};rw[show (Aj g (CC.take m)).map V.str++[V.str (xq (xR (m:Int) e.oc e.gi))]=(Aj g (CC.take (m+1))).map V.str from by rw[zlA g he,b7];rfl];have E:x≠b.ln:=zJ I.ix I.hl ();have A:x≠b.td:=zJ I.ix I.ht ();generalize i:upd H2 b.ln _=H3;have T:∀c o,c≠b.ln->H' c=Y o->H3 c=Y o:=λc o z e=>by rw[<-i,zk z];exact s2 _ _ e
 have e3:H3 b.ln=Y (.lst ((Aj g (CC.take (m+1))).map V.str)):=by rw[<-i];exact zh
 clear i;have x3:=T _ _ E I.ix;have t3:=T _ _ n4 I.ht;have p3:=T p _ n3.symm I.hp;refine zX x3 F.cl F.n2 U U {.inl {U,_,aM.of t3},zX x3 F.cl F.n1 U U {_,U,r,_,0,_,U,U,aX.of (T r _ (zJ hr I.hl ()) hr),U,sz2,λp4 aa=>?_}};generalize c_:upd H3 p4 _=H4;have #[q,e4]:=uV c_ aa;refine{b.td,_,_,U,U,q _ _ t3,yD (),?_};generalize c5:upd H4 b.td _=H5;have O:∀c o,c≠b.td->H4 c=Y o->H5 c=Y o:=λc o z e=>by rw[<-c5,zk z];exact e
 have e5:H5 b.td=Y (HO.lst (ts++[V.ref p4])):=by rw[<-c5];exact zh
 clear c5;have x5:=O _ _ A (q _ _ x3);refine{_,U,x,_,_,_,_,U,x5,F.cl,F.n1,U,_,_,U,U,_,_,x5,(),{_,U},ts++[.ref p4],?_};generalize c6:upd H5 x _=H6;have e6:H6 x=Y (HO.ins t.q00 b.dx (zle b (m+1))):=by rw[<-c6];exact zh
 have J:∀c o,c≠x->H5 c=Y o->H6 c=Y o:=λc o z e=>by rw[<-c6,zk z];exact e
 clear c6;have kk:∀c o,c≠x->c≠b.td->c≠b.ln->H' c=Y o->H6 c=Y o:=λc o c1 c2 i e=>J c o c1 (O c o c2 (q _ _ (T c o i e)));have u:TSm H' H6:=λc zs e=>kk c _ (zJ e I.ix ()) (zJ e I.ht ()) (zJ e I.hl ()) e;exact{λc o c1 c2 i e=>kk c o c1 c2 i (I.kp c o c1 c2 i e),J _ _ n1.symm (O _ _ n2.symm (q _ _ p3)),e6,J _ _ A.symm e5,J _ _ E.symm (O _ _ n4.symm (q _ _ e3)),(I.an.ts u).snoc he {p4,oc,U,J _ _ (zJ e4 (q _ _ x3) ()) (O _ _ (zJ e4 (q _ _ t3) ()) e4),ho.ts u}}
theorem Ad.mv{H2:Hp}{i:At}(G:HsG t H x b a lb n g CC S ts)(J:Fr M0 H H' lb i)(A:∀c o,c≠x->c≠b.td->c≠b.ln->H' c=Y o->H2 c=Y o)(E:HsA t H2 x b i S'.en xs ((Aj g (CC.take S'.en)).map V.str))(T:Ah H2 xs (CC.take S'.en))(G1:u8 t H' b.d a i n 0 g CC S')(O:aY n CC S'):FrN (HsN x b lb) (HsN x b i) H H2/\Ad t H2 x n g CC S' (HsN x b i):=by
 have I:=G.h.fr J;have q:TSm H' H2:=λc zs e=>A c _ (zJ e I.ix ()) (zJ e I.ht ()) (zJ e I.hl ()) e;have u:∀c o,H' c=Y o->∃o',H2 c=Y o':=λc o e=>by
  by_cases c1:c=x
  .rw[c1];exact{_,E.ix}
  by_cases c2:c=b.td
  .rw[c2];exact{_,E.ht}
  by_cases c3:c=b.ln
  .rw[c3];exact{_,E.hl}
  exact{o,A c o c1 c2 c3 e}
 have z:=I.l0;refine{(FrN.of (x:=x) (b:=b) J λc y=>G.d.ow y).trans {λc o y e=>A c o (λw=>y (.inr (.inl w))) (λw=>y (.inr (.inr (.inl w)))) (λw=>y (.inr (.inr (.inr w)))) e,q,u,λ_ y=>.inl y,λ_ y=>y},HsG.i (b:=b) (a:=a) (ts:=xs) {E,T,G1.of (λc o y e=>A c o (λw=>y (by rw[w];exact z.1)) (λw=>y (by rw[w];exact z.2.1)) (λw=>y (by rw[w];exact z.2.2)) e) q u,O,G.gr}}
end
theorem zmg{w:Int}(h:inW w=ae):wB w:=by have h:-1000000000000000000000000000000<=w/\w<=1000000000000000000000000000000:=of_decide_eq_true h;exact h
def tbI(c:Int)(a x d:B)(H0:Hp)(i:Nat)(k:St)(H':Hp):Prop:=∃ac:zF,(∃o m,k=[Y (.int c),Y (.ref a),Y (.ref x),Y (.ref d),o,m])/\aJ H0 H'/\H' d=Y (.dT (mx ac))/\ac.length<=i/\∀r∈ac,grR r
section
variable {k:Int}{out:zF}
theorem znr(h:YX g)(k:xA g out):out=g:=jJ k.1 h.up λ⟨p,w⟩=>(k.2 p w).trans {λz=>(vS h.up.nd).mp z.1,λz=>{(vS h.up.nd).mpr z,h.nz _ z}}
end
section
variable {hl:B}{out out' gs:zF}{m:Nat}{oc:Oc}{o o':V}{b:Bool}{X:VK}
theorem zlC(h:xA ac out)(k:xA (out++gs) out'):xA (ac++gs) out':={k.1,λp w=>(k.2 p w).trans (and_congr_left λc=>by
 rw[Wa,Wa];cases zP gs p with
 |some u=>exact tW
 |none=>exact(vS h.1.nd).trans ((h.2 p w).trans (and_iff_left c)))}
theorem zj7(h:YX g):xA (g++giL (CC.take 0)) g:=by show xA (g++[]) g;rw[cL];exact{h.up,λp w=>{λz=>{(vS h.up.nd).mpr z,h.nz _ z},λz=>(vS h.up.nd).mp z.1}}
theorem K2(h:xA ac out)(k:xA ac out'):out=out':=jJ h.1 k.1 λ⟨p,w⟩=>(h.2 p w).trans (k.2 p w).symm
theorem zgo(p:Pl):∀(es:List Dl)(g:zF),((∀e∈es,zP e.gi p=af)/\zP (g++giL es) p=zP g p)\/∃(j:Nat)(e:Dl)(w:Int),es[j]?=Y e/\zP e.gi p=Y w/\zP (g++giL es) p=Y w/\∀(k:Nat)(q:Dl),j<k->es[k]?=Y q->zP q.gi p=af
 |[],g=>.inl {(),by show zP (g++[]) p=_;rw[cL]}
 |e::es,g=>by
  have a:g++giL (e::es)=g++e.gi++giL es:=(cF ..).symm;rw[a];obtain ⟨h1,h2⟩|⟨j,q,w,h1,h2,h3,h4⟩:=zgo p es (g++e.gi)
  .rw[h2,Wa];cases c:zP e.gi p with
   |none=>exact .inl {λy A=>(bn.mp A).elim (λz=>by rw[z];exact c) (h1 y),U}
   |some w=>
    refine .inr {0,e,w,U,c,U,λk q E u=>?_};obtain⟨i,rfl⟩:∃i,k=i+1:={k-1,()};exact h1 q (bU (show es[i]?=Y q from u))
  .refine .inr {j+1,q,w,h1,h2,h3,λk I E u=>?_};obtain⟨i,rfl⟩:∃i,k=i+1:={k-1,()};exact h4 i I () u
theorem zht(h:(CC.take k)[j]?=Y e):j<k/\CC[j]?=Y e:=by
 have l:=(bp.mp h).1;rw[cf] at l;have l:j<k:=by lia
 exact{l,by rwa [cM l] at h}
theorem zlD(k:aY n CC S)(p:Pl):w6 g S.ls p (0+(S.en:Int))=(zP (g++giL (CC.take S.en)) p).getD 0:=by
 unfold w6;obtain ⟨a1,a2⟩|⟨j,e,w,a1,a2,a3,a4⟩:=zgo p (CC.take S.en) g
 .rw[a2];obtain ⟨c,_⟩|⟨y,hy,w,c,b2,_⟩:=wR p (0+(S.en:Int)) S.ls (-1,(zP g p).getD 0)
  .rw[c]
  .have #[i,e,rfl,A,_]:=(k.ly y).mp hy;have q:i<S.en:=by have:(i:Int)<0+(S.en:Int):=b2;lia
   have:=a1 e (bU (i:=i) (by rw[cM q];exact A));rw[show zP e.gi p=Y w from c] at this;cases this
 .have #[I,J]:=zht a1;have E:((j:Int),e.gi)∈S.ls:=(k.ly _).mpr {j,e,U,J,.inl I};rw[a3];obtain ⟨_,c⟩|⟨y,hy,w',c,b2,_,b3,b4⟩:=wR p (0+(S.en:Int)) S.ls (-1,(zP g p).getD 0)
  .have:=c _ E (by show (-1:Int)<(j:Int);lia) (by show (j:Int)<_;lia);rw[show zP e.gi p=Y w from a2] at this;cases this
  .have #[i,e',rfl,A,_]:=(k.ly y).mp hy;have q:i<S.en:=by have:(i:Int)<0+(S.en:Int):=b2;lia
   have O:(j:Int)<=(i:Int):=b4 _ E (by show (j:Int)<_;lia) (λz=>by rw[show zP e.gi p=Y w from a2] at z;cases z);have u:(CC.take S.en)[i]?=Y e':=by rw[cM q];exact A
   have c:zP e'.gi p=Y w':=c;have:i=j:=by refine cp λz=>?_;have:=a4 i e' () u;rw[c] at this;cases this
   rw[this,a1] at u;cases u;rw[c] at a2;cases a2;rw[b3];rfl
theorem zj8(i:aY n CC S)(c:zdq (λp=>w6 g S.ls p (0+(S.en:Int))) ac):xA (g++giL (CC.take S.en)) ac:={c.1,λp w=>(c.2 p w).trans (by
 show w6 g S.ls p (0+(S.en:Int))=w/\w≠0↔_;rw[zlD i];cases zP (g++giL (CC.take S.en)) p with
 |none=>exact{λz=>absurd z.1.symm z.2,λz=>nomatch z.1}
 |some u=>exact{λz=>{congrArg Y z.1,z.2},λz=>{bX z.1,z.2}})}
theorem Ad.table(h:Ad t H x n g CC S N)(q:∀l ac H',aJ H H'->H l=af->aV H' l ac->xA (g++giL (CC.take S.en)) ac->X (.ref l) H'):yT t [.ref x] H X E0:=by have #[b,a,lb,c,G,_]:=h;exact{x,b,a,lb,S.en,n,0,g,CC,S,c,_,U,G.h,G.d,G.o.el,Int.le_refl 0,G.o.few G.gr.le,λl ac H' s hl k i=>q l ac H' s hl k (zj8 G.o i)}
theorem Ad.answers(h:Ad t H x n g CC S N)(q:∀l c H',aJ H H'->H l=af->H' l=Y (.lst c)->Ah H' c (CC.take S.en)->X (.ref l) H'):yQ t [.ref x] H X E0:=by have #[b,a,lb,c,G,_]:=h;exact{x,b,lb,S.en,c,_,U,G.h,λl H' s hl e=>q l c H' s hl e (G.an.ts (.of s))}
theorem Ad.ix(h:Ad t H x n g CC S N):∃b:HAd,H x=Y (.ins t.q00 b.dx (zle b S.en)):=let ⟨b,_,_,_,G,_⟩:=h;{b,G.h.ix}
theorem Ad.few(h:Ad t H x n g CC S N):S.en<=CC.length/\CC.length<=10/\g.length<=5:={h.cc.1.el,h.cc.1.cc,h.cc.2.le}
theorem Js(h:Ad t H x n g CC S N)(k:Nat)(c:xA (g++giL (CC.take k)) out):out.length<=15:=by have q:=zgn c;have i:=K0 (CC.take k);have f:=h.few;rw[bx] at q;rw[cf] at i;lia
theorem zlE:∀(c:yz)(i:Nat)(u w:V),(c.map V.int)[i]?=Y u->(c.map V.int)[i]?=Y w->uY H (m+1) u w:=λc i u w k q=>by rw[k] at q;cases q;rw[br] at k;have #[j,_,rfl]:=cm.mp k;exact .int j
theorem zj9(h:za H o oc)(A:za H o' oc):uY H (m+3) o o':=by
 cases oc with
 |done sa=>
  have #[a,y,rfl,q,E]:=h;have #[I,J,rfl,c,k]:=A;exact .tup q c U (xw (.str _) (xw (.tup E k U (zlE sa)) λi u w z=>nomatch z))
 |off z=>
  have #[a,rfl,q]:=h;have #[I,rfl,c]:=A;exact .tup q c U (xw (.str _) (xw (.str _) λi u w z=>nomatch z))
theorem TpV.ts(h:TpV H k v)(s:TSm H H'):TpV H' k v:=by
 induction h with
 |int i=>exact .int i
 |str x=>exact .str x
 |tup e _ ih=>exact .tup (s _ _ e) ih
theorem zom(h:za H o oc):TpV H (m+3) o:=by
 cases oc with
 |done sa=>
  have #[a,y,rfl,c,k]:=h;refine .tup c λu hu=>?_;obtain rfl|hu:=bn.mp hu
  .exact .str _
  rw[bB.mp hu];refine .tup k λu hu=>?_;have #[i,_,rfl]:=bH.mp hu;exact .int i
 |off z=>
  have #[a,rfl,c]:=h;refine .tup c λu hu=>?_;obtain rfl|hu:=bn.mp hu
  .exact .str _
  rw[bB.mp hu];exact .str _
theorem zon{r:Row}(h:PrAt H v r):TpV H (m+3) v:=by
 have #[a,p,rfl,i,c]:=h;refine .tup i λu hu=>?_;obtain rfl|hu:=bn.mp hu
 .refine .tup c λu hu=>?_;obtain rfl|hu:=bn.mp hu
  .exact .str _
  rw[bB.mp hu];exact .int _
 rw[bB.mp hu];exact .int _
theorem zlF(h:Bl (PrAt H) ys ac):∀y∈ys,TpV H (m+3) y:=λy c=>by have #[i,q]:=cQ c;have #[r,_,k]:=Paired.getP h q;exact zon k
theorem zns(h:Ah H ts es):∀y∈ts,TpV H (m+4) y:=λy q=>by
 have #[i,k]:=cQ q;have c:=(bp.mp k).1;rw[h.1] at c;have #[r,o,rfl,A,z]:=h.2 i y _ k (bd c);refine .tup A λu hu=>?_;obtain rfl|hu:=bn.mp hu
 .exact .int _
 rw[bB.mp hu];exact zom z
theorem DeA.to(h:DeA H lw v e)(c:TSm H H')(k:∀b o,lw b=0->H b=Y o->H' b=Y o):DeA H' lw v e:=by have #[r,o,A,E,z,u,q,i]:=h;exact{r,o,A,E,c _ _ z,u.ts c,q.to c λo e=>k _ _ i e,i}
structure RtF(t:aU)(H:Hp)(x d hl:B)(n:Int)(g:zF)(CC:List Dl)(S:DS)(N:uZ)(lw:At)(ds:LV):Prop where
 hs:Ad t H x n g CC S N
 ow:∀c,lw c≠0->∃o,H c=Y o
 hd:H d=Y (.lst ds)
 pd:Bl (DeA H lw) ds CC
 nh:¬ N hl
 dh:hl≠d
 lh:lw hl≠0
 hh:∃xs,H hl=Y (.lst xs)
theorem RtF.up(R:RtF t H x d hl n g CC S N lw ds)(s:x8 hl H H')(e:H' hl=Y (.lst xs)):RtF t H' x d hl n g CC S N lw ds:=by
 have #[ys,q]:=R.hh;have i:TSm H H':=λc u z=>s c _ (zJ z q ()) z;have k:∀c o,H c=Y o->∃o',H' c=Y o':=λc o z=>by
  by_cases y:c=hl
  .rw[y];exact{_,e}
  .exact{o,s c o y z}
 exact{R.hs.to (λc o y z=>s c o (λw=>R.nh (by rw[<-w];exact y)) z) i k,λc y=>let ⟨o,z⟩:=R.ow c y;k c o z,s _ _ R.dh.symm R.hd,Paired.mapP R.pd λ_ _ z=>z.to i λb o y e=>s b o (λw=>R.lh (by rw[<-w];exact y)) e,R.nh,R.dh,R.lh,_,e}
theorem RtF.same(R:RtF t H x d hl n g CC S N lw ds)(s:aJ H H'):RtF t H' x d hl n g CC S N lw ds:=let ⟨_,e⟩:=R.hh;R.up (λc o _ z=>s c o z) (s _ _ e)
theorem RtF.l0(R:RtF t H x d hl n g CC S N lw ds)(e:H c=af):lw c=0:=cp λz=>by have #[o,y]:=R.ow c z;rw[e] at y;cases y
theorem RtF.at(R:RtF t H x d hl n g CC S N lw ds)(h:i<CC.length):∃v e,ds[i]?=Y v/\CC[i]?=Y e/\DeA H lw v e:=by have l:=bO R.pd;have k:=bd (l:=ds) (i:=i) ();have #[e,q,z]:=Paired.getP R.pd k;exact{_,e,k,q,z}
end
section
variable {hl a7 a8:B}{out:zF}{us vs:LV}{b:Bool}
theorem Y6{R:LV->Hp->Prop}(h:R [] H):zm σ H R:=h
theorem zka{m:Nat}(F:KF K)(R:RtF t H x d hl n g CC S N lw ds)(em:S.en=m+1)(h9:H l=Y (.lst ((Aj g (CC.take S.en)++[bb ""]).map V.str)))(q:∀H',aJ H H'->Q (.bl ae) H') :
  ve K t (mt Q) [Y (.ref x),Y (.ref d),Y (.ref tb),Y (.bl b),Y (.ref hl),Y (.int S.en),o6,o7,o8,Y (.ref l),o10] H:=by
 have #[E,gr]:=R.hs.cc;have el:=E.el;have cc:=E.cc;have #[v,e,hv,he,r,o,gl,rfl,T,ho,hg,_]:=R.at (i:=m) ();have eo:=E.ok e (bU he);have e1:(S.en:Int)-1=(m:Int):=by lia
 have e2:(S.en:Int)=((m+1:Nat):Int):=by rw[em]
 have ht:(CC.take S.en)[m]?=Y e:=by rw[cM ()];exact he
 have hx:((Aj g (CC.take S.en)++[bb ""]).map V.str)[m+1]?=Y (.str (xq (xR (m:Int) e.oc e.gi))):=by have:(dlL (CC.take S.en) 0)[m]?=Y (xq (xR ((0+m:Nat):Int) e.oc e.gi)):=dl_at.mpr {e,ht,U};rw[gy] at this;have z:(Aj g (CC.take S.en))[m+1]?=Y (xq (xR (m:Int) e.oc e.gi)):=this;rw[br,cR (bp.mp z).1,z];rfl
 refine{_,U,_,U,_,_,U,U,d,ds,_,_,U,U,aM.of R.hd,(by rw[e1];exact yy hv),?_};refine{_,U,_,U,l,_,_,_,U,U,aM.of h9,(by rw[e2];exact yy hx),_,U,.inl {(m:Int),e.oc,e.gi,U,{(),()},zgj eo,zgk eo,(λw z=>by unfold Dl.oc at z;cases z),λp v1 g1 H1 A J aa O I=>?_}};refine{_,U,_,_,U,U,_,U,r,_,1,_,U,U,aX.of (A _ _ T),U,_,U,r,_,2,_,U,U,aX.of (A _ _ T),U,sz4,λy hy=>?_};rw[e1];generalize c:upd H1 y _=H2;have #[k,e3]:=uV c hy;exact{_,_,U,.tup (k _ _ I) e3 U (xw (.str _) (xw (.int _) (xw (zj9 (J.ts (.of k)) ((ho.ts (.of A)).ts (.of k))) (xw (Jo (O.same k) ((hg.same A).same k)) λi u w z=>nomatch z)))),λH3 s3=>q H3 (A.trans (k.trans s3))}
theorem zkb(F:KF K)(R:RtF t H x d hl n g CC S N lw ds)(q:∀H',aJ H H'->Q (.bl ae) H') :
  vf K t (mt Q) [Y (.ref x),Y (.ref d),Y (.ref tb),Y (.bl b),Y (.ref hl),Y (.int S.en),o6,o7,o8,o9,o10] H:=by
 have #[c,ix]:=R.hs.ix;have #[ok,gr]:=R.hs.cc;have f:=R.hs.few;have eo:=zb1 ok S.en;have J:=ze8 gr eo;have I:=KZ g (CC.take S.en);rw[cf,eC f.1] at I;have E:fJ (kD (Aj g (CC.take S.en))) (bb "\n")=Aj g (CC.take S.en)++[bb ""]:=zaY λx o=>(J x o).1;refine{_,U,x,_,_,U,ix,U,x,n,g,CC,S,N,U,R.hs,λH1 T=>{U,_,_,U,U,(),zgg (λx o=>(J x o).2) (),by rw[E,bx,dz];lia,λl hl=>?_}};rw[E];generalize c1:upd H1 l _=H2;have #[O,u]:=uV c1 hl;have A:=T.trans O;have k:((Aj g (CC.take S.en)++[bb ""]).map V.str).length=S.en+2:=by rw[bh,bx,I];rfl
 have i:atI ((Aj g (CC.take S.en)++[bb ""]).map V.str) (-1)=Y (.str (bb "")):=by rw[b7];exact atI_last _ _
 refine{_,U,.ref l,_,U,.inl {_,aM.of u,U},_,U,_,_,U,U,U,_,U,zV (by rw[k,Bj (show V.int ((S.en+2:Nat):Int)=V.int ((S.en:Int)+2) from rfl)];rfl) {_,U,1,U,l,_,-1,_,U,U,aM.of u,i,U,_,U,zV (by rw[Bj rfl];rfl) {_,U,U,_,U,?_}}};by_cases z:S.en=0
 .exact yC (Bj (by rw[z];rfl)) (q _ A)
 .exact zV (Bk λy=>z (by have:=V.int.inj y;lia)) (zka (m:=S.en-1) F (R.same A) () u λH' s=>q H' (A.trans s))
theorem zkc(F:KF K)(R:RtF t H x d hl n g CC S N lw ds)(q:∀H',aJ H H'->Q (.bl ae) H') :
  vg K t (mt Q) [Y (.ref x),Y (.ref d),Y (.ref tb),Y (.bl b),Y (.ref hl),Y (.int S.en),o6,o7,o8,o9,o10] H:=by
 have #[c,m]:=R.hs.ix;have f:=R.hs.few;refine{_,U,x,_,_,U,m,U,?_};refine Y6 (R.hs.table λl ac H1 s1 hl ⟨ys,hy,py⟩ k=>{.inl {U,_,aM.of hy},sz2,λp z=>?_});have lr:=Js R.hs _ k;have ly:=bO py;generalize c1:upd H1 p _=H2;have #[T,e2]:=uV c1 z;refine{sz2,λr u=>?_};generalize c2:upd H2 r _=H3;have #[O,e3]:=uV c2 u;refine{l,_,_,U,U,(T.trans O) _ _ hy,yD (),?_};have i:aJ H (upd H3 l (.lst (ys++[V.ref r]))):=λb o e=>by rw[zk (zq e hl)];exact(s1.trans (T.trans O)) _ _ e
 generalize upd H3 l (.lst (ys++[V.ref r]))=H4 at i;have R4:=R.same i;have #[c,m]:=R4.hs.ix;refine{_,U,x,_,_,U,m,U,?_};refine Y6 (R4.hs.answers λl2 E H5 s5 A e5 an=>{.inl {U,_,aM.of e5},_,U,sz2,λp z=>?_});have lt:E.length<=10:=by rw[an.1,cf];lia
 generalize c1:upd H5 p _=H6;have #[J,e6]:=uV c1 z;refine{sz2,λr u=>?_};generalize c2:upd H6 r _=H7;have #[I,e7]:=uV c2 u;refine{l2,_,_,U,U,(J.trans I) _ _ e5,yD (),?_};have S8:aJ H (upd H7 l2 (.lst (E++[V.ref r]))):=λb o e=>by rw[zk (zq (i _ _ e) A)];exact(s5.trans (J.trans I)) _ _ (i _ _ e)
 exact zkb F (R.same S8) λH' s=>q H' (S8.trans s)
def FinP(H:Hp)(hl:B)(hs:LV)(lw:At)(Q:VK):Prop:=∀H' u w,x8 hl H H'->H' hl=Y (.lst (hs++[u,w]))->HeA H' lw u->HeA H' lw w->Q (.bl ae) H'
theorem FinP.up{H':Hp}(q:FinP H hl hs lw Q)(s:x8 hl H H'):FinP H' hl hs lw Q:=λH2 u w c=>q H2 u w λb o z e=>c b o z (s b o z e)
theorem HeA.up{H':Hp}(h:HeA H lw v)(s:x8 hl H H')(z:lw hl≠0)(u:H hl=Y (.lst hs)):HeA H' lw v:=by have #[r,l,o,xs,T,O,J,I,E,A,m,k]:=h;have i:TSm H H':=λc zs e=>s c _ (zJ e u ()) e;exact{r,l,o,xs,T,i _ _ O,s _ _ (λy=>z (by rw[<-y];exact m)) J,s _ _ (λy=>z (by rw[<-y];exact k)) I,E,λy q=>(A y q).ts i,m,k}
theorem zlG(F:KF K)(R:RtF t H x d hl n g CC S N lw ds)(h7:H a7=Y (.lst us))(l7:us.length<=900)(t7:∀y∈us,TpV H 4 y)(z7:lw a7=0)(h8:H a8=Y (.lst vs))(l8:vs.length<=900)(t8:∀y∈vs,TpV H 4 y)(z8:lw a8=0)(T:H hl=Y (.lst hs))(lh:hs.length<=400)(q:FinP H hl hs lw Q) :
  vx K t (mt Q) [Y (.ref x),Y (.ref d),Y (.ref tb),Y (.bl b),Y (.ref hl),Y (.int S.en),o6,Y (.ref a7),Y (.ref a8),o9,o10] H:=by
 have n8:a8≠hl:=λy=>R.lh (by rw[<-y];exact z8);refine{_,U,.inl {U,_,aM.of T},_,U,_,U,_,_,U,.inl (aM.of h7),λl2 A=>?_};have zl:=R.l0 A;generalize c1:upd H l2 _=H1;have #[s1,e1]:=uV c1 A;refine{sz2,λp hp=>?_};generalize c2:upd H1 p _=H2;have #[s2,e2]:=uV c2 hp;have J:=s1.trans s2;have he:HeA H2 lw (.ref p):={p,a7,l2,us,U,e2,J _ _ h7,s2 _ _ e1,l7,λy hy=>(t7 y hy).ts (.of J),z7,zl};refine{hl,hs,_,U,U,J _ _ T,yD (),?_};have s3:x8 hl H2 (upd H2 hl (.lst (hs++[V.ref p]))):=λb o z e=>by rw[zk z];exact e
 have k:upd H2 hl (.lst (hs++[V.ref p])) hl=Y (.lst (hs++[V.ref p])):=zh;generalize upd H2 hl (.lst (hs++[V.ref p]))=H3 at s3 k;have X3:x8 hl H H3:=λb o z e=>s3 b o z (J b o e);have R3:=R.up X3 k;have al:=he.up s3 R.lh (J _ _ T);have ab:TSm H H3:=λc zs e=>X3 c _ (zJ e T ()) e;have E:=X3 _ _ n8 h8;refine{_,U,.inl {U,_,aM.of k},_,U,_,U,_,_,U,.inl (aM.of E),λl4 u=>?_};have aa:=R3.l0 u;generalize c1:upd H3 l4 _=H4;have #[s4,e4]:=uV c1 u;refine{sz2,λi ai=>?_};generalize c2:upd H4 i _=H5;have #[s5,e5]:=uV c2 ai;have m:=s4.trans s5;have aj:HeA H5 lw (.ref i):={i,a8,l4,vs,U,e5,m _ _ E,s5 _ _ e4,l8,λy hy=>((t8 y hy).ts ab).ts (.of m),z8,aa};refine{hl,hs++[.ref p],_,U,U,m _ _ k,yD (by rw[bx,dz];lia),?_};rw[cF,show [V.ref p]++[V.ref i]=[V.ref p,V.ref i] from rfl];have O:x8 hl H5 (upd H5 hl (.lst (hs++[V.ref p,V.ref i]))):=λb o z e=>by rw[zk z];exact e
 have I:upd H5 hl (.lst (hs++[V.ref p,V.ref i])) hl=Y (.lst (hs++[V.ref p,V.ref i])):=zh;generalize upd H5 hl (.lst (hs++[V.ref p,V.ref i]))=H6 at O I;have X6:x8 hl H H6:=λb o z e=>O b o z (m b o (X3 b o z e));have f1:=(al.up (hl:=hl) (hs:=hs++[.ref p]) (λb o _ e=>m b o e) R.lh k).up O R.lh (m _ _ k);have f2:=aj.up O R.lh (m _ _ k);exact zkc F (R.up X6 I) λH' s=>q H' _ _ (λb o z e=>s _ _ (X6 b o z e)) (s _ _ I) (f1.up (hl:=hl) (λb o _ e=>s b o e) R.lh I) (f2.up (hl:=hl) (λb o _ e=>s b o e) R.lh I)
theorem zlH(F:KF K)(R:RtF t H x d hl n g CC S N lw ds)(ht:aV H tb out)(k:xA (g++giL (CC.take S.en)) out)(h7:H a7=Y (.lst us))(l7:us.length<=900)(T:∀y∈us,TpV H 4 y)(O:lw a7=0)(hh:H hl=Y (.lst hs))(lh:hs.length<=400)(q:FinP H hl hs lw Q) :
  vy K t (mt Q) [Y (.ref x),Y (.ref d),Y (.ref tb),Y (.bl b),Y (.ref hl),Y (.int S.en),o6,Y (.ref a7),o8,o9,o10] H:=by have #[c,ix]:=R.hs.ix;refine{_,U,x,_,_,U,ix,U,?_};refine Y6 (R.hs.table λl ac H1 E A J i=>?_);obtain rfl:=K2 k i;have lr:=Js R.hs _ k;have #[ys,z,I]:=id J;have ly:=bO I;refine{_,U,_,U,_,_,U,Jo J (ht.same E),λH2 u=>{_,U,zV U ?_}};have m:=E.trans u;exact zlG F (R.same m) (m _ _ h7) l7 (λy z=>(T y z).ts (.of m)) O (u _ _ z) () (zlF (qg u I)) (R.l0 A) (m _ _ hh) lh (q.up λb o _ e=>m b o e)
theorem zgp(F:KF K)(R:RtF t H x d hl n g CC S N lw ds)(ht:aV H tb out)(aa:xA (g++giL (CC.take S.en)) out)(hh:H hl=Y (.lst hs))(lh:hs.length<=400)(q:FinP H hl hs lw Q) :
  vz K t (mt Q) [Y (.ref x),Y (.ref d),Y (.ref tb),Y (.bl b),Y (.ref hl),Y (.int S.en),o6,o7,o8,o9,o10] H:=by
 have #[c,ix]:=R.hs.ix;have f:=R.hs.few;refine{_,U,x,_,_,U,ix,U,?_};refine Y6 (R.hs.answers λa7 I H1 s1 n7 e7 an=>{_,U,_,U,(S.en:Int),U,(),(),λD hD=>?_});have R1:=R.same s1;have lt:I.length=S.en:=by rw[an.1,cf];lia
 refine X8 (J:=Itr 0 (S.en:Int).toNat) (S.en:Int).toNat (by show S.en<=_;lia) (λτ=>∃o,τ=[o,Y (.ref d)]) (λi ys H=>ys.length=i/\∀(j:Nat) v,ys[j]?=Y v->∃r o e,v=.ref r/\H r=Y (.tup [.int j,o])/\CC[j]?=Y e/\za H o e.oc) (λi ys H H' I h=>{h.1,λj v m=>let ⟨r,o,e,a,b,c,d⟩:=h.2 j v m;{r,o,e,a,I _ _ b,c,d.ts I}}) {_,U} {U,nofun} (λi H _ h=>h) (λH _=>bo _) hD ?_ ?_
 .rintro i v τ ys H4 H5 ⟨o,rfl⟩ k hi A ⟨rfl,rfl⟩;have hi:i<S.en:=hi;rw[rX];have #[v,e,hv,he,r,o,gl,rfl,hr,ho,_]:=R1.at (i:=i) ();refine yC (R:=False) U {_,U,_,U,_,U,d,ds,_,_,U,U,aM.of (k _ _ R1.hd),yy hv,r,_,1,_,U,U,aX.of (k _ _ hr),U,sz2,λp hp=>?_};generalize c2:upd H5 p _=H6;have #[O,e6]:=uV c2 hp;refine{{_,U},{by rw[bx,A.1];rfl,λj w m=>?_},O};obtain c|c:=fM j ys.length
  .rw[cR c] at m;have #[r,o,e,a,b,c,d]:=A.2 j w m;exact{r,o,e,a,O _ _ b,c,d.ts (.of O)}
  .rw[dA c] at m;obtain rfl:j=i:=by have:=(bp.mp m).1;have r1:=A.1;have:j-ys.length<1:=this;lia
   rw[A.1,rV] at m;cases m;exact{p,o,e,U,e6,he,(ho.ts (.of k)).ts (.of O)}
 .intro ys H4 _ A k hq;have ly:ys.length=S.en:=A.1;have E:=an.ts (.of k);refine{_,_,U,.lst (k _ _ e7) hq (lt.trans ly.symm) (λi u w hu hw=>?_),λH5 s5=>{_,U,zV U ?_}}
  .have #[r,o,e,rfl,b,c,dd]:=A.2 i w hw;have li:=(bp.mp hu).1;have #[r',o',rfl,b',ab]:=E.2 i u e hu (by rw[cM ()];exact c);exact .tup b' b U (xw (.int _) (xw (zj9 ab dd) λi u w z=>nomatch z))
  have T:=s1.trans (k.trans s5);exact zlH F (R.same T) (ht.same T) aa ((k.trans s5) _ _ e7) () (zns (E.ts (.of s5))) (R.l0 n7) (T _ _ hh) lh (q.up λb o _ e=>T b o e)
theorem zlI(F:KF K)(R:RtF t H x d hl n g CC S N lw ds)(u:aV H tb out)(i:xA (g++giL (CC.take S.en)) out)(E:H hl=Y (.lst hs))(A:hs.length<=400)(q:FinP H hl hs lw Q) :
  vA K t (mt Q) [Y (.ref x),Y (.ref d),Y (.ref tb),Y (.bl b),Y (.ref hl),Y (.int S.en),o6,o7,o8,o9,o10] H:=by
 refine{_,U,_,U,?_};cases b with
 |false=>exact zV U (zV U (zgp F R u i E A q))
 |true=>
  have #[c,J]:=R.hs.ix;refine yC U {_,U,x,_,_,U,J,U,?_};refine Y6 (R.hs.table λl ac H1 z T O k=>?_);obtain rfl:=K2 i k;refine{_,U,_,_,U,Jo O (u.same z),λH2 I=>{_,U,zV U ?_}};have m:=z.trans I;exact zgp F (R.same m) (u.same m) i (m _ _ E) A (q.up λb o _ e=>m b o e)
theorem zlJ(F:KF K)(R:RtF t H x d hl n g CC S N lw ds)(u:aV H tb g)(hh:H hl=Y (.lst hs))(J:hs.length<=400)(q:FinP H hl hs lw Q) :
  Zk K t (mt Q) [Y (.ref x),Y (.ref d),Y (.ref tb),Y (.bl b),Y (.ref hl),Y (.int S.en),o6,o7,o8,o9,o10] H:=by
 have f:=R.hs.few;refine{_,U,(S.en:Int),U,(),(),qu (λi z H'=>∃tb o6 out,z=[Y (.ref x),Y (.ref d),Y (.ref tb),Y (.bl b),Y (.ref hl),Y (.int S.en),o6,o7,o8,o9,o10]/\aJ H H'/\aV H' tb out/\xA (g++giL (CC.take i)) out) {tb,o6,g,U,aJ.refl _,u,zj7 R.hs.cc.2} ?_ ?_}
 .rintro i z H' E ⟨tb,o6,out,rfl,s,u,c⟩;have E:i<S.en:=E;rw[rX];have A:=R.same s;have #[v,e,O,he,r,o,gl,rfl,T,ho,hg,_]:=A.at (i:=i) ();have lo:=Js A.hs _ c;have lg:=(Zh e).2.2;refine{_,U,_,U,_,U,d,ds,_,_,U,U,aM.of A.hd,yy O,r,_,2,_,U,U,aX.of T,U,tb,gl,out,e.gi,U,u,hg,(),(),λl m H2 I _ hl k=>{l,_,m,U,s.trans I,hl,?_}};rw[zgm he,<-cF];exact zlC c k
 .rintro z H' ⟨tb,o6,out,rfl,s,u,c⟩;exact zlI F (R.same s) u c (s _ _ hh) J (q.up λb o _ e=>s b o e)
end
structure LwC where
 a:B
 tl:B
 hd:B
 hx:B
 dl:B
 hl:B
 ns:yz
 g:zF
 x:Nat->B
 d:Nat->B
 n:Nat->Int
def Mz(l:Nat):Prop:=l=0
def HrA(t:aU)(H:Hp)(C:LwC)(lw:At)(m i:Nat):Prop:=∃(CC:List Dl)(S:DS)(ds:LV),Ad t H (C.x i) (C.n i) C.g CC S (λc=>lw c=10+i)/\H (C.d i)=Y (.lst ds)/\lw (C.d i)=1+i/\Bl (DeA H lw) ds CC/\CC.length<=m
structure u7(K:bE)(t:aU)(H:Hp)(C:LwC)(lw:At)(m:Nat)(hs:LV):Prop where
 sc:∀H' lw',Fr Mz H H' lw lw'->aM K H' C.a (C.ns.map V.int)
 ht:aV H C.tl C.g
 z1:lw C.tl=0
 hd:H C.hd=Y (.lst [.int (C.n 0),.int (C.n 1)])
 z2:lw C.hd=0
 hx:H C.hx=Y (.lst [.ref (C.x 0),.ref (C.x 1)])
 z3:lw C.hx=0
 dl:H C.dl=Y (.lst [.ref (C.d 0),.ref (C.d 1)])
 z4:lw C.dl=0
 hl:H C.hl=Y (.lst hs)
 l3:lw C.hl=3
 he:∀v∈hs,HeA H lw v
 ow:∀c,lw c≠0->∃o,H c=Y o
 nb:∀i,i<2->1<=C.n i/\C.n i<=8
 hr:∀i,i<2->HrA t H C lw m i
section
variable {m m' i:Nat}{hs':LV}
theorem at2(f:Nat->V)(h:i<2):atI [f 0,f 1] (i:Int)=Y (f i):=yy (match i,h with|0,_=>rfl|1,_=>rfl)
theorem Fr.z(F:Fr M H H' lw lw')(m0:M 0):Fr Mz H H' lw lw':={F.ex,λb o z e=>F.kp b o (by rw[show lw b=0 from z];exact m0) e,F.ts,F.al}
theorem Fr.at0(F:Fr M H H' lw lw')(m0:M 0)(z:lw b=0)(e:H b=Y o):H' b=Y o/\lw' b=0:={F.kp b o (by rw[z];exact m0) e,(F.ex b o e).trans z}
theorem DeA.fr(h:DeA H lw v e)(F:Fr M H H' lw lw')(c:M 0):DeA H' lw' v e:=by have #[r,o,E,I,A,u,q,k]:=h;have #[_,z]:=q.has;exact{r,o,E,I,F.ts _ _ A,u.ts F.ts,q.to F.ts λo e=>(F.at0 c k e).1,(F.at0 c k z).2}
theorem HeA.fr(h:HeA H lw v)(F:Fr M H H' lw lw')(c:M 0):HeA H' lw' v:=by have #[r,l,z,xs,O,J,u,q,I,E,o,k]:=h;exact{r,l,z,xs,O,F.ts _ _ J,(F.at0 c o u).1,(F.at0 c k q).1,I,λy A=>(E y A).ts F.ts,(F.at0 c o u).2,(F.at0 c k q).2}
theorem HrA.fr(h:HrA t H C lw m i)(F:Fr M H H' lw lw')(O:M 0)(J:M (10+i))(I:M (1+i))(A:∀c,H c=af->lw' c≠10+i)(E:m<=m'):HrA t H' C lw' m' i:=by
 have #[CC,S,ds,u,q,k,h4,T]:=h;have e:(λc=>lw c=10+i)=λc=>lw' c=10+i:=funext λc=>propext <| by
  cases z:H c with
  |some o=>rw[F.ex c o z]
  |none=>exact{λy=>(by have #[o,w]:=u.ow (d:=c) y;rw[z] at w;cases w),λy=>absurd y (A c z)}
 exact{CC,S,ds,e ▸ u.to (λc o y z=>F.kp c o (by rw[show lw c=10+i from y];exact J) z) F.ts F.al,F.kp _ _ (by rw[k];exact I) q,(F.ex _ _ q).trans k,Paired.mapP h4 λ_ _ z=>z.fr F O,b9 T E}
theorem u7.up(Bp:u7 K t H C lw m hs)(F:Fr M H H' lw lw')(u:M 0)(ow:∀c,lw' c≠0->∃o,H' c=Y o)(hl:H' C.hl=Y (.lst hs'))(he:∀v∈hs',HeA H' lw' v)(hr:∀i,i<2->HrA t H' C lw' m' i):u7 K t H' C lw' m' hs':=
 have k:=λ{b o}=>F.at0 u (b:=b) (o:=o);have ⟨_,ht⟩:=Bp.ht.has
 {λH2 q z=>Bp.sc H2 q ((F.z u).trans z),Bp.ht.to F.ts λ_ e=>(k Bp.z1 e).1,(k Bp.z1 ht).2,(k Bp.z2 Bp.hd).1,(k Bp.z2 Bp.hd).2,(k Bp.z3 Bp.hx).1,(k Bp.z3 Bp.hx).2,(k Bp.z4 Bp.dl).1,(k Bp.z4 Bp.dl).2,hl,(F.ex _ _ Bp.hl).trans Bp.l3,he,ow,Bp.nb,hr}
theorem u7.sq(Bp:u7 K t H C lw m hs):aM K H C.a (C.ns.map V.int):=Bp.sc H lw (.same (aJ.refl _))
theorem u7.same(Bp:u7 K t H C lw m hs)(s:aJ H H'):u7 K t H' C lw m hs:=by have F:Fr (λ_=>True) H H' lw lw:=.same s;exact Bp.up F trivial (λc z=>let ⟨o,e⟩:=Bp.ow c z;{o,s _ _ e}) (s _ _ Bp.hl) (λv k=>(Bp.he v k).fr F trivial) λi q=>(Bp.hr i q).fr F trivial trivial trivial (λc e z=>by have #[o,y]:=Bp.ow c ();rw[e] at y;cases y) (bo _)
theorem u7.more(Bp:u7 K t H C lw m hs)(k:m<=m'):u7 K t H C lw m' hs:={ Bp with hr:=λi q=>let ⟨CC,S,ds,a,b,c,d,e⟩:=Bp.hr i q;{CC,S,ds,a,b,c,d,b9 e k} }
theorem u7.l0(Bp:u7 K t H C lw m hs)(e:H c=af):lw c=0:=cp λz=>by have #[o,y]:=Bp.ow c z;rw[e] at y;cases y
theorem u7.tell(Bp:u7 K t H C lw m hs)(s:x8 C.hl H H')(hl:H' C.hl=Y (.lst hs'))(he:∀v∈hs',HeA H' lw v):u7 K t H' C lw m hs':=by
 have F:Fr (λl=>l≠3) H H' lw lw:={λ_ _ _=>rfl,λb o z e=>s b o (λy=>z (by rw[y];exact Bp.l3)) e,λb q e=>s b _ (zJ e Bp.hl ()) e,λb o e=>by
  by_cases y:b=C.hl
  .rw[y];exact{_,hl}
  .exact{o,s b o y e}}
 exact Bp.up F () (λc z=>let ⟨o,e⟩:=Bp.ow c z;F.al c o e) hl he λi k=>(Bp.hr i k).fr F () (by show 10+i≠3;lia) (by show 1+i≠3;lia) (λc e z=>by have:=Bp.l0 e;lia) (bo _)
open Classical in
noncomputable def lwN(lw:At)(N':uZ)(i:Nat)(c:B):Nat:=if N' c then 10+i else lw c
theorem zb2(f:FrN (λc=>lw c=10+i) N' H H')(k:∀c,H c=af->lw c=0):Fr (λl=>l≠10+i) H H' lw (lwN lw N' i):=by
 refine{λb o e=>?_,λb o z e=>f.kp b o z e,f.ts,f.al};unfold lwN;by_cases c:N' b
 .rw[ao c];obtain z|z:=f.nw b c
  .exact z.symm
  .rw[e] at z;cases z
 .rw[ag c]
theorem zgq(f:FrN (λc=>lw c=10+i) N' H H'):N'=λc=>lwN lw N' i c=10+i:=funext λc=>propext <| by
 unfold lwN;by_cases z:N' c
 .rw[ao z];exact{λ_=>rfl,λ_=>z}
 .rw[ag z];exact{λy=>absurd y z,λy=>f.up c y}
theorem zkd(k:∀c,H c=af->lw c=0)(o:j≠i)(e:H c=af):lwN lw N' i c≠10+j:=by
 unfold lwN;by_cases z:N' c
 .rw[ao z];lia
 .rw[ag z,k c e];lia
theorem u7.op(Bp:u7 K t H C lw m hs)(O:i<2)(f:FrN (λc=>lw c=10+i) N' H H')(h:∃(CC:List Dl)(S:DS)(ds:LV),Ad t H' (C.x i) (C.n i) C.g CC S N'/\H (C.d i)=Y (.lst ds)/\Bl (DeA H lw) ds CC/\CC.length<=m)(k:lw (C.d i)=1+i):u7 K t H' C (lwN lw N' i) m hs:=by
 have l0:∀c,H c=af->lw c=0:=λc=>Bp.l0;have F:=zb2 f l0;have #[CC,S,ds,u,q,J,I]:=h;refine Bp.up F (by show 0≠10+i;lia) (λc z=>?_) (F.kp _ _ (by rw[Bp.l3];lia) Bp.hl) (λv A=>(Bp.he v A).fr F (by show 0≠10+i;lia)) λj E=>?_
 .by_cases y:N' c
  .exact u.ow y
  .unfold lwN at z;rw[ag y] at z;have #[o,e]:=Bp.ow c z;exact F.al c o e
 .by_cases ij:j=i
  .rw[ij];refine{CC,S,ds,?_,F.kp _ _ (by rw[k];lia) q,(F.ex _ _ q).trans k,Paired.mapP J λ_ _ z=>z.fr F (by show 0≠10+i;lia),I};rw[<-zgq f];exact u
  .exact(Bp.hr j E).fr F (by show 0≠10+i;lia) (by show 10+j≠10+i;lia) (by show 1+j≠10+i;lia) (λc e=>zkd l0 ij e) (bo _)
end
def LwS(C:LwC)(lg:Str)(way:Int)(o8 o9 o10 o11 o12 o13 o14 o15:Option V):St:=[Y (.ref C.a),Y (.ref C.tl),Y (.str lg),Y (.ref C.hd),Y (.int way),Y (.ref C.hx),Y (.ref C.dl),Y (.ref C.hl),o8,o9,o10,o11,o12,o13,o14,o15]
section
variable {m k i:Nat}{Bn:VT}
theorem Fr.mono{M c:Nat->Prop}{H':Hp}(h:Fr M H H' lw lw')(k:∀l,c l->M l):Fr c H H' lw lw':={h.ex,λb o z e=>h.kp b o (k _ z) e,h.ts,h.al}
theorem znt(c:Int):c%2=((c%2).toNat:Int)/\(c%2).toNat<2:=by have q:=du c (b:=2) ();have o:=cN c (b:=2) ();lia
theorem u7.cell(q:k<C.ns.length):atI (C.ns.map V.int) (k:Int)=Y (.int C.ns[k]):=yy (by rw[br,bd q];rfl)
theorem zhu(Bp:u7 K t H C lw k hs)(hk:k<C.ns.length)(E:i<2)(q:∀H' lw',u7 K t H' C lw' (k+1) hs->Bn.nx (LwS C lg way (Y (.int k)) (Y (.int i)) o10 o11 o12 o13 o14 o15) H') :
  zdu K t Bn (LwS C lg way (Y (.int k)) (Y (.int i)) o10 o11 o12 o13 o14 o15) H:=by
 have #[CC,S,ds,h1,h2,l1,pd,cl]:=Bp.hr i E;have ld:=bO pd;refine{_,U,_,_,U,U,_,U,?_};by_cases k10:(k:Int)<10
 rotate_left
 .exact zV (Bk k10) (q H lw (Bp.more (gO _)))
 refine yC (Bj k10) {_,U,_,U,C.dl,_,(i:Int),.ref (C.d i),U,U,aM.of Bp.dl,at2 (λj=>.ref (C.d j)) E,.inl {U,_,aM.of h2},_,U,_,U,C.a,_,(k:Int),_,U,U,Bp.sq,u7.cell hk,_,_,U,U,dB,_,U,λv e H1 T ok de=>{C.d i,ds,v,U,U,T _ _ h2,yD (),?_}};have dv:DeA H1 lw v e:=de lw Bp.ow;have ai:=T _ _ h2;generalize c2:upd H1 (C.d i) _=H2;have e2:H2 (C.d i)=Y (.lst (ds++[v])):=by rw[<-c2];exact zh
 have G2:Fr (λl=>l≠1+i) H1 H2 lw lw:={λ_ _ _=>rfl,(λb o z e=>by rw[<-c2,zk (λy=>z (by rw[y];exact l1))];exact e),by rw[<-c2];exact Z0 ai (),by rw[<-c2];exact qN};clear c2;have u:Fr (λl=>l≠1+i) H H2 lw lw:=(Fr.same T).trans G2;have A:(0:Nat)≠1+i:=by lia
 have hx:=(u.at0 A Bp.z3 Bp.hx).1;have dl:=(u.at0 A Bp.z4 Bp.dl).1;have I:=h1.to (λc o y z=>u.kp c o (by rw[show lw c=10+i from y];lia) z) u.ts u.al;have #[b,ix]:=I.ix;have J:=dv.fr G2 A;have #[r,oo,gl,rfl,hr,_]:=id J;have aa:Bl (DeA H2 lw) (ds++[.ref r]) (CC++[e]):=zjF (Paired.mapP pd λ_ _ z=>z.fr u A) (.cons J .nil);have lt:CC.length<10:=by lia
 refine{_,U,_,U,C.hx,_,(i:Int),_,U,U,aM.of hx,at2 (λj=>.ref (C.x j)) E,C.x i,_,_,U,ix,U,_,U,_,U,C.dl,_,(i:Int),_,U,U,aM.of dl,at2 (λj=>.ref (C.d j)) E,1,U,C.d i,_,-1,_,U,U,aM.of e2,atI_last _ _,r,_,0,_,U,U,aX.of hr,U,C.x i,e,C.n i,C.g,CC,S,_,U,I,ok,lt,λH3 N' f h3=>?_};have ab:∀c,H2 c=af->lw c=0:=λc z=>cp λy=>by have #[o,y]:=Bp.ow c y;have #[o',y]:=u.al c o y;rw[z] at y;cases y
 have O:=zb2 f ab;have m3:(0:Nat)≠10+i:=by lia
 have aj:=(O.at0 m3 Bp.z4 dl).1;have e3:=O.kp _ _ (by rw[l1];lia) e2;have F:Fr (λl=>l≠1+i/\l≠10+i) H H3 lw (lwN lw N' i):=(u.mono λl z=>z.1).trans (O.mono λl z=>z.2);have mm:(0:Nat)≠1+i/\(0:Nat)≠10+i:={A,m3};refine{_,U,_,U,C.dl,_,(i:Int),_,U,U,aM.of aj,at2 (λj=>.ref (C.d j)) E,.ref (C.d i),_,U,.inl {_,aM.of e3,U},_,_,U,U,U,_,U,zV ?_ (q H3 (lwN lw N' i) (Bp.up F mm (λc z=>?_) (F.kp _ _ (by rw[Bp.l3];lia) Bp.hl) (λv hv=>(Bp.he v hv).fr F mm) λj hj=>?_))}
 .rw[Bj (congrArg V.int (show (CC.length:Int)=(((ds++[V.ref r]).length:Nat):Int)-1 by rw[bx,dz];lia))];rfl
 .by_cases y:N' c
  .exact h3.ow y
  .unfold lwN at z;rw[ag y] at z;have #[o,e]:=Bp.ow c z;exact F.al c o e
 .by_cases ij:j=i
  .rw[ij];refine{CC++[e],_,ds++[.ref r],(zgq f) ▸ h3,e3,(O.ex _ _ e2).trans l1,Paired.mapP aa λ_ _ z=>z.fr O m3,by rw[bx,dz];lia}
  .exact(Bp.hr j hj).fr F mm {(),()} {(),()} (λc e=>zkd (λc=>Bp.l0) ij e) (gO _)
theorem zhv(Bp:u7 K t H C lw m hs)(hk:k<C.ns.length)(A:i<2)(T:hs.length<=400)(q:∀H' o,x8 C.hl H H'->u7 K t H' C lw m o->o.length=hs.length+2->Bn.nx (LwS C lg way (Y (.int k)) o9 (Y (.int i)) o11 o12 o13 o14 o15) H') :
  KA K t Bn (LwS C lg way (Y (.int k)) o9 (Y (.int i)) o11 o12 o13 o14 o15) H:=by
 have #[CC,S,ds,h1,h2,l1,O,cl]:=Bp.hr i A;have J:=Bp.l3;refine{_,U,_,U,C.hx,_,(i:Int),_,U,U,aM.of Bp.hx,at2 (λj=>.ref (C.x j)) A,_,U,_,U,C.dl,_,(i:Int),_,U,U,aM.of Bp.dl,at2 (λj=>.ref (C.d j)) A,_,U,_,U,_,U,C.a,_,(k:Int),_,U,U,Bp.sq,u7.cell hk,_,_,U,U,dB,_,_,U,U,(),U,_,U,C.x i,C.d i,C.tl,C.hl,_,C.n i,C.g,CC,S,_,lw,ds,hs,U,h1,(λc z=>by have z:lw c=10+i:=z;lia),Bp.ow,h2,O,Bp.ht,Bp.hl,(λz=>by have z:lw C.hl=10+i:=z;lia),(λz=>by rw[z] at J;lia),(λz=>by have:=Bp.z1;rw[z] at J;lia),(),T,λH' u w s e I E=>{_,U,zV U (q H' _ s (Bp.tell s e λv hv=>?_) ?_)}}
 .obtain hv|hv:=bP.mp hv
  .exact(Bp.he v hv).up s () Bp.hl
  .obtain rfl|hv:=bn.mp hv
   .exact I
   .rw[bB.mp hv];exact E
 .rw[bx];rfl
theorem znu{H:Hp}(h:EvV H v):TpV H 4 v:=by
 have #[r,s,is,rfl,e,_]:=h;refine .tup e λu hu=>?_;obtain rfl|hu:=bn.mp hu
 .exact .str _
 .have #[i,_,rfl]:=bH.mp hu;exact .int i
theorem zhw(Bp:u7 K t H C lw m hs)(lh:hs.length<=400)(q:∀H' lw' u o11,u7 K t H' C lw' m u->u.length<=hs.length+1->Bn.nx (LwS C lg way (Y (.int k)) o9 o10 o11 o12 o13 o14 o15) H') :
  zds K t Bn (LwS C lg way (Y (.int k)) o9 o10 o11 o12 o13 o14 o15) H:=by
 refine{_,U,U,_,U,?_};by_cases k10:V.int (k:Int)=V.int 10
 rotate_left
 .exact zV (Bk k10) (q H lw hs _ Bp (gO _))
 have #[CC,S,ds,h1,h2,l1,pd,cl]:=Bp.hr 1 ();have #[b,ix]:=h1.ix;have #[n1,n8]:=Bp.nb 1 ();refine yC (Bj k10) {_,U,C.hx,_,((1:Nat):Int),_,U,U,aM.of Bp.hx,at2 (λj=>.ref (C.x j)) (),C.x 1,_,_,U,ix,U,C.x 1,C.n 1,C.g,CC,S,_,U,h1,n1,n8,λl xs H1 N' S' f nl hl e ev lx _ h3 _=>?_};have O:=Bp.op (i:=1) () f {CC,S',ds,h3,h2,pd,cl} l1;have zl:lwN lw N' 1 l=0:=by unfold lwN;rw[ag nl];exact Bp.l0 hl
 refine{_,U,.inl {U,_,aM.of O.hl},_,U,_,U,_,_,U,.inl (aM.of e),λl2 A=>?_};have I:=O.l0 A;generalize c1:upd H1 l2 _=H2;have #[J,e2]:=uV c1 A;refine{sz2,λp hp=>?_};generalize c2:upd H2 p _=H3;have #[E,e3]:=uV c2 hp;have c:=O.same (J.trans E);have he:HeA H3 (lwN lw N' 1) (.ref p):={p,l,l2,xs,U,e3,(J.trans E) _ _ e,E _ _ e2,lx,λy hy=>(znu (ev y hy)).ts (.of (J.trans E)),zl,I};refine{C.hl,hs,_,U,U,c.hl,yD (),q _ _ (hs++[.ref p]) _ (c.tell (λb o z e=>by rw[zk z];exact e) zh λv hv=>?_) (by rw[bx];exact bo _)};have T:x8 C.hl H3 (upd H3 C.hl (.lst (hs++[V.ref p]))):=λb o z e=>by rw[zk z];exact e
 have l3:=c.l3;obtain hv|hv:=bP.mp hv
 .exact(c.he v hv).up T () c.hl
 .rw[bB.mp hv];exact he.up T () c.hl
theorem zhx(Bp:u7 K t H C lw m hs)(hk:k<C.ns.length)(lh:hs.length<=390)(q:∀H' lw' c o9 o10 o11,u7 K t H' C lw' m c->c.length<=hs.length+5->Bn.nx (LwS C lg way (Y (.int k)) o9 o10 o11 o12 o13 o14 o15) H') :
  zdt K t Bn (LwS C lg way (Y (.int k)) o9 o10 o11 o12 o13 o14 o15) H:=by
 refine{_,U,_,U,C.a,_,(k:Int),_,U,U,Bp.sq,u7.cell hk,_,_,U,U,dB,_,_,U,U,(),?_};have #[e2,hi]:=znt (C.ns[k]/32);rw[e2];generalize (C.ns[k]/32%2).toNat=i at hi;refine{_,U,_,U,_,_,U,U,sz2,λp hp=>?_};rw[show (1:Int)-(i:Int)=((1-i:Nat):Int) by lia];generalize c1:upd H p _=H1;have #[s1,e1]:=uV c1 hp;refine{p,U,{_,aX.of e1},zcB [.int (i:Int),.int ((1-i:Nat):Int)] (λj E H'=>∃o10 c,E=LwS C lg way (Y (.int k)) (Y (.int i)) o10 o11 o12 o13 o14 o15/\u7 K t H' C lw m c/\c.length=hs.length+2*j/\H' p=Y (.tup [.int (i:Int),.int ((1-i:Nat):Int)])) {_,hs,U,Bp.same s1,U,e1} (λ_ _ _ z=>let ⟨_,_,_,_,_,e⟩:=z;aX.of e) ?_ ?_}
 .rintro j v E H' hv ⟨o10,c,rfl,A,J,e'⟩;obtain⟨u,O,rfl⟩:∃u:Nat,u<2/\v=.int (u:Int):=by
   have:=bU hv;obtain z|z:=bn.mp this
   .exact{i,hi,z}
   .exact{1-i,(),bB.mp z}
  have lj:j<2:=(bp.mp hv).1;show KA K t _ (LwS C lg way (Y (.int k)) (Y (.int i)) (Y (.int u)) o11 o12 o13 o14 o15) H';exact zhv A hk O () λH2 o s2 T l2=>{_,o,U,T,(),s2 _ _ (zJ e' A.hl ()) e'}
 .rintro E H' ⟨o10,c,rfl,A,J,_⟩;have J:c.length=hs.length+2*2:=J;exact zhw A () λH2 I o o11 T l2=>q H2 I o _ _ o11 T ()
theorem zhy(Bp:u7 K t H C lw m hs)(u:k<C.ns.length)(I:hs.length<=390)(q:∀H' lw' o o9 o10 o11,u7 K t H' C lw' m o->o.length<=hs.length+5->Bn.nx (LwS C lg way (Y (.int k)) o9 o10 o11 o12 o13 o14 o15) H') :
  zdv K t Bn (LwS C lg way (Y (.int k)) o9 o10 o11 o12 o13 o14 o15) H:=by
 refine{_,U,_,U,C.a,_,(k:Int),_,U,U,Bp.sq,u7.cell u,_,_,U,U,dB,_,_,U,U,(),?_};have #[e2,c]:=znt (C.ns[k]/2);rw[e2];generalize (C.ns[k]/2%2).toNat=i at c;have #[CC,S,ds,A,h2,J,E,cl]:=Bp.hr i c;have #[b,O]:=A.ix;have #[n1,n8]:=Bp.nb i c;have z:0<C.n i:=by lia
 refine{_,U,_,U,C.hx,_,(i:Int),_,U,U,aM.of Bp.hx,at2 (λj=>.ref (C.x j)) c,C.x i,_,_,U,O,U,_,U,_,U,C.a,_,(k:Int),_,U,U,Bp.sq,u7.cell u,_,_,U,U,dB,_,U,_,U,C.hd,_,(i:Int),_,U,U,aM.of Bp.hd,at2 (λj=>.int (C.n j)) c,_,_,U,U,z,C.x i,_,C.n i,C.g,CC,S,_,U,A,du _ (),cN _ z,λv H' N' S' f T=>?_};exact zhx (Bp.op c f {CC,S',ds,T,h2,E,cl} J) u I q
theorem zhz(Bp:u7 K t H C lw k hs)(o:k<C.ns.length)(z:hs.length<=390)(q:∀H' lw' c o9 o10 o11,u7 K t H' C lw' (k+1) c->c.length<=hs.length+5->Bn.nx (LwS C lg way (Y (.int k)) o9 o10 o11 o12 o13 o14 o15) H') :
  KB K t Bn (LwS C lg way (Y (.int k)) o9 o10 o11 o12 o13 o14 o15) H:=by refine{_,U,_,U,C.a,_,(k:Int),_,U,U,Bp.sq,u7.cell o,_,_,U,U,(),?_};have #[A,u]:=znt C.ns[k];rw[A];generalize (C.ns[k]%2).toNat=i at u;exact zhu Bp o u λH' lw' E=>zhy E o z q
end
theorem TpV.alk(h:TpV H k v):uY H k v v:=by
 induction h with
 |int i=>exact .int i
 |str x=>exact .str x
 |tup e _ ih=>
  refine .tup e e U λi x y m c=>?_;rw[m] at c;cases c;exact ih x (bU m)
theorem TpV.succ(h:TpV H k v):TpV H (k+1) v:=by
 induction h with
 |int i=>exact .int i
 |str x=>exact .str x
 |tup e _ ih=>exact .tup e ih
theorem znv{a b:B}{m k:LV}(T:H a=Y (.lst m))(O:H b=Y (.lst k))(c:Ah H m es)(A:Ah H k es):uY H 6 (.ref a) (.ref b):=by refine .lst T O (c.1.trans A.1.symm) λi u w E J=>?_;have q:=(bp.mp E).1;rw[c.1] at q;have I:=bd q;have #[r,o,rfl,b1,c1]:=c.2 i u _ E I;have #[r',o',rfl,b2,c2]:=A.2 i w _ J I;exact .tup b1 b2 U (xw (.int _) (xw (zj9 c1 c2) λi u w z=>nomatch z))
theorem zke{f:Int}(i:pv out)(m:∀x∈out,x.2≠0)(k:zdq (λp=>w6 out [] p f) ac):ac=out:=jJ k.1 i λ⟨p,w⟩=>(k.2 p w).trans (by
 show (zP out p).getD 0=w/\w≠0↔_;rw[<-vS i.nd];cases c:zP out p with
 |none=>exact{λz=>absurd z.1.symm z.2,nofun}
 |some u=>exact{λz=>congrArg Y z.1,λz=>{bX z,m (p,w) (X9 (c.trans z))}})
section
variable {m:Nat}
def HrE(t:aU)(H:Hp)(C:LwC)(lw:At):Prop:=∃(CC:List Dl)(S:DS)(ds:LV),Ad t H (C.x 0) (C.n 0) C.g CC S (λc=>lw c=10+0)/\H (C.d 0)=Y (.lst ds)/\lw (C.d 0)=1+0/\Bl (DeA H lw) ds CC/\CC.length<=m/\S.en=CC.length
theorem HrE.same{H':Hp}(h:HrE (m:=m) t H C lw)(s:aJ H H'):HrE (m:=m) t H' C lw:=by have #[CC,S,ds,o,k,i,c,q,en]:=h;have F:Fr (λ_=>True) H H' lw lw:=.same s;exact{CC,S,ds,o.same s,s _ _ k,i,Paired.mapP c λ_ _ z=>z.fr F trivial,q,en}
theorem zfb(F:HsF K t)(D:DkF K t)(kf:KF K)(Bp:u7 K t H C lw m hs)(E:HrE (m:=m) t H C lw)(q:∀H',Q (.bl ae) H') :
  zaO K t (mt Q) (LwS C lg way o8 o9 o10 o11 o12 o13 o14 o15) H:=by
 have #[CC,S,ds,A,h2,l1,pd,cl,en]:=E;have #[b0,ix]:=A.ix;have #[ok,gr]:=A.cc;have eo:=zb1 ok S.en;have z:atI [V.ref (C.x 0),V.ref (C.x 1)] ((0:Nat):Int)=Y (.ref (C.x 0)):=at2 (λj=>.ref (C.x j)) ();refine{_,U,C.hx,_,((0:Nat):Int),_,U,U,aM.of Bp.hx,z,C.x 0,_,_,U,ix,U,C.x 0,C.n 0,C.g,CC,S,_,U,A,λH1 s1 w dw hw ar nw x dx hx al nx=>?_};have s2:aJ H1 (upd (upd H1 dw (.own w)) w (.ins t.q0h dw [])):=vV hw ar;have T:upd (upd H1 dw (.own w)) w (.ins t.q0h dw []) w=Y (.ins t.q0h dw []):=zh;generalize upd (upd H1 dw (.own w)) w (.ins t.q0h dw [])=H2 at *
 have s3:aJ H2 (upd (upd H2 dx (.own x)) x (.ins t.q00 dx [])):=vV hx al;refine{x,w,dx,dw,1,_,C.g,CC.take S.en,U,gr,eo,zh,s3 _ _ T,(λa e=>.inl (by rw[e])),zq T hx,λH' b a lb ts out sx _ i u an _ dk=>{U,?_}};have S4:aJ H H':=λc o e=>have T:=s2 _ _ (s1 _ _ e);sx c o (zq T hx) (s3 _ _ T);clear sx s3 s2 s1;have lo:=Js A _ i;have O:=A.same S4;have #[b0,ix]:=O.ix;have ey:=u.ix;refine{_,U,x,_,_,U,ey,U,x,b,lb,_,ts,_,U,u,λl H5 J _ e5=>?_};have h5:=O.same J;refine{_,U,C.hx,_,((0:Nat):Int),_,U,U,aM.of (J _ _ (S4 _ _ Bp.hx)),z,C.x 0,_,_,U,J _ _ ix,U,?_};refine Y6 (h5.answers λl' aS H6 s6 _ e6 az=>{_,_,U,znv (s6 _ _ e5) e6 (an.ts (.of (J.trans s6))) az,λH7 s7=>{_,U,yC U ?_}});have S7:=J.trans (s6.trans s7);have k:=u.same S7;have as:=dk.same S7;refine{_,U,x,_,_,U,k.ix,U,x,b,a,lb,_,1,((CC.take S.en).length:Nat),out,[],S0,ts,_,U,k,as,bo _,(),(by show out.length+0<=63;lia),λl8 ac H8 s8 _ aj aa=>?_};obtain rfl:ac=out:=zke i.1 (λr hr=>((i.2 r.1 r.2).mp hr).2) aa;have S8:=S4.trans (S7.trans s8);have h8:=A.same S8;refine{_,U,C.hx,_,((0:Nat):Int),_,U,U,aM.of (S8 _ _ Bp.hx),z,C.x 0,_,_,U,(S7.trans s8) _ _ ix,U,?_};refine Y6 (h8.table λl9 ab H9 s9 _ ai I=>?_);obtain rfl:=K2 i I;exact{_,_,U,Jo (aj.same s9) ai,λaK _=>q aK}
theorem zfc(F:HsF K t)(D:DkF K t)(kf:KF K)(Bp:u7 K t H C lw m hs)(E:HrE (m:=m) t H C lw)(q:∀H',Q (.bl ae) H') :
  zaP K t (mt Q) (LwS C lg way o8 o9 o10 o11 o12 o13 o14 o15) H:=by
 refine{_,U,C.hl,U,{_,aM.of Bp.hl},wP hs (λj c H'=>∃o13 o14,c=LwS C lg way o8 o9 o10 o11 o12 o13 o14 o15/\aJ H H') {_,_,U,aJ.refl _} (λ_ _ _ z=>let ⟨_,_,_,s⟩:=z;aM.of (s _ _ Bp.hl)) ?_ ?_}
 .rintro j v c H' A ⟨o13,o14,rfl,s⟩;have #[r,a,b,xs,rfl,T,O,J,h4,I,_]:=Bp.he v (bU A);refine{r,_,U,aX.of (s _ _ T),U,_,_,U,_,_,U,U,_,U,_,U,_,_,U,.lst (s _ _ O) (s _ _ J) U λi x y o k=>?_,λH2 u=>{_,U,zV U {_,_,U,s.trans u}}};rw[o] at k;cases k;exact((I x (bU o)).ts (.of s)).succ.alk
 .rintro c H' ⟨o13,o14,rfl,s⟩;exact zfb F D kf (Bp.same s) (E.same s) q
theorem zfd{l l2:B}{xs:LV}(F:HsF K t)(D:DkF K t)(kf:KF K)(Bp:u7 K t H C lw m hs)(E:HrE (m:=m) t H C lw)(k1:H l=Y (.lst xs))(k2:H l2=Y (.lst xs))(zl:lw l=0)(aa:lw l2=0)(rf:∀v∈xs,∃r,v=.ref r)(q:∀H',Q (.bl ae) H') :
  zaQ K t (mt Q) (LwS C lg way o8 o9 o10 (Y (.ref l)) (Y (.ref l2)) o13 o14 o15) H:=by
 have #[CC,S,ds,h1,u,l1,T,cl,en]:=E;have #[b,ix]:=h1.ix;have #[n1,n8]:=Bp.nb 0 ();have I:atI [V.ref (C.x 0),V.ref (C.x 1)] ((0:Nat):Int)=Y (.ref (C.x 0)):=at2 (λj=>.ref (C.x j)) ();refine{_,U,C.hx,_,((0:Nat):Int),_,U,U,aM.of Bp.hx,I,C.x 0,_,_,U,ix,U,C.x 0,C.n 0,C.g,CC,S,_,U,h1,n1,n8,λl3 ab H1 N' S' f nl ai e3 ev lx xn o A=>{bQ _,λp hp=>?_}};obtain rfl:=xn en;have L1:=Bp.op (i:=0) () f {CC,S',ds,o,u,T,cl} l1;have J:=zb2 f λc=>Bp.l0;have m0:(0:Nat)≠10+0:=by lia
 have E1:HrE (m:=m) t H1 C (lwN lw N' 0):={CC,S',ds,(zgq f) ▸ o,J.kp _ _ (by rw[l1];decide) u,(J.ex _ _ u).trans l1,Paired.mapP T λ_ _ z=>z.fr J m0,cl,A};have k1:=(J.at0 m0 zl k1).1;have k2:=(J.at0 m0 aa k2).1;generalize c1:upd H1 p _=H2;have #[k,e2]:=uV c1 hp;have L2:=L1.same k;have E2:=E1.same k;have #[CC,S',ds,o,u,l1,T,cl,A]:=id E2;have #[b,ix]:=o.ix;have ld:=bO T;refine{l3,p,[],U,U,aM.of (k _ _ e3),aM.of e2,_,U,zV U {_,U,_,U,l,l2,xs,U,U,aM.of (k _ _ k1),aM.of (k _ _ k2),rf,_,U,zV U {_,U,C.hx,_,((0:Nat):Int),_,U,U,aM.of L2.hx,I,C.x 0,_,_,U,ix,U,C.x 0,C.n 0,C.g,CC,S',_,U,o,λH4 O=>{_,U,C.dl,_,((0:Nat):Int),_,U,U,aM.of (O _ _ L2.dl),at2 (λj=>.ref (C.d j)) (),.ref (C.d 0),_,U,.inl {_,aM.of (O _ _ u),U},U,_,U,zV ?_ (zfc F D kf (L2.same O) (E2.same O) q)}}}};rw[Bj (congrArg V.int (show (S'.en:Int)=(ds.length:Nat) by lia))];rfl
theorem zhA(F:HsF K t)(D:DkF K t)(kf:KF K)(Bp:u7 K t H C lw m hs)(q:∀H',Q (.bl ae) H') :
  zdw K t (mt Q) (LwS C lg way o8 o9 o10 o11 o12 o13 o14 o15) H:=by
 have #[CC,S,ds,h1,E,A,O,cl]:=Bp.hr 0 ();have #[b,ix]:=h1.ix;have #[n1,n8]:=Bp.nb 0 ();refine{_,U,C.hx,_,((0:Nat):Int),_,U,U,aM.of Bp.hx,at2 (λj=>.ref (C.x j)) (),C.x 0,_,_,U,ix,U,C.x 0,C.n 0,C.g,CC,S,_,U,h1,n1,n8,λl xs H1 N' S' f nl hl e ev lx _ T I=>?_};have L1:=Bp.op (i:=0) () f {CC,S',ds,T,E,O,cl} A;have J:=zb2 f λc=>Bp.l0;have m0:(0:Nat)≠10+0:=by lia
 have E1:HrE (m:=m) t H1 C (lwN lw N' 0):={CC,S',ds,(zgq f) ▸ T,J.kp _ _ (by rw[A];decide) E,(J.ex _ _ E).trans A,Paired.mapP O λ_ _ z=>z.fr J m0,cl,I};have zl:lwN lw N' 0 l=0:=by unfold lwN;rw[ag nl];exact Bp.l0 hl
 refine{_,U,_,_,U,.inl (aM.of e),λl2 k=>?_};have o:=L1.l0 k;generalize c1:upd H1 l2 _=H2;have #[u,e2]:=uV c1 k;exact zfd F D kf (L1.same u) (E1.same u) (u _ _ e) e2 zl o (λv hv=>let ⟨r,_,_,z,_⟩:=ev v hv;{r,z}) q
theorem zhB(F:HsF K t)(D:DkF K t)(kf:KF K)(Bp:u7 K t H C lw 0 [])(J:C.ns.length<=63)(q:∀H',Q (.bl ae) H') :
  zdx K t (mt Q) (LwS C lg way o8 o9 o10 o11 o12 o13 o14 o15) H:=by
 refine{_,U,.ref C.a,C.ns.length,U,.inl {_,Bp.sq,(bh ..).symm},(C.ns.length:Int),U,(),(),qu (λk c H'=>∃o8 o9 o10 o11 lw hs,c=LwS C lg way o8 o9 o10 o11 o12 o13 o14 o15/\u7 K t H' C lw k hs/\hs.length<=5*k) {_,_,_,_,_,_,U,Bp,bo _} ?_ ?_}
 .rintro k c H' u ⟨o8,o9,o10,o11,lw,hs,rfl,z,A⟩;have u:k<C.ns.length:=u;rw[rX];show KB K t _ (LwS C lg way (Y (.int k)) o9 o10 o11 o12 o13 o14 o15) H';exact zhz z u () λH2 i o o9 o10 o11 E I=>{_,o9,o10,o11,i,o,U,E,()}
 .rintro c H' ⟨o8,o9,o10,o11,lw,hs,rfl,z,A⟩;exact zhA F D kf z q
end
section
variable {a hd hx x0 x1:B}{ns:yz}{n0 n1:Int}{N0 N1:uZ}
open Classical in
noncomputable def lwB(N0 N1:uZ)(d0 i hl c:B):Nat:=if N0 c then 10 else if N1 c then 11 else if c=d0 then 1 else if c=i then 2 else if c=hl then 3 else 0
theorem zmh{d0 i hl c:B}(h:N0 c):lwB N0 N1 d0 i hl c=10:=by unfold lwB;rw[ao h]
theorem zmi{d0 i hl c:B}(k:¬ N0 c)(h:N1 c):lwB N0 N1 d0 i hl c=11:=by unfold lwB;rw[ag k,ao h]
theorem K3{d0 i hl c:B}(k:¬ N0 c)(h:¬ N1 c):lwB N0 N1 d0 i hl c=if c=d0 then 1 else if c=i then 2 else if c=hl then 3 else 0:=by unfold lwB;rw[ag k,ag h]
theorem zkf{d0 d1 hl c:B}(k:¬ N0 c)(h:¬ N1 c):lwB N0 N1 d0 d1 hl c<4:=by
 rw[K3 k h];by_cases e1:c=d0
 .rw[ao e1];decide
 rw[ag e1];by_cases e2:c=d1
 .rw[ao e2];decide
 rw[ag e2];by_cases e3:c=hl
 .rw[ao e3];decide
 .rw[ag e3];decide
theorem zhC(F:HsF K t)(D:DkF K t)(kf:KF K)(hS:aM K H0 a (ns.map V.int))(hn:ns.length<=63)(s:aJ H0 H)(sa:∀o,H0 a=Y o->¬ N0 a/\¬ N1 a)(ht:aV H tl g)(hh:H hd=Y (.lst [.int n0,.int n1]))(aa:H hx=Y (.lst [.ref x0,.ref x1]))(b0:1<=n0/\n0<=8)(b1:1<=n1/\n1<=8)(h0:Ad t H x0 n0 g [] S0 N0)(h1:Ad t H x1 n1 g [] S0 N1)(nn:∀c,N0 c->¬ N1 c)(t0:¬ N0 tl/\¬ N1 tl)(al:¬ N0 hd/\¬ N1 hd)(ab:¬ N0 hx/\¬ N1 hx)(q:∀H',Q (.bl ae) H') :
  zdy K t (mt Q) [Y (.ref a),Y (.ref tl),Y (.str lg),Y (.ref hd),Y (.int way),Y (.ref hx),o6,o7,o8,o9,o10,o11,o12,o13,o14,o15] H:=by
 refine{bQ _,λd0 E=>?_};generalize c1:upd H d0 _=H1;have #[s1,e1]:=uV c1 E;refine{bQ _,λd1 T=>?_};generalize c2:upd H1 d1 _=H2;have #[s2,e2]:=uV c2 T;refine{sz2,λdl A=>?_};generalize c3:upd H2 dl _=H3;have #[O,e3]:=uV c3 A;refine{bQ _,λhl m=>?_};generalize c4:upd H3 hl _=H4;have #[s4,e4]:=uV c4 m;have S2:=s1.trans s2;have S3:=S2.trans O;have J:=S3.trans s4;have I:∀ {c:B},H c=af->¬ N0 c/\¬ N1 c:=λe=>{λz=>(by have #[o,y]:=h0.ow z;rw[e] at y;cases y),λz=>(by have #[o,y]:=h1.ow z;rw[e] at y;cases y)};have f1:H d1=af:=s1.free T;have f2:H dl=af:=S2.free A;have f3:H hl=af:=S3.free m;have aj:d1≠d0:=(zq e1 T).symm;have l0:hl≠d0:=(zq ((s2.trans O) _ _ e1) m).symm;have l1:hl≠d1:=(zq (O _ _ e2) m).symm;have u:∀ {c:B}{o:HO},H c=Y o->¬ N0 c/\¬ N1 c->lwB N0 N1 d0 d1 hl c=0:=λ{c o} e z=>by rw[K3 z.1 z.2,ag (zq e E),ag (zq e f1),ag (zq e f3)]
 have Bp:u7 K t H4 {a,tl,hd,hx,dl,hl,ns,g,λi=>match i with|0=>x0|_=>x1,λi=>match i with|0=>d0|_=>d1,λi=>match i with|0=>n0|_=>n1} (lwB N0 N1 d0 d1 hl) 0 []:=by
  have #[ox,ai]:=ht.has;refine{λH' lw' F=>?_,ht.same J,u ai t0,J _ _ hh,u hh al,J _ _ aa,u aa ab,s4 _ _ e3,?_,e4,?_,(),λc z=>?_,λi hi=>?_,λi hi=>?_}
  .have k:∀o,H0 a=Y o->H' a=Y o:=λo e=>F.kp a o (u (s _ _ e) (sa o e)) (J _ _ (s _ _ e));obtain (h|⟨o,h⟩)|h:=hS
   .exact .inl (.inl (k _ h))
   .exact .inl (.inr {o,k _ h})
   .exact .inr h
  .rw[K3 (I f2).1 (I f2).2,ag (zq ((s2) _ _ e1) A).symm,ag (zq e2 A).symm,ag (zq e3 m)]
  .rw[K3 (I f3).1 (I f3).2,ag l0,ag l1,ao rfl]
  .by_cases y0:N0 c
   .have #[o,e]:=h0.ow y0;exact{o,J _ _ e}
   by_cases y1:N1 c
   .have #[o,e]:=h1.ow y1;exact{o,J _ _ e}
   rw[K3 y0 y1] at z;by_cases c1:c=d0
   .rw[c1];exact{_,(s2.trans (O.trans s4)) _ _ e1}
   by_cases c2:c=d1
   .rw[c2];exact{_,(O.trans s4) _ _ e2}
   by_cases c3:c=hl
   .rw[c3];exact{_,e4}
   rw[ag c1,ag c2,ag c3] at z;exact absurd U z
  .match i,hi with
   |0,_=>exact b0
   |1,_=>exact b1
  .match i,hi with
   |0,_=>
    refine{[],S0,[],?_,(s2.trans (O.trans s4)) _ _ e1,?_,.nil,bo _}
    .rw[show (λc=>lwB N0 N1 d0 d1 hl c=10+0)=N0 from funext λc=>propext {λz=>cp λy=>?_,λz=>zmh z}]
     .exact h0.same J
     .by_cases y1:N1 c
      .rw[zmi y y1] at z;cases z
      .have:=zkf (d0:=d0) (d1:=d1) (hl:=hl) y y1;lia
    .show lwB N0 N1 d0 d1 hl d0=1;rw[K3 (I E).1 (I E).2,ao rfl]
   |1,_=>
    refine{[],S0,[],?_,(O.trans s4) _ _ e2,?_,.nil,bo _}
    .rw[show (λc=>lwB N0 N1 d0 d1 hl c=10+1)=N1 from funext λc=>propext {λz=>cp λy=>?_,λz=>zmi (λy=>nn c y z) z}]
     .exact h1.same J
     .by_cases y0:N0 c
      .rw[zmh y0] at z;cases z
      .have:=zkf (d0:=d0) (d1:=d1) (hl:=hl) y0 y;lia
    .show lwB N0 N1 d0 d1 hl d1=2;rw[K3 (I f1).1 (I f1).2,ag aj,ao rfl]
 exact zhB F D kf Bp hn q
theorem zkg(c:Int):1<=1+c%8/\1+c%8<=8:=by have k:=du c (b:=8) ();have i:=cN c (b:=8) ();lia
theorem zhD(F:HsF K t)(D:DkF K t)(kf:KF K)(J:aM K H a (ns.map V.int))(I:ns.length<=63)(hb:∀i∈ns,Cb i)(ht:aV H tl g)(gr:YX g)(q:∀H',Q (.bl ae) H') :
  zdz K t (mt Q) [Y (.ref a),Y (.ref tl),Y (.str (kD (Aj g []))),o8,o9,o10,o6,o7,o8,o9,o10,o11,o12,o13,o14,o15] H:=by
 refine{_,U,a,ns,0,U,J,I,hb,λc H1 s1 _=>{_,_,U,U,(),_,_,U,U,_,U,a,ns,0,U,J.mono s1,I,hb,λc2 H2 s2 _=>{_,_,U,U,dB,_,_,U,U,(),_,_,U,U,sz2,λhd ai=>?_}}};have b0:=zkg c;have b1:=zkg (c2/8);generalize 1+c%8=n0 at *
 generalize 1+c2/8%8=n1 at *
 have S2:=s1.trans s2;generalize c3:upd H2 hd _=H3;have #[s3,e3]:=uV c3 ai;have S3:=S2.trans s3;have al:atI [V.int n0,V.int n1] ((0:Nat):Int)=Y (.int n0):=yy rfl;have aj:atI [V.int n0,V.int n1] ((1:Nat):Int)=Y (.int n1):=yy rfl;refine{_,U,a,ns,0,U,J.mono S3,I,hb,λc4 H4 s4 _=>{_,_,U,U,dB,?_}};generalize c4/64=way;have O:=s4 _ _ e3;refine{_,U,_,U,hd,_,((0:Nat):Int),_,U,U,aM.of O,al,_,U,_,_,U,U,(),g,n0,_,U,gr,λx0 N0 H5 E aa h0=>?_};refine{_,U,_,U,hd,_,((1:Nat):Int),_,U,U,aM.of (E _ _ O),aj,_,U,_,_,U,U,dB,_,_,U,U,(),g,n1,_,U,gr,λx1 N1 H6 T m h1=>{sz2,λhx k=>?_}};generalize c7:upd H6 hx _=H7;have #[A,e7]:=uV c7 k;have S4:=S3.trans s4;have S7:=S4.trans (E.trans (T.trans A));have no:∀ {c:B}{o:HO},H4 c=Y o->¬ N0 c/\¬ N1 c:=λe=>{aa _ _ e,m _ _ (E _ _ e)};have #[ox,ab]:=ht.has;have u:=h0.same T;exact zhC F D kf J I S7 (λo e=>no (S4 _ _ e)) (ht.same S7) ((E.trans (T.trans A)) _ _ O) e7 b0 b1 (u.same A) (h1.same A) (λc z=>let ⟨o,e⟩:=h0.ow z;m c o e) (no (S4 _ _ ab)) (no O) {λz=>(by have #[o,y]:=u.ow z;rw[k] at y;cases y),λz=>(by have #[o,y]:=h1.ow z;rw[k] at y;cases y)} q
theorem zlK{m:LV}{_E:XK}(F:HsF K t)(D:DkF K t)(kf:KF K)(h:sp_law K m H Q _E) :
  zjA K t (mt Q) (zZZ 16 m) H:=by
 have #[a,ns,rfl,I,A,E,q]:=h;refine{_,U,a,ns,1,U,I,A,E,λc H1 s1 _=>{_,_,U,U,dB,sz2,λp hp=>?_}};generalize c2:upd H1 p _=H2;have #[T,e2]:=uV c2 hp;have nm:Ap H2 p [bb "a",bb "b"]:={e2,λw hw=>by
  obtain rfl|hw:=bn.mp hw
  .exact zj1
  .rw[bB.mp hw];lia}
 refine{_,p,_,U,nm,U,λl tab H3 O _ z o k l5=>?_};have J:YX tab:={{o,(),λr i=>{(k r i).1,(k r i).2.1}},o,l5,λr i=>(k r i).2.2};refine{_,U,l,tab,U,z,J,λH4 u=>?_};exact zhD F D kf (I.mono (s1.trans (T.trans (O.trans u)))) A E (z.same u) J q
end
end
abbrev Ba(P:aq)(w:ax)(K:bE)(i:Ak)(c:au):=bv P w K i c (CX1 P w)
section
variable {P:aq}{w:ax}{K:bE}{mg:Ak}{base:au}{t:aU}(T:Txt K mg t)
include T
theorem Yz:Ba P w K mg base 1 t.a0 t.d0 ["cell","many"] (Qu):=by refine T.g0.f.okA q0k λk H Q E h=>?_;have #[c,m,rfl,i,q]:=h;exact{U,λ_ _ _ _ o=>{Yu K t,(zb (zu 2 q0k.nd (zT zc)) (zb (zu 3 q0k.nd (zE yO (zE yS (Z 0) zg) zg)) (zb (zu 4 q0k.nd (zE yO (zE yS (zE xj (Z 0) zg) zg) zg)) (zb (y8 cn U (kN U T.q0q (L (Z 1) zc)) (zY 5 q0k.nd) (zb (zu 3 q0k.nd (zE yS (zE yO (zE yO (zE jX (Z 3) (Z 3)) (zE jX zg (Z 4))) (Z 5)) zg)) (zb (zu 4 q0k.nd (zE yS (zE yO (zE yO (zE jX (Z 4) (Z 3)) (zE jX zg (Z 3))) zg) zg)) (zd (zL (yG bD bR bT ye (Z 2) (L (zE yO (zE jX (Z 3) zg) (Z 4)) zc))))))) (zd (zo (Z 2))))))),KJ (b9 i ()) q}}
theorem Z3:Ba P w K mg base 1 t.a1 t.d1 ["number"] (Kk):=by
 refine T.g1.f.okA Kf λm H Q E h=>{?_,λ_ _ _ _ o=>{_,(zb (zN (zx yI (zE yS (Z 0) zg) zg (zC _)) (zd (zo (zE jD (zE yS (zE jX (Z 0) (zE Wq zg zg)) (zE yO (zE jX zg (zE Wq zg zg)) zg)) (zE Wq zg zg))))
   zA) (zd (zo (zE jD (zE yS (zE xj (Z 0) zg) zg) zg)))),by
   have #[n,rfl,z,u,q]:=h;have k:=zf0 (j:=30) () ();have c:(10:Int)^(30:Int).toNat=1000000000000000000000000000000:=by lia
   have i:(1000000007:Int)^(3:Int).toNat=1000000021000000147000000343:=by lia
   refine{_,U,_,_,U,U,(),U,_,U,zme (λ_=>{_,U,_,_,U,U,{(),(),()},_,_,U,U,mB () () (by rw[i];lia) (by rw[i];lia),_,_,U,U,k,_,_,U,U,mB () () (by rw[c];lia) (by rw[c];lia),_,_,U,U,_,_,U,U,by rw[c];show (0:Int)<2*1000000000000000000000000000000+1;decide,_,_,U,U,k,_,_,U,U,?_}) λ_=>{_,U,_,_,U,U,dB,_,_,U,U,(),_,_,U,U,q _ _ (inW_iff.mpr ()) (aJ.refl _)}};rw[c,i];exact q _ _ zne (aJ.refl _)}}
 have #[n,rfl,_]:=h;rfl
theorem QH:Ba P w K mg base 2 t.a2 t.d2 ["cell","shelves"] (kF):=by
 refine T.g2.f.okA q0r λvs H Q E h=>{?_,λ_ _ _ _ m=>{_,(zb (zu 2 q0r.nd (bc (Yz T) T.g0 m zj (L (Z 0) (L zg zc)))) (zb (zd7 (i:=3) q0r.nd U (uF U) kP) (zb (y8 cn U (kN U T.q0q (L (zE yS (Z 0) zg) zc)) (zY 4 q0r.nd) (zb (zu 5 q0r.nd (bc (Z3 T) T.g1 m zj (L (zw zH (Z 2) (zE yO (Z 4) zg)) zc))) (zd (zN (zx wN (Z 5) zg (zC _)) (zd (ju (xc m) (Z 3) (zR (L (zw zH (Z 1) (zE yS (zw zH (Z 2) (Z 4)) zg)) (L (zE yS (zE xj (zw zH (Z 2) (Z 4)) zg) zg) zc))) (Z 5) U))
    zA)))) (zd (zo (wV U (osc:=zi qy) (N:=["cell","shelves","xs","found","k","worth"]) (xs:=["place"]) (ix:=[3]) () (yU (zK (Xq U) U T.q10 kT (L (Z 3) zc))) (λ_ _ _ _=>(xh (i:=0) (show eG (["place","found"]:zQ) from ()) U (iy U) (.inr U))) (λ_ _ _ _=>wu) (λ_ _ _ _=>(zR (L (Z 0) (L (jt (xc m) (Z 1) (Z 0) (λ_ _=>rfl)) zc)))))))))),by
   have #[c,a,ws,rfl,h1,h2,q]:=h;refine{_,U,c,10,U,(),λx ds H1 s1 fx hx ld od d hd=>?_};have g1:=du c (b:=6) ();have g2:=cN c (b:=6) ();have I:=hX (o:=HO.dT []) d hd;have S2:=s1.trans I;have fd:=yi s1 hd;refine{_,U,_,_,U,U,(),c%6,U,(),(),qu (tbI c a x d H1) {[],{_,_,U},I,zh,bo _,nofun} ?_ ?_}
   .rintro i σ H' hi ⟨ac,⟨o1,o2,rfl⟩,s,hD,hl,m⟩;rw[rX];have lm:(ds.map V.int).length=ds.length:=bh ..;have O:aM K H' x (ds.map V.int):=aM.of (s _ _ hx);have aa:=h1.same (s1.trans s);have i6:i<6:=by lia
    have ab:∀ {j:Nat},j<10->atI (ds.map V.int) ((j:Nat):Int)=Y (.int (ds.getD j 0))/\okD (ds.getD j 0):=λ{j} hj=>by
     have hj:j<ds.length:=by lia
     have e:ds.getD j 0=ds[j]:=by rw[bA,bd hj];rfl
     exact{yy (by rw[br,bd hj,e];rfl),by rw[e];exact od _ (c9 hj)}
    have #[e5,o5]:=ab (j:=i+5) ();have #[e0,o0]:=ab (j:=i) ();generalize ds.getD (i+5) 0=u at *
    generalize ds.getD i 0=v at *
    refine{_,U,_,U,_,_,U,U,x,_,((i+5:Nat):Int),_,U,U,O,e5,u,U,o5.1,o5.2,λw H2 hw I=>{_,U,U,_,U,?_}};by_cases w0:w=0
    .exact zV (by rw[w0];rfl) {ac,{_,_,U},s.trans I,I _ _ hD,(),m}
    refine yC (by rw[Bk (λz=>w0 (V.int.inj z))];rfl) ?_;have #[sh,al,_,aj]:=zjB (aa.same I) 2 h2 () v;have J:=O.mono I;refine{_,U,_,U,_,U,_,U,_,U,x,_,i,_,U,U,J,e0,_,_,U,U,(),a,_,v%2,_,U,U,aM.of (aa.same I).1,al,_,U,_,U,x,_,i,_,U,U,J,e0,_,_,U,U,dB,_,_,U,U,(),(),λp hp=>?_};have s5:=hX (o:=HO.tup [V.str sh,V.int (v/2%3)]) p hp;have S5:=I.trans s5;have lD:=jv ac;refine{d,_,U,DPut.t (k:=zD (sh,v/2%3)) (S5 _ _ hD) zh (dN (by lia:_<=900) ()),ac++[((sh,v/2%3),w)],{_,_,U},vh (s.trans S5) hd,?_,by simp;lia,?_}
    .rw[zcN];exact zh
    .intro z hz;obtain hz|hz:=bP.mp hz
     .exact m z hz
     .rw[bB.mp hz];have g3:=du (v/2) (b:=3) ();have g4:=cN (v/2) (b:=3) ();exact{{aj,(by show _<=v/2%3;lia),by show v/2%3<=_;lia},zmg hw,λz=>w0 z}
   .rintro σ H' ⟨ac,⟨o1,o2,rfl⟩,s,hD,hl,m⟩;have lD:=jv ac;refine zmc (ac:=ac) U U hD () (λp q0 w H' A Bo hw _ a _=>yC (P:=A H') (R:=Bo H') U (a (m _ (X9 hw)).2.2)) λl ai H3 s3 an ho T lo=>?_;have S:=s1.trans s;exact q l ai H3 (S.trans s3) (yi S an) ho T.1 (λr h=>m _ (X9 ((T.2 r.1 r.2).mp h).1)) ()}}
 have #[c,a,ws,rfl,_]:=h;rfl
theorem K4:Ba P w K mg base 1 t.a3 t.d3 ["lines"] (Ko):=by
 refine T.g3.f.okA zeP λvs H Q E h=>{?_,λ_ _ _ _ hr=>{_,(zd (zo (yG cX rY rZ zfD zI (L (wV U (osc:=zi WF) (N:=["lines"]) (xs:=["line"]) (ix:=[]) () (yU (Z 0)) (λ_ _ _ _=>(xh (i:=0) (show eG (["line"]:zQ) from ()) U (iy U) (.inr U))) (λ_ _ _ _=>wu) (λ_ _ _ _=>(zE wE (Z 0) zI))) zc)))),by
   have #[l,c,rfl,u,h2,O,q]:=h;refine{U,_,U,l,U,{_,aM.of u},λD hD=>?_};refine X8 (J:=Itl K l) c.length () (λA=>∃o,A=[o]) (λi ys _=>ys=((c.take i).map λx=>x++Ag).map V.str) (λ_ _ _ _ _ h=>h) {_,U} U (λi H s h=>{_,_,aM.of (s _ _ u),bd (by rw[bh];exact h)}) (λH s=>{_,aM.of (s _ _ u),by rw[bh];exact bo _}) hD ?_ ?_
   .rintro i v A ys H4 H5 ⟨o,rfl⟩ z hi m ⟨rfl,k⟩;have k:=k _ (aM.of (z _ _ u));rw[br] at k;have #[x,I,rfl]:=cm.mp k;have lx:=(O x (bU I)).1;refine yC (R:=False) U {_,U,x,_,U,U,yf (by rw[show (bb "\n").length=1 from by lia];lia),{_,U},?_,aJ.refl _};rw[m,dY,I,b7,b7];rfl
   .intro ys H4 _ m z hq;rw[f8] at m;subst m;refine{_,D,_,U,U,aM.of hq,?_,by rw[k9,zdW];exact q _ z};have:=Jj (bb "") (c.map λx=>x++Ag) 0;unfold zes;rw[this,show (bb "").length=0 from by lia];have:∀c:zQ,(∀x∈c,x.length<=20000/\Asc x)->((c.map λx=>x++Ag).map (·.length)).sum<=20001*c.length:=λc=>by
     induction c with
     |nil=>intro _;exact bo _
     |cons x c ih=>
      intro h;have:=ih λy hy=>h y (bw _ hy);have:=(h x bu).1;simp only[bC,gj,bG];rw[xk,show Ag.length=1 from by lia];lia
    have:=this c O;exact mH (yD ())}}
 have #[l,c,rfl,_]:=h;rfl
theorem VO:Ba P w K mg base 1 t.a4 t.d4 ["body"] (j8):=by refine T.g4.f.okA q1l λm H Q E h=>?_;have #[z,rfl,k,c,q]:=h;exact{U,λ_ _ _ _ o=>{VG K t,(zb (zu 1 q1l.nd (zK (zgU U) U T.q31 zmE (L (wV U (osc:=zi YM) (N:=["body","total"]) (xs:=["at","sign"]) (ix:=[]) () (zjk U T.q2d (L (Z 0) zc)) (λ_ _ _ _=>(kt U (yE (xh (i:=0) (show eG (["at","sign"]:zQ) from ()) U (iy U)) (yE (xh (i:=1) (show eG (["at","sign"]:zQ) from ()) U (iy U)) vP)))) (λ_ _ _ _=>wu) (λ_ _ _ _=>(zE jX (zK zhS U T.q2z zmD (L (Z 1) zc)) (zE yO zg (zE yS (Z 0) (xv U T.g_MOST_FACTOR {_,U})))))) zc))) (zd (zo (yG cX PySem.F.slot_str_zfill PySem.F.type_str_zfill zjl (zW wS U T.q0j Zr (L (zE yS (Z 1) (xv U T.g_CHECK_BY {_,U})) zc)) (L (xv U T.g_CHECK_FIGURES {_,U}) zc))))),zbN k c q}}
theorem K5:Ba P w K mg base 2 t.a5 t.d5 ["words"] (YT):=by
 refine T.g5.f.okA q1m λk H Q E h=>{?_,λ_ _ _ _ c=>{YZ K t,(zb (zu 1 q1m.nd (yG cX rY rZ zfD zI (L (Z 0) zc))) (zd (zo (zE wE (zE wE (Z 1) zI) (bc (VO T) T.g4 c zj (L (Z 1) zc)))))),zdL h}}
 have #[a,i,rfl,_]:=h;rfl
theorem vO:Ba P w K mg base 1 t.a6 t.d6 ["worth"] (jM):=by refine T.g6.f.okA zeQ λc H Q E h=>{?_,λ_ _ _ _ i=>{Y0 K t,(zd (zo (zW wS U T.q0j Zr (L (Z 0) zc)))),zdG h}};have #[w,rfl,_]:=h;rfl
theorem Wf:Ba P w K mg base 2 t.a7 t.d7 ["rows"] (XU):=by
 refine T.g7.f.okA q11 λi H Q E h=>{?_,λ_ _ _ _ c=>{X2 K t,(zb (zu 1 q11.nd (zT zc)) (zb (y8 cn U (yU (Z 0)) (kt U (yE (zY 2 q11.nd) (yE (zY 3 q11.nd) vP))) (zd (zL (yG bD lH lJ Wu (Z 1) (L (zT (L (zw zO (Z 2) zg) (L (bc (vO T) T.g6 c zj (L (zw zO (Z 2) zg) zc)) (L (bc (vO T) T.g6 c zj (L (Z 3) zc)) zc)))) zc))))) (zd (zo (Z 1))))),QD h}}
 have #[a,ac,rfl,_]:=h;rfl
theorem zb3:Ba P w K mg base 3 t.a8 t.d8 ["rank","table"] (XV):=by
 refine T.g8.f.okA zbv λvs H Q E h=>{?_,λ_ _ _ _ i=>{_,(zd (zo (bc (K5 T) T.g5 i zj (L (zE Zo (zT (L zI (L (bc (vO T) T.g6 i zj (L (Z 0) zc)) (L zI zc)))) (bc (Wf T) T.g7 i zj (L (Z 1) zc))) zc)))),by
   have #[r,g,c,rfl,u,h5,m,q]:=h;have hl:=m.le;have hw:(Aq c).length<=200:=by rw[jB];lia
   have m3:3<=Bb:=by rw[cu];decide
   refine{_,U,r,U,vB (zjN u),λH1 O=>{m3,λb hb=>?_}};generalize c2:upd H1 b _=H2;have #[J,g2]:=je c2 hb;have A:=O.trans J;refine{_,U,g,c,U,h5.same A,m,λl7 H7 o _ g7=>{b,l7,_,_,U,U,o _ _ g2,g7,yf (by rw[bh];show 3+_<=_;lia),λz k=>{z,jq r c,U,zh,zbP u m,?_,λH9 I=>q H9 ((A.trans o).trans ((hX z k).trans I))}}};rw[jq,bG,bG,bG];lia}}
 have #[r,g,c,rfl,_]:=h;rfl
theorem zfe:Ba P w K mg base 4 t.a9 t.d9 ["table"] (Kr):=by
 refine T.g9.f.okA zeR λz H Q E h=>{?_,λ_ _ _ _ c=>{_,(zd (zo (bc (K4 T) T.g3 c zj (L (zT (L (bc (zb3 T) T.g8 c zj (L zg (L (Z 0) zc))) zc)) zc)))),by have #[l,g,rfl,u,i,q]:=h;refine{_,U,0,l,g,U,{(),()},u,i.rs,λA k=>{sz1,λp o=>?_}};have mk:=(zgl i).1;exact{p,[xq (jq 0 g)],U,zh,by show 1<=20;decide,λx m=>by rw[bB.mp m];exact{mk.1,mk.2.1},λH' s=>q H' (k.trans ((hX p o).trans s))}}}
 have #[l,g,rfl,_]:=h;rfl
theorem wz:Ba P w K mg base 1 t.a10 t.d10 ["self"] (Zc t):=by
 refine T.g10.f.okA V3 λk H Q E h=>?_;have #[d,dx,a,n,f,en,rfl,i,c,q]:=h;exact{U,λ_ _ _ _ m=>{_,(zd (zo (zE yO (zy (Z 0) U) (zK yd U T.q06 yP (L (zy (Z 0) U) zc))))),by have F:=(dkF T);have h:=i;exact zX h F.cD F.d3 U U (zX h F.cD F.d9 U U {.ref a.en,en.length,U,.inl {_,aM.of c,U},_,_,U,U,q})}}
theorem km:Ba P w K mg base 1 t.a11 t.d11 ["self"] (kg t):=by
 refine T.g11.f.okA XS λk H Q E h=>?_;have #[d,dx,a,n,f,cs,rfl,i,c,q]:=h;exact{U,λ_ _ _ _ m=>{_,(zd (zo (zE yO (zy (Z 0) U) (zK yd U T.q06 yP (L (zy (Z 0) U) zc))))),by have F:=(dkF T);have h:=i;exact zX h F.cD F.d3 U U (zX h F.cD F.d4 U U {.ref a.cl,cs.length,U,.inl {_,aM.of c,U},_,_,U,U,q})}}
theorem kq:Ba P w K mg base 1 t.a12 t.d12 ["self"] (jc t):=by refine T.g12.f.okA zdd λc H Q E h=>{?_,λ_ _ _ _ i=>{ZK K t,(zd (zo (zny (vQ Jf (zy (Z 0) U) wa (zC _)) (Wo (vQ zfr (zy (Z 0) U) (zK yd U T.q06 yP (L (zy (Z 0) U) zc)) (zC _)))))),zbW (rnF T) h}};have #[x,a,e,k,m,rfl,_]:=h;rfl
theorem zhE:Ba P w K mg base 1 t.a13 t.d13 ["word","first","second"] (zaL):={λk H Q E h=>h.elim,λA c s H i m k Q E q u z o h=>h.elim}
theorem zdX:Ba P w K mg base 2 t.a14 t.d14 ["term","slots"] (VB):=by refine T.g14.f.okA q0s λm H Q E h=>?_;have #[o,u,n,rfl,k,i,q]:=h;exact{U,λ_ _ _ _ c=>{VH K t,(zb (zu 2 q0s.nd (zT zc)) (zb (y8 cn U (zeb (Z 0)) (zY 3 q0s.nd) (zd (zN (zx wO (Z 3) (xv U T.g_JOINING U) (by with_unfolding_all rfl)) (zb (zu 4 q0s.nd (Wt bD fu fA Wv (Z 2))) (zb (zu 5 q0s.nd (Wt bD fu fA Wv (Z 2))) (zd (zL (yG bD bR bT ye (Z 2) (L (bc (zhE T) T.g13 c zj (L (Z 3) (L (Z 5) (L (Z 4) zc)))) zc)))))) (zd (zL (yG bD bR bT ye (Z 2) (L (vX (yJ (zK xx U T.q0f yq (L (Z 3) (L (xV U T.q0j Zr U) zc)))) (kQ (xc c) (Z 1) (Z 3) zg {U,U,U,U}) (Z 3)) zc))))))) (zd (zo (Wt bD fu fA Wv (Z 2)))))),zbY (kf K).i_s (λH=>T.q19 H) k i q}}
theorem xg:Ba P w K mg base 3 t.a15 t.d15 ["self","term"] (yX t):=by
 refine T.g15.f.okA V4 λA H Q E h=>?_;have #[x,c,a,e,k,m,n,rfl,z,u,q]:=h;exact{U,λ_ _ _ _ i=>{_,(zd (zo (bc (zdX T) T.g14 i zj (L (Z 1) (L (zy (Z 0) U) zc))))),by have F:=(rnF T);have R:=z;have o:=u;exact{_,U,zX R.ix F.cl F.n4 U U {c,a.sl,n,U,o,R.hs,q}}}}
theorem jj:Ba P w K mg base 4 t.a16 t.d16 ["self","due"] (wx t):=by
 refine T.g16.f.okA V5 λJ H Q E h=>{?_,λ_ _ _ _ z=>{_,(zd (zo (zR (L (zw zO (Z 1) zg) (L (Af (Z 0) T.q09 (xg T) T.g15 z zj (L (zw zO (Z 1) zg) zc)) zc))))),by have F:=(rnF T);have #[x,r,c,o,a,e,k,m,p,rfl,R,i,I,q]:=h;refine{_,U,r,_,1,_,U,U,aX.of i,U,xK R.ix U U {_,U,r,_,2,_,U,U,aX.of i,U,x,c,a,e,k,m,p,U,R,I,λO u=>{sz2,λb A=>?_}}};exact q b _ (u.trans (hX b A)) zh}}
 have #[x,r,c,o,a,e,k,m,p,rfl,_]:=h;rfl
theorem zdY:Ba P w K mg base 5 t.a17 t.d17 ["self"] (VC t):=by
 refine T.g17.f.okA q1n λI H Q E h=>{?_,λ_ _ _ _ c=>{_,(zb (zN (PW.pt (jm (yJ (xm (Z 0) T.q09 (kq T) T.g12 c zj)) (wC (zx wN (zw zO (zw zH (zy (Z 0) U) (zy (Z 0) U)) zg) zI (zC _))))) (zd (zo wa))
   zA) (zb (Xx (zu 1 q1n.nd (Af (Z 0) T.q09 (jj T) T.g16 c zj (L (zw zH (zy (Z 0) U) (zy (Z 0) U)) zc)))) (zb (zN (PW.pt (jm (zx (zbj (xc c)) (Z 1) (zy (Z 0) U) (by with_unfolding_all rfl)) (wC (zx (zbj (xc c)) (Z 1) (zy (Z 0) U) (by with_unfolding_all rfl))))) (zd (zo wa))
    zA) (zd (zo (Z 1)))))),by have F:=(rnF T);have #[x,a,e,rfl,R,q]:=h;have #[v,m,i]:=R.hc;have #[r,A,f,rfl,o,u,k,_]:=i.hd;refine xK R.ix U U {x,a,e,0,0,U,R,_,U,zV U (zX R.ix F.cl F.n1 U U (zX R.ix F.cl F.n2 U U {a.co,_,_,_,U,U,aM.of m,U,r,_,0,_,U,U,aX.of o,u,U,_,U,yC (by rw[Bk λz=>k (V.str.inj z)];rfl) q}))}}}
 have #[x,a,e,rfl,_]:=h;rfl
theorem wJ:Ba P w K mg base 1 t.a18 t.d18 ["self","rank"] (xE t):=by
 refine T.g18.f.okA YO λu H Q E h=>?_;have #[m,dx,I,i,aI,rfl,o,k,A,q]:=h;exact{U,λ_ _ _ _ z=>{_,(zd (zN (zx Xe (Z 1) (zy (Z 0) U) (zC _)) (zd yh)
   zA)),by have c:=(mkF T);exact{_,U,zX o c.cl c.f U k {_,_,U,U,_,U,zV (Bk ()) (q H (aJ.refl H))}}}}
theorem xJ:Ba P w K mg base 1 t.a19 t.d19 ["ranks","rank"] (wf):=by
 refine T.g19.f.okA q0n λvs H Q E h=>{?_,λ_ _ _ _ u=>{_,(zb (zu 2 q0n.nd zg) (zb (zu 3 q0n.nd (zK yd U T.q06 yP (L (Z 0) zc))) (zb (Ju cn (zx Xe (Z 2) (Z 3) (zC _)) (zb (zu 4 q0n.nd (zE xj (zE yO (Z 2) (Z 3)) zg)) (zd (zN (zx Xe (zw zH (Z 0) (Z 4)) (Z 1) (zC _)) (zd (zu 2 q0n.nd (zE yO (Z 4) zg))) (zd (zu 3 q0n.nd (Z 4))))))) (zd (zo (Z 2)))))),by
   have #[a,k,aI,rfl,h1,h2,q]:=h;refine{_,U,.ref a,k.length,U,.inl {_,aM.of h1,(bh ..).symm},mbW a aI k H,{_,0,k.length,af,U,aJ.refl H,bQ _,bo _,U,by simp,by simp},?_};rintro m σ H' ⟨c,hi,o,rfl,s,h4,h5,rfl,h6,h7⟩;refine{_,U,_,U,_,_,U,U,_,U,?_};by_cases hl:c<hi
   .refine yC (Bj ()) {λA H'=>∃O,O<hi-c/\mbW a aI k H O A H',λ_ _ z=>z,_,U,_,U,_,_,U,U,_,_,U,U,dB,?_};obtain⟨md,J⟩:∃md:Nat,((c:Int)+hi)/2=md:={(c+hi)/2,()};dsimp only;rw[J];have l1:c<=md:=by lia
    have l2:md<hi:=by lia
    obtain⟨x,I⟩:∃x,k[md]?=Y x:={_,bd ()};refine{_,U,_,U,a,_,md,_,U,U,aM.of (s _ _ h1),yy (j:=md) (by rw[br,I];rfl),_,U,_,_,U,U,_,U,?_};by_cases u:x<aI
    .exact yC (Bj u) {_,U,_,_,U,U,_,(by lia:hi-(md+1)<hi-c),md+1,hi,_,U,s,(),h5,U,λr i=>Int.lt_of_le_of_lt (zf2 h2 I r i) u,h7}
    .exact zV (Bk u) {_,U,_,(by lia:md-c<hi-c),c,md,_,U,s,(),(),U,h6,λr i=>Int.le_trans () (zlh h2 I r i)}
   .refine zV (Bk ()) {_,U,?_};obtain rfl:c=hi:=by lia
    exact q c H' s h5 h6 h7}}
 have #[a,k,aI,rfl,_]:=h;rfl
theorem kM:Ba P w K mg base 2 t.a20 t.d20 ["self","place","rank"] (vU t):=by
 refine T.g20.f.okA q1a λz H Q E h=>?_;have #[m,p,aI,F,g,aQ,A,rfl,o,k,i,q]:=h;exact{U,λ_ _ _ _ c=>{_,(zb (zL (Af (Z 0) T.q0e (wJ T) T.g18 c zj (L (Z 2) zc))) (zb (zu 3 q1a.nd (kQ (xc c) (zy (Z 0) U) (Z 1) (zT zc) {U,U,U,U})) (zb (zu 4 q1a.nd (bc (xJ T) T.g19 c zj (L (Z 3) (L (Z 2) zc)))) (zb (zN (zx yI (Z 4) zg (zC _)) (zd (zo (kQ (xc c) (zy (Z 0) U) (Z 1) zg {U,U,U,U})))
    zA) (zd (zo (jt (xc c) (jt (xc c) (zy (Z 0) U) (zw zH (Z 3) (zE jD (Z 4) zg)) (λ_ _=>rfl)) (Z 1) (λ_ _=>rfl)))))))),by have u:=(mkF T);exact zhj u o k i q}}
theorem zb4:Ba P w K mg base 1 t.a21 t.d21 ["self","place","worth"] (XX):={λk H Q E h=>h.elim,λA c s H i m k Q E q u z o h=>h.elim}
theorem zdZ:Ba P w K mg base 5 t.a22 t.d22 ["self","due","worth"] (ZH t):=by
 refine T.g22.f.okA q1o λvs H Q E h=>{?_,λ_ _ _ _ i=>{_,(zd (zN (zx yI (zw zO (Z 1) zg) zI (zC _)) (zd (ju (xc i) (zy (Z 0) U) (zw zO (Z 1) zg) (Af (Z 0) T.q09 (zb4 T) T.g21 i zj (L (Af (Z 0) T.q09 (jj T) T.g16 i zj (L (Z 1) zc)) (L (Z 2) zc))) U)) (zd (zN (zx yI (zw zO (Z 1) zg) zI (zC _)) (zb (zu 3 q1o.nd (Af (Z 0) T.q09 (jj T) T.g16 i zj (L (Z 1) zc))) (zd (ju (xc i) (zy (Z 0) U) (Z 3) (Af (Z 0) T.q09 (xg T) T.g15 i zj (L (zw zO (Z 1) zg) zc)) U))) (zd (zN (zx yI (zw zO (Z 1) zg) zI (zC _)) (zd (ju (xc i) (zy (Z 0) U) (zw zO (Z 1) zg) (Af (Z 0) T.q09 (xg T) T.g15 i zj (L (zw zO (Z 1) zg) zc)) U)) (zd (zL (yG bD bR bT ye (zy (Z 0) U) (L (Af (Z 0) T.q09 (xg T) T.g15 i zj (L (zw zO (Z 1) zg) zc)) zc)))))))))),by
   have F:=(rnF T);have #[x,v,a,e,rfl,R,h1,q]:=h;cases e with
   |say n=>
    have #[r,I,rfl,m,O]:=h1;refine VZ U m U (λz=>absurd z ()) λ_=>VZ U m U (λz=>absurd z ()) λ_=>VZ U m U (λz=>absurd z ()) λ_=>?_;refine zX R.ix F.cl F.n7 U U {.inl {U,_,aM.of R.ha},xK R.ix U U {_,U,r,_,1,_,U,U,aX.of m,U,x,I,a,_,0,0,n,U,R,O,λH1 u=>?_}};have A:=R.same u;refine{a.sa,_,_,U,U,A.ha,yD (),?_};exact q _ (λb o _ nb _ z=>by rw[zk nb];exact u _ _ z) (A.said U _ U)
   |give p n=>
    have #[r,tp,I,rfl,m,O,e3]:=h1;refine VZ U m U (λz=>absurd z ()) λ_=>VZ U m U (λ_=>?_) λz=>absurd U z;refine xK R.ix U U {_,U,x,r,tp,I,a,_,0,0,p,U,R,m,O,λb H1 u eb=>?_};have A:=R.same u;refine xK A.ix U U {_,U,r,_,3,_,U,U,aX.of (u _ _ m),U,x,I,a,_,0,0,n,U,A,u _ _ e3,λH2 J=>?_};have R2:=A.same J;refine zX R2.ix F.cl F.n5 U U {_,U,a.gi,_,U,DPut.t (k:=zD (bb "a",(p:Int))) R2.hg (J _ _ eb) (yD ()),?_};exact q _ (λc o _ _ nc z=>by rw[zk nc];exact J _ _ (u _ _ z)) (R2.gave U _ (by rw[show mx (Dl.give p n).gi=_ from znm];rfl))}}
 have #[x,v,a,e,rfl,_]:=h;rfl
theorem QI:Ba P w K mg base 6 t.a23 t.d23 ["self","due","worth"] (kB t):=by
 refine T.g23.f.okA Ql λvs H Q E h=>{?_,λ_ _ _ _ c=>{_,(zb (zN (zx yI (zw zO (Z 1) zg) zI (zC _)) (zd (zo (zw zO (Z 1) zg)))
   zA) (zb (zN (zx yI (zw zO (Z 1) zg) zI (zC _)) (zd (zo (vX (zx yI (Af (Z 0) T.q09 (xg T) T.g15 c zj (L (zw zO (Z 1) zg) zc)) zg (zC _)) (zw zO (Z 1) zg) (zE yO (zy (Z 0) U) zg))))
    zA) (zb (zN (zx yI (zw zO (Z 1) zg) zI (zC _)) (zd (zN (zx wN (Af (Z 0) T.q09 (xg T) T.g15 c zj (L (zw zO (Z 1) zg) zc)) zg (zC _)) (zd (yo (f:="why") (Z 0) zI U))
    zA)) (zd (zL (Af (Z 0) T.q09 (zdZ T) T.g22 c zj (L (Z 1) (L (Z 2) zc)))))) (zd (zo (zE yO (zy (Z 0) U) zg)))))),by have F:=(rnF T);have #[x,v,a,e,rfl,R,m,q]:=h;have #[r,ws,f,rfl,i,k,_,I,A,u]:=m.hd;exact VZ U i k (λz=>absurd z I) λ_=>VZ U i k (λz=>absurd z A) λ_=>VZ U i k (λz=>absurd z u) λ_=>xK R.ix U U {_,U,_,U,x,_,a,e,U,R,m,λO J o=>zX o.ix F.cl F.n2 U U {_,_,U,U,q O J o}}}}
 have #[x,v,a,e,rfl,_]:=h;rfl
theorem VP:Ba P w K mg base 7 t.a24 t.d24 ["self","worth"] (kc t):=by
 refine T.q2g.ok0 zde (λk H Q E h=>?_) (λm A c s H k Q E i h=>?_)
 .have #[x,a,e,rfl,_]:=h;rfl
 exact{VI K t,(zb (zN (yJ (xm (Z 0) T.q09 (kq T) T.g12 i zj)) (zd zkn)
   zA) (zd (Xx (yo (f:="at") (Z 0) (Af (Z 0) T.q09 (QI T) T.g23 i zj (L (zw zH (zy (Z 0) U) (zy (Z 0) U)) (L (Z 1) zc))) U)))),zbZ (rnF T) h}
theorem Z4:Ba P w K mg base 3 t.a25 t.d25 ["self","rank"] (xT t):=by
 refine T.g25.f.okA q12 λJ H Q E h=>{?_,λ_ _ _ _ k=>{_,(zb (y8 cn U (yU (zw zO (jt (xc k) (zy (Z 0) U) (Z 1) (λ_ _=>rfl)) zg)) (kt U (yE (zY 2 q12.nd) (yE (zY 3 q12.nd) vP))) (zb (zu 4 q12.nd (Af (zy (Z 0) U) T.q0e (kM T) T.g20 k zj (L (Z 2) (L (Z 1) zc)))) (zd (zN (zx wN (Z 4) (Z 3) (zC _)) (zd (zo (zR (L (Z 2) (L (Z 3) (L (Z 4) zc))))))
    zA)))) (zd (zo wa))),by have F:=(dkF T);have #[d,c,A,v,e,a,lb,n,f,aI,D,rfl,h,z,u,q]:=h;have #[r,o,rfl,I,e2,m,O]:=u;exact zX h.jb F.cJ F.j2 U U {_,U,a.la,_,U,.inl {_,.inl aI,.inl (h.o.at (i:=6) U),U,z.symm},r,_,1,_,U,U,aX.of I,U,c,U,{_,aM.of m},zdT m (q _ (aJ.refl _))}}}
 have #[d,c,A,v,e,a,lb,n,f,aI,D,rfl,_]:=h;rfl
theorem qR:Ba P w K mg base 4 t.a26 t.d26 ["self"] (vb t):=by
 refine T.g26.f.okA q13 λvs H Q E h=>{?_,λ_ _ _ _ hr=>{_,(zb (zu 1 q13.nd (zK (zbq U) U T.q10 kT (L (zy (Z 0) U) zc))) (zb (y8 cn U (yU (Z 1)) (zY 2 q13.nd) (zb (zu 3 q13.nd (Af (Z 0) T.q0m (Z4 T) T.g25 hr zj (L (Z 2) zc))) (zb (zN (zx Jf (Z 3) wa (zC _)) (zd (zo (zE Ji (zR (L (Z 2) zc)) (Z 3))))
    zA) (zd (zL (JD (zy (Z 0) U) (Z 2) {U,U,U,U})))))) (zd (zo wa)))),by
   have F:=(dkF T);have #[d,a,lb,n,f,D,rfl,h,nd,h8,hp,q]:=h;refine zX h.jb F.cJ F.j4 U U {a.db,dbL D.db,D.db,U,h.o.at (i:=7) U,by unfold dbL;rw[fm];rfl,by unfold dbL;rw[bh];lia,λl c hl hs hw=>?_};generalize c_:upd H l _=H2;have #[o,J]:=uV c_ hl;refine{_,U,l,U,{_,aM.of J},wP (c.map V.int) (lcI t H d a lb n f D l c) {{_,_,U},J,Fr.same o,D.db,h.same o,λr=>hs.mem_iff} (λi m H' ⟨_,z,_⟩=>aM.of z) ?_ ?_}
   .rintro i u m H' I ⟨⟨o2,o3,rfl⟩,z⟩;rw[br] at I;have #[x,A,rfl]:=cm.mp I;exact zlw F (hs.nodup_iff.mpr nd) A (hp x (hs.mem_iff.mp (bU A))) {{_,_,U},z}
   .rintro m H' ⟨⟨o2,o3,rfl⟩,aa,F1,k,h',O⟩;have e0:k=[]:=List.eq_nil_iff_forall_not_mem.mpr λr z=>by have:=(O r).mpr z;rw[lZ (by rw[bh];exact bo _)] at this;cases this
    subst e0;exact q _ F1 h'}}
 have #[d,a,lb,n,f,D,rfl,_]:=h;rfl
theorem Wg:Ba P w K mg base 1 t.a27 t.d27 ["ranks_at","place","rank"] (qG):=by
 refine T.g27.f.okA q1p λvs H Q E h=>{?_,λ_ _ _ _ i=>{_,(zb (zu 3 q1p.nd (jt (xc i) (Z 0) (Z 1) (λ_ _=>rfl))) (zb (zL (yG bD oV oW zaq (Z 3) (L (Z 2) zc))) (zd (zN (zx (JJ (VW i)) (Z 3) (zT zc) (zC _)) (zd (zL (ziX (xc i) (Z 0) (Z 1) {U,U,U,U})))
    zA)))),by
    have #[rk,I,aI,G,P,u,m,rfl,i,fk,O,hP,q]:=h;obtain ⟨a,rs,hk,hv,fa,ha,hs,hne,hi⟩|⟨_,_,hn⟩:=i.get m
    .have aa:aI∈rs:=(hi aI).mpr hP;have ar:=zdC i ha;refine{_,U,_,U,rk,.ref a,U,(by rw[<-hv];exact .t i.at_ O),_,U,.inl {U,_,aM.of ha},_,U,a,rs,aI,U,U,ha,aa,_,U,(),λz hz=>?_};have k2:=(aZ.refl (G:=G) (rk:=rk) (H:=H)).lst (ys:=(rs.erase aI).map V.int) ha fa;have d2:Dm H (upd H a (.lst ((rs.erase aI).map V.int))):=Dm.upd nofun
     have pa:I≠a:=zJ O ha ();have J:upd H a (.lst ((rs.erase aI).map V.int)) I=Y (.tup ((zD m).map kV)):=by rw[zk pa];exact O
     have A:upd H a (.lst ((rs.erase aI).map V.int)) rk=Y (.dT u):=by rw[zk ar];exact i.at_
     generalize c_:upd _ z _=H3;have #[c,q3]:=je c_ hz;refine{a,z,_,U,U,aM.of (c _ _ zh),aM.of q3,_,U,?_};by_cases e:rs.erase aI=[]
     .refine yC (Bj (by rw[e];rfl)) {_,U,rk,U,.inr {_,.inl (c _ _ A)},_,U,u,zD m,I,_,c _ _ A,U,c _ _ J,hv,q _ (yB u (zD m)) ((k2.same c).dct _) (d2.trans ((Dm.of_same c).trans (Dm.upd nofun))) ?_};refine(i.out2 (us:=(rs.erase aI).map V.int) hk ha hs hi e λp r=>tW).keep fk (λb o fb k=>?_) (λ_ z=>z);by_cases hb:b=rk
      .subst hb;rw[zh] at k ⊢;exact k
      .rw[zk hb] at k ⊢;exact c _ _ k
     .refine zV (Bk λz=>e (List.map_eq_nil_iff.mp z)) ?_;exact q _ u (k2.same c) (d2.trans (Dm.of_same c)) ((i.out1 hk ha hs hi e λp r=>tW).keep fk (λb o _ k=>c _ _ k) (λ_ z=>z))
    .exact absurd hP (hn aI)}}
 have #[rk,I,aI,G,P,u,m,rfl,_]:=h;rfl
theorem ql:Ba P w K mg base 2 t.a28 t.d28 ["self","rank"] (xZ t):=by
 refine T.g28.f.okA q14 λvs H Q E h=>{?_,λ_ _ _ _ hr=>{_,(zb (zu 2 q14.nd (JD (zy (Z 0) U) (Z 1) {U,U,U,U})) (zb (zL (zct (zy (Z 0) U) (Z 1) wa {U,U,U,U})) (zb (y8 cn U (yU (zw zO (Z 2) zg)) (kt U (yE (zY 3 q14.nd) (yE (zY 4 q14.nd) vP))) (zd (zL (bc (Wg T) T.g27 hr zj (L (zy (Z 0) U) (L (Z 3) (L (Z 1) zc))))))) (zd (zo (Z 2)))))),by
   have F:=(dkF T);have #[d,v,e,a,lb,n,f,aI,D,rfl,h,h2,h3,q]:=h;have #[u,gl,#[r,o,rfl,e1,e2,e3,e4],l1,l2]:=h3;have #[k,F2]:=h.set (i:=6) (D':={ D with la:=yB D.la (.inl aI) }) rfl () () (.dK (yB D.la (.inl aI))) rfl rfl rfl;refine zX h.jb F.cJ F.j2 U U {a.la,U,.inl {_,.inl (h.o.at (i:=6) U)},_,U,_,.inl aI,_,h.o.at (i:=6) U,U,h2,?_};generalize upd H a.la (.dK (yB D.la (.inl aI)))=H2 at *
   have c:∀H4,Fr M1 H H4 lb lb->DkO t H4 d a lb n f { D with la:=yB D.la (.inl aI),db:=D.db.filter λy=>decide (y≠aI) }->(H4 r=Y (.tup [o,.ref u,.ref gl])/\H4 u=Y (.lst []))/\Q (.ref r) H4:=λH4 O g=>{{O.ts _ _ e1,O.kp _ _ (by rw[l1];exact .inr ()) e3},q H4 O g};refine zX k.jb F.cJ F.j4 U U {a.db,U,.inl {_,.inl (k.o.at (i:=7) U)},_,U,_,.inl aI,k.o.at (i:=7) U,U,λv A=>?_,λA=>?_}
   .have #[g3,F3]:=k.set (i:=7) (D':={ D with la:=yB D.la (.inl aI),db:=D.db.filter λy=>decide (y≠aI) }) rfl () () (.dK (yB (dbL D.db) (.inl aI))) (by rw[zf4];rfl) U rfl;have #[#[J,m],I]:=c _ (F2.trans F3) g3;exact{_,U,r,_,1,_,U,U,aX.of J,U,u,U,{_,aM.of m},zdT m {_,U,I}}
   .have nm:aI ∉ D.db:=λz=>by rw[zjH z] at A;cases A
    have ef:(D.db.filter λy=>decide (y≠aI))=D.db:=lC.mpr λy hy=>Bj λz=>nm (by rw[<-z];exact hy);rw[ef] at c;have #[#[J,m],I]:=c _ F2 k;exact{_,U,r,_,1,_,U,U,aX.of J,U,u,U,{_,aM.of m},zdT m {_,U,I}}}}
 have #[d,v,e,a,lb,n,f,aI,D,rfl,_]:=h;rfl
theorem Wh:Ba P w K mg base 1 t.a29 t.d29 ["self","ranks"] (kh t):=by
 refine T.g29.f.okA XT λm H Q E h=>?_;have #[x,l,i,rfl,c,k,q]:=h;exact{U,λ_ _ _ _ o=>{_,(zd (zo (zw zH (Z 1) (Vb Zm zg)))),by
   have h:=c;have c:=k;refine{_,U,1,U,l,_,-1,.int (i.getLast c),U,U,aM.of h,?_,q _ (List.getLast_mem c)};have z:i.map V.int=i.dropLast.map V.int++[V.int (i.getLast c)]:=by rw[<-List.map_singleton,<-b7,nC]
   rw[z];exact L2.atI_last _ _}}
theorem Wi:Ba P w K mg base 1 t.a30 t.d30 ["self","ranks"] (ki t):=by refine T.g30.f.okA q1q λu H Q E h=>?_;have #[x,l,dw,o,k,rfl,m,i,c,q]:=h;exact{U,λ_ _ _ _ z=>{kj K t,(zb (zu 2 q1q.nd (zE yS (zy (Z 0) U) (zK yd U T.q06 yP (L (Z 1) zc)))) (zb (Ws (f:="times") (Z 0) zg zeg) (zd (zo (zw zH (Z 1) (Z 2)))))),Y3 (dkF T) m i c q}}
theorem QJ:Ba P w K mg base 1 t.a31 t.d31 ["self","ranks"] (Yr t):=by
 refine T.g31.f.okA Qm λm H Q E h=>?_;have #[x,l,i,rfl,c,k,q]:=h;exact{U,λ_ _ _ _ o=>{_,(zd (zo (zw zH (Z 1) zg))),by
   have h:=c;have c:=k;cases i with
   |nil=>exact absurd U c
   |cons w i=>exact{_,U,l,_,0,_,U,U,aM.of h,by simp[atI,ixN],q w bu}}}
theorem zd0:Ba P w K mg base 1 t.a32 t.d32 ["self","code"] (kb t):=by
 refine T.q2i.ok0 zdf (λi H Q E h=>?_) (λk A c s H i Q E m h=>?_)
 .have #[x,l,dx,v,e,rfl,_]:=h;rfl
 exact{ZM K t,(zb (yo (f:="code") (Z 0) (zW yZ U T.b_list xi (L (Z 1) zc)) U) (zb (yo (f:="at") (Z 0) zg U) (zb (yo (f:="why") (Z 0) wa U) (zb (yo (f:="slots") (Z 0) Zp U) (zb (yo (f:="gifts") (Z 0) kP U) (zb (yo (f:="notes") (Z 0) kP U) (zd (yo (f:="sayings") (Z 0) (zT zc) U)))))))),zbX (rnF T) h}
theorem W0:Ba P w K mg base 3 t.a33 t.d33 ["self","hand"] (vL t):=by
 refine T.g33.f.okA q1r λvs H Q E h=>{?_,λ_ _ _ _ I=>{_,(zb (zu 2 q1r.nd (zi1 (zy (Z 0) U) (zbp (zi0 T.q2e T.g29.me (bv.mono (Wh T) ()) I T.g29.b) (zbp (zi0 T.q2a T.g30.me (bv.mono (Wi T) ()) I T.g30.b) (zbp (zi0 T.q2f T.g31.me (bv.mono (QJ T) ()) I T.g31.b) zm0))) zj (L (zW yZ U T.b_list xi (L (zy (Z 0) U) zc)) zc))) (zb (zL (yG bD oV oW zaq (zy (Z 0) U) (L (Z 2) zc))) (zb (ju (xc I) (zy (Z 0) U) (Z 1) (zR (L (Z 2) (L (js T.mk_Run (bv.mono (zd0 T) ()) I U T.g_Run T.q2j .nil zj (L (zw zH (zy (Z 0) U) (zE jD (Z 2) (zy (Z 0) U))) zc)) zc))) U) (zd (zo (zR (L zI (L (Z 1) (L (Z 2) zc))))))))),by
   have F:=(dkF T);have #[d,a,lb,n,h0,g,CC,S,rfl,h,ok,fr,wn,q]:=h;have #[D,J]:=h.ex;have ew:H a.wy=Y D.wo:=J.o.at (i:=1) rfl;have go:∀l,H l=af->∀w∈S.ws,jQ K t (mt Q) [Y (.ref d),Y (.int h0),Y (.int w)] (upd H l (.lst (D.ws.map V.int))):=λl hl w m=>by have A:=hX (o:=HO.lst (D.ws.map V.int)) l hl;have #[D2,J2]:=(h.same A).ex;exact KY F J2 ok fr m λv H' lb' F=>q v H' lb' w ((Fr.same A).trans F) m
   have O:D.ws≠[]:=by rw[J.e1];exact wn
   obtain wo|wo|⟨k,wo⟩:=J.wy
   .exact zX J.d0 F.cD F.d2 U U {a.wy,_,_,_,_,U,ew.trans (congrArg Y wo),U,.tail _ (.tail _ (.head _)),zX J.d0 F.cD F.d5 U U {a.wl,_,U,.inl (aM.of (J.o.at (i:=4) U)),λl c=>{a.wy,l,_,U,zh,O,λw m=>go l c w (by rw[<-J.e1];exact m)}}}
   .exact zX J.d0 F.cD F.d2 U U {a.wy,_,_,_,_,U,ew.trans (congrArg Y wo),U,.head _,zX J.d0 F.cD F.d5 U U {a.wl,_,U,.inl (aM.of (J.o.at (i:=4) U)),λl c=>{a.wy,l,_,U,zh,O,λw m=>go l c w (by rw[<-J.e1];exact m)}}}
   .refine zX J.d0 F.cD F.d2 U U {a.wy,_,_,_,_,U,ew.trans (congrArg Y wo),U,.tail _ (.head _),zX J.d0 F.cD F.d5 U U {a.wl,_,U,.inl (aM.of (J.o.at (i:=4) U)),λl c=>?_}};have A:=hX (o:=HO.lst (D.ws.map V.int)) l c;have D2:=J.dk.same A;have #[D3,u]:=D2.set (i:=1) (o:=D.wo) (D':={ D with wo:=.ins t.q0b a.dw [(bb "times",.int (k+1:Nat))] }) rfl (λ_ z=>by rw[wo] at z;cases z) () (.ins t.q0b a.dw [(bb "times",.int (k+1:Nat))]) rfl rfl rfl;have u:=(Fr.same (M:=M1) A).trans u;have J3:DkJ t _ d a lb n 0 g CC S _:={D3,.inr (.inr {_,U}),J.eg,J.el,J.e1,J.e2,qQ J.c u xB,Y5 J.h u VN,qP J.l u xB,Z2 J.e u xB};exact{a.wy,l,a.dw,_,k,U,zh,O,(D2.o.at (i:=1) U).trans (congrArg Y wo),λw m=>KY F J3 ok fr (by rw[<-J.e1];exact m) λv H' lb' F=>q v H' lb' w (u.m0.trans F) (by rw[<-J.e1];exact m)}}}
 have #[d,a,lb,n,h,g,CC,S,rfl,_]:=h;rfl
theorem Y7:Ba P w K mg base 5 t.a34 t.d34 ["self","hand"] (jO t):=by
 refine T.g34.f.okA q1b λvs H Q E h=>{?_,λ_ _ _ _ o=>{_,(zb (zu 2 q1b.nd (xm (Z 0) T.q0d (wz T) T.g10 o zj)) (zb (zu 3 q1b.nd (xm (zy (Z 0) U) T.q0m (qR T) T.g26 o zj)) (zb (zN (PW.pt (Wn (zx (zbj (xc o)) (Z 2) (zy (zy (Z 0) U) U) (by with_unfolding_all rfl)) (Xd (PW.pt (jm (zx zec (Z 3) wa (zC _)) (wC (zx wN (zw zO (Z 3) zg) (Z 2) (zC _)))))))) (zb (zL (yG bD bR bT ye (zy (Z 0) U) (L (Af (zy (Z 0) U) T.q0m (ql T) T.g28 o zj (L (Z 2) zc)) zc))) (zd (zo (zR (L zI (L (Z 1) (L (Z 2) zc)))))))
   zA) (zb (zN (zx Jf (Z 3) wa (zC _)) (zb (zL (Af (zy (Z 0) U) T.q0m (ql T) T.g28 o zj (L (zw zO (Z 3) zg) zc))) (zb (zL (yG bD oX oY zap (zy (Z 0) U) (L (bc (xJ T) T.g19 o zj (L (zy (Z 0) U) (L (zw zO (Z 3) zg) zc))) (L (zw zO (Z 3) zg) zc)))) (zd (zo (zE Ji (zR (L zI (L (Z 1) zc))) (Z 3))))))
   zA) (zb (zN (zx (Xy (VW o)) (zy (Z 0) U) (zT zc) (zC _)) (zd (zo (Af (Z 0) T.q0d (W0 T) T.g33 o zj (L (Z 1) zc))))
    zA) (zd (zo (zR (L zI (L (Z 1) zc)))))))))),by
   have F:=(dkF T);have #[d,a,lb,n,h0,g,CC,S,rfl,h,A,fr,q]:=h;have #[D,J]:=h.ex;have aa:=A.cc;have ln:=A.len;have dl:=A.dbl;have le:=bO J.e;rw[cf,eC A.el] at le;refine xK J.d0 U U {d,_,a,n,0,D.en,U,J.d0,J.o.at (i:=8) U,?_};rw[show (0:Int)+D.en.length=(S.en:Int) by lia];refine zX J.d0 F.cD F.d8 U U {a.jb,_,_,U,J.dk.jb,U,d,a,lb,n,0,D,U,J.dk,by rw[J.e2];exact A.dn,by rw[J.e2];lia,A.val J,λH1 I D1=>?_};have g1:u8 t H1 d a lb n 0 g CC { S with db:=[] }:=DkJ.g_ {D1,J.wy,J.eg,J.el,J.e1,rfl,qQ J.c I xB,Y5 J.h I VN,qP J.l I xB,Z2 J.e I xB};have O:aY n CC { S with db:=[] }:={ A with dn:=dU,ds:=nofun };have q1:mvP t H1 d a lb n h0 g CC { S with db:=[] } Q:=λv H' lb' S' G ev m g=>q v H' lb' S' (I.m0.trans G) ev (by
    cases m with
    |step a=>exact absurd (bL (f:=λe:Int×Int×Nat=>e.1) a) fr
    |lay a=>exact absurd (bL (f:=λe:Int×Int×Nat=>e.1) a) fr
    |settle a b=>exact .settle a b
    |take a b c=>exact .take a b c
    |rest a b c=>exact .rest a b c) g
   refine{_,U,zX (D1.o.at (i:=0) U) F.cD F.d8 U U {a.jb,_,_,_,_,U,D1.jb,F.cJ,F.j2,U,a.la,_,U,.k (k:=.inl (S.en:Int)) (D1.o.at (i:=6) U),_,U,?_}};rcases(qP J.l I xB).get (h:=(S.en:Int)) with ⟨hv,hn⟩|⟨v,u,hv,hm,_⟩
   .rw[hv];exact zV U (zV U {_,U,U,_,U,zV U (zlx (S:={ S with db:=[] }) F g1 O fr hn rfl q1)})
   .rw[hv];exact yC U {_,U,U,_,U,yC U (yC U (zly (S:={ S with db:=[] }) F g1 O fr hm rfl q1))}}}
 have #[d,a,lb,n,h,g,CC,S,rfl,_]:=h;rfl
theorem wK:Ba P w K mg base 1 t.a35 t.d35 ["self","rank"] (wG t):=by
 refine T.g35.f.okA YQ λvs H Q E h=>{?_,λ_ _ _ _ hr=>{_,(zd (zo (zW (jK U) U T.b_list xi (L (kQ (xc hr) (zy (Z 0) U) (Z 1) kP {U,U,U,U}) zc)))),by
   have MF:=(mkF T);have #[m,aI,F,g,aQ,A,rfl,I,q]:=h;have #[dx,gr,wo,rk,wk,kk,M]:=I.ex;refine zX M.im MF.cl MF.w U zlg {wo,U,.inl {_,.inl M.hw},_,U,λp hp=>?_};generalize c_:upd _ p _=H1;have #[i,q1]:=je c_ hp;have M1:=M.keep I.me λb o _ e=>i _ _ e;by_cases hin:aI∈aQ.map (·.1)
   .have #[y,hy,J]:=bH.mp hin;have #[O,gs]:=y;have J:O=aI:=J;subst J;have #[d,v1,fd,nd,hd]:=zbE M1.wp I.nd hy;have u:=Am.k (k:=.inl O) M1.hw;rw[v1] at u;refine{_,u,d,mx gs,U,hd,λl ys hl z=>?_};have c:=hX (o:=HO.lst ys) l hl;exact q l ys gs _ (i.trans c) (yi i hl) zh (Paired.mapP z λ_ _ ⟨p,e,h⟩=>{p,e,c _ _ h}) (.inl hy)
   .have u:=Am.k (k:=.inl aI) M1.hw;rw[zbF M1.wp hin] at u;refine{_,u,p,[],U,q1,λl ys hl z=>?_};have c:=hX (o:=HO.lst ys) l hl;exact q l ys [] _ (i.trans c) (yi i hl) zh (Paired.mapP z λ_ _ ⟨p,e,h⟩=>{p,e,c _ _ h}) (.inr {hin,U})}}
 have #[m,aI,F,g,aQ,A,rfl,_]:=h;rfl
theorem Y8:Ba P w K mg base 2 t.a36 t.d36 ["self","rank"] (wH t):=by
 refine T.g36.f.okA q1c λvs H Q E h=>{?_,λ_ _ _ _ hr=>{_,(zb (zu 2 q1c.nd (Af (Z 0) T.q0e (wK T) T.g35 hr zj (L (Z 1) zc))) (zb (zL (zct (zy (Z 0) U) (Z 1) wa {U,U,U,U})) (zd (y8 cn U (yU (Z 2)) (zY 3 q1c.nd) (zd (zL (bc (Wg T) T.g27 hr zj (L (zy (Z 0) U) (L (Z 3) (L (Z 1) zc)))))))))),by
   have MF:=(mkF T);have #[m,aI,F,g,aQ,al,rfl,c,q]:=h;have #[dx,gr,wo,rk,J,kk,M]:=c.ex;refine xK M.im U (jN ()) {_,U,m,aI,F,g,aQ,al,U,c,λBp ys gs H1 u fL hL hy ho=>?_};have M1:=M.keep c.me λb o _ e=>u _ _ e;have aa:∀y∈Qx aQ aI,0<=y.1/\Qw y.2:=λy hy=>c.ok y (da.mp hy).1;have ab:((Qx aQ aI).map (·.1)).Nodup:=ii (gY _ fX) c.nd;have nL:¬ F Bp:=λz=>by have #[o,e]:=c.own Bp z;rw[fL] at e;cases e
   have I:∀ {H2:Hp},Dm H1 H2->∀b,F b->∃o,H2 b=Y o:=λdm b hb=>by have #[o,e]:=c.own b hb;have #[o',e',_]:=dm b o (u _ _ e);exact{o',e'}
   refine zX M1.im MF.cl MF.w U zlg {wo,U,.inl {_,.inl M1.hw},_,U,J,.inl aI,M1.hw,U,λv hv=>?_,λhv=>?_}
   .have A:aI∈aQ.map (·.1):=cp λz=>by rw[zbF M1.wp z] at hv;cases hv
    have ai:(aI,gs)∈aQ:=ho.resolve_right λz=>z.1 A;have ar:=(c.ok _ ai).2;have wm:m≠wo:=zJ M1.im M1.hw ();have wg:gr≠wo:=zJ M1.hg M1.hw ();have wr:rk≠wo:=zJ M1.rr.at_ M1.hw ();have i:∀b o,b≠wo->H1 b=Y o->upd H1 wo (HO.dK (yB J (.inl aI))) b=Y o:=λb o n e=>by rw[zk n];exact e
    have w2:upd H1 wo (HO.dK (yB J (.inl aI))) wo=Y (HO.dK (yB J (.inl aI))):=zh;have d2:Dm H1 (upd H1 wo (HO.dK (yB J (.inl aI)))):=Dm.upd nofun
    generalize upd H1 wo (HO.dK (yB J (.inl aI)))=H2 at *
    have aj:hU H2 rk F (qe aQ) kk:=M1.rr.keep2 (by rw[i _ _ wr M1.rr.at_,M1.rr.at_]) (λb xs _ e=>i _ _ (zJ e M1.hw ()) e) (λ_ z _=>z);refine zf5 MF (i _ _ wm M1.im) (i _ _ (zJ hL M1.hw ()) hL) nL (Paired.mapP hy λ_ _ ⟨p,e,h⟩=>{p,e,i _ _ (zJ h M1.hw ()) h}) ar.nd (λr hr=>{gs,ai,bL hr}) aj M.fk λH' as k dm O=>?_;have an:Bl (zdo H2 rk F) (yB J (.inl aI)) (Qx aQ aI):=Paired.mapP (zbG M1.wp) λ_ _ ⟨e,d,e2,fd,nd,hd⟩=>{e,d,e2,fd,nd,i _ _ (zJ hd M1.hw ()) hd};refine q H' F (λb o nf e=>zaT M.fk k b o nf (i _ _ (λz=>nf (by rw[z];exact M.fw)) (u _ _ e))) (λb zs e=>k _ _ (i _ _ (zJ (u _ _ e) M1.hw ()) (u _ _ e)) (zJ (u _ _ e) M1.rr.at_ ()) (.inl nofun)) ?_ (λ_ z=>.inl z) λ_ z=>z;exact zjD c.me M.fg M.fw M.fk M.nr (i _ _ wm M1.im) (i _ _ wg M1.hg) w2 {_,aj.at_} an k (I (d2.trans dm)) (O.eqv (zjE c.nd ai)) ab aa
   .have A:aI ∉ aQ.map (·.1):=λz=>by have #[y,hy,ey]:=bH.mp z;have #[r',gs]:=y;have ey:r'=aI:=ey;subst ey;have #[d,v1,_]:=zbE M1.wp c.nd hy;rw[v1] at hv;cases hv
    have eg:gs=[]:=(ho.resolve_left λz=>A (bH.mpr {_,z,U})).2;subst eg;rw[zli A] at aa ab q;refine zf5 (gs:=[]) MF M1.im hL nL hy dU (λr hr=>nomatch hr) M1.rr M.fk λH' as k dm O=>?_;refine q H' F (λb o nf e=>zaT M.fk k b o nf (u _ _ e)) (λb zs e=>k _ _ (u _ _ e) (zJ (u _ _ e) M1.rr.at_ ()) (.inl nofun)) ?_ (λ_ z=>.inl z) λ_ z=>z;exact zjD c.me M.fg M.fw M.fk M.nr M1.im M1.hg M1.hw {_,M1.rr.at_} M1.wp k (I dm) (O.eqv λp r=>by simp) ab aa}}
 have #[m,aI,F,g,aQ,al,rfl,_]:=h;rfl
theorem VQ:Ba P w K mg base 2 t.a37 t.d37 ["ranks_at","place","rank"] (j9):=by
 refine T.g37.f.okA q1s λvs H Q E h=>{?_,λ_ _ _ _ u=>{_,(zb (zu 3 q1s.nd (ziY (xc u) (Z 0) (Z 1) (zT zc) {U,U,U,U})) (zd (zL (yG bD oX oY zap (Z 3) (L (bc (xJ T) T.g19 u zj (L (Z 3) (L (Z 2) zc))) (L (Z 2) zc)))))),by
   have #[rk,pl,aI,G,P,I,A,rfl,u,gk,gn,hp,ar,kl,al,q]:=h;refine{_,U,rk,U,.inr {_,.inl u.at_},_,U,(),λz hz=>?_};generalize c_:upd H z _=H2;have #[s2,q2]:=je c_ hz;have c:=u.keep (F':=G) gk (λb o _ e=>s2 _ _ e) (λ_ z=>z);have O:aZ G rk H H2:=aZ.refl.same s2;have aj:Dm H H2:=Dm.of_same s2;have gz:G z:=gn z hz;refine{I,zD A,pl,c.at_,U,s2 _ _ hp,by rw[cu];lia,λv m=>?_,λm=>?_}
   .obtain ⟨a,rs,hk,hv2,fa,ha,hs,hne,hi⟩|⟨hv2,_,_⟩:=c.get A
    .rw[hv2] at m;cases m;have rl:=al rs hs λr u=>(hi r).mp u;refine{_,U,.inl {U,_,aM.of ha},_,U,_,U,a,rs,aI,U,ha,hs,λk H3 i J aa ab=>{_,U,a,_,k,_,U,U,i _ _ ha,by rw[bh];exact J,by rw[bh];lia,?_}};rw[<-List.map_take,<-List.map_drop,<-bC (f:=V.int),<-b7];have an:=c.keep (F':=G) gk (λb o _ e=>i _ _ e) (λ_ z=>z);exact q _ I ((O.same i).lst (i _ _ ha) fa) ((aj.trans (Dm.of_same i)).trans (Dm.upd nofun)) (an.in1 hk (i _ _ ha) hs hi aa ab ar λp r=>tW)
    .rw[hv2] at m;cases m
   .have zr:z≠rk:=zJ q2 c.at_ ();rw[jE _ m];have qz:upd H2 rk (HO.dT (I++[(zD A,V.ref z)])) z=Y (.lst (([]:yz).map V.int)):=by rw[zk zr];exact q2
    have hf:∀kv∈I,kv.2≠.ref z:=λkv hk e=>by have #[p',a',as,rfl,_,ai,_]:=u.ls kv hk;cases e;rw[hz] at ai;cases ai
    obtain ⟨a,rs,hk,hv2,_⟩|⟨_,hkn,hn⟩:=c.get A
    .rw[hv2] at m;cases m
    refine{_,U,.inl {U,_,aM.of qz},_,U,_,U,z,[],aI,U,qz,iM,λk H3 i J aa ab=>?_};have k0:k=0:=Nat.le_zero.mp J;subst k0;have d3:Dm H (upd H2 rk (HO.dT (I++[(zD A,V.ref z)]))):=aj.trans (Dm.upd nofun);refine{_,U,z,[],0,_,U,U,i _ _ qz,bo _,(),q _ (I++[(zD A,V.ref z)]) (((O.dct _).same i).lst (i _ _ qz) gz) ((d3.trans (Dm.of_same i)).trans (Dm.upd nofun)) ?_};refine(c.in2 (a:=z) (aI:=aI) hkn hn gz hf zr λp r=>tW).keep gk (λb o fb eb=>?_) (λ_ z=>z);show upd H3 z (HO.lst [V.int aI]) b=Y o;by_cases hb:b=z
    .subst hb;rw[zh] at eb ⊢;exact eb
    .rw[zk hb] at eb ⊢;exact i _ _ eb}}
 have #[rk,pl,aI,G,P,I,A,rfl,_]:=h;rfl
theorem zb5:Ba P w K mg base 3 t.a38 t.d38 ["self","rank","gifts"] (XZ t):=by
 refine T.g38.f.okA q1d λO H Q E h=>?_;have #[m,aI,gv,F,g,aQ,gs,rfl,I,u,A,o,k,z,q]:=h;exact{U,λ_ _ _ _ c=>{_,(zb (zL (Af (Z 0) T.q0e (wJ T) T.g18 c zj (L (Z 1) zc))) (zb (zL (Af (Z 0) T.q0e (Y8 T) T.g36 c zj (L (Z 1) zc))) (zb (zu 3 q1d.nd (zW (jf U (hu3 c)) U T.q1k zba (L (Z 2) zc))) (zb (zmP (y8 cn U (ziz (Z 3)) (zY 4 q1d.nd) (zd (zL (bc (VQ T) T.g37 c zj (L (zy (Z 0) U) (L (Z 4) (L (Z 1) zc)))))))) (zd (ju (xc c) (zy (Z 0) U) (Z 1) (Z 3) U)))))),by have J:=(mkF T);have i:=o;have o:=k;have k:=z;exact zjK J I u u A i o k q}}
theorem Yh:Ba P w K mg base 2 t.a39 t.d39 ["self","place","rank"] (jr t):=by
 refine T.g39.f.okA q1e λvs H Q E h=>{?_,λ_ _ _ _ u=>{_,(zb (zu 3 q1e.nd (kQ (xc u) (zy (Z 0) U) (Z 1) (zT zc) {U,U,U,U})) (zb (zu 4 q1e.nd (bc (xJ T) T.g19 u zj (L (Z 3) (L (zE yO (Z 2) zg) zc)))) (zd (zo (vX (zx yI (Z 4) (zK yd U T.q06 yP (L (Z 3) zc)) (zC _)) wa (zw zH (Z 3) (Z 4))))))),by
   have MF:=(mkF T);have #[m,p,aI,F,g,aQ,J,rfl,h1,h2,q]:=h;have #[dx,gr,wo,rk,wk,kk,M]:=u5.ex h1;refine(zX M.im MF.cl MF.r U zjC {rk,U,.inr {_,.inl M.rr.at_},_,U,(),λl hl=>?_});generalize c_:upd H l _=H2;have #[I,q2]:=je c_ hl;have M2:=M.keep h1.me λb o _ e=>I _ _ e;refine{_,.t M2.rr.at_ (I _ _ h2),?_};have go:∃(c:B)(i:yz),((yu kk (zD J)).getD (.ref l))=.ref c/\H2 c=Y (.lst (i.map V.int))/\i.Pairwise (· < ·)/\∀r,r∈i↔qe aQ J r:=by
    obtain ⟨c,i,hk,hv,fa,O,hs,hne,A⟩|⟨hv,_,no⟩:=M2.rr.get J
    .exact{c,i,by rw[hv];rfl,O,hs,A}
    .exact{l,[],by rw[hv];rfl,q2,iM,λr=>{(),λz=>absurd z (no r)}}
   have #[c,i,ev,O,hs,A]:=go;rw[ev];refine{_,U,_,U,_,_,U,U,c,i,_,U,O,hs,λk H3 s3 hk k1 k2=>?_};have e3:=s3 _ _ O;refine{_,U,_,U,.ref c,i.length,U,.inl {_,aM.of e3,(bh ..).symm},U,_,U,?_};by_cases z:k=i.length
   .exact yC (Bj (by rw[z])) (q _ H3 (I.trans s3) (.inl {U,λr u=>by have:=k1 r (by rw[z,f8];exact(A r).mpr u);lia}))
   .refine zV (Bk (λy=>z (by injection y with y;lia))) ?_;have lt:k<i.length:=by lia
    have dk:i.drop k=i[k]::i.drop (k+1):=i8 lt;refine{_,U,_,U,c,_,k,_,U,U,aM.of e3,yy (by rw[br,bd lt];rfl),q _ H3 (I.trans s3) (.inr {i[k],U,(A _).mp (c9 lt),?_,λr u h=>?_})}
    .have:=k2 i[k] (by rw[dk];exact bu);lia
    .have m:=(A r).mpr u;rw[<-iH k i] at m;obtain m|m:=bP.mp m
     .have:=k1 r m;lia
     .rw[dk] at m;obtain m|m:=bn.mp m
      .lia
      .rw[<-iH k i,dk] at hs;exact Int.le_of_lt (List.rel_of_pairwise_cons (List.pairwise_append.mp hs).2.1 m)}}
 have #[m,p,aI,F,g,aQ,J,rfl,_]:=h;rfl
theorem QK:Ba P w K mg base 3 t.a40 t.d40 ["self","place","rank"] (kC t):=by
 refine T.g40.f.okA q0t λvs H Q E h=>{?_,λ_ _ _ _ m=>{_,(zb (zu 3 q0t.nd (kQ (xc m) (zy (Z 0) U) (Z 1) (zT zc) {U,U,U,U})) (zb (zu 4 q0t.nd (Af (zy (Z 0) U) T.q0e (Yh T) T.g39 m zj (L (Z 1) (L (Z 2) zc)))) (zb (zu 5 q0t.nd (vX (zx zec (Z 4) wa (zC _)) (zK yd U T.q06 yP (L (Z 3) zc)) (bc (xJ T) T.g19 m zj (L (Z 3) (L (zE yO (Z 4) zg) zc))))) (zd (y8 cn U (yU (xF wT (Z 3) (xM (bc (xJ T) T.g19 m zj (L (Z 3) (L (zE yO (Z 2) zg) zc)))) (xM (Z 5)))) (zY 6 q0t.nd) (zd (ju (xc m) (zy (Z 0) U) (Z 6) (wL (b:=ae)) U))))))),by
   have F:=(dkF T);have #[d,p,a,lb,n,f,aI,D,A,rfl,h,J,q]:=h;refine zX h.jb F.cJ F.j3 U U {a.re,U,.inr {_,.inl h.r.1},_,U,(),λl hl=>?_};generalize c_:upd H l _=H2;have #[o,u]:=uV c_ hl;have z:=h.same o;have #[dx,gr,aa,rk,wk,kx,M]:=u5.ex z.m;refine{_,.t z.r.1 (o _ _ J),?_};rw[show ((yu ([]:ya) (zD A)).getD (.ref l))=.ref l from rfl];refine zX z.jb F.cJ F.j1 U U {a.mks,_,_,U,M.im,jN (),_,U,_,U,a.mks,p,aI,_,D.g,D.ls,A,U,z.m,o _ _ J,λv H3 c hv=>?_};have O:=o.trans c;obtain ⟨rfl,_⟩|⟨i,rfl,_⟩:=hv
   .exact{_,U,U,_,U,yC U {_,U,.ref l,0,U,.inl {_,aM.of (c _ _ u),U},KW (K:=K) (Q:=Q) (a:=a) (k:=0) (c _ _ u) λ_ H' s=>q H' (O.trans s)}}
   .exact{_,U,U,_,U,zV U {_,U,_,U,_,_,U,U,l,[],_,U,c _ _ u,.nil,λk H4 I _ _ _=>KW (K:=K) (Q:=Q) (a:=a) (I _ _ (c _ _ u)) λ_ H' s=>q H' (O.trans (I.trans s))}}}}
 have #[d,p,a,lb,n,f,aI,D,A,rfl,_]:=h;rfl
theorem W1:Ba P w K mg base 4 t.a41 t.d41 ["self","rank","paper"] (vK t):=by
 refine T.g41.f.okA q0u λvs H Q E h=>{?_,λ_ _ _ _ m=>{_,(zb (zu 3 q0u.nd (Af (zy (Z 0) U) T.q0e (wK T) T.g35 m zj (L (Z 1) zc))) (zb (zL (Af (zy (Z 0) U) T.q0e (zb5 T) T.g38 m zj (L (Z 1) (L (zw zO (Z 2) zg) zc)))) (zb (y8 cn U (yU (zE Zo (Z 3) (Af (zy (Z 0) U) T.q0e (wK T) T.g35 m zj (L (Z 1) zc)))) (zY 4 q0u.nd) (zd (zL (Af (Z 0) T.q0m (QK T) T.g40 m zj (L (Z 4) (L (Z 1) zc)))))) (zb (ju (xc m) (zy (Z 0) U) (Z 1) (Z 2) U) (zb (ju (xc m) (zy (Z 0) U) (Z 1) (wL (b:=ae)) U) (zd (y8 cn U (yU (zw zO (Z 2) zg)) (kt U (yE (zY 4 q0u.nd) (yE (zY 5 q0u.nd) vP))) (zd (zL (bc (VQ T) T.g37 m zj (L (zy (Z 0) U) (L (Z 4) (L (Z 1) zc))))))))))))),by
   have F:=(dkF T);have #[d,nl,gl,v,e,a,lb,n,f,aI,D,rfl,h,h2,h3,h4,h5,nr,h6,h7,h8,q]:=h;have #[r,o,rfl,e1,e2,e3,e4]:=id h3;have #[dx,gr,ai,rk,wk,kx,M]:=u5.ex h.m;refine zX h.jb F.cJ F.j1 U U {a.mks,_,_,U,M.im,jN (),_,U,_,_,_,_,_,_,U,h.m,λl ys gs H1 I aK az hy ho=>?_};obtain rfl:gs=[]:=(ho.resolve_left λz=>nr (bL (f:=(·.1)) z)).2;cases hy;have h1:=h.same I;have lg:=(Zh e).2;refine zX h1.jb F.cJ F.j1 U U {a.mks,_,_,U,I _ _ M.im,jN (),_,U,_,U,r,_,2,_,U,U,aX.of (I _ _ e1),U,_,_,_,_,_,_,_,U,h1.m,h2,e4.to (.of I) (λo z=>I _ _ z),(λz=>by have h5:lb gl=0\/14<=lb gl:=h5;lia),{lg.1,b9 lg.2 ()},b9 h6 (),λH2 F2 k2 t2 m2 f2 g2=>?_};rw[zju nr] at m2;have #[O,ab,D2]:=h1.relay k2 t2 m2 f2 g2;have G2:=(Fr.same (M:=M1) I).trans ab;have as:H2 l=Y (.lst []):=ab.kp _ _ (.inl (h.o.out aK)) az;clear M wk kx;have #[dx,gr,ai,rk,wk,kx,M]:=u5.ex D2.m;refine{_,U,zX D2.jb F.cJ F.j1 U U {a.mks,_,_,U,M.im,jN (),_,U,_,_,_,_,_,_,U,D2.m,λl2 k gs2 H3 s3 a1 ar aa an=>?_}};have J:Qw gs2:=an.elim (λz=>(D2.m.ok _ z).2) λz=>by rw[z.2];exact{dU,bQ _}
   have a0:k.length<=63:=by rw[znh aa J.nd];exact J.le
   have aj:=zog aa;refine{l,l2,[],k,U,U,s3 _ _ as,ar,by rw[cu,lQ];lia,λp al=>?_};generalize c_:upd H3 p _=H4;have #[s4,A]:=uV c_ al;have S4:=s3.trans s4;have D4:=D2.same S4;rw[fY] at A;refine{p,U,{_,aM.of A},wP k (λi σ H'=>(∃o4 o5,σ=[Y (.ref a.jb),Y (.int aI),Y (.ref r),Y (.ref l),o4,o5])/\aJ H4 H') {{_,_,U},aJ.refl _} (λi σ H' z=>aM.of (z.2 _ _ A)) ?_ ?_}
   .rintro i u σ H' hu ⟨⟨o4,o5,rfl⟩,s⟩;have #[c,q0,rfl,hc]:=aj u (bU hu);exact xK (D4.same s).jb U U {_,U,_,U,d,c,a,O,n,f,aI,_,q0,U,D4.same s,s _ _ (s4 _ _ hc),λH5 s5=>{{_,_,U},s.trans s5}}
   .rintro σ H' ⟨⟨o4,o5,rfl⟩,s⟩;have D5:=D4.same s;have G5:=G2.trans (Fr.same (M:=M1) (S4.trans s));exact zlv F D5 (G5.ts _ _ e1) (G5.kp _ _ h4 e3) (by rw[G5.ex _ _ e3];exact h4) h7 h8 λH6 aS F6 D6 n1 n2=>q H6 O aS (G5.trans F6) D6 n1 n2}}
 have #[d,nl,gl,v,e,a,lb,n,f,aI,D,rfl,_]:=h;rfl
theorem zb6:Ba P w K mg base 2 t.a42 t.d42 ["self"] (X0 t):=by
 refine T.g42.f.okA q1t λJ H Q E h=>{?_,λ_ _ _ _ c=>{_,(zb (zN (wD (yJ (xm (Z 0) T.q09 (kq T) T.g12 c zj))) (zd (zo wa))
   zA) (zb (zu 1 q1t.nd (zW (VX U) U T.b_list xi (L (zcP (zy (Z 0) U)) zc))) (zb (zN (zx Jf (zy (Z 0) U) wa (zC _)) (zd (zo (zR (L (zR (L zI (L (zy (Z 0) U) zc))) (L (Z 1) (L (zT zc) zc))))))
    zA) (zd (zo (zR (L (zR (L zI (L (zW Yj U T.b_tuple Xl (L (zy (Z 0) U) zc)) zc))) (L (Z 1) (L (zK (Xv U (hu3 c)) U T.q10 kT (L (zcP (zy (Z 0) U)) zc)) zc))))))))),by have F:=(rnF T);have #[x,a,e,rfl,R,q]:=h;refine xK R.ix U U {x,a,e,1,1,U,R,_,U,zV U (zX R.ix F.cl F.n6 U U {a.no,_,U,R.hn,λr c=>?_})};generalize c1:upd H r _=Hv;have #[i,I]:=uV c1 c;refine{r,a.no,[],U,I,i _ _ R.hn,(),λl ys O o hl k u=>?_};cases u;have m:=i.trans o;exact ze7 F (R.same m) k λv A H' s Z z=>q v l A H' (m.trans s) Z (yi i hl) (yi m z)}}
 have #[x,a,e,rfl,_]:=h;rfl
theorem Wj:Ba P w K mg base 8 t.a43 t.d43 ["self","hand"] (X1 t):=by
 refine T.g43.f.okA q0v λo H Q E h=>{?_,λ_ _ _ _ c=>{_,(zb (zN (PW.pt (jm (zx Xe (Z 1) zg (zC _)) (wC (zx zfr (Z 1) (zy (Z 0) U) (zC _))))) (zd yh)
   zA) (zb (zN (zx (zeC (xc c)) (Z 1) (zy (Z 0) U) (by with_unfolding_all rfl)) (zd (zo (Af (Z 0) T.q0d (Y7 T) T.g34 c zj (L (Z 1) zc))))
    zA) (zb (zu 2 q0v.nd (zw zO (jt (xc c) (zy (Z 0) U) (Z 1) (λ_ _=>rfl)) zg)) (zb (zu 3 q0v.nd (zw zO (jt (xc c) (zy (Z 0) U) (Z 1) (λ_ _=>rfl)) zg)) (zb (zN (yJ (xm (Z 3) T.q09 (kq T) T.g12 c zj)) (zb (zL (JD (zy (Z 0) U) (Z 1) {U,U,U,U})) (zb (zL (Af (zy (Z 0) U) T.q0m (W1 T) T.g41 c zj (L (Z 2) (L (xm (Z 3) T.q09 (zb6 T) T.g42 c zj) zc)))) (zd (zo (zR (L zI (L (Z 1) (L (Z 2) zc))))))))
   zA) (zb (zu 4 q0v.nd (xm (Z 3) T.q09 (zdY T) T.g17 c zj)) (zb (zN (zx zec (Z 4) wa (zC _)) (zb (zL (zgW (Z 3) T.q09 T.me_Run_step (bv.mono (VP T) ()) c T.bd_Run_step zj)) (zd (zo (zR (L zI (L (Z 1) (L (Z 2) zc)))))))
   zA) (zb (zu 5 q0v.nd (Af (zy (Z 0) U) T.q0e (kM T) T.g20 c zj (L (Z 4) (L (Z 2) zc)))) (zb (zL (Jh (Z 3) T.q09 T.me_Run_step (bv.mono (VP T) ()) c T.q2h .nil zj (L (Z 5) zc))) (zd (zo (zR (L zI (L (Z 1) (L (Z 2) (L (Z 4) (L (Z 5) zc))))))))))))))))),by
   have F:=(dkF T);have #[d,a,lb,n,h0,g,CC,S,rfl,h,m,z,u,q]:=h;have #[D,J]:=h.ex;refine{_,U,_,_,U,U,_,U,zV (Bk ()) {_,U,zX J.d0 F.cD F.d1 U U {_,_,U,U,_,U,zV (Bk ()) {_,U,zX J.d0 F.cD F.d6 U U {a.hd,_,U,.k (k:=.inl h0) (J.o.at (i:=5) U),_,U,?_}}}}};obtain ⟨hv,hn⟩|⟨v,_,hv,_,tp,_,_,_,rfl,_⟩:=J.h.get (h:=h0)
   .rw[hv];exact yC U (xK J.d0 U U {_,U,d,a,lb,n,h0,g,CC,S,U,h,m,hn,q})
   .rw[hv];exact zV U (zhq F J m hv q)}}
 have #[d,a,lb,n,h,g,CC,S,rfl,_]:=h;rfl
theorem K6:Ba P w K mg base 9 t.a44 t.d44 ["self"] (ZI t):=by
 refine T.g44.f.okA q1u λvs H Q E h=>{?_,λ_ _ _ _ J=>{_,(zb (zu 1 q1u.nd (zT zc)) (zb (Ju cn (zx Xe (xm (Z 0) T.q0d (wz T) T.g10 J zj) (xm (Z 0) T.q0d (km T) T.g11 J zj) (zC _)) (zd (zL (yG bD bR bT ye (Z 1) (L (Af (Z 0) T.q0d (Wj T) T.g43 J zj (L (zE yS (zK yd U T.q06 yP (L (Z 1) zc)) (zy (Z 0) U)) zc)) zc))))) (zd (zo (Z 1))))),by
   have D:=(dkF T);have #[d,a,lb,n,g,CC,S,rfl,h,u,h1,h8,q]:=h;refine{(),λl hl=>?_};have s0:=hX (o:=HO.lst []) l hl;have P1:=zno u;have #[t0,T0]:=zjY u h1 h8 0;have:=T0.1;refine{FnE t H d l a lb n g CC S.en,{_,U,lb,[],S,t0,bo _,U,by show 0+_<=900;lia,T0,Fr.same s0,zh,h.l0 hl,(),λ_=>rfl,u,h.same s0},?_};rintro m σ H1 ⟨rfl,i,xs,S1,t1,A,I⟩;have #[c,cs,en,ec,ee,lc,le]:=I.dk.cmp I.ok.el;refine(xK c U U {d,_,a,n,0,en,U,c,ee,xK c U U {d,_,a,n,0,cs,U,c,ec,_,_,U,U,_,U,?_}});have el:=I.ok.el;have lm:=I.lm;obtain lt|ge:=fM en.length cs.length
   .refine yC (Bj ()) {λk H'=>∃m',m'<m/\FnE t H d l a lb n g CC S.en m' k H',λ_ _ z=>z,?_};have b1:=du (xs.length:Int) (show n≠0 by lia);have b2:=cN (xs.length:Int) (show 0<n by lia);refine{_,U,.inl {U,_,aM.of I.hl},xK c U U {_,U,.ref l,xs.length,U,.inl {_,aM.of I.hl,U},zX c D.cD D.d1 U U {_,_,U,U,by show (0:Int)<n;lia,d,a,i,n,(xs.length:Int)%n,g,CC,S1,U,I.dk,I.ok,b1,b2,λv H2 aa S2 F2 ev mv G2=>?_}}};have #[O,z]:=I.next (v:=v) A h1 h8 hl () F2 mv ev G2;exact{l,xs,v,U,U,O,yD (),z}
   .exact zV (Bk ()) {_,U,q l xs H1 i S1 I.fr I.l0 hl I.hl I.ev () I.e0 I.dk () I.ok}}}
 have #[d,a,lb,n,g,CC,S,rfl,_]:=h;rfl
theorem W2:Ba P w K mg base 2 t.a45 t.d45 ["outcome"] (WQ):=by
 refine T.g45.f.okA WK λvs H Q E h=>{?_,λ_ _ _ _ hr=>{_,(zb (zN (zx yI (zw zO (Z 0) zg) zI (zC _)) (zd (zo (zT (L zI (L (zw zO (Z 0) zg) zc)))))
   zA) (zd (zo (zE Zo (zT (L zI zc)) (wV U (osc:=zi jg) (N:=["outcome"]) (xs:=["worth"]) (ix:=[]) () (zeb (zw zO (Z 0) zg)) (λ_ _ _ _=>(xh (i:=0) (show eG (["worth"]:zQ) from ()) U (iy U) (.inr U))) (λ_ _ _ _=>wu) (λ_ _ _ _=>(bc (vO T) T.g6 hr zj (L (Z 0) zc)))))))),by
   have #[v,I,rfl,h1,h2,q]:=h;cases I with
   |off w=>exact h2.elim
   |done sa=>
    have #[o,y,rfl,ho,u]:=h1;have #[l1,l2]:=h2;have m1:1<=Bb:=by rw[cu];decide
    refine{_,U,o,_,0,_,U,U,aX.of ho,U,U,_,U,zV (Bk zdM) {m1,λp hp=>?_}};generalize e1:upd H p _=H1;have #[c,g1]:=je e1 hp;have O:(sa.map V.int).length=sa.length:=bh ..;refine{_,U,o,_,1,_,U,U,aX.of (c _ _ ho),U,y,U,{_,aX.of (c _ _ u)},λD hD=>?_};refine jF (J:=Itt K y) sa.length () (λA=>∃o,A=[o]) (λi v=>∃w,(sa.map zU)[i]?=Y w/\v=.str w) {_,U} (λi H s h=>{_,_,aX.of (s _ _ (c _ _ u)),bd (by rw[O];exact h)}) (λH s=>{_,aX.of (s _ _ (c _ _ u)),ir O}) hD ?_ ?_
    .rintro i x A H2 H3 ⟨o',rfl⟩ m z ⟨rfl,k⟩;have k:=k _ (aX.of (m _ _ (c _ _ u)));rw[br,bd z] at k;cases k;exact yC (R:=False) U {_,U,_,U,vB (l2 _ (c9 z)),λH4 s4=>{{_,U},{_,by rw[br,bd z];rfl,U},s4}}
    .intro ys H2 hl k m hq;obtain rfl:=zlq (ws:=sa.map zU) (by rw[bh];exact hl) k;exact{p,D,_,_,U,U,m _ _ g1,hq,yf (by rw[bh,bh];show 1+_<=_;lia),λb hb=>q b _ ((c.trans m).trans (hX b hb)) (yi (c.trans m) hb) zh}}}
 have #[v,I,rfl,_]:=h;rfl
theorem zb7:Ba P w K mg base 3 t.a46 t.d46 ["rank","paper"] (qD):=by
 refine T.g46.f.okA zbw λvs H Q E h=>{?_,λ_ _ _ _ i=>{_,(zd (zo (bc (K5 T) T.g5 i zj (L (zE Zo (zE Zo (zE Zo (zT (L zI (L (bc (vO T) T.g6 i zj (L (Z 0) zc)) zc))) (bc (W2 T) T.g45 i zj (L (zw zO (Z 1) zg) zc))) (zT (L zI zc))) (bc (Wf T) T.g7 i zj (L (zw zO (Z 1) zg) zc))) zc)))),by
   have #[r,p,o,tl,g,m,k,rfl,h1,h2,h3,J,h5,I,q]:=h;have #[w1,w2,_]:=zdJ J;have hl:=I.le;have hw:(Aq k).length<=200:=by rw[jB];lia
   have m1:1<=Bb:=by rw[cu];decide
   have m2:2<=Bb:=by rw[cu];decide
   refine{_,U,r,U,vB (zjN h2),λH1 s1=>{m2,λb hb=>?_}};generalize c2:upd H1 b _=H2;have #[s2,g2]:=je c2 hb;have S2:=s1.trans s2;refine{_,U,p,_,0,_,U,U,aX.of (S2 _ _ h1),U,_,m,U,h3.same S2,J,λl H3 s3 _ g3=>{b,l,_,_,U,U,s3 _ _ g2,g3,yf (by rw[bh];show 2+_<=_;lia),λb4 A=>{m1,λb5 c=>?_}}};generalize c4:upd H3 b4 _=H4 at c;have #[s4,g4]:=je c4 A;generalize c5:upd H4 b5 _=H5;have #[s5,g5]:=je c5 c;refine{b4,b5,_,_,U,U,s5 _ _ g4,g5,yf (by rw[bx,bh];show 2+_+1<=_;lia),λb6 z=>?_};generalize c6:upd H5 b6 _=H6;have #[s6,g6]:=je c6 z;have O:=(((S2.trans s3).trans s4).trans s5).trans s6;refine{_,U,p,_,2,_,U,U,aX.of (O _ _ h1),U,g,k,U,h5.same O,I,λl7 H7 s7 _ g7=>{b6,l7,_,_,U,U,s7 _ _ g6,g7,yf (by rw[bx,bx,bh,bh];show 2+_+1+_<=_;lia),λb8 u=>{b8,xR r m k,U,?_,zbO h2 J I,?_,λH9 s9=>q H9 ((O.trans s7).trans ((hX b8 u).trans s9))}}}
   .rw[zh,xR,bC,bC,b7,bC,cF,cF];rfl
   .rw[xR,bG,bG,bx,bG];lia}}
 have #[r,p,o,tl,g,m,k,rfl,_]:=h;rfl
theorem vi:Ba P w K mg base 4 t.a47 t.d47 ["self"] (vc t):=by
 refine T.g47.f.okA q1v λvs H Q E h=>{?_,λ_ _ _ _ hr=>{_,(zd (y8 cn U (yU (xF wT (zy (zy (Z 0) U) U) (xM (zE jD (zy (Z 0) U) (zy (zy (Z 0) U) U))) vR)) (zY 1 q1v.nd) (zb (zL (yG bD bR bT ye (zy (Z 0) U) (L (bc (zb7 T) T.g46 hr zj (L (zy (Z 0) U) (L (Z 1) zc))) zc))) (zb (zL (yG bD bR bT ye (zy (Z 0) U) (L (zR (L (zy (Z 0) U) (L (zw zO (Z 1) zg) zc))) zc))) (zd (Ws (f:="due") (Z 0) zg zeg)))))),by
   have F:=(hsF T);have D:=(dkF T);have #[x,b,a,lb,n,g,CC,S,k,u,rfl,hs,an,hk,hd,ok,q]:=h;have #[DV,J]:=hd.ex;have ed:=J.d0;have ee:=J.o.at (i:=8) rfl;have pe:=J.e;have el:=ok.el;have le:=bO pe;rw[cf] at le;have lc:=ok.cc;have #[z1,z2,z3]:=hs.l0;refine zX hs.ix F.cl F.n4 U U {b.d,_,_,_,_,U,ed,D.cD,D.d9,U,zX hs.ix F.cl F.n1 U U (zX hs.ix F.cl F.n4 U U {b.d,_,_,_,_,U,ed,D.cD,D.d3,U,_,_,U,U,_,U,a.en,_,U,aM.of ee,λp hp=>?_})};rw[show (k:Int)-0=(k:Int) by lia,zjG DV.en k];generalize c_:upd H p _=H1;have #[O,e0]:=uV c_ hp;refine{p,U,{_,aM.of e0},wP (DV.en.drop k) (λi σ H'=>(∃o,σ=[Y (.ref x),o])/\∃u,WsI t H x p b (DV.en.drop k) g CC (k+i) H' u) {{_,U},u,λc o _ _ _ e=>O _ _ e,e0,O _ _ hs.ix,O _ _ hs.ht,O _ _ hs.hl,an.ts (.of O)} (λi σ H' z=>let ⟨_,_,I⟩:=z;aM.of I.hp) ?_ ?_}
   .rintro i v σ H' hv ⟨⟨o,rfl⟩,u,I⟩;rw[oy] at hv;have #[e,A,nl,gl,Z,ln,lg]:=Paired.getP pe hv;have A:CC[k+i]?=Y e:=by have:=(bp.mp A).1;rw[cf] at this;rw[cM ()] at A;exact A
    have aa:TSm H H':=λc zs e=>I.kp c _ (zJ e hs.ix ()) (zJ e hs.ht ()) (zJ e hs.hl ()) e;have kl:∀ {c o},lb c=14->H c=Y o->H' c=Y o:=λ{c o} l e=>I.kp c o (λy=>by rw[y,z1] at l;cases l) (λy=>by rw[y,z2] at l;cases l) (λy=>by rw[y,z3] at l;cases l) e;exact zlB (m:=k+i) (Q:=Q) F (zq hs.ix hp) (zq hs.ht hp) (zq hs.hl hp) hs.ne A (by have:=(bp.mp A).1;lia) (ok.ok e (bU A)) (Z.to aa (λo e=>kl ln e) (λo e=>kl lg e)) I
   .rintro σ H' ⟨⟨o,rfl⟩,u,I⟩;rw[fD,show k+(DV.en.length-k)=S.en by lia] at I;exact q H' u I.kp {I.ix,I.ht,I.hl,hs.ne,hs.l0} I.an}}
 have #[x,b,a,lb,n,g,CC,S,k,u,rfl,_]:=h;rfl
theorem jk:Ba P w K mg base 10 t.a48 t.d48 ["self"] (xH t):=by
 refine T.g48.f.okA q1w λvs H Q E h=>{?_,λ_ _ _ _ hr=>{_,(zb (zu 1 q1w.nd (xm (zy (Z 0) U) T.q0d (K6 T) T.g44 hr zj)) (zb (zL (xm (Z 0) T.q08 (vi T) T.g47 hr zj)) (zd (zo (Z 1))))),by have F:=(hsF T);have #[x,n,g,CC,S,N,rfl,h1,n1,n8,q]:=h;have #[b,a,lb,ts,G,z]:=h1;obtain rfl:=zfa z;refine zX G.h.ix F.cl F.n4 U U {b.d,_,_,U,(G.d.cmp G.o.el).1,U,b.d,a,lb,n,g,CC,S,U,G.d,G.o,n1,n8,λl xs H1 o S1 J l0 hl A ev x9 xn G1 I m=>?_};have k:=G.h.fr J;have el:=G.o.el;exact{_,U,_,_,_,U,k.ix,U,x,b,a,o,n,g,CC,S1,S.en,ts,U,k,G.an.ts J.ts,(),G1,m,λH2 aa u h2 an=>let ⟨f,i⟩:=Ad.mv G J u h2 an G1 m;have l1:=zq G.h.ix hl;have l2:=zq G.h.ht hl;have O:=zq G.h.hl hl;{_,U,q l xs H2 _ S1 f (λy=>y.elim (λy=>y l0) λy=>y.elim (λy=>l1 y.symm) λy=>y.elim (λy=>l2 y.symm) λy=>O y.symm) hl (u _ _ l1.symm l2.symm O.symm A) (λv hv=>EvV.ts (ev v hv) λc zs e=>u c _ (zJ e k.ix ()) (zJ e k.ht ()) (zJ e k.hl ()) e) x9 xn i I}}}}
 have #[x,n,g,CC,S,N,rfl,_]:=h;rfl
theorem Y9:Ba P w K mg base 1 t.a49 t.d49 ["text"] (YS):=by
 refine T.g49.f.okA zeS λk H Q E h=>?_;have #[x,rfl,c,q]:=h;exact{U,λ_ _ _ _ m=>{Kt K t,(zb (zN (PW.pt (jm (zx yI (Z 0) zI (zC _)) (wC (zx zce (zK yd U T.q06 yP (L (Z 0) zc)) (xv U T.g_MOST_LETTERS {_,U}) (zC _))))) (zd (zo (wL (b:=ah))))
   zA) (zb (zN (PW.pt (jm (zx wO (Z 0) (xv U T.g_JOINING U) (by with_unfolding_all rfl)) (wC (zx wO (Z 0) (xv U T.g_ROW_WORDS U) (by with_unfolding_all rfl))))) (zd (zo (wL (b:=ah))))
    zA) (zd (zo (zK (zae U) U T.q2b zh6 (L (wV U (osc:=zi WG) (N:=["text"]) (xs:=["sign"]) (ix:=[]) () (zh7 (Z 0)) (λ_ _ _ _=>(xh (i:=0) (show eG (["sign"]:zQ) from ()) U (iy U) (.inr U))) (λ_ _ _ _=>wu) (λ_ _ _ _=>(vQ QV (Z 0) (xv U T.g_LETTERS {_,U}) (by with_unfolding_all rfl)))) zc)))))),zdI c T.q19 T.q32 q}}
theorem zd1:Ba P w K mg base 2 t.a50 t.d50 ["word"] (VA):=by
 refine T.g50.f.okA zdg λk H Q E h=>?_;have #[w,rfl,i,q]:=h;exact{U,λ_ _ _ _ c=>{ZW K t,(zb (zN (wD (yJ (bc (Y9 T) T.g49 c zj (L (Z 0) zc)))) (zd yh)
   zA) (zd (zo (Z 0)))),zbQ i q}}
theorem zd2:Ba P w K mg base 1 t.a51 t.d51 ["thing"] (Vz K):=by
 refine T.g51.f.okA zdh λc H Q E h=>?_;have #[i,rfl,h,q]:=h;exact{U,λ_ _ _ _ k=>{VJ K t,(zb (zN (PW.pt (jm (wD (yJ (zK xx U T.q0f yq (L (Z 0) (L (xV U T.b_int za9 U) zc))))) (wC (yJ (zK xx U T.q0f yq (L (Z 0) (L (xV U T.q2c zfB U) zc))))))) (zd (zo (wL (b:=ah))))
   zA) (zd (zo (zhQ zfq zfq (Vb Zm (zE Wq zg zg)) (Z 0) (zE Wq zg zg))))),zbJ (kf K).i_b h q}}
theorem QL:Ba P w K mg base 1 t.a52 t.d52 ["text"] (Yp):=by refine T.g52.f.okA Qn λk H Q E h=>?_;have #[x,rfl,c,q]:=h;exact{U,λ_ _ _ _ m=>{kJ K t,(zd (zo (Wp (vQ wN (Z 0) zI (zC _)) (Wo (zK (zae U) U T.q2b zh6 (L (wV U (osc:=zi qA) (N:=["text"]) (xs:=["sign"]) (ix:=[]) () (zh7 (Z 0)) (λ_ _ _ _=>(xh (i:=0) (show eG (["sign"]:zQ) from ()) U (iy U) (.inr U))) (λ_ _ _ _=>wu) (λ_ _ _ _=>(vQ QV (Z 0) (xv U T.g_FIGURES {_,U}) (by with_unfolding_all rfl)))) zc)))))),KM c q}}
theorem YA:Ba P w K mg base 2 t.a53 t.d53 ["text"] (Qt):=by
 refine T.g53.f.okA q1f λk H Q E h=>?_;have #[x,rfl,h,i,q]:=h;exact{U,λ_ _ _ _ c=>{Yw K t,(zb (zu 1 q1f.nd (vX (yJ (yG cX PySem.F.slot_str_startswith PySem.F.type_str_startswith Qe (Z 0) (L zI zc))) (xF zmH (Z 0) (xM zg) vR) (Z 0))) (zb (zN (PW.pt (jm (zx zce (zK yd U T.q06 yP (L (Z 1) zc)) (xv U T.g_MOST_FIGURES {_,U}) (zC _)) (wC (wD (yJ (bc (QL T) T.g52 c zj (L (Z 1) zc))))))) (zd (zo (wL (b:=ah))))
    zA) (zb (zu 2 q1f.nd (zW Xm U T.b_int za9 (L (Z 0) zc))) (zd (zo (Wp (bc (zd2 T) T.g51 c zj (L (Z 2) zc)) (Wo (vQ yI (bc (vO T) T.g6 c zj (L (Z 2) zc)) (Z 0) (zC _))))))))),KN h i q}}
theorem VR:Ba P w K mg base 3 t.a54 t.d54 ["text"] (zdm):=by
 refine T.g54.f.okA zdi λo H Q E h=>?_;have #[w,rfl,m,q]:=h;exact{U,λ_ _ _ _ i=>{_,(zb (zN (wD (yJ (bc (YA T) T.g53 i zj (L (Z 0) zc)))) (zd yh)
   zA) (zd (zo (zW Xm U T.b_int za9 (L (Z 0) zc))))),by
   have #[a,b,c]:=xQ m;refine{_,U,zU w,U,a,(),λH' s=>{_,U,zV U {_,U,zU w,w,U,?_,(),q H' s}}};unfold jH at a;rw[bY,dH,gG,decide_eq_false_iff_not] at a;have u:=WB (zU w);have k:kW (we (zU w))=ae:=by simpa using a.1.2
   have z:=JI k ();rw[z];exact congrArg Y b}}
theorem jC:Ba P w K mg base 4 t.a55 t.d55 ["word"] (xY):=by refine T.g55.f.okA zbx λk H Q E h=>?_;have #[w,rfl,i,q]:=h;exact{U,λ_ _ _ _ c=>{_,(zd (Xx (zo (bc (VR T) T.g54 c zj (L (Z 0) zc))))),({_,U,w,U,i,q})}}
theorem zff:Ba P w K mg base 5 t.a56 t.d56 ["words"] (qE):=by
 refine T.g56.f.okA q0w λk H Q E h=>{?_,λ_ _ _ _ c=>{Ku K t,(zb (zN (zx wN (zE yS (zK yd U T.q06 yP (L (Z 0) zc)) zg) zg (zC _)) (zd yh)
   zA) (zb (zu 1 q0w.nd (zT zc)) (zb (y8 cn U (zgS U T.q0q (L zg (L (zK yd U T.q06 yP (L (Z 0) zc)) (L zg zc)))) (zY 2 q0w.nd) (zb (zu 3 q0w.nd (zR (L (bc (zd1 T) T.g50 c zj (L (zw zH (Z 0) (Z 2)) zc)) (L (bc (jC T) T.g55 c zj (L (zw zH (Z 0) (zE yO (Z 2) zg)) zc)) zc)))) (zd (zL (yG bD bR bT ye (Z 1) (L (zR (L (Z 3) (L (bc (jC T) T.g55 c zj (L (zw zH (Z 0) (zE yO (Z 2) zg)) zc)) zc))) zc)))))) (zb (JF (j:=4) q0w.nd U U (iy U) (osc:=zi WH) (N:=["words","rows","at","place","places"]) (xs:=["place","worth"]) (ix:=[]) () (yU (Z 1)) (λ_ _ _ _=>(kt U (yE (xh (i:=0) (show eG (["place","worth"]:zQ) from ()) U (iy U)) (yE (xh (i:=1) (show eG (["place","worth"]:zQ) from ()) U (iy U)) vP)))) (λ_ _ _ _=>wu) (λ_ _ _ _=>(Z 0))) (zb (zN (zx (ziB (VW c)) (Z 4) (zk6 U (hu8 c) U T.q10 U T.b_set (L (Z 4) zc)) (zC _)) (zd yh)
    zA) (zd (zo (Z 1)))))))),zdR h}}
 have #[a,ac,rfl,_]:=h;rfl
theorem QM:Ba P w K mg base 5 t.a57 t.d57 ["words"] (Yq):=by
 refine T.g57.f.okA Qo λk H Q E h=>{?_,λ_ _ _ _ c=>{Yx K t,(zb (zN (zx (zid (VW c)) (xF wT (Z 0) vR (xM zg)) (zT (L zI zc)) (zC _)) (zd (zo (zR (L zI (L (zW Yj U T.b_tuple Xl (L (wV U (osc:=zi qB) (N:=["words"]) (xs:=["word"]) (ix:=[]) () (yU (xF wT (Z 0) (xM zg) vR)) (λ_ _ _ _=>(xh (i:=0) (show eG (["word"]:zQ) from ()) U (iy U) (.inr U))) (λ_ _ _ _=>wu) (λ_ _ _ _=>(bc (jC T) T.g55 c zj (L (Z 0) zc)))) zc)) zc)))))
   zA) (zb (zN (PW.pt (Wn (zx yI (zK yd U T.q06 yP (L (Z 0) zc)) zg (zC _)) (Wn (zx yI (zw zH (Z 0) zg) zI (zC _)) (Xd (zx wO (zw zH (Z 0) zg) (xv U T.g_WHYS U) (by with_unfolding_all rfl)))))) (zd (zo (zR (L zI (L (zw zH (Z 0) zg) zc)))))
    zA) (zd yh))),KR h}}
 have #[a,m,rfl,_]:=h;rfl
theorem K7:Ba P w K mg base 5 t.a58 t.d58 ["word"] (Kj):=by
 refine T.g58.f.okA q1x λk H Q E h=>?_;have #[w,rfl,i,q]:=h;exact{U,λ_ _ _ _ c=>{Y2 K t,(zb (zu 1 q1x.nd (bc (jC T) T.g55 c zj (L (Z 0) zc))) (zb (zN (PW.pt (jm (zx Xe (Z 1) zg (zC _)) (wC (zx zce (Z 1) (zE Wq zg zg) (zC _))))) (zd yh)
    zA) (zd (zo (Z 1))))),zdN i q}}
theorem zfg:Ba P w K mg base 6 t.a59 t.d59 ["words","rows"] (YU):=by
 refine T.g59.f.okA q1y λvs H Q E h=>{?_,λ_ _ _ _ c=>{_,(zb (zu 2 q1y.nd (bc (QM T) T.g57 c zj (L (xF wT (Z 0) (xM zg) vR) zc))) (zb (zN (PW.pt (Wn (zx yI (zw zO (Z 2) zg) zI (zC _)) (Xd (zx (Xy (VW c)) (Z 1) (zT zc) (zC _))))) (zd yh)
    zA) (zd (zo (zR (L zI (L (bc (K7 T) T.g58 c zj (L (zw zH (Z 0) zg) zc)) (L (Z 2) (L (Z 1) zc))))))))),by
   have #[a,g,r,m,gs,rfl,I,h2,A,h4,h5,q]:=h;cases m with
   |off w=>exact A.elim
   |done sa=>
    have c2:jU (((bb "deal")::zU r::ocW (.done sa)).map V.str) (Y ((2:Nat):Int)) af=(ocW (.done sa)).map V.str:=KO V.str ((bb "deal")::zU r::ocW (.done sa)) (lf (lf (bQ _)));have m4:4<=Bb:=by rw[cu];decide
    refine{_,U,((2:Nat):Int),U,a,_,U,aM.of I,λp hp=>?_};rw[c2];refine{p,.done sa,U,zh,A,λv H1 O u=>?_};have J:=(hX p hp).trans O;have #[o,y,rfl,i,_]:=id u;exact{_,U,o,_,0,_,U,U,aX.of i,U,U,_,U,zV (Bk zdM) (zV U {_,U,a,_,((1:Nat):Int),_,U,U,aM.of (J _ _ I),yy U,r,U,h2,λH3 k=>{_,U,_,U,m4,λb z=>q b _ _ ((J.trans k).trans (hX b z)) (u.same (k.trans (hX b z))) zh}})}}}
 have #[a,g,r,m,gs,rfl,_]:=h;rfl
theorem zfh:Ba P w K mg base 6 t.a60 t.d60 ["words","rows"] (qF):=by
 refine T.g60.f.okA zeT λk H Q E h=>{?_,λ_ _ _ _ c=>{Kv K t,(zb (zN (zx wN (zK yd U T.q06 yP (L (Z 0) zc)) zg (zC _)) (zd yh)
   zA) (zb (zN (yJ (zK (zgY U) U T.q2y zmC (L (wV U (osc:=zi WI) (N:=["words","rows"]) (xs:=["place","worth"]) (ix:=[]) () (yU (Z 1)) (λ_ _ _ _=>(kt U (yE (xh (i:=0) (show eG (["place","worth"]:zQ) from ()) U (iy U)) (yE (xh (i:=1) (show eG (["place","worth"]:zQ) from ()) U (iy U)) vP)))) (λ_ _ _ _=>wu) (λ_ _ _ _=>(vQ yI (Z 1) zg (zC _)))) zc))) (zd yh)
    zA) (zd (zo (zR (L zI (L (bc (K7 T) T.g58 c zj (L (zw zH (Z 0) zg) zc)) (L (Z 1) zc)))))))),zdP h}}
 have #[a,g,r,m,rfl,_]:=h;rfl
theorem zfi:Ba P w K mg base 2 t.a61 t.d61 ["text"] (YV):=by
 refine T.g61.f.okA q1z λm H Q E h=>?_;have #[b,rfl,k,i,q]:=h;exact{U,λ_ _ _ _ c=>{Kw K t,(zb (zu 1 q1z.nd (yG cX PySem.F.slot_str_rpartition PySem.F.type_str_rpartition Qj (Z 0) (L zI zc))) (zb (zN (zx wN (zw zO (Z 1) zg) (bc (VO T) T.g4 c zj (L (zw zO (Z 1) zg) zc)) (zC _)) (zd yh)
    zA) (zd (zo (zw zO (Z 1) zg))))),zdO k i q}}
theorem Wk:Ba P w K mg base 7 t.a62 t.d62 ["text"] (XW):=by
 refine T.g62.f.okA q15 λi H Q E h=>?_;have #[v,rfl,h]:=h;exact{U,λ_ _ _ _ c=>{jA K t,(zb (zu 1 q15.nd (yG cX eB fZ Zv (bc (zfi T) T.g61 c zj (L (Z 0) zc)) (L zI zc))) (zb (zN (zx za5 zI (Z 1) (by with_unfolding_all rfl)) (zd yh)
    zA) (zb (zu 2 q15.nd (yG bD PySem.F.slot_list_index PySem.F.type_list_index zjm (Z 1) (L zI zc))) (zb (zu 3 q15.nd (bc (zff T) T.g56 c zj (L (xF wT (Z 1) (xM (zE yO (Z 2) zg)) vR) zc))) (zb (zN (zx yI (zw zH (Z 1) zg) zI (zC _)) (zd (zo (bc (zfg T) T.g59 c zj (L (xF wT (Z 1) vR (xM (Z 2))) (L (Z 3) zc)))))
    zA) (zb (zN (zx yI (zw zH (Z 1) zg) zI (zC _)) (zd (zo (bc (zfh T) T.g60 c zj (L (xF wT (Z 1) vR (xM (Z 2))) (L (Z 3) zc)))))
    zA) (zd yh))))))),QE h}}
theorem zd3:Ba P w K mg base 8 t.a63 t.d63 ["line"] (VF):=by
 refine T.g63.f.okA zdj λvs H Q E h=>{?_,λ_ _ _ _ O=>{_,(zd (Xx (zo (bc (Wk T) T.g62 O zj (L (Z 0) zc))))),by
   have #[g,es,i,x,rfl,A,J,I,q]:=h;cases i with
   |zero=>
    have:xq (jq 0 g)=x:=bX A;subst this;exact{_,U,_,U,.inr {0,g,U,{(),()},J.rs,J.nz,λp o H' s k hl c=>q _ H' s (.inl {U,p,o,U,c,hl,k})}}
   |succ j=>
    have #[e,m,rfl]:=dl_at.mp (show (dlL es 0)[j]?=Y x from A);rw[gy];have u:=I.2 e (bU m);have:=(bp.mp m).1;have:=I.1;exact{_,U,_,U,.inl {j,e.oc,e.gi,U,{(),()},zgj u,zgk u,(λw z=>by unfold Dl.oc at z;cases z),λp v o H' s ho k hl c=>q _ H' s (.inr {j,e,p,v,o,rfl,m,rfl,c,ho,hl,k})}}}}
 have #[g,es,i,x,rfl,_]:=h;rfl
theorem VS:Ba P w K mg base 1 t.a64 t.d64 ["text"] (VE):=by
 refine T.g64.f.okA zdk λO H Q E h=>{?_,λ_ _ _ _ hr=>{_,(zd (zo (xF wT (yG cX eB fZ Zv (Z 0) (L zI zc)) vR (xM (Vb Zm zg))))),by have #[g,es,rfl,J,u,q]:=h;have A:=ze8 J u;have ll:=KZ g es;have I:=u.1;have i:fJ (kD (Aj g es)) (bb "\n")=Aj g es++[bb ""]:=zaY λx c=>(A x c).1;refine{_,U,U,_,_,U,U,(),zgg (λx c=>(A x c).2) (),by rw[i,bx,dz];lia,λl hl=>?_};rw[i];have k:=hX (o:=HO.lst ((Aj g es++[bb ""]).map V.str)) l hl;refine{1,U,-1,U,l,_,U,aM.of zh,λp m=>q p _ (k.trans (hX p m)) (yi k m) ?_};rw[zh,b7];refine congrArg (λz=>Y (HO.lst z)) ?_;exact zjR _ _}}
 have #[g,es,rfl,_]:=h;rfl
theorem QN:Ba P w K mg base 9 t.a65 t.d65 ["text"] (Qy):=by
 refine T.g65.f.okA q20 λvs H Q E h=>{?_,λ_ _ _ _ hr=>{_,(zb (JF (j:=1) q20.nd U U (iy U) (osc:=zi qC) (N:=["text","entries"]) (xs:=["line"]) (ix:=[]) () (yU (bc (VS T) T.g64 hr zj (L (Z 0) zc))) (λ_ _ _ _=>(xh (i:=0) (show eG (["line"]:zQ) from ()) U (iy U) (.inr U))) (λ_ _ _ _=>wu) (λ_ _ _ _=>(bc (zd3 T) T.g63 hr zj (L (Z 0) zc)))) (zb (zN (PW.pt (jm (zx (JJ (VW hr)) (Z 1) (zT zc) (zC _)) (wC (zx wN (zw zO (zw zH (Z 1) zg) zg) zI (zC _))))) (zd yh)
    zA) (zd (zo (Z 1))))),by
   have #[g,es,rfl,h1,h2,q]:=h;have ll:=KZ g es;have ai:=h2.1;refine{_,U,g,es,U,h1,h2,λl H1 s1 hl e1=>{l,U,{_,aM.of e1},λD hD=>?_}};refine zhi (J:=Itl K l) (Aj g es).length () (λτ=>∃o,τ=[o]) (λi ys H=>ys.length=i/\∀j v,ys[j]?=Y v->EnA (λ_=>True) (noD D H) g es j v) (λi ys H H' k h=>{h.1,λj v u=>(h.2 j v u).same (zj5 k)}) {_,U} {U,nofun} (λi H s h=>{_,_,aM.of (s _ _ e1),bd (by rw[bh];exact h)}) (λH s=>{_,aM.of (s _ _ e1),by rw[bh];exact bo _}) hD ?_ ?_
   .rintro i v τ ys H4 H5 ⟨o,rfl⟩ s4 hi A hy ⟨rfl,hv⟩;have hv:=hv _ (aM.of (s4 _ _ e1));rw[br] at hv;have #[x,hx,rfl]:=cm.mp hv;refine yC (R:=False) U {_,U,g,es,i,x,U,hx,h1,h2,λv H6 s6 en=>{{_,U},{by rw[bx,A.1];rfl,λj w u=>?_},s6}};obtain c|c:=fM j ys.length
    .rw[cR c] at u;exact(A.2 j w u).same (zj5 λb o _ z=>s6 _ _ z)
    .rw[dA c] at u;obtain rfl:j=i:=by have:=(bp.mp u).1;have r1:=A.1;have:j-ys.length<1:=this;lia
     rw[A.1,rV] at u;cases u;have ab:=s6 _ _ hy;exact en.up (λb zs z=>ze9 (zJ z ab ()) z) (λb o p z=>ze9 (λy=>by rw[y,hy] at p;cases p) z) λ_ _=>trivial
   .intro ys H4 _ A s4 hq;have I:zoc H4 g es ys:={A.1.trans ll,λj v u=>(A.2 j v u).same zj4};refine{_,U,bQ _,λp hp=>{D,p,ys,U,U,aM.of (hX p hp _ _ hq),aM.of zh,_,U,?_}};have O:=hX (o:=HO.lst []) p hp;have yn:ys≠[]:=λz=>by have:=A.1;rw[z] at this;rw[ll] at this;cases this
    obtain⟨v0,aa⟩:∃v,ys[0]?=Y v:={_,bd (sQ.mpr yn)};obtain ⟨_,m,gl,rfl,em,_,_⟩|⟨j,_,_,_,_,z,_⟩:=I.2 0 v0 aa
    .refine zV (Bk yn) {_,U,D,ys,0,_,U,U,aM.of (O _ _ hq),yy aa,m,_,0,_,U,U,aX.of (O _ _ em),U,U,_,U,zV U {_,U,q D ys _ (s1.trans (s4.trans O)) (O _ _ hq) {I.1,λj v u=>(I.2 j v u).same O}}}
    .cases z}}
 have #[g,es,rfl,_]:=h;rfl
theorem kr:Ba P w K mg base 1 t.a66 t.d66 ["rows"] (ZG):=by
 refine T.g66.f.okA q21 λvs H Q E h=>{?_,λ_ _ _ _ k=>{_,(zb (zd7 (i:=1) q21.nd U (uF U) (zW (jf U (hu3 k)) U T.q1k zba (L (Z 0) zc))) (zd (zo (wV U (osc:=zi YN) (N:=["rows","worths"]) (xs:=["place"]) (ix:=[1]) () (yU (zK (Xq U) U T.q10 kT (L (Z 1) zc))) (λ_ _ _ _=>(xh (i:=0) (show eG (["place","worths"]:zQ) from ()) U (iy U) (.inr U))) (λ_ _ _ _=>(zky (zx wN (jt (xc k) (Z 1) (Z 0) (λ_ _=>rfl)) zg (zC _)))) (λ_ _ _ _=>(zR (L (Z 0) (L (jt (xc k) (Z 1) (Z 0) (λ_ _=>rfl)) zc)))))))),by
   have #[a,ac,rfl,h1,h2,O,q]:=h;have #[xs,u,o]:=h1;refine{_,U,a,xs,ac,U,u,o,O,λd J=>?_};generalize c_:upd H d _=H0;have #[m,d0]:=je c_ J;refine zmc (ac:=ac) U U d0 h2 (λp q0 w H' A Bo _ g a b=>{_,U,_,U,d,_,U,g,U,_,U,?_}) λl c H' s hl I T _=>q l c H' (m.trans s) (yi m hl) I T;by_cases w0:w=0
   .exact zV (by rw[w0];rfl) (b w0)
   .exact yC (by rw[Bk (λz=>w0 (V.int.inj z))];rfl) (a w0)}}
 have #[a,ac,rfl,_]:=h;rfl
theorem zfj:Ba P w K mg base 10 t.a67 t.d67 ["text"] (Kq):=by
 refine T.g67.f.okA q0l λvs H Q E h=>{?_,λ_ _ _ _ u=>{_,(zb (zu 1 q0l.nd (bc (QN T) T.g65 u zj (L (Z 0) zc))) (zb (zu 2 q0l.nd (zw zO (zw zH (Z 1) zg) zg)) (zb (zu 3 q0l.nd (zW yZ U T.b_list xi (L (zw zO (zw zH (Z 1) zg) zg) zc))) (zb (zu 4 q0l.nd (zT zc)) (zb (y8 cn U (yU (xF wT (Z 1) (xM zg) vR)) (zY 5 q0l.nd) (zb (zN (zx wN (zw zO (Z 5) zg) (Z 2) (zC _)) (zd yh)
    zA) (zd (zN (zx yI (zw zO (Z 5) zg) zI (zC _)) (zb (zL (yG bD lH lJ Wu (Z 3) (L (zw zO (Z 5) zg) zc))) (zb (zL (yG bD bR bT ye (Z 4) (L (zR (L (Z 2) (L (zw zO (Z 5) zg) zc))) zc))) (zd (zhK (i:=2) q0l.nd U (iy U) zg zhL)))) (zd (zN (zx wN (zw zH (Z 5) zg) (bc (kr T) T.g66 u zj (L (Z 3) zc)) (zC _)) (zd yh)
   zA)))))) (zd (zo (zR (L (Z 2) (L (bc (kr T) T.g66 u zj (L (Z 3) zc)) (L (Z 4) zc))))))))))),by
   have #[g,es,rfl,h1,h2,q]:=h;have a6:=h2.1;have g5:=h1.le;refine{_,U,g,es,U,h1,h2,λl xs H1 s1 e1 en=>?_};obtain⟨v0,ab⟩:∃v,xs[0]?=Y v:={_,bd (by rw[en.1];exact ot _)};obtain⟨m,A,rfl,em,ws,eg,pg⟩:∃m A,v0=.ref m/\H1 m=Y (.tup [.str "mark",.int 0,.ref A])/\aV H1 A g:=by
    obtain ⟨_,m,A,e,em,lg,_⟩|⟨j,_,_,_,_,z,_⟩:=en.2 0 v0 ab
    .exact{m,A,e,em,lg}
    .cases z
   refine{_,U,l,xs,0,_,U,U,aM.of e1,yy ab,m,_,1,_,U,U,aX.of em,U,_,U,l,xs,0,_,U,U,aM.of e1,yy ab,m,_,2,_,U,U,aX.of em,U,A,ws,U,.inl (aM.of eg),λk aj=>?_};generalize c1:upd H1 k _=H2;have #[s2,e2]:=uV c1 aj;refine{bQ _,λtd aa=>?_};generalize c2:upd H2 td _=H3;have #[s3,e3]:=uV c2 aa;refine{_,U,1,U,l,_,U,aM.of ((s2.trans s3) _ _ e1),λlc ai=>?_};rw[show jU xs (Y 1) af=xs.drop 1 from zjG xs 1];generalize c3:upd H3 lc _=H4;have #[s4,e4]:=uV c3 ai;have S4:=s2.trans (s3.trans s4);have n1:k≠td:=zq e2 aa;have n2:k≠lc:=zq (s3 _ _ e2) ai;have n3:td≠lc:=zq e3 ai;have f1:H k=af:=s1.free aj;have f2:H td=af:=yi (s1.trans s2) aa;have a4:∀j v,xs[j]?=Y v->EnA (λb=>b≠k/\b≠td) H4 g es j v:=λj v hj=>by
    have e0:=en.2 j v hj;have:EnA (λb=>∃o,H1 b=Y o) H1 g es j v:=by
     obtain ⟨e,q,A,e1,e2,e3,e4⟩|⟨j,d,q,o,A,e1,e2,e3,e4,e5,e6,e7⟩:=e0
     .exact .inl {e,q,A,e1,e2,e3,e3.has}
     .exact .inr {j,d,q,o,A,e1,e2,e3,e4,e5,e6,e6.has}
    exact this.up (.of S4) (λb o _ z=>S4 _ _ z) λb ⟨o,z⟩=>{zq z aj,zq (s2 _ _ z) aa}
   refine{lc,U,{_,aM.of e4},wP (xs.drop 1) (λi σ H'=>(∃o5,σ=[Y (.str (kD (Aj g es))),Y (.ref l),Y (.int (i:Nat)),Y (.ref k),Y (.ref td),o5])/\CuI H l k td lc xs g es i H') {{_,U},s1.trans S4,e4,a4,{ws,(s3.trans s4) _ _ e2,by show Bl _ ws (g++[]);rw[cL];exact qg S4 pg},[],s4 _ _ e3,U,nofun} (λi σ H' z=>aM.of z.2.hc) ?_ ?_}
   .rintro i v σ H' hv ⟨⟨o5,rfl⟩,I⟩;rw[oy,Nat.add_comm] at hv;obtain ⟨z,_⟩|⟨j,e,p,o,gl',ej,he,rfl,ep,eo,O,ng1,ng2⟩:=I.en _ v hv
    .cases z
    obtain rfl:j=i:=by lia
    have li:=(bp.mp he).1;have #[rs,u,pr]:=I.hr;have #[us,hg,pu]:=O;have #[J,ht,an]:=I.ht;have lr:=bO pr;have lu:=bO pu;have lt:J.length<=10:=by rw[an.1,cf];lia
    have a5:=(Zh e).2.2;have O:=K0 (es.take j);rw[bx] at lr;rw[cf] at O;have ar:=Z0 (o':=.lst (rs++us)) u ();have aK:upd H' k (.lst (rs++us)) td=Y (.lst J):=by rw[zk n1.symm];exact ht
    refine{_,U,p,_,1,_,U,U,aX.of ep,U,_,U,U,_,U,zV (by rw[Bj rfl];rfl) {_,U,p,_,0,_,U,U,aX.of ep,U,U,_,U,yC U ?_}};refine{_,U,.inl {U,_,aM.of u},_,U,p,_,3,_,U,U,aX.of ep,U,k,gl',rs,us,U,U,u,hg,yf (),?_};refine{_,U,.inl {U,_,aM.of aK},_,U,_,U,p,_,2,_,U,U,aX.of (ar _ _ ep),U,sz2,λb hb=>?_};generalize c4:upd (upd H' k (.lst (rs++us))) b _=H5;have #[s5,e5]:=uV c4 hb;have az:=s5 _ _ aK;have aS:TSm H' H5:=λc zs z=>s5 _ _ (ar c zs z);have al:=Z0 (o':=.lst (J++[V.ref b])) az ();have TT:TSm H' (upd H5 td (.lst (J++[V.ref b]))):=λc zs z=>al c zs (aS c zs z);have kk:∀c o,c≠k->c≠td->H' c=Y o->upd H5 td (.lst (J++[V.ref b])) c=Y o:=λc o a1 a2 z=>by rw[zk a2];exact s5 _ _ (by rw[zk a1];exact z)
    refine{td,J,_,U,U,az,yD (),_,U,_,_,U,U,{_,U},λc o z=>kk c o (λy=>by rw[y,f1] at z;cases z) (λy=>by rw[y,f2] at z;cases z) (I.sm _ _ z),kk _ _ n2.symm n3.symm I.hc,λj v hj=>(I.en j v hj).up TT (λc o z y=>kk c o z.1 z.2 y) λ_ z=>z,{rs++us,?_,?_},J++[.ref b],zh,?_}
    .rw[zk n1];exact s5 _ _ zh
    .rw[zgm he,<-cF];exact zjF (Paired.mapP pr λ_ _ z=>PrAt.ts z TT) (Paired.mapP pu λ_ _ z=>PrAt.ts z TT)
    .exact(an.ts TT).snoc he {b,o,U,al _ _ e5,eo.ts TT}
   .rintro σ H' ⟨⟨o5,rfl⟩,I⟩;have lx:(xs.drop 1).length=es.length:=by rw[fD,en.1];rfl
    rw[lx] at I ⊢;have u:=I.hr;have #[J,ht,an]:=I.ht;rw[f8] at u an;have O:=K0 es;have ld:=jv (g++giL es);rw[bx] at ld;refine{_,U,_,U,k,g++giL es,U,u,(),by rw[bx];lia,λtb a0 H5 s5 _ ho as=>{_,U,sz3,λr a3=>?_}};have s6:=hX (o:=HO.tup [V.int (es.length:Nat),V.ref tb,V.ref td]) r a3;exact q r tb td a0 J _ (I.sm.trans (s5.trans s6)) zh (ho.same s6) as ((s5.trans s6) _ _ ht) (an.ts (.of (s5.trans s6))) f2}}
 have #[g,es,rfl,_]:=h;rfl
theorem QO:Ba P w K mg base 1 t.a68 t.d68 ["self","table"] (vT t):=by
 refine T.q2k.ok0 Qp (λi H Q E h=>?_) (λm A c s H i Q E k h=>?_)
 .have #[x,h,dx,ac,rfl,_]:=h;rfl
 exact{kK K t,(zb (yo (f:="ground") (Z 0) (zW (jf U (hu3 k)) U T.q1k zba (L (Z 1) zc)) U) (zb (yo (f:="folded") (Z 0) zg U) (zb (yo (f:="worths") (Z 0) Zp U) (zd (yo (f:="ranks") (Z 0) kP U))))),KL (mkF T) h}
theorem zb8:Ba P w K mg base 1 t.a69 t.d69 ["self","makes"] (qJ t):=by
 refine T.q2m.ok0 zby (λi H Q E h=>?_) (λk A c s H i Q E o h=>?_)
 .have #[x,m,dx,rfl,_]:=h;rfl
 exact{qL K t,(zb (yo (f:="makes") (Z 0) (Z 1) U) (zb (yo (f:="laid") (Z 0) Zp U) (zb (yo (f:="readers") (Z 0) kP U) (zd (yo (f:="doubted") (Z 0) Zp U))))),QC (dkF T) h}
theorem zb9:Ba P w K mg base 3 t.a70 t.d70 ["self","table","hands","way","first"] (jx t):=by
 refine T.q2o.ok0 zbz (λk H Q E h=>?_) (λm A c s H k Q E i h=>?_)
 .have #[x,l,w,dx,dw,n,f,wo,g,rfl,_]:=h;rfl
 exact{qM K t,(zb (yo (f:="hands") (Z 0) (Z 2) U) (zb (yo (f:="way") (Z 0) (Z 3) U) (zb (yo (f:="first") (Z 0) (Z 4) U) (zb (yo (f:="codes") (Z 0) (zT zc) U) (zb (yo (f:="waiting") (Z 0) (zT zc) U) (zb (yo (f:="held") (Z 0) Zp U) (zb (yo (f:="makes") (Z 0) (js T.mk_Makes (bv.mono (QO T) ()) i U T.g_Makes T.q2l .nil zj (L (Z 1) zc)) U) (zb (yo (f:="jobs") (Z 0) (js T.mk_Jobs (bv.mono (zb8 T) ()) i U T.g_Jobs T.q2n .nil zj (L (zy (Z 0) U) zc)) U) (zd (yo (f:="ended") (Z 0) (zT zc) U)))))))))),QG (dkF T) (mkF T) h}
theorem vW:Ba P w K mg base 11 t.a71 t.d71 ["self","log","hands","way"] (wj t):=by
 refine T.q2q.ok0 q22 (λk H Q E h=>?_) (λm A c s H k Q E i h=>?_)
 .have #[x,w,dx,dw,n,wo,g,es,rfl,_]:=h;rfl
 exact{Yy K t,(zb (zu 4 q22.nd (bc (zfj T) T.g67 i zj (L (Z 1) zc))) (zb (yo (f:="due") (Z 0) (zw zO (Z 4) zg) U) (zb (yo (f:="told") (Z 0) (zw zO (Z 4) zg) U) (zb (yo (f:="lines") (Z 0) (bc (VS T) T.g64 i zj (L (Z 1) zc)) U) (zd (yo (f:="desk") (Z 0) (js T.mk_Desk (bv.mono (zb9 T) ()) i U T.g_Desk T.q2p .nil zj (L (zw zO (Z 4) zg) (L (Z 2) (L (Z 3) (L (zy (Z 0) U) zc))))) U)))))),K1 (hsF T) (dkF T) h}
theorem wA:Ba P w K mg base 1 t.a72 t.d72 ["script","k"] (xf K):=by
 refine T.g72.f.okA V6 λo H Q E h=>?_;have #[a,u,k,rfl,m,hl,i,q]:=h;exact{U,λ_ _ _ _ z=>{Ze K t,(zb (zN (zx Xe (Z 1) (zK yd U T.q06 yP (L (Z 0) zc)) (zC _)) (zd (zo (zw zH (Z 0) (Z 1))))
   zA) (zd (zo zg))),WX m hl i λc H s b _=>q c H s b}}
theorem Jc:Ba P w K mg base 1 t.a73 t.d73 ["self"] (Ja t):=by
 refine T.q2r.ok0 V7 (λi H Q E h=>?_) (λm A c s H i Q E o h=>?_)
 .have #[x,dx,rfl,_]:=h;rfl
 have #[x,dx,rfl,k,q]:=h;exact{Zf K t,(zd (yo (f:="times") (Z 0) zg U)),WW (dkF T) k q}
theorem YB:Ba P w K mg base 13 t.a74 t.d74 ["log","hands","kind"] (kG t):=by
 refine T.g74.f.okA Qq λvs H Q E h=>{?_,λ_ _ _ _ O=>{_,(zb (zN (zx yI (Z 2) zg (zC _)) (zd (zo (js T.mk_House (bv.mono (vW T) ()) O U T.g_House T.q18 .nil zj (L (Z 0) (L (Z 1) (L (JT T.mo_Highest U T.g_Highest) zc))))))
   zA) (zb (zN (zx yI (Z 2) zg (zC _)) (zd (zo (js T.mk_House (bv.mono (vW T) ()) O U T.g_House T.q18 .nil zj (L (Z 0) (L (Z 1) (L (zcj T.mk_Turning (bv.mono (Jc T) ()) O U T.g_Turning T.q2s .nil zj) zc))))))
    zA) (zd (zo (js T.mk_House (bv.mono (vW T) ()) O U T.g_House T.q18 .nil zj (L (Z 0) (L (Z 1) (L (JT T.mo_Way U T.g_Way) zc)))))))),by
   have F:=(hsF T);have D:=(dkF T);have #[g,n,k,rfl,h1,q]:=h;have I:∀ {E:XK}{A:Hp}{w dw:B}{wo:HO},aJ H A->H w=af->A w=Y wo->(∀a:Au,a.dw=dw->zjw t a wo)->∀x dx,A x=af->A dx=af->dx≠x->wj t [.ref x,.str (kD (Aj g [])),.int n,.ref w] (upd (upd A dx (.own x)) x (.ins t.q00 dx [])) (λv H2=>v=.non/\Q (.ref x) H2) E:=λ{E A w dw wo} s aa i wy x dx J ab nd=>by have s2:aJ A (upd (upd A dx (.own x)) x (.ins t.q00 dx [])):=vV J ab;refine{x,w,dx,dw,n,wo,g,[],U,h1,{(),nofun},zh,s2 _ _ i,wy,zq i J,λH' b a lb ts out sx nn u hs an ow dk=>{U,q x (HsN x b lb) H' (λc o e=>sx c o (zq (s c o e) J) (s2 _ _ (s c o e))) (λc o e=>nn c o (zq (s c o e) J) (zq e aa) (s2 _ _ (s c o e))) ?_}};have u:xA (g++[]) out:=u;rw[cL] at u;obtain rfl:=znr h1 u;exact{b,a,lb,ts,{hs,an,dk,ds0 n,h1},λ_=>tW}
   refine{_,U,U,_,U,?_};by_cases k1:k=1
   .exact yC (Bj (congrArg V.int k1)) {_,U,_,U,λw dw i m nw=>I (vV i m) i zh λa e=>.inr (.inl (by rw[e]))}
   refine zV (Bk λz=>k1 (V.int.inj z)) {_,U,U,_,U,?_};by_cases k2:k=2
   .exact yC (Bj (congrArg V.int k2)) {_,U,_,U,λw dw i m nw=>{w,dw,U,zh,U,I (λb o e=>by rw[zk (zq e i)];exact vV i m b o e) i zh λa e=>.inr (.inr {0,by rw[e];rfl})}}
   exact zV (Bk λz=>k2 (V.int.inj z)) {_,U,_,U,λw dw i m nw=>I (vV i m) i zh λa e=>.inl (by rw[e])}}}
 have #[g,n,k,rfl,_]:=h;rfl
theorem QP:Ba P w K mg base 9 t.a75 t.d75 ["self","hand"] (kE t):=by
 refine T.g75.f.okA q23 λvs H Q E h=>{?_,λ_ _ _ _ I=>{_,(zb (zu 2 q23.nd (Af (zy (Z 0) U) T.q0d (Wj T) T.g43 I zj (L (Z 1) zc))) (zb (zL (xm (Z 0) T.q08 (vi T) T.g47 I zj)) (zd (zo (Z 2))))),by have F:=(hsF T);have #[x,h,n,g,CC,S,N,rfl,h1,k,J,q]:=h;have #[b,a,lb,ts,G,z]:=h1;obtain rfl:=zfa z;refine zX G.h.ix F.cl F.n4 U U {b.d,_,_,U,(G.d.cmp G.o.el).1,U,_,U,b.d,a,lb,n,h,g,CC,S,U,G.d,G.o,k,J,λv H1 m S1 o ev A O=>?_};have c:aY n CC S1:=A.ok_ G.o k J;have u:=G.h.fr o;exact{_,U,_,_,_,U,u.ix,U,x,b,a,m,n,g,CC,S1,S.en,ts,U,u,G.an.ts o.ts,A.en_le,O,c,λH2 aa k2 k an=>let ⟨f,i⟩:=Ad.mv G o k2 k an O c;{_,U,q v H2 _ S1 f i}}}}
 have #[x,h,n,g,CC,S,N,rfl,_]:=h;rfl
theorem Wl:Ba P w K mg base 2 t.a76 t.d76 ["self"] (jy t):=by
 refine T.g76.f.okA zbA λu H Q E h=>{?_,λ_ _ _ _ m=>{_,(zd (zo (bc (K4 T) T.g3 m zj (L (zy (Z 0) U) zc)))),by have F:=(hsF T);have D:=(dkF T);have #[x,n,g,CC,S,N,rfl,o,q]:=h;have #[b,a,lb,z,G,_]:=o;have i:=zb1 G.o S.en;have k:=ze8 G.gr i;have A:=KZ g (CC.take S.en);have:=i.1;exact zX G.h.ix F.cl F.n3 U U {b.ln,_,U,G.h.hl,(),λx c=>{(k x c).1.1,(k x c).1.2.1},q}}}
 have #[x,n,g,CC,S,N,rfl,_]:=h;rfl
theorem xp:∀n,bv P w K mg base (CX1 P w) (1+n) t.a77 t.d77 ["found","due"] (yH n):=by
 intro n;induction n with
 |zero=>exact{λi H Q E h=>(ZZ h).elim,λA c s H o I i Q E m O hb J h=>(ZZ h).elim}
 |succ n IH=>
 refine T.g77.f.okA q1g (k:=1+n) λi H Q E h=>?_;have #[v,u,rfl,z,q]:=h;exact{U,λ_ _ _ _ m=>{kL K t n,(zb (zN (PW.pt (jm (yJ (zK xx U T.q0f yq (L (Z 1) (L (xV U T.b_list xi U) zc)))) (wC (yJ (zK xx U T.q0f yq (L (Z 1) (L (xV U T.b_tuple Xl U) zc))))))) (zb (zN (PW.pt (Wn (wD (yJ (zK xx U T.q0f yq (L (Z 0) (L (xV U T.b_list xi U) zc))))) (Xd (wD (yJ (zK xx U T.q0f yq (L (Z 0) (L (xV U T.b_tuple Xl U) zc)))))))) (zd (zo (wL (b:=ah))))
   zA) (zb (zN (PW.pt (jm (zx wN (zK xx U T.q0f yq (L (Z 0) (L (xV U T.b_list xi U) zc))) (zK xx U T.q0f yq (L (Z 1) (L (xV U T.b_list xi U) zc))) (zC _)) (wC (zx wN (zK yd U T.q06 yP (L (Z 0) zc)) (zK yd U T.q06 yP (L (Z 1) zc)) (zC _))))) (zd (zo (wL (b:=ah))))
    zA) (zb (y8 cn U (zkV U T.b_zip (L (Z 0) (L (Z 1) zc))) (kt U (yE (zY 2 q1g.nd) (yE (zY 3 q1g.nd) vP))) (zd (zN (wD (yJ (zft (bv.mono IH ()) m U T.g77.m T.g77.f.kp T.g77.b .nil zj (L (Z 2) (L (Z 3) zc))))) (zd (zo (wL (b:=ah))))
    zA))) (zd (zo (wL (b:=ae)))))))
   zA) (zb (zN (yJ (zK xx U T.q0f yq (L (Z 1) (L (xV U T.q0j Zr U) zc)))) (zd (zo (Wp (zK xx U T.q0f yq (L (Z 0) (L (xV U T.q0j Zr U) zc))) (Wo (vQ yI (Z 0) (Z 1) (zC _))))))
    zA) (zd (zo (Wp (zK xx U T.q0f yq (L (Z 0) (L (xV U T.b_int za9 U) zc))) (Wp (zmp (zK xx U T.q0f yq (L (Z 0) (L (xV U T.q2c zfB U) zc)))) (Wo (vQ yI (Z 0) (Z 1) (zC _))))))))),KK (kf K) z q}}
theorem qm:Ba P w K mg base 2 t.a78 t.d78 ["self"] (vN t):=by
 refine T.g78.f.okA WL λo H Q E h=>{?_,λ_ _ _ _ i=>{_,(zd (zo (xm (zy (Z 0) U) T.q0d (wz T) T.g10 i zj))),by have F:=(hsF T);have D:=(dkF T);have #[x,n,g,CC,S,N,rfl,k,q]:=h;have #[b,a,lb,u,G,_]:=k;have #[c,cs,en,I,m,A,z]:=G.d.cmp G.o.el;refine zX G.h.ix F.cl F.n4 U U {b.d,_,_,U,c,U,b.d,_,a,n,0,en,U,c,m,?_};rw[show (0:Int)+en.length=S.en by lia];exact q H (aJ.refl _)}}
 have #[x,n,g,CC,S,N,rfl,_]:=h;rfl
theorem x6:Ba P w K mg base 1 t.a79 t.d79 ["self"] (yQ t):=by
 refine T.g79.f.okA WM λo H Q E h=>?_;have #[x,b,lb,k,m,u,rfl,i,q]:=h;exact{U,λ_ _ _ _ z=>{_,(zd (zo (zW yZ U T.b_list xi (L (zy (Z 0) U) zc)))),by have F:=(hsF T);have D:=(dkF T);exact zX i.ix F.cl F.n2 U U {b.td,m,U,.inl (aM.of i.ht),λc hl=>q c _ (hX c hl) hl zh}}}
theorem Xa:Ba P w K mg base 3 t.a80 t.d80 ["self","rank"] (jP t):=by
 refine T.g80.f.okA q24 λvs H Q E h=>{?_,λ_ _ _ _ A=>{_,(zb (zL (Af (Z 0) T.q0e (wJ T) T.g18 A zj (L (Z 1) zc))) (zb (zu 2 q24.nd (zE Zo (zW (jK U) U T.b_list xi (L (zy (Z 0) U) zc)) (zW (jK U) U T.b_list xi (L (zy (Z 0) U) zc)))) (zd (zo (bc (kr T) T.g66 A zj (L (wV U (osc:=zi wZ) (N:=["self","rank","places"]) (xs:=["place"]) (ix:=[0,1]) () (yU (Z 2)) (λ_ _ _ _=>(xh (i:=0) (show eG (["place","self","rank"]:zQ) from ()) U (iy U) (.inr U))) (λ_ _ _ _=>wu) (λ_ _ _ _=>(zR (L (Z 0) (L (Af (Z 1) T.q0e (kM T) T.g20 A zj (L (Z 0) (L (Z 2) zc))) zc))))) zc)))))),by
   have MF:=(mkF T);have #[m,aI,F,g,aQ,rfl,h1,h2,h3,q]:=h;have M:u5 t H m F g aQ 0:=h1;have #[dx,gr,wo,rk,wk,kk,c]:=M.ex;have #[gs,e1,_,gm]:=KD g;obtain⟨ks,e2⟩:∃ks:List Pl,kk.map (·.1)=ks.map zD:=by
    have:=c.rr.ls;clear c M;induction kk with
    |nil=>exact{[],U}
    |cons kv kk ih=>
     have #[ks,e]:=ih λx hx=>this x (bw _ hx);have #[p,a,rs,rfl,_]:=this kv bu;exact{p::ks,by rw[bC,bC,e]}
   have kn:ks.Nodup:=xI (f:=zD) (by rw[<-e2];exact c.rr.nk);have kp:∀p∈ks,p∈aQ.flatMap λy=>y.2.map (·.1):=λp k=>by
    have:zD p∈kk.map (·.1):=by rw[e2];exact bL k
    have #[kv,ar,e]:=bH.mp this;have #[p',a,rs,rfl,_,_,_,hn,hi]:=c.rr.ls kv ar;obtain rfl:p'=p:=y7 e;have #[r,A]:=List.exists_mem_of_ne_nil _ hn;have #[gs,hg,an]:=(hi r).mp A;exact mZ.mpr {_,hg,an}
   have l2:=vG kn kp;rw[List.length_flatMap] at l2;have l1:=jv g;have l3:g.length+(aQ.map λy=>y.2.length).sum<=63:=h3;have l4:(mx g).length=gs.length:=by have:=congrArg dQ e1;rw[bh,bh] at this;exact this
   have l5:(aQ.map λy=>(y.2.map (·.1)).length)=aQ.map λy=>y.2.length:=dR λy _=>bh ..;rw[l5] at l2;refine{_,U,m,_,_,U,c.im,jN (),_,U,m,_,_,_,_,U,c.im,znb,h2,λH1 s1=>?_};have u:=c.keep M.me λb o _ e=>s1 _ _ e;refine(zX u.im MF.cl MF.g U zoe {gr,_,U,u.hg,λa1 ab aK al=>?_});generalize c_:upd H1 a1 _=H2;have #[s2,q2]:=je c_ aK;have J:=u.keep M.me λb o _ e=>s2 _ _ e;refine(zX J.im MF.cl MF.r U zjC {rk,_,U,J.rr.at_,λa2 aa az aj=>?_});generalize c2:upd H2 a2 _=H3;have #[O,q3]:=je c2 az;have p1:Bl (PlV H3) ab gs:=zbI (Paired.mapP al λ_ _ ⟨p,e,h⟩=>{p,e,(s2.trans O) _ _ h}) e1;have p2:Bl (PlV H3) aa ks:=zbI (Paired.mapP aj λ_ _ ⟨p,e,h⟩=>{p,e,O _ _ h}) e2;have n1:=bO p1;have n2:=bO p2;refine{a1,a2,_,_,U,U,O _ _ q2,q3,yf (),λa3 as=>?_};generalize c3:upd H3 a3 _=H4;have #[s4,q4]:=je c3 as;have S4:=s1.trans (s2.trans (O.trans s4));refine zll (qs:=gs++ks) (h1.same S4) h2 q4 (zjF (Paired.mapP p1 λ_ _ ⟨p,e,h⟩=>{p,e,s4 _ _ h}) (Paired.mapP p2 λ_ _ ⟨p,e,h⟩=>{p,e,s4 _ _ h})) (by rw[bx];lia) λl ai H' s hl ho ht=>q l ai H' (S4.trans s) (yi S4 hl) ho {ht.1,λp w=>?_};rw[ht.2 p w,zdD];by_cases k:p∈gs++ks
   .rw[ao k];exact{λz=>{bX z.1,z.2},λz=>{by rw[<-z.1],z.2}}
   .rw[ag k];refine{λz=>(nomatch z.1),λz=>absurd ?_ z.2};rw[bP,not_or] at k;have z1:w6 g aQ p aI=w:=z.1;rw[<-z1];unfold w6;obtain ⟨e,_⟩|⟨y,hy,w,e,_⟩:=wR p aI aQ (-1,(zP g p).getD 0)
    .rw[e];cases e:zP g p with
     |none=>rfl
     |some w=>exact absurd ((gm p).mpr (by rw[e];rfl)) k.1
    .have:=c.rr.al p y.1 {y.2,hy,(Yc (M.ok y hy).2.nd).mpr (by rw[e];exact nofun)};rw[e2] at this;have #[p',I,e3]:=bH.mp this;rw[y7 e3] at I;exact absurd I k.2}}
 have #[m,aI,F,g,aQ,rfl,_]:=h;rfl
theorem QQ:Ba P w K mg base 4 t.a81 t.d81 ["self"] (Ys t):=by
 refine T.g81.f.okA Qs λI H Q E h=>{?_,λ_ _ _ _ k=>{_,(zd (zo (Af (zy (Z 0) U) T.q0e (Xa T) T.g80 k zj (L (xm (Z 0) T.q0d (wz T) T.g10 k zj) zc)))),by have F:=(dkF T);have #[d,a,lb,n,f,g,CC,S,rfl,h,u,f0,o,q]:=h;have #[D,J]:=h.ex;have #[dx,gr,m,rk,A,O,z]:=u5.ex J.dk.m;have c:=bO J.e;rw[cf,eC u] at c;refine zX J.d0 F.cD F.d7 U U {a.mks,_,_,U,z.im,jN (),xK J.d0 U U {d,_,a,n,f,D.en,U,J.d0,J.o.at (i:=8) U,?_}};rw[c];exact{a.mks,_,_,g,S.ls,U,by rw[<-J.eg,<-J.el];exact J.dk.m,(),o,q}}}
 have #[d,a,lb,n,f,g,CC,S,rfl,_]:=h;rfl
theorem xU:Ba P w K mg base 5 t.a82 t.d82 ["self"] (yT t):=by
 refine T.g82.f.okA Kg λA H Q E h=>?_;have #[x,b,a,lb,k,n,f,g,CC,S,I,J,rfl,z,i,c,u,o,q]:=h;exact{U,λ_ _ _ _ m=>{_,(zd (zo (xm (zy (Z 0) U) T.q0d (QQ T) T.g81 m zj))),by have F:=(hsF T);have D:=(dkF T);exact zX z.ix F.cl F.n4 U U {b.d,_,_,U,(i.cmp c).1,U,b.d,a,lb,n,f,g,CC,S,U,i,c,u,o,q}}}
theorem QR:Ba P w K mg base 2 t.a83 t.d83 ["cell"] (Yt):=by
 refine T.g83.f.okA q1h λvs H Q E h=>{?_,λ_ _ _ _ A=>{_,(zb (zu 1 q1h.nd (bc (Z3 T) T.g1 A zj (L (zw zH (bc (Yz T) T.g0 A zj (L (Z 0) (L zg zc))) zg) zc))) (zb (zN (zx yI (zE yS (Z 0) zg) zg (zC _)) (zd (zo (zR (L (zE wE zI (zW wS U T.q0j Zr (L (Z 1) zc))) (L (zR (L zI (L (zR (L (Z 1) zc)) zc))) (L (zT zc) zc))))))
    zA) (zb (zu 2 q1h.nd (zE yS (zE xj (Z 0) zg) zg)) (zd (zo (zR (L (zE wE (zE wE (zE wE zI (zW wS U T.q0j Zr (L (Z 2) zc))) zI) (zW wS U T.q0j Zr (L (Z 1) zc))) (L (zR (L zI (L (zR zc) zc))) (L (zT (L (zR (L (zR (L zI (L (Z 2) zc))) (L (Z 1) zc))) zc)) zc))))))))),by
   have #[c,rfl,q]:=h;refine{_,U,c,2,U,(),λl ds H1 s1 hl e1 ld od=>?_};obtain⟨u,hu⟩:∃u,ds[1]?=Y u:={_,bd ()};have ou:=od u (bU hu);refine{l,_,((1:Nat):Int),.int u,U,U,aM.of e1,yy (by rw[br,hu];rfl),u,U,ou.1,ou.2,λw H2 hw s2=>?_};have ww:wB w:=zmg hw;have lg:=Jp hw;have ln:=(xQ hw).2.2;have S2:=s1.trans s2;have z4:(bb "say ").length=4:=by lia
   have z7:(bb "give a ").length=7:=by lia
   have z1:(bb " ").length=1:=by lia
   have zt:(bb (toString w)).length<=40:=ln;refine{_,U,_,_,U,U,(),U,_,U,?_};by_cases c3:c%3=0
   .refine yC (Bj (congrArg V.int c3)) {_,U,w,U,lg,_,_,U,U,yf (),_,U,sz1,λy hy=>?_};generalize d1:upd H2 y _=H3;have #[s3,e3]:=uV d1 hy;refine{sz2,λo ho=>?_};generalize d2:upd H3 o _=H4;have #[I,e4]:=uV d2 ho;refine{bQ _,λk J=>?_};generalize d3:upd H4 k _=H5;have #[m,e5]:=uV d3 J;refine{sz3,λr A=>?_};generalize d4:upd H5 r _=H6;have #[i,e6]:=uV d4 A;have S4:=S2.trans (s3.trans I);refine q _ (.say w) H6 (S4.trans (m.trans i)) ww λlw hl=>{r,_,k,U,e6,{o,y,U,(m.trans i) _ _ e4,(I.trans (m.trans i)) _ _ e3},{[],i _ _ e5,.nil},cp λz=>?_};have #[o,e]:=hl k z;rw[yi S4 J] at e;cases e
   refine zV (Bk λz=>c3 (V.int.inj z)) {_,U,_,_,U,U,dB,_,_,U,U,(),?_};have g3:=du (c/3) (b:=3) ();have g4:=cN (c/3) (b:=3) ();have ep:c/3%3=((c/3%3).toNat:Int):=by lia
   have lp:(c/3%3).toNat<3:=by lia
   rw[ep];generalize (c/3%3).toNat=p at lp;have pw:inW (p:Int)=ae:=vB {(),()};have zp:(bb (toString (p:Int))).length<=40:=(xQ pw).2.2;refine{_,U,p,U,Jp pw,_,_,U,U,yf (),_,_,U,U,yf (by rw[xk];lia),_,U,w,U,lg,_,_,U,U,yf (by rw[xk,xk];lia),bQ _,λy hy=>?_};generalize d1:upd H2 y _=H3;have #[s3,e3]:=uV d1 hy;refine{sz2,λo ho=>?_};generalize d2:upd H3 o _=H4;have #[I,e4]:=uV d2 ho;refine{_,U,sz2,λa ha=>?_};generalize d3:upd H4 a _=H5;have #[m,e5]:=uV d3 ha;refine{_,U,sz2,λb hb=>?_};generalize d4:upd H5 b _=H6;have #[i,e6]:=uV d4 hb;refine{sz1,λk J=>?_};generalize d5:upd H6 k _=H7;have #[s7,e7]:=uV d5 J;refine{sz3,λr A=>?_};generalize d6:upd H7 r _=H8;have #[s8,e8]:=uV d6 A;have S6:=S2.trans (s3.trans (I.trans (m.trans i)));have O:=s7.trans s8;have k4:=m.trans (i.trans O);refine q _ (.give p w) H8 (S6.trans O) {lp,ww} λlw hl=>{r,_,k,U,e8,{o,y,U,k4 _ _ e4,(I.trans k4) _ _ e3},{_,s8 _ _ e7,.cons {b,a,U,O _ _ e6,(i.trans O) _ _ e5} .nil},cp λz=>?_};have #[o,e]:=hl k z;rw[yi S6 J] at e;cases e}}
 have #[c,rfl,_]:=h;rfl
theorem zd4:Ba P w K mg base 2 t.a84 t.d84 ["self","code"] (VD t):=by
 refine T.g84.f.okA q25 λvs H Q E h=>{?_,λ_ _ _ _ hr=>{_,(zb (zu 2 q25.nd (xm (Z 0) T.q0d (km T) T.g11 hr zj)) (zb (zL (yG bD bR bT ye (zy (Z 0) U) (L (zW yZ U T.b_list xi (L (Z 1) zc)) zc))) (zb (zL (yG bD bR bT ye (zy (Z 0) U) (L (Z 2) zc))) (zd (zo (Z 2)))))),by
   have F:=(dkF T);have #[d,c,y,e,a,lb,n,g,CC,S,rfl,h1,h2,h,h3,h4,h5,q]:=h;have #[D,J]:=h.ex;have lc:=bO J.c;refine xK J.d0 U U {d,_,a,n,0,D.cs,U,J.d0,J.o.at (i:=3) U,?_};rw[show (0:Int)+D.cs.length=CC.length by lia];refine zX J.d0 F.cD F.d4 U U {.inl {U,_,aM.of (J.o.at (i:=3) U)},_,U,c,[y],U,.inl (aM.of h1),λk I=>?_};generalize c_:upd H k _=H2;have #[s2,O]:=uV c_ I;have #[u,G2,D2,o]:=J.dk.relab (M:=M1) (N:=λb=>b=k) 14 () s2 λb z=>by rw[z];exact{I,_,O}
   have #[m,G3]:=D2.set (i:=3) (D':={ D with cs:=D.cs++[.ref k] }) rfl () () (.lst (D.cs++[.ref k])) rfl rfl rfl;refine{a.cl,_,_,U,U,D2.o.at (i:=3) U,yD (by show D.cs.length<1000000;lia),?_};have e3:=G3.kp _ _ (by rw[o k rfl];exact xB) O;generalize upd H2 a.cl (.lst (D.cs++[.ref k]))=H3 at *
   have #[D4,G4]:=m.set (i:=4) (D':={ D with cs:=D.cs++[.ref k],ws:=D.ws++[(CC.length:Int)] }) rfl () () (.lst (D.ws.map V.int++[.int CC.length])) (by unfold dkL;dsimp only;rw[b7];rfl) U rfl;have G:=G2.trans (G3.trans G4);refine zX (m.o.at (i:=0) U) F.cD F.d5 U U {.inl {U,_,aM.of (m.o.at (i:=4) U)},_,U,a.wl,_,_,U,U,m.o.at (i:=4) U,yD (by show (D.ws.map V.int).length<1000000;rw[bh,J.e1];lia),_,U,?_};refine q _ u G.m0 (DkJ.g_ {D4,J.wy,J.eg,J.el,by show D.ws++_=S.ws++_;rw[J.e1],J.e2,Paired.snocP (qQ J.c G xB) {k,y,U,G4.kp _ _ (by rw[o k rfl];exact xB) e3,h2.up G.ts,o k U},Paired.mapP (Y5 J.h G VN) λ_ _ ⟨e,tp,x,ra,C,ev,et,A,z⟩=>{e,tp,x,ra,C,ev,et,zb0 A,z},Paired.mapP (qP J.l G xB) λ_ _ ⟨e,d,A,z⟩=>{e,d,zb0 A,z},?_});show Bl _ D.en ((CC++[e]).take S.en);rw[m6 h5];exact Z2 J.e G xB}}
 have #[d,c,x,e,a,lb,n,g,CC,S,rfl,_]:=h;rfl
theorem K8:Ba P w K mg base 1 t.a85 t.d85 ["row","at"] (Kl):={λk H Q E h=>h.elim,λA c s H i m k Q E q u z o h=>h.elim}
theorem zd5:Ba P w K mg base 2 t.a86 t.d86 ["rows","first"] (zdp):=by
 refine T.g86.f.okA q1i λvs H Q E h=>{?_,λ_ _ _ _ hr=>{_,(zb (zu 2 q1i.nd (zT zc)) (zb (y8 cn U (yU (Z 0)) (zY 3 q1i.nd) (zd (zN (zx yI (zw zO (Z 3) zg) zI (zC _)) (zd (zL (yG bD lH lJ Wu (Z 2) (L (bc (K8 T) T.g85 hr zj (L (Z 3) (L (zE yO (Z 1) (zK yd U T.q06 yP (L (Z 2) zc))) zc))) zc)))) (zd (zL (yG bD bR bT ye (Z 2) (L (Z 3) zc))))))) (zd (zo (Z 2))))),by
   have #[l,v,e,rfl,h1,h2,q]:=h;obtain⟨r,A,f,rfl,er,ef,n1⟩:∃(r:B)(A:LV)(f:Str),v=.ref r/\H r=Y (.tup A)/\atI A 0=Y (.str f)/\f≠bb "if":=by
    cases e with
    |say n=>have #[r,te,a,b,c]:=h2;exact{r,_,_,a,b,U,()}
    |give p n=>have #[r,tp,te,a,b,c,d]:=h2;exact{r,_,_,a,b,U,()}
   refine{bQ _,λw I=>?_};have J:=hX (o:=HO.lst []) w I;refine{_,U,l,U,{_,aM.of (J _ _ h1)},wP [V.ref r] (λi m H'=>aJ H H'/\(∃a,m=[Y (.ref l),Y (.int 0),Y (.ref w),a])/\H' w=Y (.lst ([V.ref r].take i))) {J,{_,U},zh} (λi m H' z=>aM.of (z.1 _ _ h1)) ?_ ?_}
   .rintro i u m H' O ⟨S,⟨a,rfl⟩,k⟩;obtain rfl:i=0:=Nat.lt_one_iff.mp (bp.mp O).1;cases O;exact VZ U (S _ _ er) ef (λz=>absurd z n1) λ_=>{_,U,.inl {U,_,aM.of k},_,U,w,[],_,U,U,k,(),vh S I,{_,U},zh}
   .rintro m H' ⟨S,⟨a,rfl⟩,k⟩;exact{_,U,q w H' S I k}}}
 have #[l,v,e,rfl,_]:=h;rfl
theorem zfk:Ba P w K mg base 3 t.a87 t.d87 ["rows"] (Kn):=by refine T.g87.f.okA zeU λm H Q E h=>?_;have #[l,v,e,rfl,k,i,q]:=h;exact{U,λ_ _ _ _ c=>{_,(zd (zo (bc (zd5 T) T.g86 c zj (L (Z 0) (L zg zc))))),({_,U,l,v,e,U,k,i,q})}}
theorem Jd:Ba P w K mg base 1 t.a88 t.d88 ["self"] (jh t):=by
 refine T.q2t.ok0 V8 (λi H Q E h=>?_) (λk A c s H i Q E m h=>?_)
 .have #[x,dx,rfl,_]:=h;rfl
 exact{Zg K t,(zb (yo (f:="rows") (Z 0) (zT zc) U) (zb (yo (f:="blocks") (Z 0) (zT zc) U) (zd (yo (f:="turned") (Z 0) (zT zc) U)))),WZ (rgF T) h}
theorem W3:Ba P w K mg base 1 t.a89 t.d89 ["self","number"] (WR):={λk H Q E h=>h.elim,λA c s H i m k Q E q u z o h=>h.elim}
theorem W4:Ba P w K mg base 1 t.a90 t.d90 ["self","number"] (WS):={λk H Q E h=>h.elim,λA c s H i m k Q E q u z o h=>h.elim}
theorem Wm:Ba P w K mg base 1 t.a91 t.d91 ["self","row","number"] (XY):={λk H Q E h=>h.elim,λA c s H i m k Q E q u z o h=>h.elim}
theorem Z5:Ba P w K mg base 1 t.a92 t.d92 ["self"] (ja t):=by
 refine T.g92.f.okA ZD λA H Q E h=>{?_,λ_ _ _ _ u=>{_,(zb (zN (zx (JJ (VW u)) (zy (Z 0) U) (zT zc) (zC _)) (zd (zo (zy (Z 0) U)))
   zA) (zd (zo (vX (yJ (zw zH (zy (Z 0) U) (Vb Zm zg))) (zw zO (zw zH (zy (Z 0) U) (Vb Zm zg)) zg) (zw zO (zw zH (zy (Z 0) U) (Vb Zm zg)) zg))))),by have F:=(rgF T);have #[x,dx,m,k,tl,rfl,i,z,q]:=h;unfold zB yF;refine zX i F.cl F.n2 U U {bQ _,λp c=>{k,p,[],U,U,aM.of (hX p c _ _ z),aM.of zh,_,U,yC U ?_}};have s:=hX (o:=HO.lst []) p c;exact zX (s _ _ i) F.cl F.n1 U U (q _ s)}}
 have #[x,dx,m,k,tl,rfl,_]:=h;rfl
theorem W5:Ba P w K mg base 2 t.a93 t.d93 ["self","row","number"] (vJ t):=by
 refine T.g93.f.okA WN λvs H Q E h=>{?_,λ_ _ _ _ i=>{_,(zd (zN (zx yI (zw zO (Z 1) zg) zI (zC _)) (zd (zL (Af (Z 0) T.q0p (W3 T) T.g89 i zj (L (Z 2) zc)))) (zd (zN (zx yI (zw zO (Z 1) zg) zI (zC _)) (zd (zL (Af (Z 0) T.q0p (W4 T) T.g90 i zj (L (Z 2) zc)))) (zd (zN (zx yI (zw zO (Z 1) zg) zI (zC _)) (zd (zL (Af (Z 0) T.q0p (Wm T) T.g91 i zj (L (Z 1) (L (Z 2) zc))))) (zd (zL (yG bD bR bT ye (xm (Z 0) T.q0p (Z5 T) T.g92 i zj) (L (Z 1) zc)))))))))),by
   have F:=(rgF T);have #[x,dx,o,bl,tl,v,e,rfl,O,h2,J,I,q]:=h;obtain⟨r,k,f,rfl,u,A,n1,n2,n3⟩:∃(r:B)(k:LV)(f:Str),v=.ref r/\H r=Y (.tup k)/\atI k 0=Y (.str f)/\f≠bb "else"/\f≠bb "end"/\f≠bb "if":=by
    cases e with
    |say n=>have #[r,te,a,b,c]:=I;exact{r,_,_,a,b,U,(),(),()}
    |give p n=>have #[r,tp,te,a,b,c,d]:=I;exact{r,_,_,a,b,U,(),(),()}
   refine VZ U u A (λz=>absurd z n1) λ_=>VZ U u A (λz=>absurd z n2) λ_=>VZ U u A (λz=>absurd z n3) λ_=>?_;refine xK O U U {x,dx,o,bl,tl,U,O,h2,λH1 m=>{.inl {U,_,aM.of (m _ _ J)},_,U,o,[],_,U,U,m _ _ J,(),?_}};exact q _ ((UpR.same m).trans (UpR.up _)) zh}}
 have #[x,dx,o,bl,tl,v,e,rfl,_]:=h;rfl
theorem W6:Ba P w K mg base 1 t.a94 t.d94 ["self","words","number"] (vI t):=by
 refine T.q2v.ok0 WO (λi H Q E h=>?_) (λk A c s H i Q E m h=>?_)
 .have #[x,l,dx,rfl,_]:=h;rfl
 exact{qf K t,(zb (yo (f:="words") (Z 0) (Z 1) U) (zb (yo (f:="number") (Z 0) (Z 2) U) (zd (yo (f:="at") (Z 0) zg U)))),Wc (rwF T) h}
theorem vC:Ba P w K mg base 1 t.a95 t.d95 ["self"] (vp t):=by
 refine T.g95.f.okA q26 λm H Q E h=>{?_,λ_ _ _ _ u=>{_,(zb (zN (zx yI (zy (Z 0) U) (zK yd U T.q06 yP (L (zy (Z 0) U) zc)) (zC _)) (zd yh)
   zA) (zb (zu 1 q26.nd (zw zH (zy (Z 0) U) (zy (Z 0) U))) (zb (Ws (f:="at") (Z 0) zg zeg) (zd (zo (Z 1)))))),by have F:=(rwF T);have #[x,dx,l,c,k,w,rfl,R,i,q]:=h;have o:=(bp.mp i).1;unfold zB yF;refine zX R.ix F.cl F.n3 U U (zX R.ix F.cl F.n1 U U {.ref l,c.length,U,.inl {_,aM.of R.hw,(bh ..).symm},U,_,U,zV (Bk λz=>by have:=V.int.inj z;lia) ?_});refine zX R.ix F.cl F.n1 U U (zX R.ix F.cl F.n3 U U {l,_,k,_,U,U,aM.of R.hw,yy (by rw[br,i];rfl),?_});refine{_,U,x,_,_,_,_,U,R.ix,F.cl,F.n3,U,_,_,U,U,_,_,R.ix,(),_,U,q _ (UpR.up _) (R.at_ (k+1))}}}
 have #[x,dx,l,c,k,w,rfl,_]:=h;rfl
theorem QS:Ba P w K mg base 1 t.a96 t.d96 ["words"] (Qv):={λk H Q E h=>h.elim,λA c s H i m k Q E q u z o h=>h.elim}
theorem vD:Ba P w K mg base 2 t.a97 t.d97 ["self"] (vq t):=by
 refine T.g97.f.okA q27 λI H Q E h=>{?_,λ_ _ _ _ m=>{_,(zb (zu 1 q27.nd (xm (Z 0) T.q0g (vC T) T.g95 m zj)) (zb (zN (wD (yJ (bc (Y9 T) T.g49 m zj (L (Z 1) zc)))) (zd yh)
    zA) (zd (zo (Z 1))))),by have F:=(rwF T);have #[x,dx,l,c,k,w,rfl,R,z,u,J,q]:=h;unfold zB yp;refine xK R.ix U U {x,dx,l,c,k,w,U,R,z,λO o A=>{_,U,_,U,(),λH2 i=>{_,U,zV (by rw[u];rfl) {_,U,q H2 (o.trans (.same i)) (A.same i)}}}}}}
 have #[x,dx,l,c,k,w,rfl,_]:=h;rfl
theorem K9:Ba P w K mg base 1 t.a98 t.d98 ["words","at"] (va):=by
 refine T.g98.f.okA q0x λm H Q E h=>{?_,λ_ _ _ _ o=>{ZY K t,(zb (zu 2 q0x.nd zg) (zb (zu 3 q0x.nd (Z 1)) (zb (Ju cn (zx zce (Z 2) zg (zC _)) (zb (zN (zx zfr (Z 3) (zK yd U T.q06 yP (L (Z 0) zc)) (zC _)) (zd yh)
    zA) (zb (zN (zx yI (zE jD (Z 3) (Z 1)) (xv U T.g_MOST_WORDS_terms {_,U}) (zC _)) (zd yh)
    zA) (zb (zu 2 q0x.nd (vX (zx wO (zw zH (Z 0) (Z 3)) (xv U T.g_JOINING U) (by with_unfolding_all rfl)) (zE yO (Z 2) zg) (zE jD (Z 2) zg))) (zd (zhK (i:=3) q0x.nd U (iy U) zg zhL)))))) (zd (zo (Z 3)))))),Jb (λH=>T.q19 H) h}}
 have #[l,c,k,n,w,rfl,_]:=h;rfl
theorem zfl:Ba P w K mg base 4 t.a99 t.d99 ["word"] (Km):=by
 refine T.g99.f.okA zeV λA H Q E h=>{?_,λ_ _ _ _ i=>{_,(zb (zN (yJ (bc (Y9 T) T.g49 i zj (L (Z 0) zc))) (zd (zo (Z 0)))
   zA) (zb (zN (yJ (bc (YA T) T.g53 i zj (L (Z 0) zc))) (zd (zo (bc (VR T) T.g54 i zj (L (Z 0) zc))))
    zA) (zd yh))),by have #[w,n,rfl,k,q]:=h;have #[a,b,c,d]:=zjS k;have #[rfl,h]:=k;exact{_,U,_,U,(),λI u=>{_,U,zV c {_,U,_,U,a,(),λH2 o=>{_,U,yC U {_,U,n,U,h,λz m=>q z (u.trans (o.trans m))}}}}}}}
 have #[w,n,rfl,_]:=h;rfl
theorem zca:Ba P w K mg base 5 t.a100 t.d100 ["words","at"] (qH):=by
 refine T.g100.f.okA q0o λm H Q E h=>{?_,λ_ _ _ _ c=>{X7 K t,(zb (zu 2 q0o.nd (bc (K9 T) T.g98 c zj (L (Z 0) (L (Z 1) zc)))) (zb (zu 3 q0o.nd (zT zc)) (zb (y8 cn U (zmM U T.q30 (L (xF wT (Z 0) (xM (Z 1)) (xM (Z 2))) zc)) (zY 4 q0o.nd) (zd (zN (zx wO (Z 4) (xv U T.g_JOINING U) (by with_unfolding_all rfl)) (zb (zu 5 q0o.nd (Wt bD fu fA Wv (Z 3))) (zb (zu 6 q0o.nd (Wt bD fu fA Wv (Z 3))) (zd (zL (yG bD bR bT ye (Z 3) (L (zE Ji (zE Ji (Z 5) (Z 6)) (zR (L (Z 4) zc))) zc)))))) (zd (zL (yG bD bR bT ye (Z 3) (L (zR (L (bc (zfl T) T.g99 c zj (L (Z 4) zc)) zc)) zc))))))) (zd (zo (zR (L (Wt bD fu fA Wv (Z 3)) (L (Z 2) zc)))))))),QF (λH=>T.q19 H) h}}
 have #[l,i,k,n,w,rfl,_]:=h;rfl
theorem yN:Ba P w K mg base 6 t.a101 t.d101 ["self"] (vt t):=by
 refine T.g101.f.okA q28 λvs H Q E h=>{?_,λ_ _ _ _ O=>{_,(zb (Xx (zu 1 q28.nd (bc (zca T) T.g100 O zj (L (zy (Z 0) U) (L (zy (Z 0) U) zc))))) (zb (yo (f:="at") (Z 0) (zw zO (Z 1) zg) U) (zd (zo (zw zO (Z 1) zg))))),by have F:=(rwF T);have #[x,dx,l,o,k,n,w,rfl,R,h2,h3,h4,q]:=h;unfold zB yp;refine zX R.ix F.cl F.n1 U U (zX R.ix F.cl F.n3 U U {l,o,k,n,w,U,R.hw,h2,h3,h4,λp u H1 z m A=>?_});have c:=R.same z;have I:u≠x:=zJ A c.ix ();have J:p≠x:=zJ m c.ix ();refine{_,U,p,_,1,_,U,U,aX.of m,U,_,U,x,_,_,_,U,c.ix,F.cl,F.n3,(),?_};have R2:=c.at_ (k+1);have i:upd H1 x (.ins t.q07 dx (zlc l (k+1))) p=_:=(zk J).trans m;exact{_,U,p,_,0,_,U,U,aX.of i,U,q u _ ((UpR.same z).trans (UpR.up _)) R2 ((zk I).trans A)}}}
 have #[x,dx,l,o,k,n,w,rfl,_]:=h;rfl
theorem zcb:Ba P w K mg base 7 t.a102 t.d102 ["words"] (qI t):=by
 refine T.g102.f.okA q29 λvs H Q E h=>{?_,λ_ _ _ _ c=>{_,(zb (zu 1 q29.nd (xm (Z 0) T.q0g (vC T) T.g95 c zj)) (zb (zN (zx yI (Z 1) zI (zC _)) (zd (zo (bc (QS T) T.g96 c zj (L (Z 0) zc))))
    zA) (zb (zN (zx yI (Z 1) zI (zC _)) (zd (zo (zR (L zI (L (xm (Z 0) T.q0g (vD T) T.g97 c zj) (L (xm (Z 0) T.q0g (yN T) T.g101 c zj) (L (xm (Z 0) T.q0g (yN T) T.g101 c zj) zc)))))))
    zA) (zb (zN (zx yI (Z 1) zI (zC _)) (zd (zo (zR (L zI (L (xm (Z 0) T.q0g (vD T) T.g97 c zj) (L (xm (Z 0) T.q0g (yN T) T.g101 c zj) zc))))))
    zA) (zb (zN (zx wO (Z 1) (zR (L zI (L zI zc))) (by with_unfolding_all rfl)) (zd (zo (zR (L (Z 1) (L (xm (Z 0) T.q0g (yN T) T.g101 c zj) zc)))))
    zA) (zb (zN (zx yI (Z 1) zI (zC _)) (zd (zo (zR (L zI (L (xm (Z 0) T.q0g (yN T) T.g101 c zj) (L (zT zc) (L (zT zc) zc)))))))
    zA) (zb (zN (zx wO (Z 1) (zR (L zI (L zI zc))) (by with_unfolding_all rfl)) (zd (zo (zR (L (Z 1) zc))))
    zA) (zd yh)))))))),by
   have F:=(rwF T);have #[x,dx,l,e,rfl,R,J,q]:=h;unfold zB yp;cases e with
   |say n=>
    refine xK R.ix U U {x,dx,l,_,0,_,U,R,U,λH1 I u=>?_};refine zjV U (λz=>absurd z ()) λ_=>zjV U (λz=>absurd z ()) λ_=>zjV U (λz=>absurd z ()) λ_=>?_;refine{_,U,sz2,λp hp=>{p,_,U,.inr (aX.of zh),U,U,_,U,yC () ?_}};have sp:=hX (o:=HO.tup [V.str (bb "say"),V.str (bb "off")]) p hp;have R2:=u.same sp;refine{_,U,xK R2.ix U U {x,dx,l,_,1,n,_,U,R2,U,zjT J,by show 2<=10;decide,λk H3 A m O=>{sz2,λr c=>?_}}};have i:=hX (o:=HO.tup [V.str (bb "say"),V.ref k]) r c;exact q _ _ (I.trans ((UpR.same sp).trans (A.trans (.same i)))) (m.same i) {r,k,U,zh,i _ _ O}
   |give p n=>
    refine xK R.ix U U {x,dx,l,_,0,_,U,R,U,λH1 I u=>?_};refine zjV U (λz=>absurd z ()) λ_=>zjV U (λ_=>?_) (λz=>absurd U z);refine xK u.ix U U {x,dx,l,_,1,_,U,u,U,(),(),λH2 u2 R2=>?_};refine xK R2.ix U U {x,dx,l,_,2,p,_,U,R2,U,zjU J.1,by show 4<=10;decide,λtp H3 A m ep=>?_};refine xK m.ix U U {x,dx,l,_,3,n,_,U,m,U,zjT J.2,by show 4<=10;decide,λk H4 u4 R4 O=>{sz4,λr c=>?_}};have i:=hX (o:=HO.tup [V.str (bb "give"),V.str (bb "a"),V.ref tp,V.ref k]) r c;exact q _ _ (I.trans (u2.trans (A.trans (u4.trans (.same i))))) (R4.same i) {r,tp,k,U,zh,i _ _ (u4 _ _ (zJ ep m.ix ()) ep),i _ _ O}}}
 have #[x,dx,l,e,rfl,_]:=h;rfl
theorem Z6:Ba P w K mg base 1 t.a103 t.d103 ["self"] (xS t):=by
 refine T.g103.f.okA ZE λi H Q E h=>{?_,λ_ _ _ _ k=>{_,(zd (zN (zx Xe (zy (Z 0) U) (zK yd U T.q06 yP (L (zy (Z 0) U) zc)) (zC _)) (zd yh)
   zA)),by have F:=(rwF T);have #[x,dx,l,c,rfl,R,q]:=h;unfold yF;exact zX R.ix F.cl F.n3 U U (zX R.ix F.cl F.n1 U U {.ref l,c.length,U,.inl {_,aM.of R.hw,(bh ..).symm},_,_,U,U,_,U,zV (Bk ()) (q _ (aJ.refl _))})}}
 have #[x,dx,l,c,rfl,_]:=h;rfl
theorem zhF:Ba P w K mg base 8 t.a104 t.d104 ["text","number"] (WT):=by
 refine T.g104.f.okA q16 λi H Q E h=>{?_,λ_ _ _ _ c=>{zaM K t,(zb (zu 2 q16.nd (yG cX eB fZ Zv (Z 0) (L zI zc))) (zb (zN (PW.pt (jm (zx zfr (Z 1) (xv U T.g_MOST_ROWS {_,U}) (zC _)) (wC (zx zce (zK yd U T.q06 yP (L (Z 2) zc)) (xv U T.g_MOST_WORDS_reader {_,U}) (zC _))))) (zd yh)
    zA) (zb (zu 3 q16.nd (js T.mk_RowWords (bv.mono (W6 T) ()) c U T.g_RowWords T.q2w .nil zj (L (Z 2) (L (Z 1) zc)))) (zb (zu 4 q16.nd (bc (zcb T) T.g102 c zj (L (Z 3) zc))) (zb (zL (xm (Z 3) T.q0g (Z6 T) T.g103 c zj)) (zd (zo (Z 4)))))))),ze5 T h}}
 have #[e,rfl,_]:=h;rfl
theorem zlL:Ba P w K mg base 9 t.a105 t.d105 ["text"] (zfY):=by
 refine T.g105.f.okA q0y λi H Q E h=>{?_,λ_ _ _ _ c=>{zfZ K t,(zb (zu 1 q0y.nd (vX (zx wN (Z 0) zI (zC _)) (yG cX eB fZ Zv (Z 0) (L zI zc)) (zT zc))) (zb (zu 2 q0y.nd (zcj T.mk_Reading (bv.mono (Jd T) ()) c U T.g_Reading T.q2u .nil zj)) (zb (y8 cn U (zkU U T.q2d (L (Z 1) zc)) (kt U (yE (zY 3 q0y.nd) (yE (zY 4 q0y.nd) vP))) (zd (zL (Af (Z 2) T.q0p (W5 T) T.g93 c zj (L (bc (zhF T) T.g104 c zj (L (Z 4) (L (Z 3) zc))) (L (Z 3) zc)))))) (zb (zN (zx (Xy (VW c)) (zy (Z 2) U) (zT zc) (zC _)) (zd yh)
    zA) (zd (zo (zy (Z 2) U))))))),zjX T (rgF T) h}}
 have #[e,rfl,_]:=h;rfl
theorem W7:Ba P w K mg base 10 t.a106 t.d106 ["self","text"] (vM t):=by
 refine T.g106.f.okA WP λvs H Q E h=>{?_,λ_ _ _ _ m=>{_,(zd (zo (Af (zy (Z 0) U) T.q0d (zd4 T) T.g84 m zj (L (bc (zfk T) T.g87 m zj (L (bc (zlL T) T.g105 m zj (L (Z 1) zc)) zc)) zc)))),by
   have F:=(hsF T);have D:=(dkF T);have #[x,e,n,g,CC,S,N,rfl,h1,J,h3,q]:=h;have #[b,a,lb,ts,G,z]:=h1;obtain rfl:=zfa z;have ln:=G.o.len;refine zX G.h.ix F.cl F.n4 U U {b.d,_,_,U,(G.d.cmp G.o.el).1,U,_,U,e,U,J,λv l H1 s1 _ hl i=>{l,v,e,U,hl,i,λl2 H2 I _ o=>?_}};have O:=s1.trans I;refine{b.d,l2,v,e,a,lb,n,g,CC,S,U,o,i.same I,G.d.same O,(),(),G.o.el,λk lb3 F3 G3=>?_};have u:Fr M0 H k lb lb3:=(Fr.same O).trans F3;have A:(CC++[e]).take S.en=CC.take S.en:=m6 G.o.el;refine q k _ (FrN.of (x:=x) (b:=b) u λc y=>G.d.ow y) (HsG.i (b:=b) (a:=a) (ts:=ts) {?_,?_,G3,G.o.add h3 J,G.gr})
   .show HsA t k x b lb3 S.en ts ((Aj g ((CC++[e]).take S.en)).map V.str);rw[A];exact G.h.fr u
   .show Ah k ts ((CC++[e]).take S.en);rw[A];exact G.an.ts u.ts}}
 have #[x,e,n,g,CC,S,N,rfl,_]:=h;rfl
theorem zfm:Ba P w K mg base 2 t.a107 t.d107 ["table","gifts"] (YY):=by
 refine T.g107.f.okA zeW λvs H Q E h=>{?_,λ_ _ _ _ I=>{_,(zd (zo (bc (kr T) T.g66 I zj (L (zE Zo (Z 0) (Z 1)) zc)))),by have #[a,b,g,i,rfl,h1,O,h3,h4,q]:=h;have #[xs,A,m]:=h1;have #[ys,z,k]:=O;have l1:=bO m;have l2:=bO k;refine{_,U,_,U,a,b,xs,ys,U,U,A,z,yf (),λp J=>?_};have s:=hX (o:=HO.lst (xs++ys)) p J;have ld:=jv (g++i);rw[bx] at ld;exact{p,g++i,U,{_,zh,zjF (qg s m) (qg s k)},(),by rw[bx];lia,λl c H' u hl=>q l c H' (s.trans u) (yi s hl)}}}
 have #[a,b,g,i,rfl,_]:=h;rfl
theorem Yi:Ba P w K mg base 8 t.a108 t.d108 ["house","dealt","table","first","held"] (wc t):=by
 refine T.g108.f.okA q0i λvs H Q E h=>?_;have #[x,d,tl,hl,b,n,g,CC,S,N,lw,ds,hs,rfl,O,h2,h3,J,h5,I,h7,h8,h9,m,ab,aa,q]:=h;exact{U,λ_ _ _ _ k=>{_,(zb (zu 5 q0i.nd (xm (Z 0) T.q08 (qm T) T.g78 k zj)) (zb (zN (wD (zhR zfq zfq zg (Z 5) (zK yd U T.q06 yP (L (Z 1) zc)))) (zd (zo (wL (b:=ah))))
    zA) (zb (y8 cn U (kN U T.q0q (L (Z 5) zc)) (zY 6 q0i.nd) (zd (zu 2 q0i.nd (bc (zfm T) T.g107 k zj (L (Z 2) (L (zw zO (zw zH (Z 1) (Z 6)) zg) zc)))))) (zb (zN (PW.pt (Wn (yJ (Z 3)) (Xd (wD (yJ (bc (xp T 6) T.g77 k zj (L (xm (Z 0) T.q08 (xU T) T.g82 k zj) (L (Z 2) zc)))))))) (zd (zo (wL (b:=ah))))
    zA) (zb (zu 7 q0i.nd (xm (Z 0) T.q08 (x6 T) T.g79 k zj)) (zb (zN (wD (yJ (bc (xp T 6) T.g77 k zj (L (Z 7) (L (wV U (osc:=zi wF) (N:=["house","dealt","table","first","held","many","k","answers","told","lines","last"]) (xs:=["k"]) (ix:=[1]) () (kN U T.q0q (L (Z 5) zc)) (λ_ _ _ _=>(xh (i:=0) (show eG (["k","dealt"]:zQ) from ()) U (iy U) (.inr U))) (λ_ _ _ _=>wu) (λ_ _ _ _=>(zR (L (Z 0) (L (zw zO (zw zH (Z 1) (Z 0)) zg) zc))))) zc))))) (zd (zo (wL (b:=ah))))
    zA) (zb (zu 8 q0i.nd (xm (Z 0) T.q08 (xU T) T.g82 k zj)) (zb (zN (wD (yJ (bc (xp T 6) T.g77 k zj (L (Z 8) (L (Z 2) zc))))) (zd (zo (wL (b:=ah))))
    zA) (zb (zL (yG bD bR bT ye (Z 4) (L (zR (L (Z 7) (L (zW yZ U T.b_list xi (L (Z 7) zc)) zc))) zc))) (zb (zL (yG bD bR bT ye (Z 4) (L (zR (L (Z 8) (L (zW yZ U T.b_list xi (L (Z 8) zc)) zc))) zc))) (zb (zL (yG bD bR bT ye (xm (Z 0) T.q08 (xU T) T.g82 k zj) (L (zR (L (zR (L zI (L zg zc))) (L zg zc))) zc))) (zb (zL (yG bD bR bT ye (xm (Z 0) T.q08 (x6 T) T.g79 k zj) (L (zR (L (Z 5) (L (zR (L zI (L zI zc))) zc))) zc))) (zb (zu 9 q0i.nd (yG cX eB fZ Zv (xm (Z 0) T.q08 (Wl T) T.g76 k zj) (L zI zc))) (zb (zN (PW.pt (jm (zx wN (zK yd U T.q06 yP (L (Z 9) zc)) (zE yO (Z 5) zg) (zC _)) (wC (zx wN (zw zH (Z 9) (Vb Zm zg)) zI (zC _))))) (zd (zo (wL (b:=ah))))
    zA) (zb (zN (zx yI (Z 5) zg (zC _)) (zd (zo (wL (b:=ae))))
    zA) (zb (zu 10 q0i.nd (zw zH (Z 1) (zE jD (Z 5) zg))) (zd (zo (bc (xp T 6) T.g77 k zj (L (bc (Wk T) T.g62 k zj (L (zw zH (Z 9) (Z 5)) zc)) (L (zR (L zI (L (zE jD (Z 5) zg) (L (zw zO (Z 10) zg) (L (zw zO (Z 10) zg) zc))))) zc))))))))))))))))))))),by have F:=(kf K);have h2:=h3;have h3:=J;have J:=h5;have h5:=I;have I:=h7;have h7:=h8;have h8:=h9;have h9:=ab;have m:=aa;have R:RtF t H x d hl n g CC S N lw ds:={O,h2,h3,J,h7,h8,h9,_,I};have #[c,ix]:=O.ix;have f:=O.few;have l:=bO J;refine{_,U,x,_,_,U,ix,U,x,n,g,CC,S,N,U,O,λH1 A=>?_};have R1:=R.same A;refine{_,U,_,_,U,U,_,U,yC (Bj (tG _)) {_,U,.ref d,ds.length,U,.inl {_,aM.of R1.hd,U},_,_,U,U,_,U,zV (by rw[Bj (show (S.en:Int)<=(ds.length:Nat) by lia)];rfl) ?_}};exact zlJ F R1 (h5.same A) (A _ _ I) m (λH' u w s=>q H' u w λb o z e=>s b o z (A b o e))}}
theorem ok_law:Ba P w K mg base 14 t.a109 t.d109 ["script"] (sp_law K):=by
 refine T.q2x.ok0 q0a (λk H Q E h=>?_) (λm A i s H k Q E c h=>?_)
 .have #[a,o,rfl,_]:=h;rfl
 exact{zjA K t,(zb (zu 1 q0a.nd (bc (QH T) T.g2 c zj (L (zE xj (bc (wA T) T.g72 c zj (L (Z 0) (L zg zc))) zg) (L (zT (L zI (L zI zc))) zc)))) (zb (zu 2 q0a.nd (bc (zfe T) T.g9 c zj (L (Z 1) zc))) (zb (zu 3 q0a.nd (zT (L (zE yO zg (zE yS (bc (wA T) T.g72 c zj (L (Z 0) (L zg zc))) zg)) (L (zE yO zg (zE yS (zE xj (bc (wA T) T.g72 c zj (L (Z 0) (L zg zc))) zg) zg)) zc)))) (zb (zu 4 q0a.nd (zE xj (bc (wA T) T.g72 c zj (L (Z 0) (L zg zc))) zg)) (zb (zu 5 q0a.nd (zT (L (bc (YB T) T.g74 c zj (L (Z 2) (L (zw zH (Z 3) zg) (L (zE yS (Z 4) zg) zc)))) (L (bc (YB T) T.g74 c zj (L (Z 2) (L (zw zH (Z 3) zg) (L (zE yS (zE xj (Z 4) zg) zg) zc)))) zc)))) (zb (zu 6 q0a.nd (zT (L (zT zc) (L (zT zc) zc)))) (zb (zu 7 q0a.nd (zT zc)) (zb (y8 cn U (kN U T.q0q (L (zK yd U T.q06 yP (L (Z 0) zc)) zc)) (zY 8 q0a.nd) (zb (zu 9 q0a.nd (zE yS (zw zH (Z 0) (Z 8)) zg)) (zb (zN (zx Xe (Z 8) zg (zC _)) (zb (zL (yG bD bR bT ye (zw zH (Z 6) (Z 9)) (L (bc (QR T) T.g83 c zj (L (zE xj (zw zH (Z 0) (Z 8)) zg) zc)) zc))) (zd (zN (zx wN (Jh (zw zH (Z 5) (Z 9)) T.q08 T.g106.me (bv.mono (W7 T) ()) c T.g106.b .nil zj (L (zw zO (zw zH (zw zH (Z 6) (Z 9)) (Vb Zm zg)) zg) zc)) (zE jD (zK yd U T.q06 yP (L (zw zH (Z 6) (Z 9)) zc)) zg) (zC _)) (zd (zo (wL (b:=ah))))
    zA)))
    zA) (zb (zu 9 q0a.nd (zE yS (zE xj (zw zH (Z 0) (Z 8)) zg) zg)) (zb (zL (Jh (zw zH (Z 5) (Z 9)) T.q08 T.g75.me (bv.mono (QP T) ()) c T.g75.b .nil zj (L (zE yS (zE xj (zw zH (Z 0) (Z 8)) zg) (zw zH (Z 3) (Z 9))) zc))) (zb (zu 9 q0a.nd (zE yS (zE xj (zw zH (Z 0) (Z 8)) zg) zg)) (zb (y8 cn U (zeb (zR (L (Z 9) (L (zE jD zg (Z 9)) zc)))) (zY 10 q0a.nd) (zd (zN (wD (yJ (bc (Yi T) T.g108 c zj (L (zw zH (Z 5) (Z 10)) (L (zw zH (Z 6) (Z 10)) (L (Z 1) (L (vQ yI (zE yS (zE xj (zw zH (Z 0) (Z 8)) zg) zg) zg (zC _)) (L (Z 7) zc)))))))) (zd (zo (wL (b:=ah))))
    zA))) (zd (zN (zx yI (Z 8) zg (zC _)) (zb (zu 11 q0a.nd (xm (zw zH (Z 5) zg) T.q08 (jk T) T.g48 c zj)) (zd (zL (yG bD bR bT ye (Z 7) (L (zR (L (Z 11) (L (zW yZ U T.b_list xi (L (Z 11) zc)) zc))) zc)))))
   zA))))))))) (zb (zu 11 q0a.nd (xm (zw zH (Z 5) zg) T.q08 (jk T) T.g48 c zj)) (zb (zu 12 q0a.nd (zW yZ U T.b_list xi (L (Z 11) zc))) (zb (zN (PW.pt (jm (zx (Xy (VW c)) (xm (zw zH (Z 5) zg) T.q08 (jk T) T.g48 c zj) (zT zc) (zC _)) (jm (zx (zm1 (VW c)) (Z 11) (Z 12) (zC _)) (wC (zx wN (xm (zw zH (Z 5) zg) T.q08 (qm T) T.g78 c zj) (zK yd U T.q06 yP (L (zw zH (Z 6) zg) zc)) (zC _)))))) (zd (zo (wL (b:=ah))))
    zA) (zb (y8 cn U (yU (Z 7)) (kt U (yE (zY 13 q0a.nd) (yE (zY 14 q0a.nd) vP))) (zd (zN (wD (yJ (bc (xp T 6) T.g77 c zj (L (Z 13) (L (Z 14) zc))))) (zd (zo (wL (b:=ah))))
    zA))) (zb (zu 15 q0a.nd (js T.mk_House (bv.mono (vW T) ()) c U T.g_House T.q18 .nil zj (L (xm (zw zH (Z 5) zg) T.q08 (Wl T) T.g76 c zj) (L zg (L (JT T.mo_Way U T.g_Way) zc))))) (zd (zo (Wp (bc (xp T 6) T.g77 c zj (L (xm (Z 15) T.q08 (x6 T) T.g79 c zj) (L (xm (zw zH (Z 5) zg) T.q08 (x6 T) T.g79 c zj) zc))) (Wo (bc (xp T 6) T.g77 c zj (L (xm (Z 15) T.q08 (xU T) T.g82 c zj) (L (xm (zw zH (Z 5) zg) T.q08 (xU T) T.g82 c zj) zc)))))))))))))))))))),zlK (hsF T) (dkF T) (kf K) h}
end
end K75
open PySem PySem.W PyProof.Rows
set_option maxRecDepth 100000 in
set_option maxHeartbeats 0 in
theorem PySem.Challenge.cw_forerun_k75_houses_apart_holds : PySem.Challenge.rw_forerun_k75_houses_apart.Holds := by
 refine hdT ?_
 k_fill
 refine L2.walk_ofXB (l := PySem.Challenge.rw_forerun_k75_houses_apart) (n := 63) (k := 14) (x := "script") (sp := K75.sp_law) U (by decide) U {U,by decide,by decide} (fun w h Bm => PySem.W.kIn_of Bm) ?F ?S
 case F =>
  intro w mg fa h KX G hmg;have T : ∃ t,K75.Txt (L2.KOf KX) mg t := by
   dsimp only [L2.KOf];exact {.mk ..,by
    constructor
    all_goals try dsimp only
    all_goals first
     | exact PySem.W.mg_of KX G (by k_is)
     | exact {by k_is,by k_is,by k_is,by k_is}
     | exact {by k_is,by k_is,by k_is}
     | exact ⟨PySem.W.mg_of KX G (by k_is),L2.fun_mk (by k_is) (by k_is) (by k_is),.all (by (repeat refine L2.arS fun _ => ?_); exact L2.ar0 rfl)⟩
     | exact ⟨⟨by k_is,by k_is,by k_is⟩,L2.fun_mk (by k_is) (by k_is) (by k_is),.all (by (repeat refine L2.arS fun _ => ?_); exact L2.ar0 rfl)⟩
     | exact L2.fun_mk (by k_is) (by k_is) (by k_is)
     | exact L2.fun_mkD (by k_is) (by k_is) (by k_is)
     | exact .all (by (repeat refine L2.arS fun _ => ?_); exact L2.ar0 rfl)
     | exact .df rfl (by k_is) (by (repeat refine L2.arS fun _ => ?_); exact L2.ar0 fun _ e => .of_defaults rfl e rfl rfl rfl)
     | exact ⟨_,.cons ⟨_,rfl⟩ .nil,.df rfl (by k_is) (by (repeat refine L2.arS fun _ => ?_); exact L2.ar0 fun _ e => .of_defaults rfl e rfl rfl rfl)⟩
     | exact fun _ _ => .of_eq rfl
     | exact PySem.W.mg_none_of KX G (by k_is)
     | exact fun _ => .inr {_,_,_,by k_is,U,U,by decide,by repeat (first | exact .nil | refine .cons {_,U} ?_)}
     | exact L2.QX.to {_,by k_is,by k_is,by k_is,by k_is,by k_is,by k_is,by k_is,by k_is}
     | (show _ = _; first | k_is | k_exc | kernel_rfl)}
  obtain ⟨t,T⟩ := T;have e0 := hmg.symm.trans T.m_law;cases e0;exact {_,T.w_law,fun base _ _ => K75.ok_law T}
 case S => exact fun K H a ns hl hb _ hS => {a,ns,rfl,hS,hl,hb,fun _ => rfl}
