import PyProof.Rows.All
import Wide.All
import OpenK.AllK
import PySem.Challenge.RW_forerun_k76_no_house_of_such_a_log
set_option Elab.async false
set_option linter.all false
local macro_rules|`(#where)=>do
 let f:=λ(s:String)(l:List Nat)=>l.map λi=>Lean.Name.str `hdT s!"{s}_{i}"
 return Lean.mkNullNode (←(f "heap" [39,46,1120]++f "tree" [47,91,106,121,143,158,173,188,203,218,259,341,342,401,471,494,581,582,684,763,815,873,896,954,963,1056,1112,1119]++f "view" [39]++f "o" (List.range' 43 1077)++f "sts" [49,92,107,122,144,159,174,189,204,219,260,342,344,402,472,495,582,584,685,764,816,874,897,955,964,1057,1113]++f "env" [41]++[`PySem.Challenge.pw_forerun_k76_no_house_of_such_a_log,`PySem.Challenge.rw_forerun_k76_no_house_of_such_a_log]).toArray.mapM λn=>do return (←`(command|def  $(Lean.mkIdent (.str `PySem.W.Fast s!"tw{n.hash}")):ident:=Nat)).raw)
#where
section
open PySem PySem.W PyProof.Rows
set_option maxRecDepth 100000
set_option maxHeartbeats 0
open_top hdT for PySem.Challenge.rw_forerun_k76_no_house_of_such_a_log
end
open Array renaming length_toList->bE,getElem?_toList->bU,getElem?_eq_getElem->b9,getElem?_eq_some_iff->cR,getElem?_eq_none->fO,getD_eq_getD_getElem?->gM,perm_iff_toList_perm->lM,getElem?_setIfInBounds_ne->nu,size_eq_one_iff->nS,toList_push->pX,toList_inj->rP,mem_iff_getElem->sT,mem_toList_iff->tw,toList_extract->tH,forIn_toList->uu,size_map->Bn
open Array.Perm renaming mem_iff->um,trans->uV,refl->Bi
open Bool renaming and_eq_true->bK,false_ne_true->bL,false_eq_true->cA,not_eq_true'->dP,eq_false_iff->fc,or_eq_false_iff->ii,eq_iff_iff->mB,or_eq_true->oK,or_false->rj,and_true->rJ,and_false->tI,not_eq_false'->ul
open Char renaming toNat->Bq
open Classical renaming byContradiction->eU,not_not->uH
open False renaming elim->dD
open ForInStep renaming yield->gK
open Iff renaming rfl->tq
open Int renaming toNat_natCast->cK,emod_lt_of_pos->dc,emod_nonneg->dL,toNat_of_nonneg->ma,lt_or_le->nJ,natAbs_ediv_le_natAbs->pJ,le_total->tj,le_refl->Bk
open Int.ofNat renaming inj->Bw
open LawfulMonad renaming pure_bind->Bg
open List renaming getElem?_eq_getElem->bc,length_map->bd,getElem?_eq_some_iff->bi,length_append->bj,getElem?_map->bn,mem_cons->bo,mem_cons_self->bp,mem_cons_of_mem->br,mem_singleton->bu,mem_append->bw,getD_eq_getElem?_getD->bA,map_cons->bB,mem_append_right->bD,size_toArray->bH,length_cons->bJ,mem_map->bM,length_singleton->bN,length_take->bQ,getElem?_eq_none->bT,take_of_length_le->bV,map_append->bW,mem_map_of_mem->bX,getElem?_cons_zero->bY,mem_of_getElem?->b7,all_eq_true->cx,length_drop->cz,lookup_cons->cE,range->cH,getElem_mem->cL,mem_append_left->cO,mem_of_mem_drop->cT,mem_of_mem_take->cU,append_nil->cV,nodup_cons->cW,append_assoc->cX,not_mem_nil->cZ,ext_getElem?->dq,take_add_one->du,getElem?_cons_succ->dv,drop_eq_getElem_cons->dA,replicate->dF,getElem?_append_right->dH,eq_nil_of_length_eq_zero->dJ,getElem?_of_mem->dW,mem_filterMap->dY,length->eA,lookup->eG,mem_filter->eN,nil_append->eQ,pairwise_iff_getElem->eT,take_length->eV,map_map->fh,Nodup->fi,cons_append->fI,map_congr_left->fR,take_append_drop->fZ,mem_range->gB,foldl_cons->gJ,getElem?_set_self->gN,getElem?_append_left->gY,nodup_nil->gZ,filter_cons_of_neg->iA,filter_cons_of_pos->iB,getElem_inj->iF,drop_zero->iK,drop_eq_nil_of_le->iM,getElem?_take->iP,length_replicate->iT,map_nil->iU,find?_cons->iV,length_nil->iW,all_cons->lD,getElem?_set_ne->lN,mem_flatMap->lW,filter_eq_self->mf,filter_sublist->mh,any_cons->mD,eraseIdx_cons_succ->mE,set_cons_zero->mJ,set_cons_succ->mK,drop_of_length_le->mQ,eraseIdxIfInBounds_toArray->mS,pairwise_map->mV,getElem?_inj->mY,nodup_append->m6,getElem?_toArray->nR,filter_cons->nX,drop_append->n9,sum_cons->oq,map_take->oB,filterMap_cons->oF,getElem?_range->oM,flatMap_append->oP,getElem?_concat_length->oQ,length_eraseIdx_of_lt->oW,toArray->pi,pairwise_cons->pq,map_singleton->pB,extract_eq_take_drop->pK,idxOf_lt_length_iff->pU,length_range->pV,getElem?_replicate->rg,map->rL,map_drop->rM,pairwise_singleton->rN,mem_reverse->rR,not_of_lt_findIdx->sk,of_mem_zip->sy,length_filter_le->sB,filterMap_append->sZ,take_succ->tO,filter->tZ,length_flatMap->ub,drop_succ_cons->uc,getElem_idxOf->ut,contains_cons->ux,getElem?_drop->uy,filter_append->uz,take_sublist->uE,foldl_append->uI,flatMap_cons->uL,all_map->uP,nodup_range->uU,ext_getElem->uX,take_append->u5,forIn_cons->Bf,range_succ->Bj,sum_append->Bm
open List.Nodup renaming sublist->mF
open List.Pairwise renaming nil->lF,imp->pS
open List.Perm renaming refl->gD,swap->tM
open List.Sublist renaming map->n0
open List.cons renaming injEq->c8,inj->eE
open Nat renaming le_refl->bh,ne_of_lt->bO,zero_le->bP,le_trans->bR,lt_of_lt_of_le->cn,ne_of_gt->dU,lt_of_le_of_lt->dZ,lt_irrefl->gy,le_of_eq->gC,lt_succ_of_lt->gG,min_eq_left->gL,eq_zero_or_pos->gW,lt_succ_self->iH,succ_le_succ->iI,le_add_right->iJ,le_succ->iS,lt_or_ge->i6,zero_add->lf,le_of_lt_succ->lJ,reduceAdd->lL,le_of_lt->ml,succ_pos->ms,add_right_comm->mG,reduceSub->mI,min_eq_right->nY,mul_le_mul_right->oj,mod_lt->oC,strongRecOn->oJ,sub_self->pA,lt_trichotomy->pQ,le_succ_of_le->pY,lt_trans->sC,toDigits->sJ,add_le_add_left->tT,add_sub_cancel->uw,eq_or_lt_of_le->uA,sub_zero->uQ,min_le_right->uS
open Ne renaming symm->cY
open Option renaming map_eq_some_iff->cj,isSome_iff_exists->eY,map_some->oG,isSome_map->pO,isNone_some->ur,getD_none->uT
open Option.some renaming inj->cf,injEq->cr
open Or renaming inl->iy,inr->Bo
open Prod renaming ext->rD
open Prod.mk renaming inj->rH
open PyProof.Rows renaming callWith_type1->eu,entry_proto_collect'->on,entry_list_sort->oN,slot_list_sort->pF,args_list_sort->pG,reads_newData->rC,entry_list_iadd'->rQ,subscriptTail_builtinR->rZ,plain_sorted->sK,entry_sorted->sL,args_sorted1->sM,lt_int->tQ,kind_sorted->tV,listUpdate_at->uo
open PyProof.Rows.F renaming plain_set_update_loop->gE,entry_set_update_loop->lT
open PySem renaming wpAny_bind->ba,wpAny_pure->bg,sizeLine_eq->cp,wpAny_newObj_type->cC,wpAny_holding->cF,wpAny_call_entry->cG,wpAny_setField_rec->cI,wpAny_callSpecial?_slot->cM,wpAny_field->cQ,codeAny_builtin->de,wpAny_mono->dM,wpAny_setState_of->dR,wpAny_setField->eS,wpAny_dictEntries->fe,wpAny_Call_Name_kw->fq,tupleKind_room_in1->fu,wpAny_attempt->fB,plainId_quiet->fC,wpAny_truthy_bool->fP,codeAny_mono->fV,wpAny_typeNameOfWhole_itemiter->fX,wpAny_typeNameOfWhole_keyiter->gj,call_meets->gF,wpAny_execs_nil->gH,mem_of_lookup->gI,wpAny_notOrdered_dict->gU,wpAny_fieldsOf->ic,wpAny_typeNameOf_itemiter->ie,wpAny_passesOwn->ik,typeIs_str->ip,wpAny_typeNameOf_keyiter->ir,wpAny_setEntries_of->iD,wpAny_execs_cons->iG,wpAny_loadPart'->iX,wpAny_dictEpoch->iZ,wpAny_updateSeq->i8,wpAny_ite_split->i9,wpAny_pyIter_list->lA,wpAny_Call_method->lE,wpAny_standAt->lG,wpAny_loadPart_at->lK,codeAny_call_builtin->lO,wpAny_isInstance->lV,wpAny_comprehension_free->mq,wpAny_isOneOf_itemiter->mP,wpAny_call->mR,wpAny_pyIter_slot->mT,wpAny_throw->mU,wpAny_pyIter_enum->mZ,wpAny_runValue->nE,wpAny_seqItems->nF,call_meetsIn->nG,wpAny_typeOf->nN,builtinLookup_eq_fast->nP,wpAny_loadName_local->og,wpAny_pyIter_keyiter->om,wpAny_newList->ou,wpAny_handled->oy,wpAny_rule->oE,wpAny_of_eq->oH,wpAny_letOwnedTupleGo_enum->oS,wpAny_FormattedValue_plain->oV,codeAny_handlers_suite_as->pD,wpAny_newTuple->pE,isSubtype_stop->pH,wpAny_assign_Name->pL,wpAny_load->pM,wpAny_Call_method0_late->rm,wpAny_letGo->rF,wpAny_Try_except->rO,wpAny_forIn_list->rS,wpAny_askSetting->rT,wpAny_pyNext_list_item->rV,wpAny_pyNext_range_end->rW,wpAny_pyIter_rangeiter->rX,codeAny_compStart_list->se,wpAny_pyNext_list_end->sw,wpAny_specialOf->sD,exec_Assign_Name_used->sE,wpAny_JoinedStr->sG,codeAny_handlers_test->sH,wpAny_isOneOf_keyiter->sN,typeLookup_type->sO,size_of_entries->sS,ofString_length->sU,wpAny_formatField_int->sV,wpAny_isSame_ref_self->sW,call->tu,wpAny_newFunctionEnv->tz,wpAny_nameGoes_keeps->tD,wpAny_pyIter_revIter->tE,wpAny_updateDictKeys->tG,intText_digits->tK,intBits_le_iff->tL,isSubtype_type->tP,evalArgs_none->tR,wpAny_Name->uC,Within->uM
open PySem.Around renaming under_plainId->cP,under->uN
open PySem.Builtin.Dict renaming showsAll->iY,keyAndDefault->oU,updateFrom->rE,takeOut->tF
open PySem.Builtin.Dict_items renaming ownsTuple->fj,ownedTupleFields->lZ,ownedTupleIsFree->l8,pairFromOwner->mL
open PySem.Builtin.Int renaming intBits->eX,intTooBig->sR
open PySem.Builtin.List renaming listExtendWith->dh,listSameRef->iu,listTooLong->mn,listLengthHint->oO,listItems->si
open PySem.Builtin.Range renaming rangeSize->mz,small->tX
open PySem.Builtin.SmallTypes renaming nextOf->ig,ownedTupleHandOut->lU,ownedTupleIsFree->mj
open PySem.Builtin.Str renaming occurrences->dI,strSub->fH,lastOccurrence->fM,subAt->iq,tooLong->lY,strSliceIndices->oI,strKind->tY,glued->uG
open PySem.Calls renaming callWith_builtin->dX,evalArgs_plain->eI,spliced_cons->eK,spliced_nil->io,Constant_str->iO,call_function_entry->lQ,Name_function_global->oR
open PySem.Code renaming quiet_builtin->ui,isFrame->uO
open PySem.Data renaming fields->u9
open PySem.EntryCells renaming newEntry->ua
open PySem.F renaming plainAttrs_list->bF,slot_list_append->ck,type_list_append->cm,plainAttrs_str->cS,plain_extend_loop->dQ,slot_str_split->eM,plainAttrs_dict->fA,plain_list_iadd->fD,excBase_ValueError->fK,slot_dict_pop->fW,slot_str_ascii_iterator_next->fY,slot_list_pop->gb,type_list_pop->gc,slot_dict_itemiterator_next->gp,slot_dict_keyiterator_next->gA,type_str_split->gO,plain_proto_collect->i7,slot_enumerate_next->lh,slot_list_extend->mx,type_list_extend->my,args_str_ascii_iterator_next_1->mM,entry_dict_pop->mO,args_dict_itemiterator_next_1->mX,entry_str_ascii_iterator_next->m8,slot_dict_get->nH,type_dict_pop->nI,args_dict_keyiterator_next_1->nM,entry_dict_itemiterator_next->nQ,slot_str_join->nU,type_str_join->nV,entry_dict_keyiterator_next->nZ,slot_dict_setdefault->oA,args_str_split_2->pz,entry_extend_loop->pI,args_tuple_add_2->pN,entry_str_split->pT,slot_list_remove->pZ,type_list_remove->p0,slot_list_insert->rc,type_list_insert->rf,entry_tuple_add->rh,args_dict_pop_2->ro,args_dict_pop_3->rp,args_dict_get_3->rq,slot_dict_items->rG,args_enumerate_next_1->rK,slot_tuple_add->rY,entry_dict_get->r9,slot_dict_items_iter->sg,entry_enumerate_next->su,slot_tuple_lt->sP,plain_set_new->sX,slot_set_iter->sY
open PySem.Heap renaming get?_push_of_some->bf,get?_push_size->bq,lt_size->bG,get?_update_other->cg,get?_update_self->cq,SameBut->cy,size_push->gX,get?_push_cases->oo,MadeExcOf->tJ,ExtBut->tW
open PySem.Heap.SameBut renaming update->dz
open PySem.NameKind renaming free->eh,cell->rA
open PySem.Obj renaming data_mapFields->da,mapFields->dC,mapSeq->dN,isFreed_of_fields->eD,data_mapDictKeys->lP,cls_mapFields->pR,putSet->pW,isFreed_of_dict->t7
open PySem.Paired renaming length->bZ
open PySem.PassesOwn renaming never->cN
open PySem.PyData renaming depthAll->c7,depth->gS,canLay0->ib,strOk->iz,canLayAll0->lH,eqv->mW,eqvAll->oz,list->Bl
open PySem.PyData.int renaming injEq->uZ
open PySem.PyData.tuple renaming injEq->pj
open PySem.SeqAt renaming noMixAll->nB,shaped->nK,noMix->tU
open PySem.SeqAt.EqAt renaming str_str->mC,int_int->oZ,int_str->ud,str_int->ue
open PySem.SetTable renaming Probe->dG,leap->fG,turns->fU,bits->iC,below->iL,runEnd->mH,insertAt_perm->ss,grown->tN,sameMemory->t9,sizeAbove->uv,layClean->uJ,has->uR,advance->uW,tooFull->uY,slot->Bx,laid->By,fits->Bz,fill->BA
open PySem.SetTable.below renaming go->uK
open PySem.SetTable.layClean renaming free->iN
open PySem.SetTable.probe renaming go->m7
open PySem.Shared renaming TypeIs->uq
open PySem.Spec renaming sameAll->pc,same->Bh
open PySem.Str renaming ofString->bb,length->eZ,length_append->e9,join->fE,empty->gq,ofString_eq_toList->sf
open PySem.StrLaws renaming glued_eq_join->sQ,found_one->uF
open PySem.Txt renaming slice->eO,split->gu
open PySem.Value renaming ref->bC,none->cb,type->gg,int->gP,str->iQ,bool->lz,builtin->uj,float->u7
open PySem.W renaming Frag->bz,hideAll_none->dE,hideAll_get->fm,funFrames_hide->fJ,hideAll->fN,emptyDict->fQ,kitOne->fS,of_hideAll->gQ,findIn->gR,instObj->iE,kia_one->iR,looks_findIn->nA,keepIn->oX,callWith_K->oY,Looks->pC,excIn->sF,plainGet_of->uf,callWith_K0->ug,looks_mroIn->uh,exmOne->uk,plainGet->uD,codeIn->u6,methodObj->u8,hasDictIn->Ba,makesIn->Bb,specialIn->Bc,fnOf->Bd,OpenLaw->Be,lookIn->Br,mroIn->Bs,clsIn->Bt
open PySem.W.KatTups renaming cons->BB
open PySem.W.Looks renaming ld->pP
open PySem.Walks renaming list->Bp
open Sum renaming inl->nW,inr->uB
open Sum.inl renaming injEq->Bv
open Sum.inr renaming injEq->Bu
open True renaming intro->gh
open Bool renaming true->af,false->ah
open Option renaming some->Z,none->ae
open PySem renaming Addr->ac,Shared->ag,Value->ai,Program->am,Heap->ao,World->ap,Stmt->aq,Expr->au,Around->av,Scope->ax,Result->ay,sizeLine->Fb,FuncData->Fc,mainGlobals->Fd,starEach->Fe,wpAny->Ff,model->Fg,bootBuiltins->Fh,compareOp->Fi,Paired->B0
set_option Elab.async false
set_option linter.all false
set_option maxRecDepth 100000
theorem Fj{p:Prop}[Decidable p](h:p):decide p=true:=decide_eq_true h
theorem Fk{p:Prop}[Decidable p](h:¬p):decide p=false:=decide_eq_false h
set_option hygiene false
set_option compiler.extract_closed false
def zzzP:Nat->Lean.Syntax->Lean.MacroM (Lean.TSyntax `rcasesPat)
 |0,_=>Lean.Macro.throwUnsupported
 |n+1,s=>match s with
  |`(⟨$ps,*⟩)=>do
   let ls ← ps.getElems.mapM fun p=>do `(Lean.Parser.Tactic.rcasesPatLo|$(← zzzP n p):rcasesPat)
   `(rcasesPat|⟨$[$ls],*⟩)
  |`(#[$ps,*])=>do
   let ls ← ps.getElems.mapM fun p=>do `(Lean.Parser.Tactic.rcasesPatLo|$(← zzzP n p):rcasesPat)
   `(rcasesPat|⟨$[$ls],*⟩)
  |`($x:ident)=>`(rcasesPat|$x:ident)
  |_=>`(rcasesPat|_)
local macro_rules|`(match $x:term with|⟨$ps,*⟩=>$b)=>do
 if (b.raw.find? λx=>x.isOfKind `Lean.Parser.Term.syntheticHole&&!x[1].isIdent).isSome then Lean.Macro.throwUnsupported
 let q ← zzzP 9 (← `(⟨$ps,*⟩))
 `(by rcases $x:term with $q;exact $b)
local macro_rules|`({$a:term,$as,*})=>`(⟨$a,$as,*⟩)
local macro_rules|`(tactic|lia)=>`(tactic|first|with_reducible (first|assumption|exact Nat.le_refl _|exact Nat.zero_le _|exact Nat.le_of_lt ‹_›|exact Nat.le_succ_of_le ‹_›|exact Nat.le_trans ‹_› ‹_›|exact Nat.lt_of_lt_of_le ‹_› ‹_›|exact Nat.lt_of_le_of_lt ‹_› ‹_›|exact Nat.ne_of_gt ‹_›|exact Nat.ne_of_lt ‹_›|exact Int.le_of_lt ‹_›|exact Nat.le_of_eq ‹_›|exact Nat.succ_le_succ ‹_›|exact Nat.lt_succ_of_le ‹_›|exact Eq.trans ‹_› ‹_›)|decide +kernel|exact Nat.le_of_ble_eq_true rfl|(intro _ z;cases z;done)|(intro z;cases z;done)|lia -abstractProof)
theorem aj{c:Prop}{h:Decidable c}(n:¬c){α:Sort u}{t e:α}:ite c t e=e:=if_neg n
theorem ak{c:Prop}{h:Decidable c}(n:c){α:Sort u}{t e:α}:ite c t e=t:=if_pos n
theorem aw{α:Sort u}{p:α->Prop}{a:α}:(∃x,a=x/\p x)↔p a:=exists_eq_left'
local macro_rules|`(())=>`(by lia)
def zzzR(e:Lean.Term):Lean.MacroM (Lean.TSyntax `Lean.Parser.Tactic.rwRule):=match e with
 |`(<-$h)=>`(Lean.Parser.Tactic.rwRule|<-$(⟨h.raw[0]⟩))
 |_=>`(Lean.Parser.Tactic.rwRule|$e:term)
local macro_rules|`($r\$x)=>do
 let l←(match r with|`([$r,*])=>r.getElems|_=>#[r]).mapM zzzR
 match x with|`(_)=>`(by rw[$l,*])|_=>`(by rw[$l,*];exact $x)
local macro_rules|`($t:term|>$x)=>`(show $t from $x)
local macro_rules|`(?s)=>`(by simp)
local macro_rules|`(<-$x)=>`(by simpa using $(⟨x.raw[0]⟩))
local macro_rules|`(tactic|let $c:letConfig $d:letDecl)=>`(tactic|have $c:letConfig $d:letDecl)
local macro_rules|`(tactic|let #[$p,*]:=$e:term)=>do
 let q ← zzzP 9 (← `(#[$p,*]))
 `(tactic|obtain $q:rcasesPat:=$e)
local macro_rules|`(tactic|show $e)=>`(tactic|refine $e)
local macro_rules|`(command|def%$k $i:declId $s:optDeclSig $v:declVal)=>if k.getTrailingSize==1 then `(command|theorem $i:declId $(⟨s.raw.setKind `Lean.Parser.Command.declSig|>.modifyArg 1 (·[0])⟩):declSig $v:declVal) else Lean.Macro.throwUnsupported
def U{α:Sort u}{a:α}:a=a:=rfl
namespace L2
open PySem PySem.Spec PyProof.Rows
abbrev B1(x:Str):Prop:=(x==("__debug__":Str))=ah
abbrev Key:=Sum Int Str
def  Vk:Key->ai->Bool
 |.inl k,v=>Value.isInt k v
 |.inr x,v=>Value.isStrOf x v
def  zo5(w:ap):Key->Int
 |.inl k=>hashInt k
 |.inr x=>hashStr w x
def yS:∀ {k:Key}{v:ai},Vk k v=af->(∃i t,k=nW i/\v=gP i t)\/(∃x t,k=uB x/\v=iQ x t)
 |.inl i,v,h=>by let #[t,e]:=Value.isInt_shape (k:=i) (v:=v) h;show .inl {i,t,U,e}
 |.inr x,v,h=>by let #[t,e]:=Value.isStrOf_shape (x:=x) (v:=v) h;show .inr {x,t,U,e}
def zg9(i:Int)(t:Tok):Vk (.inl i) (.int i t)=af:=by simp[Vk,Value.isInt]
def zha(x:Str)(t:Tok):Vk (.inr x) (.str x t)=af:=by simp[Vk,Value.isStrOf]
def znd(a b:Int):decide ((nW a:Key)=nW b)=(a==b):=by
 by_cases e:a=b
 .subst e;simp
 .let h:¬ (nW a:Key)=nW b:=λq=>e (Sum.inl.inj q);show Fk h\(beq_eq_false_iff_ne.mpr e).symm
def zne(a b:Str):decide ((uB a:Key)=uB b)=decide (a=b):=by
 by_cases e:a=b
 .subst e;simp
 .let h:¬ (uB a:Key)=uB b:=λq=>e (Sum.inr.inj q);rw[Fk h,Fk e]
def znf(a:Int)(b:Str):decide ((nW a:Key)=uB b)=ah:=Fk (λq=>nomatch q)
def zng(a:Str)(b:Int):decide ((uB a:Key)=nW b)=ah:=Fk (λq=>nomatch q)
def  ye(c:am)(w:ap):PySem.KeyKind c w Key where
 is:=Vk
 hash:=zo5 w
 inj:=λv a b l f=>by
  obtain ⟨i,t,rfl,rfl⟩|⟨x,t,rfl,rfl⟩:=yS l
  .obtain ⟨j,u,rfl,e⟩|⟨y,u,rfl,e⟩:=yS f
   .injection e with e1 _;rw[e1]
   .show nomatch e
  .obtain ⟨j,u,rfl,e⟩|⟨y,u,rfl,e⟩:=yS f
   .show nomatch e
   .injection e with e1 _;rw[e1]
 byValue:=λk v h=>by obtain ⟨i,t,rfl,rfl⟩|⟨x,t,rfl,rfl⟩:=yS h <;> rfl
 pyHash:=λd h=>by
  obtain ⟨i,t,rfl,rfl⟩|⟨x,t,rfl,rfl⟩:=yS d
  .show wpAny_pyHash_int h
  .show wpAny_pyHash_str h
 eqBool:=λg d h=>by
  obtain ⟨i,t,rfl,rfl⟩|⟨x,t,rfl,rfl⟩:=yS g
  .obtain ⟨j,u,rfl,rfl⟩|⟨y,u,rfl,rfl⟩:=yS d
   .rw[znd] at h;show wpAny_eqBool_int h
   .rw[znf] at h;show ud i t y u _ _ _ _ h
  .obtain ⟨j,u,rfl,rfl⟩|⟨y,u,rfl,rfl⟩:=yS d
   .rw[zng] at h;show ue x t j u _ _ _ _ h
   .rw[zne] at h;show wpAny_eqBool_str h
 «strs»:=λk x t v h=>by
  obtain ⟨i,u,rfl,e⟩|⟨y,u,rfl,e⟩:=yS h
  .show nomatch e
  .injection e with e1 _;subst e1;cases v <;> rfl
def Vl(a:am)(w:ap)(i:Int)(t:Tok):(ye a w).is (.inl i) (.int i t)=af:=zg9 i t
def Vm(a:am)(w:ap)(x:Str)(t:Tok):(ye a w).is (.inr x) (.str x t)=af:=zha x t
inductive V where
 |non|bl (b:Bool)|int (i:Int)|str (x:Str)|byt (b:Array UInt8)|flt (b:UInt64)|ref (a:ac)|ty (n:String)
 deriving DecidableEq
def  aP:V->ai->Prop
 |.non,u=>u=cb
 |.bl b,u=>u=lz b
 |.int i,u=>∃t,u=gP i t
 |.str x,u=>∃t,u=iQ x t
 |.byt b,u=>∃t,u=Value.bytes b t
 |.flt b,u=>∃t,u=u7 b t
 |.ref a,u=>u=bC a
 |.ty n,u=>u=gg n
abbrev LV:=List V
abbrev zQ:=List ai
abbrev aO:LV->zQ->Prop:=B0 aP
def aO.length(r:aO xs us):xs.length=us.length:=bZ r
def aO.get:∀ {a:LV}{b:zQ}{i:Nat}{x:V},aO a b->a[i]?=Z x->∃u,b[i]?=Z u/\aP x u
 |_,_,_,_,.nil,e=>by simp at e
 |_,_,0,_,.cons r _,e=>by simp at e;subst e;show{_,U,r}
 |_,_,i+1,x,.cons _ t,e=>by let #[u,d,c]:=aO.get (i:=i) (x:=x) t (<-e);show{u,<-d,c}
def aO.append:∀ {b a:LV}{d c:zQ},aO b d->aO a c->aO (b++a) (d++c)
 |_,_,_,_,.nil,s=>s
 |_,_,_,_,.cons r t,s=>.cons r (aO.append t s)
def aO.take:∀ {a:LV}{b:zQ}(n:Nat),aO a b->aO (a.take n) (b.take n)
 |_,_,0,_=>.nil
 |_,_,_+1,.nil=>.nil
 |_,_,n+1,.cons r t=>.cons r (aO.take n t)
def aO.drop:∀ {a:LV}{b:zQ}(n:Nat),aO a b->aO (a.drop n) (b.drop n)
 |_,_,0,r=>r
 |_,_,_+1,.nil=>.nil
 |_,_,n+1,.cons _ t=>aO.drop n t
def  Am:Option V->Option ai->Prop
 |some v,Z u=>aP v u
 |none,ae=>True
 |_,_=>False
def  KV{a:Type}:List (a×V)->List (a×ai)->Prop:=B0 λ(p:a×V)(q:a×ai)=>p.1=q.1/\aP p.2 q.2
def  kV:Key->V
 |.inl i=>.int i
 |.inr x=>.str x
abbrev xu:=List Key
abbrev yd:=List (xu×V)
abbrev xC:=List (Key×V)
abbrev LSV:=List (Str×V)
inductive HO where
  |lst (xs:LV)
  |tup (xs:LV)
  |dK (aI:xC)|dT (aI:yd)
  |set (S:Int->Bool) (n:Nat)
  |ins (C dx:ac) (fs:LSV)
  |own (x:ac)
  |xd (fs:LSV)
  |met (f x:ac)
  |rng (lo hi:Int)
  |frz (o:Obj) (u:HO)
  |tbl (ps:Array ai)
  |ext (φ:ao->Prop)
abbrev Hp:=ac->Option HO
def  upd(H:Hp)(a:ac)(o:HO):Hp:=λb=>if b=a then Z o else H b
def zh{H:Hp} :upd H a o a=Z o:=by unfold upd;rw[ak rfl]
def zm{H:Hp}(h:b≠a):upd H a o b=H b:=by unfold upd;rw[aj h]
def Jr{H:Hp} :upd (upd H a o) a u=upd H a u:=by funext b;unfold upd;split <;> rfl
def zN{H:Hp}(h:H a=Z o)(c:H b=Z u)(d:o≠u):a≠b:=by intro e;subst e;rw[h] at c;show d (cf c)
def zy{H:Hp}(h:H a=Z o)(c:H b=ae):a≠b:=by intro e;subst e;rw[h] at c;cases c
section
variable (P:am)(w:ap)
def  aQ(H:Hp)(h:ao)(a:ac):HO->Prop
 |.lst c=>c.length<=Fb/\∃(b:zQ)(n:Nat),aO c b/\h.get? a=Z { cls:=.type "list",data:=.seq b.toArray n }
 |.tup c=>c.length<=Fb/\∃b:zQ,aO c b/\IsTup h a b.toArray
 |.dK aI=>aI.length<=Fb/\(a==sysModules)=ah/\∃e,KV aI e/\h.DictOf (ye P w) a e
 |.dT aI=>aI.length<=Fb/\(a==sysModules)=ah/\∃c:List (xu×ac×ai),
   B0 (λ(p:xu×V)(q:xu×ac×ai)=>p.1=q.1/\H q.2.1=Z (.tup (p.1.map kV))/\aP p.2 q.2.2) aI c /\
   ∃o j k,h.get? a=Z o/\o.ExactDict/\o.data=.dict j k/\j.toList=c.map (entryOfKey (tupleKind (ye P w)))/\(c.map (·.1)).Nodup
 |.set S n=>h.SetOf (intKind P w) a S n
 |.ins C dx fs=>H dx=Z (.own a)/\fs.length<=1000/\dx≠a/\h.get? a=Z (iE C dx) /\
   ∃d,h.Ns1 dx d/\(∀f,Am (fs.lookup f) (d f))/\uM d (fs.map (·.1))
 |.own _=>∃o,h.get? a=Z o
 |.xd fs=>∃d,h.Ns1 a d/\∀f,Am (fs.lookup f) (d f)
 |.rng lo hi=>∃t u v,h.get? a=Z { cls:=.type "range",data:=.fields #[.int lo t,.int hi u,.int 1 v] }
 |.frz o u=>h.get? a=Z o/\aQ H h a u
 |.tbl ps=>h.get? a=Z { cls:=.none,data:=.fields ps }
 |.met f x=>h.get? a=Z (u8 (.ref f) (.ref x))
 |.ext φ=>φ h/\(∃o,h.get? a=Z o)/\∀i g:ao,φ i->(∀o,i.get? a=Z o->g.get? a=Z o)->φ g
def  Ax(H:Hp)(h:ao):Prop:=∀a o,H a=Z o->aQ P w H h a o
end
variable {P:am}{H H':Hp}{h h':ao}{a:ac}
section
variable {w:ap}{o:HO}
def aQ.lt(x:aQ P w H h a o):a<h.objs.size:=by
 cases o with
 |lst xs=>let #[_,_,_,_,e]:=x;show bG e
 |tup xs=>let #[_,_,_,p]:=x;show p.lt
 |dK aI=>let #[_,_,_,_,o,_,_,e,_]:=x;show bG e
 |dT aI=>let #[_,_,_,_,o,_,_,e,_]:=x;show bG e
 |set S n=>let #[o,_,_,_,e,_]:=x;show bG e
 |ins C dx fs=>let #[_,_,_,e,_]:=x;show bG e
 |own y=>let #[_,e]:=x;show bG e
 |xd fs=>let #[_,#[_,_,_,e,_],_]:=x;show bG e
 |rng lo hi=>let #[_,_,_,e]:=x;show bG e
 |frz ob u=>let #[e,_]:=x;show bG e
 |tbl ps=>show bG (h.get? a=Z _|>x)
 |met f y=>show bG (h.get? a=Z _|>x)
 |ext φ=>let #[_,#[_,e],_]:=x;show bG e
def Paired.mapP{g e:Type}{F G:g->e->Prop}:∀ {d:List g}{c:List e},B0 F d c->(∀a b,F a b->G a b)->B0 G d c
 |_,_,.nil,_=>.nil
 |_,_,.cons r t,f=>.cons (f _ _ r) (Paired.mapP t f)
def aQ.stay(x:aQ P w H h a o)(k:∀b u,(b=a\/H b=Z (.own a))->h.get? b=Z u->h'.get? b=Z u)(I:∀b,H b=Z (.own a)->H' b=Z (.own a))(G:∀b m,H b=Z (.tup m)->H' b=Z (.tup m)):aQ P w H' h' a o:=by
 induction o with
 |lst m=>let #[z,l,n,r,e]:=x;show{z,l,n,r,k _ _ (.inl U) e}
 |tup m=>let #[z,l,r,g,e,c]:=x;show{z,l,r,g,k _ _ (.inl U) e,c}
 |dK aI=>let #[z,y,D,r,g,i,j,e,c]:=x;show{z,y,D,r,g,i,j,k _ _ (.inl U) e,c}
 |dT aI=>
  let #[z,y,m,r,g,i,j,e,c]:=x;show{z,y,m,Paired.mapP r λp q z=>{z.1,G _ _ z.2.1,z.2.2},g,i,j,k _ _ (.inl U) e,c}
 |set S n=>let #[g,i,j,t,e,c]:=x;show{g,i,j,t,k _ _ (.inl U) e,c}
 |ins C dx fs=>
  let #[d,z,E,e,A,#[s,i,j,J,c],r]:=x;show{I _ d,z,E,k _ _ (.inl U) e,A,{s,i,j,k _ _ (.inr d) J,c},r}
 |own y=>let #[g,e]:=x;show{g,k _ _ (.inl U) e}
 |xd fs=>let #[A,#[s,i,j,e,c],r]:=x;show{A,{s,i,j,k _ _ (.inl U) e,c},r}
 |rng lo hi=>let #[t,u,v,e]:=x;show{t,u,v,k _ _ (.inl U) e}
 |frz g u ih=>let #[e,q]:=x;show{k _ _ (.inl U) e,ih q}
 |tbl ps=>
  let e:h.get? a=Z { cls:=.none,data:=.fields ps }:=x;change h'.get? a=Z { cls:=.none,data:=.fields ps };show k a _ (.inl U) e
 |met f y=>
  let e:h.get? a=Z (u8 (.ref f) (.ref y)):=x;change h'.get? a=Z (u8 (.ref f) (.ref y));show k a _ (.inl U) e
 |ext φ=>let #[p,#[o,e],B]:=x;show{B _ _ p λo q=>k _ _ (.inl U) q,{o,k _ _ (.inl U) e},B}
def Ax.lt(x:Ax P w H h)(e:H a=Z o):a<h.objs.size:=(x a o e).lt
def Ax.fresh(x:Ax P w H h)(e:h.objs.size<=a):H a=ae:=by
 cases q:H a with
 |none=>rfl
 |some u=>show absurd (cn (x.lt q) e) (gy _)
def Ax.kept(x:Ax P w H h)(k:∀b u,h.get? b=Z u->h'.get? b=Z u):Ax P w H h':=λa o e=>
 (x a o e).stay (λb u _ q=>k b u q) (λ_ q=>q) λ_ _ q=>q
def Ax.laid(x:Ax P w H h)(k:∀b u,h.get? b=Z u->h'.get? b=Z u)(g:h.objs.size<=a)(d:aQ P w (upd H a o) h' a o):Ax P w (upd H a o) h':=λb u e=>by
 let f:=x.fresh g;by_cases hb:b=a
 .subst hb;rw[zh] at e;cases e;show d
 .rw[zm hb] at e;show(x b u e).stay (λc v _ q=>k c v q) (λc q=>zm (zy q f)\q) λc i q=>zm (zy q f)\q
end
def  Rd(H:Hp)(a:ac)(u:HO):Prop:=H a=Z u\/∃o,H a=Z (.frz o u)
def Rd.ok{H:Hp}(r:Rd H a u)(x:Ax P w H h):aQ P w H h a u:=by
 obtain r|⟨o,r⟩:=r
 .show x a u r
 .let #[_,q]:=x a _ r;show q
def  Mut:Option HO->Prop
 |some (.lst _)=>True
 |some (.dK _)=>True
 |some (.dT _)=>True
 |some (.set _ _)=>True
 |some (.ins _ _ _)=>True
 |some (.ext _)=>True
 |_=>False
variable {x:ac}
section
variable {w:ap}{e:ac}{o':HO}
def Ax.write(o:Ax P w H h)(i:Mut (H x))(n:e=x\/H e=Z (.own x))(k:∀b u,b≠e->h.get? b=Z u->h'.get? b=Z u)(l:∃u,h'.get? e=Z u)(j:aQ P w (upd H x o') h' x o'):Ax P w (upd H x o') h':=λb u q=>by
 let d:∀c y,H c=Z (.own y)->c≠x:=λc y r z=>by subst z;rw[r] at i;show i
 let f:∀c g,H c=Z (.tup g)->c≠x:=λc g r z=>by subst z;rw[r] at i;show i
 by_cases hb:b=x
 .subst hb;rw[zh] at q;cases q;show j
 .rw[zm hb] at q;by_cases hbe:b=e
  .let m:H b=Z (.own x):=by
    obtain z|z:=n
    .show absurd (hbe.trans z) hb
    .show hbe\z
   rw[q] at m;cases m;let #[v,p]:=l;show{v,hbe\p}
  .show(o b u q).stay (λc v hc r=>k c v ?_ r) (λc r=>zm (d c b r)\r) λc g r=>zm (f c g r)\r
   obtain rfl|hc:=hc
   .show hbe
   .rintro rfl;obtain z|z:=n
    .show d c b hc z
    .rw[hc] at z;cases z;show hb rfl
end
structure Un(fs ex:List ac)(H H':Hp)(h h':ao):Prop where
 keep:∀b o,h.get? b=Z o->H b=ae->b ∉ fs->b ∉ ex->h'.get? b=Z o
 slot:∀b o,h.get? b=Z o->H b=ae->b∈fs->b ∉ ex->∃sl,h'.get? b=Z { o with slots:=sl }
 free:∀b o,h.get? b=Z o->H b=ae->b ∉ ex->H' b=ae
 there:∀b o,h.get? b=Z o->b ∉ ex->∃o',h'.get? b=Z o'
 tups:∀b xs,H b=Z (.tup xs)->H' b=Z (.tup xs)
 frzs:∀b o u,H b=Z (.frz o u)->H' b=Z (.frz o u)
 tbls:∀b ps,H b=Z (.tbl ps)->∃more,H' b=Z (.tbl (ps++more))
section
variable {fs fs' ex ex':List ac}{H1 H2:Hp}{h1 h2:ao}{e:ac}{o:HO}
def Un.any(u:Un fs ex H H1 h h1)(q:h.get? b=Z ob)(n:H b=ae)(c:b ∉ ex):∃sl,h1.get? b=Z { ob with slots:=sl }:=by
 by_cases hb:b∈fs
 .show u.slot b ob q n hb c
 .show{ob.slots,u.keep b ob q n hb c}
def Un.kept(k:∀b u,h.get? b=Z u->h'.get? b=Z u):Un fs ex H H h h':=
 {λb c q _ _ _=>k b c q,λb c q _ _ _=>{c.slots,k b c q},λ_ _ _ n _=>n,λb c q _=>{c,k b c q},λ_ _ q=>q,λ_ _ _ q=>q,λ_ ps q=>{#[],q\?s}}
def Un.refl:Un fs ex H H h h:=Un.kept λ_ _ q=>q
def Un.laid(k:∀b u,h.get? b=Z u->h'.get? b=Z u)(d:h.objs.size<=a)(c:H a=ae):Un fs ex H (upd H a o) h h' where
 keep:=λb u q _ _ _=>k b u q
 slot:=λb u q _ _ _=>{u.slots,k b u q}
 free:=λb u q n _=>zm (bO (cn (bG q) d))\n
 there:=λb u q _=>{u,k b u q}
 tups:=λb xs q=>zm (zy q c)\q
 frzs:=λb u xs q=>zm (zy q c)\q
 tbls:=λb ps q=>{#[],[zm (zy q c),q]\?s}
def Un.write(c:Mut (H x))(l:e=x\/H e=Z (.own x))(k:∀b u,b≠e->h.get? b=Z u->h'.get? b=Z u)(f:∃u,h'.get? e=Z u):Un fs ex H (upd H x o) h h':=by
 let g:∀b,H b=ae->b≠x:=λb n z=>by subst z;rw[n] at c;show c
 let i:∀b,H b=ae->b≠e:=λb n z=>by
  subst z;obtain r|r:=l
  .show g b n r
  .rw[n] at r;cases r
 let d:∀b u,H b=Z u->¬ Mut (Z u)->b≠x:=λb u q j z=>by subst z;rw[q] at c;show j c
 show{λb u q n _ _=>k b u (i b n) q,λb u q n _ _=>{u.slots,k b u (i b n) q},λb u q n _=>zm (g b n)\n,λb u q _=>?_,
  λb xs q=>zm (d b _ q λz=>z)\q,λb u xs q=>zm (d b _ q λz=>z)\q,λb ps q=>{#[],[zm (d b _ q λz=>z),q]\?s}}
 by_cases hbe:b=e
 .subst hbe;show f
 .show{u,k b u hbe q}
end
def  trk(h:ao)(H:Hp):List ac:=(cH h.objs.size).filter λa=>(H a).isSome
def  zbF(h:ao)(H:Hp):ao:=fN h (trk h H)
def zhb(h:ao)(H:Hp):(zbF h H).objs.size=h.objs.size:=W.hideAll_size _ _
def ziz{H:Hp}(e:h.get? b=Z o)(n:H b=ae):(zbF h H).get? b=Z o:=
 fm _ e λc=>by let q:(H b).isSome=af:=(eN.mp c).2;rw[n] at q;simp at q
def zlf{H:Hp}(e:(zbF h H).get? b=Z o):h.get? b=Z o/\H b=ae:=by
 let c:h.get? b=Z o:=gQ (trk h H) e;show{c,?_};cases q:H b with
 |none=>rfl
 |some x=>
  let d:b∈trk h H:=eN.mpr {gB.mpr (bG c),by simp[q]};let z:(zbF h H).get? b=ae:=dE (trk h H) d;rw[z] at e;cases e
abbrev Ae:=List (ac×Obj)
def  zlg(g h:ao)(L:ac):Ae:=(cH h.objs.size).filterMap λa=>if a=L\/(g.get? a).isSome=af then ae else (h.get? a).map λo=>(a,o)
def  rest(g h:ao)(L d:ac):Ae:=(zlg g h L).filter λp=>decide (p.1≠d)
abbrev At:=Str->Option ai
structure Mod(K:bz)(mg:At)(base:ao):Prop where
 kin:K.In base
 glob:base.Ns Fd mg
 blt:∃mb,base.Ns builtinsNs mb/\∀x:Str,x≠"__name__"->mb x=Fh x
 nolimit:base.NoLimit
abbrev zO:=List Str
abbrev Aa:=ai->ag->Prop
abbrev LEv:=List Env
set_option genSizeOf false in
set_option genInjectivity false in
structure Cx where
 p:am
 w:ap
 K:bz
 mg:At
 M:ao
 A:av
 N:zO
 s₀:ag
 H₀:Hp
 e:Env
 J:LEv
 k:LEv
 ex:List ac
 fn:Str->Bool
 c:Bool
 pn:Ae
 xe:Aa
def  Af(l:LEv):List ac:=l.filterMap (·.frame)
abbrev Cx.fs(X:Cx):List ac:=Af X.J
def  Vis(b:ax)(x:Str):Prop:=b.names.lookup x=Z .local\/b.names.lookup x=Z .cell\/b.names.lookup x=Z .free
def  Loc(b:ax)(x:Str):Prop:=b.names.lookup x=Z .local\/b.names.lookup x=Z .cell
def  zoh(b:Env)(h:ao)(m:At)(x:Str)(u:ai):Prop:=
 (b.kindOf x=Z .local/\m x=Z u)\/((b.kindOf x=Z .cell\/b.kindOf x=Z .free)/\∃c,b.cells.lookup x=Z c/\h.IsCell c (Z u))
structure Cx.Ok(X:Cx):Prop where
 mod:Mod X.K X.mg X.M
 kind:X.e.scope.kind=.function
 glob:X.e.globals=Fd
 blt:X.e.builtins=builtinsNs
 above:X.s₀.heap.objs.size<=X.e.locals
 inj:∀x y c,X.e.cells.lookup x=Z c->X.e.cells.lookup y=Z c->x=y
 has:∀x,(X.e.kindOf x=Z .cell\/X.e.kindOf x=Z .free)->∃c,X.e.cells.lookup x=Z c
 cab:∀x c,X.fn x=af->X.e.cells.lookup x=Z c->X.s₀.heap.objs.size<=c
 hd:X.c=af->X.A.handled=ae
 frames:X.A.frames=Z X.k
 stk:X.k=X.J\/(X.k=X.e::X.J/\X.e.frame=Z X.e.locals)
 exf:∀b∈X.ex,b≠X.e.locals/\∀x c,X.e.cells.lookup x=Z c->c≠b
 bs:∀b o,X.M.get? b=Z o->X.s₀.heap.get? b=Z o/\X.H₀ b=ae
 bsz:X.M.objs.size<=X.s₀.heap.objs.size
 noex:∀b o,X.M.get? b=Z o->b ∉ X.ex
 exfs:∀b∈X.ex,b ∉ X.fs
 funs:X.s₀.heap.FunFrames X.M X.J
 frf:∀b∈X.fs,X.H₀ b=ae
structure aJ(X:Cx)(aa:Ae)(σ:List (Option V))(H:Hp)(s:ag):Prop where
 ok:X.Ok
 os:s.os=X.s₀.os
 bare:AllBare s.gens
 base:Un X.fs X.ex X.H₀ H X.s₀.heap s.heap
 loc:∃m,s.heap.Ns X.e.locals m/\∀(i:Nat)(x:Str)(v:V),X.N[i]?=Z x->σ[i]?=Z (Z v)->Vis X.e.scope x->∃u,aP v u/\zoh X.e s.heap m x u
 cell:∀x c,X.e.cells.lookup x=Z c->∃v,s.heap.IsCell c v
 free:H X.e.locals=ae
 freeC:∀x c,X.e.cells.lookup x=Z c->H c=ae
 pin:∀p∈X.pn++aa,s.heap.get? p.1=Z p.2/\H p.1=ae/\p.1≠X.e.locals/\p.1 ∉ X.fs/\∀v,p.2.data≠.cell v
 hok:Ax X.p X.w H s.heap
 len:σ.length=X.N.length
variable {X:Cx}{aa:Ae}{s:ag}
section
variable {σ:List (Option V)}
def Cx.Ok.nofr(d:X.Ok)(e:X.M.get? b=Z o):b ∉ X.fs:=λf=>by let:=(d.funs.mem f).1;rw[e] at this;cases this
def aJ.bs(I:aJ X aa σ H s):∀b o,X.M.get? b=Z o->s.heap.get? b=Z o/\H b=ae:=λb o e=>
 {I.base.keep b o (I.ok.bs b o e).1 (I.ok.bs b o e).2 (I.ok.nofr e) (I.ok.noex b o e),I.base.free b o (I.ok.bs b o e).1 (I.ok.bs b o e).2 (I.ok.noex b o e)}
def aJ.bk(I:aJ X aa σ H s):∀b o,X.M.get? b=Z o->s.heap.get? b=Z o:=λb o e=>(I.bs b o e).1
def aJ.mod(I:aJ X aa σ H s):Mod X.K X.mg X.M:=I.ok.mod
def aJ.kIn(I:aJ X aa σ H s):X.K.In s.heap:=I.ok.mod.kin.keeps I.bk
def aJ.lt(I:aJ X aa σ H s):X.e.locals<s.heap.objs.size:=let ⟨_,hn,_⟩:=I.loc;hn.lt
def aJ.sz(I:aJ X aa σ H s):X.s₀.heap.objs.size<=s.heap.objs.size:=bR I.ok.above (ml I.lt)
def aJ.nofs(I:aJ X aa σ H s)(h:s.heap.objs.size<=a):a ∉ X.fs:=λd=>by let #[_,o,b,_]:=I.ok.funs.mem d;show absurd (cn (bG b) (bR I.sz h)) (gy _)
def aJ.cne(I:aJ X aa σ H s):∀x c,X.e.cells.lookup x=Z c->c≠X.e.locals:=λx c e z=>by let #[v,o,f,g]:=I.cell x c e;let #[m,#[j,k,l,b,d,_],_]:=I.loc;rw[z,b] at f;cases f;rw[d] at g;cases g
def aJ.funs(I:aJ X aa σ H s):s.heap.FunFrames X.M X.J:=by
 let j:∀(l:LEv),(∀b∈Af l,b∈X.fs)->X.s₀.heap.FunFrames X.M l->s.heap.FunFrames X.M l:=by
  intro l;induction l with
  |nil=>intro _ _;trivial
  |cons env r ih=>
   intro k y;let #[A,#[L,o,d,t,q,B],n]:=y;let g:L∈X.fs:=k L (by unfold Af;show [oF,d]\bp);let #[C,e]:=I.base.slot L o q (I.ok.frf L g) g λz=>I.ok.exfs L z g;show{A,{L,_,d,t,e,B},ih (λb f=>k b (by unfold Af;show [oF,d]\br _ f)) n}
 show j X.J (λ_ f=>f) I.ok.funs
def aJ.stack(I:aJ X aa σ H s):s.heap.FunFrames X.M X.k:=by
 obtain e|⟨e,hf⟩:=I.ok.stk
 .show e\I.funs
 .rw[e];let #[m,b,_]:=I.loc;show .cons (by rw[I.ok.kind];decide) hf b ?_ I.funs;show Heap.get?_none_of_le (bR I.ok.bsz I.ok.above)
def aJ.stkSub(I:aJ X aa σ H s):∀b∈Af X.k,b∈X.e.locals::X.fs:=λb d=>by
 obtain e|⟨e,hf⟩:=I.ok.stk
 .rw[e] at d;show br _ d
 .rw[e] at d;unfold Af at d;rw[oF,hf] at d;show d
def aJ.stkFree(I:aJ X aa σ H s):∀b∈Af X.k,H b=ae:=λb hb=>by
 obtain e|hb:=bo.mp (I.stkSub b hb)
 .show e\I.free
 .let #[_,o,d,_]:=I.ok.funs.mem hb;show I.base.free b o d (I.ok.frf b hb) λz=>I.ok.exfs b z hb
def aJ.step{t':Nat}{d':Drawn}{ch:List ac}(I:aJ X aa σ H s)(t:∀b∈ch,(b∈X.ex\/X.s₀.heap.objs.size<=b)/\b≠X.e.locals/\(∀x c,X.e.cells.lookup x=Z c->c≠b)/\∀p∈X.pn++aa,p.1≠b)(j:∀b o,b≠X.e.locals->b ∉ X.fs->b ∉ ch->s.heap.get? b=Z o->H b=ae->h'.get? b=Z o)(D:∀b o,b≠X.e.locals->b∈X.fs->b ∉ ch->s.heap.get? b=Z o->H b=ae->∃sl,h'.get? b=Z { o with slots:=sl })(free:∀b o,b ∉ ch->s.heap.get? b=Z o->H b=ae->H' b=ae)(E:∀b o,b ∉ ch->s.heap.get? b=Z o->∃O,h'.get? b=Z O)(L:∀b C,H b=Z (.tup C)->H' b=Z (.tup C))(al:∀b o u,H b=Z (.frz o u)->H' b=Z (.frz o u))(M:∀b ps,H b=Z (.tbl ps)->∃T,H' b=Z (.tbl (ps++T)))(ns:∀m,s.heap.Ns X.e.locals m->h'.Ns X.e.locals m)(hok:Ax X.p X.w H' h')(hg:AllBare g') :
  aJ X aa σ H' { s with heap:=h',gens:=g',drawn:=d',toks:=t' }:=by
 let Q:∀b o,X.s₀.heap.get? b=Z o->b≠X.e.locals:=λb o e=>bO (cn (bG e) I.ok.above);let A:∀b o,X.s₀.heap.get? b=Z o->b ∉ X.ex->b ∉ ch:=λb o e f G=>by
  rcases(t b G).1 with z|z
  .show f z
  .show absurd (cn (bG e) z) (gy _)
 let y:∀x c,X.e.cells.lookup x=Z c->∀v,s.heap.IsCell c v->h'.IsCell c v:=λx c e v ⟨o,J,hd⟩=>by
  let g:c ∉ ch:=λz=>(t c z).2.2.1 x c e rfl;by_cases hc:c∈X.fs
  .let #[sl,q]:=D c o (I.cne x c e) hc g J (I.freeC x c e);show{_,q,hd}
  .show{o,j c o (I.cne x c e) hc g J (I.freeC x c e),hd}
 show{I.ok,I.os,hg,{λb o e n G f=>?_,λb o e n G f=>?_,λb o e n f=>?_,λb o e f=>?_,λb C e=>L b C (I.base.tups b C e),λb o C e=>al b o C (I.base.frzs b o C e),λb ps e=>?_},?_,λx c e=>?_,?_,λx c e=>?_,λp hp=>?_,hok,I.len}
 .show j b o (Q b o e) G (A b o e f) (I.base.keep b o e n G f) (I.base.free b o e n f)
 .let #[sl,B]:=I.base.slot b o e n G f;let #[an,e2]:=D b _ (Q b o e) G (A b o e f) B (I.base.free b o e n f);show{an,e2}
 .let #[O,B]:=I.base.there b o e f;show free b O (A b o e f) B (I.base.free b o e n f)
 .let #[O,B]:=I.base.there b o e f;show E b O (A b o e f) B
 .let #[m1,B]:=I.base.tbls b ps e;let #[m2,e2]:=M b _ B;show{m1++m2,[e2,Array.append_assoc]\_}
 .let #[m,hn,hl]:=I.loc;show{m,ns m hn,λi x v B e2 e3=>?_};let #[u,r,l]:=hl i x v B e2 e3;show{u,r,?_};obtain l|⟨k,c,e,z⟩:=l
  .show .inl l
  .show .inr {k,c,e,y x c e _ z}
 .let #[v,z]:=I.cell x c e;show{v,y x c e v z}
 .let #[m,#[o,_,_,J,_],_]:=I.loc;show free _ o (λz=>(t _ z).2.1 U) J I.free
 .let #[v,o,J,hd]:=I.cell x c e;show free c o (λz=>(t c z).2.2.1 x c e U) J (I.freeC x c e)
 .let #[e,n,ne,nf,d]:=I.pin p hp;let g:p.1 ∉ ch:=λz=>(t p.1 z).2.2.2 p hp rfl;show{j p.1 p.2 ne nf g e n,free p.1 p.2 g e n,ne,nf,d}
def aJ.un(I:aJ X aa σ H s)(u:Un X.fs [] H H' s.heap h')(hok:Ax X.p X.w H' h'):aJ X aa σ H' { s with heap:=h',toks:=t' }:=by
 let #[m,#[o,B,C,k,r],_]:=id I.loc;let #[y,t]:=u.any k I.free ?s;show I.step (g':=s.gens) (d':=s.drawn) (ch:=[]) () (λb o _ f _ e n=>u.keep b o e n f ?s) (λb o _ f _ e n=>u.slot b o e n f ?s) (λb o _ e n=>u.free b o e n ?s) (λb o _ e=>u.there b o e ?s) u.tups u.frzs u.tbls (λA q=>by let #[z,g,j,d,l]:=q;rw[k] at d;cases d;show{_,g,j,t,l}) hok I.bare
def aJ.call(I:aJ X aa σ H s)(u:Un (Af X.k) ch H H' s.heap h')(hok:Ax X.p X.w H' h')(A:AllBare g')(g:∀b∈ch,(b∈X.ex\/X.s₀.heap.objs.size<=b)/\b≠X.e.locals/\(∀x c,X.e.cells.lookup x=Z c->c≠b)/\∀p∈X.pn++aa,p.1≠b) :
  aJ X aa σ H' { s with heap:=h',gens:=g',drawn:=d',toks:=t' }:=by
 let #[m,#[o,G,J,q,r],_]:=id I.loc;let #[C,j]:=u.any q I.free λz=>(g _ z).2.1 rfl;show I.step (ch:=ch) g (λb o j B d e n=>u.keep b o e n (λz=>(bo.mp (I.stkSub b z)).elim j B) d) (λb o _ _ d e n=>u.any e n d) (λb o d e n=>u.free b o e n d) (λb o d e=>u.there b o e d) u.tups u.frzs u.tbls (λE y=>by let #[D,k,l,f,t]:=y;rw[q] at f;cases f;show{_,k,l,j,t}) hok A
def aJ.turned(I:aJ X aa σ H s)(k:∀b o,b≠it->s.heap.get? b=Z o->h'.get? b=Z o)(l:H it=ae)(g:it≠X.e.locals)(C:it∈X.ex\/X.s₀.heap.objs.size<=it)(B:∀x c,X.e.cells.lookup x=Z c->c≠it)(A:∀p∈X.pn++aa,p.1≠it):aJ X aa σ H { s with heap:=h',toks:=t' }:=by
 let f:∀b u,H b=Z u->b≠it:=λb u e z=>by rw[z,l] at e;cases e
 show I.step (g':=s.gens) (d':=s.drawn) (ch:=[it]) (λb y=>?_) (λb o _ _ d e _=>k b o (λz=>d (by simp[z])) e) (λb o _ _ d e _=>{o.slots,k b o (λz=>d (by simp[z])) e}) (λ_ _ _ _ n=>n)
  (λb o d e=>{o,k b o (λz=>d (by simp[z])) e}) (λ_ _ e=>e) (λ_ _ _ e=>e) (λb G e=>{#[],e\?s}) (λm t=>?_) (λb u e=>?_) I.bare
 .let e:b=it:=<-y
  subst e;show{C,g,B,A}
 .let #[o,D,E,j,r]:=t;show{o,D,E,k _ o (cY g) j,r}
 .show(I.hok b u e).stay (λc v d q=>k c v ?_ q) (λ_ q=>q) λ_ _ q=>q;obtain z|z:=d
  .show z\f b u e
  .show f c _ z
def aJ.tok(I:aJ X aa σ H s)(t:Nat):aJ X aa σ H { s with toks:=t }:=I.un (h':=s.heap) (t':=t) Un.refl I.hok
def aJ.kept(I:aJ X aa σ H s)(k:∀b u,s.heap.get? b=Z u->h'.get? b=Z u):aJ X aa σ H { s with heap:=h',toks:=t' }:=I.un (Un.kept k) (I.hok.kept k)
def aJ.laid(I:aJ X aa σ H s)(k:∀b u,s.heap.get? b=Z u->h'.get? b=Z u)(e:s.heap.objs.size<=a)(d:aQ X.p X.w (upd H a o) h' a o) :
  aJ X aa σ (upd H a o) { s with heap:=h',toks:=t' }:=I.un (Un.laid k e (I.hok.fresh e)) (I.hok.laid k e d)
def aJ.write(I:aJ X aa σ H s)(g:Mut (H x))(j:e=x\/H e=Z (.own x))(k:∀b u,b≠e->s.heap.get? b=Z u->h'.get? b=Z u)(d:∃u,h'.get? e=Z u)(f:aQ X.p X.w (upd H x o) h' x o):aJ X aa σ (upd H x o) { s with heap:=h',toks:=t' }:=I.un (Un.write g j k d) (I.hok.write g j k d f)
def aJ.pins_of(I:aJ X aa σ H s)(h:∀p∈pins',s.heap.get? p.1=Z p.2/\H p.1=ae/\p.1≠X.e.locals/\p.1 ∉ X.fs/\∀v,p.2.data≠.cell v):aJ X pins' σ H s:=
 {I.ok,I.os,I.bare,I.base,I.loc,I.cell,I.free,I.freeC,λp b=>(bw.mp b).elim (λz=>I.pin p (cO _ z)) (h p),I.hok,I.len}
def JK{N:zO}(c:N.Nodup){i j:Nat}{x:Str}(a:N[i]?=Z x)(b:N[j]?=Z x):i=j:=by let #[g,e]:=bi.mp a;let #[f,d]:=bi.mp b;show(iF c).mp (e.trans d.symm)
def Wz{M:Model}{E:Aa}{i:Nat}{x:Str}{Q:Unit->ag->Prop}(I:aJ X aa σ H s)(hN:X.N.Nodup)(O:X.N[i]?=Z x)(t:Loc X.e.scope x)(r:aP v u)(h:∀s',aJ X aa (σ.set i (Z v)) H s'->(∃a,cy a s.heap s'.heap/\(a=X.e.locals\/X.e.cells.lookup x=Z a))->Q PUnit.unit s')(hf:X.fn x=af\/X.e.scope.names.lookup x=Z .local:=by first|show .inl rfl|show .inr rfl|assumption):Ff M A (storeName X.e x u) Q E s:=by
 let #[m,hn,hl]:=id I.loc;let T:(X.e.scope.kind==.class || (X.e.scope.kind==.module&&X.e.locals != X.e.globals))=ah:=I.ok.kind\U
 let C:i<σ.length:=I.len\(bi.mp O).1
 let J:=I.cne;let g:∀ {a:ac}{h':ao},(∃o,s.heap.get? a=Z o/\H a=ae)->cy a s.heap h'->Ax X.p X.w H h':=λ{a h'} ha f b ob e=>by
  let #[_,_,w]:=ha;show(I.hok b ob e).stay (λc w' hc q=>(f.2 c ?_).trans q) (λ_ q=>q) λ_ _ q=>q;rintro rfl;obtain rfl|hc:=hc
  .rw[w] at e;cases e
  .rw[w] at hc;cases hc
 obtain hk|hk:=t
 .show wpAny_storeName_local hk hn (λh' ar f=>?_) T;let #[oL,_,_,an,_]:=id hn;show h _ {I.ok,I.os,I.bare,{λb o e n G t=>?_,λb o e n G t=>?_,I.base.free,λb o e t=>?_,I.base.tups,I.base.frzs,I.base.tbls},{_,ar,λj y v' l B e3=>?_},λy c e=>?_,I.free,I.freeC,λp hp=>?_,g {oL,an,I.free} f,<-I.len} {_,f,.inl U}
  .show(f.2 b (bO (cn (bG e) I.ok.above))).trans (I.base.keep b o e n G t)
  .let #[sl,l]:=I.base.slot b o e n G t;show{sl,(f.2 b (bO (cn (bG e) I.ok.above))).trans l}
  .let #[o',l]:=I.base.there b o e t;show{o',(f.2 b (bO (cn (bG e) I.ok.above))).trans l}
  .by_cases hj:j=i
   .subst hj;rw[O] at l;cases l;rw[gN C] at B;cases B;show{u,r,.inl {hk,?s}}
   .rw[lN (cY hj)] at B;let #[u',r',q]:=hl j y v' l B e3;show{u',r',?_};obtain ⟨k,e⟩|⟨k,c,e,z⟩:=q
    .show .inl {k,?_};let:y≠x:=λe=>hj (JK hN l (e ▸ O));simp[this,e]
    .show .inr {k,c,e,z.sameBut f (J y c e)}
  .let #[w',z]:=I.cell y c e;show{w',z.sameBut f (J y c e)}
  .let #[e,n,ne,nf,d]:=I.pin p hp;show{(f.2 p.1 ne).trans e,n,ne,nf,d}
 .let D:X.fn x=af:=by
   obtain z|z:=hf
   .show z
   .rw[z] at hk;cases hk
  let #[c,hc]:=I.ok.has x (.inl hk);let #[w',z]:=I.cell x c hc;show wpAny_storeName_cell I.ok.kind hk hc z (λh' al f=>?_);let #[oc,N,L]:=id z;show h { s with heap:=h' } {I.ok,I.os,I.bare,{λb o e n G t=>?_,λb o e n G t=>?_,I.base.free,λb o e t=>?_,I.base.tups,I.base.frzs,I.base.tbls},{m,hn.sameBut f (cY (J x c hc)),λj y v' l B e3=>?_},λy c' e=>?_,I.free,I.freeC,λp hp=>?_,g {oc,N,I.freeC x c hc} f,<-I.len} {c,f,.inr hc}
  .show(f.2 b (bO (cn (bG e) (I.ok.cab x c D hc)))).trans (I.base.keep b o e n G t)
  .let #[sl,l]:=I.base.slot b o e n G t;show{sl,(f.2 b (bO (cn (bG e) (I.ok.cab x c D hc)))).trans l}
  .let #[o',l]:=I.base.there b o e t;show{o',(f.2 b (bO (cn (bG e) (I.ok.cab x c D hc)))).trans l}
  .by_cases hj:j=i
   .subst hj;rw[O] at l;cases l;rw[gN C] at B;cases B;show{u,r,.inr {.inl hk,c,hc,al}}
   .rw[lN (cY hj)] at B;let #[u',r',q]:=hl j y v' l B e3;show{u',r',?_};obtain q|⟨k,c',e,z'⟩:=q
    .show .inl q
    .show .inr {k,c',e,z'.sameBut f ?_};rintro rfl;show hj (JK hN l (I.ok.inj _ _ _ e hc ▸ O))
  .by_cases hcc:c'=c
   .subst hcc;show{_,al}
   .let #[w2,z2]:=I.cell y c' e;show{w2,z2.sameBut f hcc}
  .let #[e,n,ne,nf,d]:=I.pin p hp;show{(f.2 p.1 ?_).trans e,n,ne,nf,d};intro q;rw[q,N] at e;let q':oc=p.2:=cf e;show d w' ([<-q']\L)
def ZE{M:Model}{E:Aa}{i:Nat}{x:Str}{Q:Unit->ag->Prop}(I:aJ X aa σ H s)(f:X.N.Nodup)(d:X.N[i]?=Z x)(c:Loc X.e.scope x)(r:aP v u)(h:∀b,aJ X aa (σ.set i (Z v)) H b->Q PUnit.unit b)(e:X.fn x=af\/X.e.scope.names.lookup x=Z .local:=by first|show .inl rfl|show .inr rfl|assumption):Ff M A (storeName X.e x u) Q E s:=
 Wz I f d c r (λb g _=>h b g) e
def aJ.call'(I:aJ X aa σ H s)(g:s'.os=s.os)(u:Un (Af X.k) ch H H' s.heap s'.heap)(hok:Ax X.p X.w H' s'.heap)(j:AllBare s'.gens)(d:∀b∈ch,(b∈X.ex\/X.s₀.heap.objs.size<=b)/\b≠X.e.locals/\(∀x c,X.e.cells.lookup x=Z c->c≠b)/\∀p∈X.pn++aa,p.1≠b):aJ X aa σ H' s':=by let #[h',g',d',t',f]:=s';let e:f=s.os:=g;subst e;show I.call (g':=g') (t':=t') (d':=d') u hok j d
end
abbrev XK:=ai->Option ac->Hp->Prop
abbrev St:=List (Option V)
abbrev VK:=V->Hp->Prop
abbrev TE:=St->Hp->VK->Prop
abbrev TT:=St->Hp->(Bool->Hp->Prop)->Prop
abbrev TA:=St->Hp->(LV->Hp->Prop)->Prop
abbrev Ah:=St->Hp->Prop
set_option genSizeOf false in
set_option genInjectivity false in
structure ZF where
 nx:Ah
 rt:VK
 bk:Ah:=λ_ _=>False
 ct:Ah:=λ_ _=>False
abbrev TS:=ZF->Ah
inductive EP(X:Cx)(aa:Ae)(σ:St)(Q:VK)(u:ai)(s':ag):Prop
 |mk (v H':_):aJ X aa σ H' s'->aP v u->Q v H'->EP X aa σ Q u s'
def  TP(X:Cx)(aa:Ae)(c:St)(Q:Bool->Hp->Prop)(b:Bool)(d:ag):Prop:=∃H',aJ X aa c H' d/\Q b H'
inductive AP(X:Cx)(aa:Ae)(σ:St)(Q:LV->Hp->Prop)(us:zQ)(s':ag):Prop
 |mk (vs H':_):aJ X aa σ H' s'->aO vs us->Q vs H'->AP X aa σ Q us s'
inductive IvP(X:Cx)(aa:Ae)(N:Ah)(s':ag):Prop
 |mk (σ' H':_):aJ X aa σ' H' s'->N σ' H'->IvP X aa N s'
inductive RtP(X:Cx)(aa:Ae)(R:VK)(u:ai)(s':ag):Prop
 |mk (v σ' H':_):aJ X aa σ' H' s'->aP v u->R v H'->RtP X aa R u s'
def  SP(X:Cx)(aa:Ae)(D:ZF)(f:Flow)(b:ag):Prop:=
 match f with
 |.next=>IvP X aa D.nx b
 |.brk=>IvP X aa D.bk b
 |.cont=>IvP X aa D.ct b
 |.ret u=>RtP X aa D.rt u b
def  PE(X:Cx)(e:au)(t:TE):Prop:=
 ∀(aa:Ae)(s:ag)(b:St)(H:Hp)(Q:VK),aJ X aa b H s->t b H Q->Ff (Fg X.p X.w) X.A (eval e X.e) (EP X aa b Q) X.xe s
def  PT(X:Cx)(e:au)(t:TT):Prop:=
 ∀(aa:Ae)(s:ag)(b:St)(H:Hp)(Q:Bool->Hp->Prop),aJ X aa b H s->t b H Q->Ff (Fg X.p X.w) X.A (isTrue e X.e (eval e X.e)) (TP X aa b Q) X.xe s
def  PW(X:Cx)(e:au)(t:TT):Prop:=
 ∀(b:Sem ai)(aa:Ae)(s:ag)(c:St)(H:Hp)(Q:Bool->Hp->Prop),aJ X aa c H s->t c H Q->Ff (Fg X.p X.w) X.A (isTrue e X.e b) (TP X aa c Q) X.xe s
def PW.pt(h:PW X e t):PT X e t:=h _
def  PA(X:Cx)(d:List au)(t:TA):Prop:=
 ∀(c:Pos)(aa:Ae)(s:ag)(b:St)(H:Hp)(Q:LV->Hp->Prop),aJ X aa b H s->t b H Q->Ff (Fg X.p X.w) X.A (spliced (backTo c (Fe d X.e))) (AP X aa b Q) X.xe s
def  PS(X:Cx)(st:aq)(t:TS):Prop:=
 ∀(aa:Ae)(s:ag)(b:St)(H:Hp)(D:ZF),aJ X aa b H s->t D b H->Ff (Fg X.p X.w) X.A (exec st X.e) (SP X aa D) X.xe s
def  PSs(X:Cx)(st:List aq)(t:TS):Prop:=
 ∀(aa:Ae)(s:ag)(b:St)(H:Hp)(D:ZF),aJ X aa b H s->t D b H->Ff (Fg X.p X.w) X.A (execs st X.e) (SP X aa D) X.xe s
def aT{b:Type}{t:Sem b}{Q c:b->ag->Prop}{M:Model}{E:Aa}(h:Ff M A t Q E s)(d:∀a s,Q a s->c a s):Ff M A t c E s:=dM h d λ_ _ x=>x
variable {b:au}{ta tb:TE}{pos:Pos}
section
inductive zd(i:Nat)(σ:St)(H:Hp)(Q:VK):Prop
 |mk (v:_):σ[i]?=Z (Z v)->Q v H->zd i σ H Q
def  tC(v:V):TE:=λ_ H Q=>Q v H
def znh{x:Str}{pos:Pos}(p:X.N[i]?=Z x)(k:Vis X.e.scope x)(f:B1 x:=by lia)(g:(x==("__classdict__":Str))=ah:=by lia):PE X (.Name x pos) (zd i):=by
 intro aa s j H Q I h;let #[v,e,h]:=h;let #[m,n,o]:=I.loc;let #[u,r,l]:=o i x v p e k;let d:EP X aa j Q u s:={v,H,I,r,h};obtain ⟨hk,hm⟩|⟨hk,c,hc,hcell⟩:=l
 .show uC (og I.ok.kind hk n hm d) f
 .obtain hk|hk:=hk
  .show uC (wpAny_loadName_cell I.ok.kind hk hc hcell d) f
  .show uC (wpAny_loadName_free I.ok.kind hk hc hcell d g) f
def zi{i j pos}:PE X (.Constant (.int i) j pos) (tC (.int i)):=λ_ _ _ H _ I h=>wpAny_Constant_int {.int i,H,I.tok _,{_,U},h}
def ZG{b j pos}:PE X (.Constant (.bool b) j pos) (tC (.bl b)):=λ_ _ _ H _ I h=>Constant_bool {.bl b,H,I,U,h}
def wq{j pos}:PE X (.Constant .none j pos) (tC .non):=λ_ _ _ H _ I h=>Constant_none {.non,H,I,U,h}
def zH{x j pos}:PE X (.Constant (.str x) j pos) (tC (.str x)):=λ_ _ _ H _ I h=>iO {.str x,H,I.tok _,{_,U},h}
def  Gl(X:Cx)(x:Str):Prop:=X.e.kindOf x=Z .globalImplicit
def wV{E:Aa}{aa:Ae}{s:ag}{c:St}{H:Hp}{x:Str}{u:ai}{pos:Pos}{Q:Aa}(I:aJ X aa c H s)(e:Gl X x)(d:X.mg x=Z u)(h:Q u s)(f:B1 x:=by lia):Ff (Fg X.p X.w) X.A (eval (.Name x pos) X.e) Q E s:=
 oR I.ok.kind e (Calls.loadGlobal_global (I.ok.glob\I.mod.glob.keeps I.bk) d h) f
def ZH{E:Aa}{aa:Ae}{s:ag}{c:St}{H:Hp}{x:Str}{u:ai}{pos:Pos}{Q:Aa}(I:aJ X aa c H s)(g:Gl X x)(f:X.mg x=ae)(d:Fh x=Z u)(h:Q u s)(e:x≠"__name__":=by lia)(i:B1 x:=by lia):Ff (Fg X.p X.w) X.A (eval (.Name x pos) X.e) Q E s:=by let #[l,k,j]:=I.mod.blt;show oR I.ok.kind g (Calls.loadGlobal_builtin (I.ok.glob\I.mod.glob.keeps I.bk) f (I.ok.blt\k.keeps I.bk) ((j x e).trans d) h) i
def yX{x:Str}{pos:Pos}(d:Gl X x)(c:X.mg x=Z u)(r:aP v u)(e:B1 x:=by lia):PE X (.Name x pos) (tC v):=
 λ_ _ _ H _ I h=>wV I d c {v,H,I,r,h} e
def Js{x:Str}{pos:Pos}(f:Gl X x)(e:X.mg x=ae)(c:Fh x=Z u)(r:aP v u)(d:x≠"__name__":=by lia)(g:B1 x:=by lia):PE X (.Name x pos) (tC v):=
 λ_ _ _ H _ I h=>ZH I f e c {v,H,I,r,h} d g
variable {a:au}
inductive tBk(Q:Bool->Hp->Prop)(x:V)(H:Hp):Prop
 |mk (c:_):x=.bl c->Q c H->tBk Q x H
def  tB(t:TE):TT:=λc H Q=>t c H (tBk Q)
def xP{e:au}{t:TE}(h:PE X e t)(k:∀c,isTrue e X.e c=(do let v <-c;standAt e.pos;holding [v] (truthy v)):=by intro _;rfl):PT X e (tB t):=by intro aa s f H Q I j;show isTrue_plain (aT (h aa s f H _ I j) ?_) (k _);rintro v n ⟨x,m,l,g,i⟩;let #[d,rfl,q]:=i;cases g;show fP {m,l,q}
variable {tA tB':TT}{rest:List au}
def  zcT(t u:TT):TT:=λd H Q=>t d H λc e=>if c=af then u d e Q else Q ah e
def  tOr(t u:TT):TT:=λd H Q=>t d H λc e=>if c=af then Q af e else u d e Q
def  zeL(t:TT):TT:=λd H Q=>t d H λc e=>Q (!c) e
def qF(f:PT X a tA):PW X (.BoolOp .And [a] pos) tA:=by
 intro g aa s d H Q I h;show isTrue_and (aT (f aa s d H Q I h) λc i e=>?_);cases c with
 |true=>show isTrue_and_nil e
 |false=>show e
def jg(f:PT X a tA):PW X (.BoolOp .Or [a] pos) tA:=by
 intro g aa s d H Q I h;show isTrue_or (aT (f aa s d H Q I h) λc i e=>?_);cases c with
 |false=>show isTrue_or_nil e
 |true=>show e
def ZI(l:PT X a tA)(k:PW X (.BoolOp .And (b::rest) pos) tB'):PW X (.BoolOp .And (a::b::rest) pos) (zcT tA tB'):=by
 intro i aa s d H Q I h;show isTrue_and (aT (l aa s d H _ I h) ?_);rintro c j ⟨g,f,e⟩;cases c with
 |true=>show k i aa j d g Q f e
 |false=>show{g,f,e}
def Zk(l:PT X a tA)(k:PW X (.BoolOp .Or (b::rest) pos) tB'):PW X (.BoolOp .Or (a::b::rest) pos) (tOr tA tB'):=by
 intro i aa s d H Q I h;show isTrue_or (aT (l aa s d H _ I h) ?_);rintro c j ⟨g,f,e⟩;cases c with
 |true=>show{g,f,e}
 |false=>show k i aa j d g Q f e
def Y4(e:PT X a tA):PT X (.UnaryOp .Not a pos) (zeL tA):=by intro aa s d H Q I h;show isTrue_not (e aa s d H (λc f=>Q (!c) f) I h)
def  JL(ta tb:TE):TE:=λd H Q=>ta d H (tBk λc e=>if c=af then tb d e Q else Q (.bl ah) e)
def  zni(ta tb:TE):TE:=λd H Q=>ta d H λx e=>∃c,x=.bl c/\if c=af then Q (.bl af) e else tb d e Q
def  zmP(ta:TE):TE:=λd H Q=>ta d H λx e=>∃c,x=.bl c/\Q (.bl (!c)) e
def WA{op}{t:TE}(h:PE X a t):PE X (.BoolOp op [a] pos) t:=λaa s c H Q I d=>BoolOp_one (h aa s c H Q I d)
def JM(l:PE X a ta)(k:PE X (.BoolOp .And (b::rest) pos) tb):PE X (.BoolOp .And (a::b::rest) pos) (JL ta tb):=by
 intro aa s e H Q I h;show BoolOp_and (aT (l aa s e H _ I h) ?_);rintro v i ⟨x,g,f,j,d⟩;let #[c,rfl,d]:=d;cases j;show fP ?_;cases c with
 |true=>show k aa i e g Q f d
 |false=>show{.bl ah,g,f,U,d}
def zoi(l:PE X a ta)(k:PE X (.BoolOp .Or (b::rest) pos) tb):PE X (.BoolOp .Or (a::b::rest) pos) (zni ta tb):=by
 intro aa s e H Q I h;show BoolOp_or (aT (l aa s e H _ I h) ?_);rintro v i ⟨x,g,f,j,d⟩;let #[c,rfl,d]:=d;cases j;show fP ?_;cases c with
 |false=>show k aa i e g Q f d
 |true=>show{.bl af,g,f,U,d}
def znj(g:PE X a ta):PE X (.UnaryOp .Not a pos) (zmP ta):=by intro aa s e H Q I h;show UnaryOp_ (aT (g aa s e H _ I h) ?_);rintro v k ⟨x,j,i,f,d⟩;let #[c,rfl,d]:=d;cases f;show not_of (fP {.bl (!c),j,i,U,d})
def  tIf(t:TT)(ta tb:TE):TE:=λd H Q=>t d H λc e=>if c=af then ta d e Q else tb d e Q
def vU(k:PT X c tA)(m:PE X a ta)(l:PE X b tb):PE X (.IfExp c a b pos) (tIf tA ta tb):=by
 intro aa s e H Q I h;show wpAny_IfExp (aT (k aa s e H _ I h) ?_);rintro d f ⟨j,i,g⟩;cases d with
 |true=>show m aa f e j Q i g
 |false=>show l aa f e j Q i g
end
def  aN(K:bz)(H:Hp)(a:ac)(d:LV):Prop:=
 Rd H a (.lst d) \/
  ∃(o:Obj)(c:Array ai)(n:Nat),K.lookup a=Z o/\o.cls=.type "list"/\o.dict=ae/\o.data=.seq c n/\c.size<=Fb/\aO d c.toList
def  aV(K:bz)(H:Hp)(a:ac)(d:LV):Prop:=
 Rd H a (.tup d) \/
  ∃(o:Obj)(c:Array ai)(n:Nat),K.lookup a=Z o/\o.cls=.type "tuple"/\o.data=.seq c n/\c.size<=Fb/\aO d c.toList
def  zo6:ai->Option V
 |.none=>Z .non
 |.bool b=>Z (.bl b)
 |.int i _=>Z (.int i)
 |.str x _=>Z (.str x)
 |.bytes b _=>Z (.byt b)
 |.float b _=>Z (.flt b)
 |.ref a=>Z (.ref a)
 |.type n=>Z (.ty n)
 |_=>ae
def aP.abs{x:V}(r:aP x u):zo6 u=Z x:=by
 cases x with
 |non=>cases r;rfl
 |bl _=>cases r;rfl
 |int _=>let #[t,rfl]:=r;rfl
 |str _=>let #[t,rfl]:=r;rfl
 |byt _=>let #[t,rfl]:=r;rfl
 |flt _=>let #[t,rfl]:=r;rfl
 |ref _=>cases r;rfl
 |ty _=>cases r;rfl
def aP.inj{x y:V}(r:aP x u)(q:aP y u):x=y:=cf (r.abs.symm.trans q.abs)
def aO.inj:∀ {d c:LV}{e:zQ},aO d e->aO c e->d=c
 |_,_,_,.nil,.nil=>rfl
 |_,_,_,.cons r t,.cons r' t'=>[r.inj r',aO.inj t t']\_
variable {σ:St}
section
variable {xs ys:LV}
def aN.of{K:bz}(h:H a=Z (.lst xs)):aN K H a xs:=.inl (.inl h)
def aV.of{K:bz}(h:H a=Z (.tup xs)):aV K H a xs:=.inl (.inl h)
def aJ.list(I:aJ X aa σ H s)(h:aN X.K H a xs):∃d:zQ,aO xs d/\PlainL s.heap a d.toArray/\xs.length<=Fb:=by
 obtain h|⟨o,d,n,hk,hc,hd,hs,hz,r⟩:=h
 .let #[z,d,n,r,e]:=h.ok I.hok;show{d,r,{_,n,e,U,U,U},z}
 .show{d.toList,r,{o,n,I.kIn a o hk,hc,hd,<-hs},?_};let e:=r.length;simp only[bE] at e;lia
def aJ.tuple(I:aJ X aa σ H s)(h:aV X.K H a xs):∃d:zQ,aO xs d/\IsTup s.heap a d.toArray/\xs.length<=Fb:=by
 obtain h|⟨o,d,n,hk,hc,hs,hz,r⟩:=h
 .let #[z,d,r,p]:=h.ok I.hok;show{d,r,p,z}
 .show{d.toList,r,{o,I.kIn a o hk,hc,n,<-hs},?_};let e:=r.length;simp only[bE] at e;lia
def aJ.list_inj(I:aJ X aa σ H s)(h:aN X.K H a xs)(h':aN X.K H a ys):xs=ys:=by
 let #[f,r,#[o,n,e,_,_,d],_]:=I.list h;let #[its',k,#[l,q,g,_,_,j],_]:=I.list h';rw[e] at g;cases g;rw[d] at j;injection j with d1 _;let:f=its':=<-congrArg Array.toList d1
 subst this;show r.inj k
def aJ.tuple_inj(I:aJ X aa σ H s)(h:aV X.K H a xs)(h':aV X.K H a ys):xs=ys:=by
 let #[f,r,#[o,e,_,n,d],_]:=I.tuple h;let #[its',k,#[l,g,_,q,j],_]:=I.tuple h';rw[e] at g;cases g;rw[d] at j;injection j with d1 _;let:f=its':=<-congrArg Array.toList d1
 subst this;show r.inj k
end
abbrev Cx.wish(X:Cx)(E:Aa):Cx:={ X with xe:=E }
abbrev Cx.nox(X:Cx):Cx:=X.wish λ_ _=>False
def Cx.Ok.wish(d:X.Ok)(E:Aa):(X.wish E).Ok:=
 {d.mod,d.kind,d.glob,d.blt,d.above,d.inj,d.has,d.cab,d.hd,d.frames,d.stk,d.exf,d.bs,d.bsz,d.noex,d.exfs,d.funs,d.frf}
def Cx.Ok.unwish(d:(X.wish E).Ok):X.Ok:=
 {d.mod,d.kind,d.glob,d.blt,d.above,d.inj,d.has,d.cab,d.hd,d.frames,d.stk,d.exf,d.bs,d.bsz,d.noex,d.exfs,d.funs,d.frf}
variable {E:Aa}
def aJ.wish(I:aJ X aa σ H s)(E:Aa):aJ (X.wish E) aa σ H s:={I.ok.wish E,I.os,I.bare,I.base,I.loc,I.cell,I.free,I.freeC,I.pin,I.hok,I.len}
def aJ.unwish(I:aJ (X.wish E) aa σ H s):aJ X aa σ H s:={I.ok.unwish,I.os,I.bare,I.base,I.loc,I.cell,I.free,I.freeC,I.pin,I.hok,I.len}
def SP.unwish(h:SP (X.wish E) aa D f s'):SP X aa D f s':=by
 cases f with
 |next=>let #[c,H',I,q]:=h;show{c,H',I.unwish,q}
 |brk=>let #[c,H',I,q]:=h;show{c,H',I.unwish,q}
 |cont=>let #[c,H',I,q]:=h;show{c,H',I.unwish,q}
 |ret u=>let #[v,c,H',I,r,q]:=h;show{v,c,H',I.unwish,r,q}
def PSs.nox{c:List aq}{t:TS}(h:PSs X.nox c t):PSs X c t:=λaa s σ H D I d=>
 dM (h aa s σ H D (I.wish _) d) (λ_ _ q=>q.unwish) λ_ _ z=>dD z
variable {e:au}{te:TE}
section
variable {st:aq}{rest:List aq}{t u:TS}
def  ym:TS:=λD σ H=>D.nx σ H
def  zA(t u:TS):TS:=λD σ H=>t { D with nx:=u D } σ H
def zF:PSs X [] ym:=λ_ _ σ H _ I h=>gH {σ,H,I,h}
def zb(i:PS X st t)(g:PSs X rest u):PSs X (st::rest) (zA t u):=by
 intro aa s σ H D I h;show iG (aT (i aa s σ H { D with nx:=u D } I h) λf d q=>?_);cases f with
 |next=>
  let #[c,H',j,q]:=q;show g aa d c H' D j q
 |ret v=>show q
 |brk=>show q
 |cont=>show q
def ze(c:PS X st t):PSs X [st] t:=by
 intro aa s σ H D I h;show iG (aT (c aa s σ H D I h) λf d q=>?_);cases f with
 |next=>show gH q
 |ret v=>show q
 |brk=>show q
 |cont=>show q
def aJ.quiet{H:Hp}(I:aJ X aa σ H s):interactive X.e=ah:=by simp[interactive,I.ok.kind]
def  yJ(te:TE):TS:=λD σ H=>te σ H λ_ c=>D.nx σ c
def zL(f:PE X e te)(d:swapsWith e ae pos.line X.e=pure ah:=by rfl):PS X (.Expr e pos) (yJ te):=by intro aa s σ H D I h;show wpAny_Expr_any (aT (f aa s σ H _ I h) λv j ⟨x,i,g,k,c⟩=>{σ,i,g,c}) I.quiet d
def  yt(te:TE):TS:=λD σ H=>te σ H D.rt
def zx(f:PE X e te):PS X (.Return (Z e) pos) (yt te):=by intro aa s σ H D I h;show wpAny_Return_some (aT (f aa s σ H _ I h) λv j ⟨x,i,g,c,d⟩=>{x,σ,i,g,c,d})
def  zmQ:TS:=λD _ H=>D.rt .non H
def zlh:PS X (.Return ae pos) zmQ:=λ_ _ σ H _ I h=>wpAny_Return_none {.non,σ,H,I,U,h}
def  yF(c:TT)(t u:TS):TS:=λD σ H=>c σ H λb d=>if b=af then t D σ d else u D σ d
def zP{a b:List aq}(k:PT X c tc)(m:PSs X a t)(l:PSs X b u):PS X (.If c a b pos) (yF tc t u):=by
 intro aa s σ H D I h;show wpAny_If (aT (k aa s σ H _ I h) ?_);rintro d f ⟨j,i,g⟩;cases d with
 |true=>show m aa f σ j D i g
 |false=>show l aa f σ j D i g
def  wu:TS:=λ_ _ _=>False
def yG:PS X st wu:=λ_ _ _ _ _ _ h=>h.elim
end
abbrev TG:=V->St->Hp->Ah->Prop
abbrev TGs:=LV->St->Hp->Ah->Prop
def  PG(X:Cx)(c:au)(t:TG):Prop:=
 ∀(aa:Ae)(s:ag)(σ:St)(H:Hp)(v:V)(u:ai)(Q:Ah),aJ X aa σ H s->aP v u->t v σ H Q ->
  Ff (Fg X.p X.w) X.A (assign c X.e u) (λ_ d=>IvP X aa Q d) X.xe s
def  PGs(X:Cx)(f:List au)(t:TGs):Prop:=
 ∀(aa:Ae)(s:ag)(σ:St)(H:Hp)(c:LV)(d:zQ)(Q:Ah),aJ X aa σ H s->aO c d->t c σ H Q ->
  Ff (Fg X.p X.w) X.A (assignInOrder ((assignEach f X.e).map (·.2)) d) (λ_ g=>IvP X aa Q g) X.xe s
abbrev TIp:=V->V->Hp->VK->Prop
def  PIp(X:Cx)(c:Operator)(t:TIp):Prop:=
 ∀(aa:Ae)(s:ag)(σ:St)(H:Hp)(x y:V)(v u:ai)(Q:VK),aJ X aa σ H s->aP x v->aP y u->t x y H Q ->
  Ff (Fg X.p X.w) X.A (inplaceOp c v u) (EP X aa σ Q) X.xe s
def  zD(i:Nat):TG:=λv σ H Q=>Q (σ.set i (Z v)) H
def xh{x:Str}(g:X.N.Nodup)(d:X.N[i]?=Z x)(c:Loc X.e.scope x)(f:X.fn x=af\/X.e.scope.names.lookup x=Z .local:=by first|show .inl rfl|show .inr rfl|assumption):PG X (.Name x pos) (zD i):=by intro aa s σ H v u Q I r h;show pL (ZE I g d c r (λk j=>{_,H,j,h}) f)
def  zeM:TGs:=λc σ H Q=>c=[]/\Q σ H
inductive ziA(R:V->LV->Prop)(vs:LV):Prop
 |mk (v r:_):vs=v::r->R v r->ziA R vs
def  kW(t:TG)(u:TGs):TGs:=λd σ H Q=>ziA (λv r=>t v σ H λc H'=>u r c H' Q) d
def j9:PGs X [] zeM:=by intro aa s σ H c d Q I r h;let #[e,h]:=h;subst e;cases r;show assignInOrder_nil {σ,H,I,h}
def xa{e:au}{c:List au}{t:TG}{u:TGs}(k:PG X e t)(j:PGs X c u)(i:(assignEach (e::c) X.e).map (·.2)=assign e X.e::(assignEach c X.e).map (·.2):=by rfl):PGs X (e::c) (kW t u):=by
 intro aa s σ H o q Q I r h;let #[v,p,l,h]:=h;subst l;cases r with
 |cons r rr=>
  rw[i];show assignInOrder_cons (aT (k aa s σ H _ _ _ I r h) ?_);rintro _ f ⟨d,n,m,g⟩;show j aa f d n _ _ Q m rr g
def  zeN(K:bz)(n:Nat)(t:TGs):TG:=λv σ H Q=>∃a c,v=.ref a/\aV K H a c/\c.length=n/\t c σ H Q
def ZJ{c:List au}{k:Nat}{t:TGs}{n:Nat}(y:X.c=af)(h:PGs X c t)(q:(assignEach c X.e).length=n:=by rfl)(f:(assignEach c X.e).findIdx? (·.1)=ae:=by rfl):PG X (.Tuple c k pos) (zeN X.K n t):=by intro aa s σ H v u Q I r d;let #[a,i,z,p,w,d]:=d;subst z;cases r;let #[j,g,m,B]:=I.tuple p;show assign_Tuple_tuple (I.ok.hd y) m (by simp[q,<-w,g.length]) f λh' l=>?_;let A:aJ X aa σ H { s with heap:=h' }:=I.kept (t':=s.toks) λb o e=>l b o (bO (bG e)) e;show h aa _ σ H i _ Q A (<-g) d
def  yc(te:TE)(g:TG):TS:=λD σ H=>te σ H λx c=>g x σ c D.nx
def zeO{i:Nat}{x:Str}{te:TE}{c:Pos}(n:X.N.Nodup)(k:X.N[i]?=Z x)(g:Loc X.e.scope x)(m:PE X e te)(j:swapsWith e (Z (.Name x c)) pos.line X.e=pure ah:=by rfl)(l:X.fn x=af\/X.e.scope.names.lookup x=Z .local:=by first|show .inl rfl|show .inr rfl|assumption) :
  PS X (.Assign [.Name x c] e pos) (yc te (zD i)):=by intro aa s σ H D I h;show wpAny_Assign_Name (aT (m aa s σ H _ I h) ?_) j;rintro v t ⟨y,q,p,d,f⟩;show ZE p n k g d (λr o=>{_,q,o,f}) l
def  znk(i:Nat)(te:TE)(c:TIp):TS:=λD σ H=>∃x,σ[i]?=Z (Z x)/\te σ H λy f=>c x y f λz d=>D.nx (σ.set i (Z z)) d
def ziB{i:Nat}{x:Str}{te:TE}{n:Operator}{p:TIp}{g:Pos}(T:X.N.Nodup)(q:X.N[i]?=Z x)(o:Loc X.e.scope x)(Q:PE X e te)(L:PIp X n p)(O:X.fn x=af\/X.e.scope.names.lookup x=Z .local:=by first|show .inl rfl|show .inr rfl|assumption) :
  PS X (.AugAssign (.Name x g) n e pos) (znk i te p):=by
 intro aa s σ H D I h;let #[v,e1,h]:=h;let #[m,M,N]:=I.loc;let j:Vis X.e.scope x:=by obtain k|k:=o;show .inl k;show .inr (.inl k)
 let #[u,r,l]:=N i x v q e1 j;show wpAny_AugAssign_Name ?_;let t:Ff (Fg X.p X.w) X.A (eval e X.e) (λw f=>Ff (Fg X.p X.w) X.A (inplaceOp n u w) (λr d=>Ff (Fg X.p X.w) X.A (storeName X.e x r) (λ_=>SP X aa D .next) X.xe d) X.xe f) X.xe s:=by show aT (Q aa s σ H _ I h) ?_;rintro w A ⟨y,H1,I1,C,J⟩;show aT (L aa A σ H1 v y u w _ I1 r C J) ?_;rintro z s2 ⟨zv,H2,I2,B,G⟩;show ZE I2 T q o B (λs3 I3=>{_,H2,I3,G}) O
 obtain ⟨hk,hm⟩|⟨hk,c,hc,hcell⟩:=l
 .show og I.ok.kind hk M hm t
 .obtain hk|hk:=hk
  .show wpAny_loadName_cell I.ok.kind hk hc hcell t
  .obtain k|k:=o
   .let:X.e.scope.names.lookup x=Z .free:=hk;rw[k] at this;cases this
   .let:X.e.scope.names.lookup x=Z .free:=hk;rw[k] at this;cases this
def  ipI(f:Int->Int->Int):TIp:=λx y H Q=>∃i j,x=.int i/\y=.int j/\Q (.int (f i j)) H
def ziC:PIp X .Add (ipI λi j=>i+j):=by intro aa s σ H x y v u Q I d c h;let #[i,j,g,f,q]:=h;subst g;subst f;let #[t,rfl]:=d;let #[k,rfl]:=c;show iadd_int {.int _,H,I.tok _,{_,U},q}
def  ziD(c:TT)(tb:TS):TS:=λD σ H=>∃W:Nat->Ah,(∃m,W m σ H)/\∀m σ H,W m σ H ->
 c σ H λb g=>if b=af then ∃N:Ah,(∀d H',N d H'->∃f,f<m/\W f d H')/\tb { D with nx:=N,ct:=N,bk:=D.nx } σ g else D.nx σ g
def JN{tb:TS}(u:PassesOwn (Fg X.p X.w) X.A X.e X.xe)(O:PT X c tc)(Q:PSs X body tb):PS X (.While c body [] pos) (ziD tc tb):=by
 intro aa s σ H D I h;let #[W,#[M,C],j]:=h;show wpAny_While (codeAny_whileLoop (λn L=>∃i H',aJ X aa i H' L/\W n i H') ?_ M {σ,H,I,C});rintro n J ⟨g,A,T,B⟩;show ik u (aT (O aa J g A _ T (j n g A B)) ?_);rintro b G ⟨z,y,m⟩;cases b with
 |true=>
  let #[N,w,m]:=m;rw[ak rfl];show ik u (aT (Q aa G g z _ y m) λf s3 l=>?_);cases f with
  |next=>
   let #[d,k,t,p]:=l;let #[q,r,o]:=w d k p;show{q,r,d,k,t,o}
  |cont=>
   let #[d,k,t,p]:=l;let #[q,r,o]:=w d k p;show{q,r,d,k,t,o}
  |brk=>show l
  |ret v=>show l
 |false=>
  show aj bL\gH {g,z,y,m}
set_option genSizeOf false in
set_option genInjectivity false in
structure It where
 go:Nat->Hp->Prop
 yld:Nat->Hp->V->Hp->Prop
 stop:Nat->Hp->Prop
def  jJ(X:Cx)(aa:Ae)(H:Hp)(b:ac):Prop:=
 H b=ae/\b≠X.e.locals/\b ∉ X.fs/\(b∈X.ex\/X.s₀.heap.objs.size<=b)/\(∀x c,X.e.cells.lookup x=Z c->c≠b)/\∀p∈X.pn++aa,p.1≠b
def aJ.fpOk{aa:Ae}{σ:St}{H H':Hp}{s:ag}{b:ac}(I:aJ X aa σ H s)(d:s.heap.objs.size<=b)(g:H' b=ae):jJ X aa H' b:=by
 show{g,dU (cn I.lt d),I.nofs d,.inr (bR I.sz d),λx c e z=>?_,λp f z=>?_}
 .let #[v,q]:=I.cell x c e;show absurd (cn q.lt (z\d)) (gy _)
 .show absurd (cn (bG (I.pin p f).1) (z\d)) (gy _)
structure JO(P:am)(w:ap)(K:bz)(tg:au)(J:It)(fp:List ac)(it:ac)(tn:Nat->ao->Prop):Prop where
 mem:it∈fp
 obj:∀i h,tn i h->∀b∈fp,∃o,h.get? b=Z o/\∀v,o.data≠.cell v
 keep:∀i h h',tn i h->(∀b∈fp,∀o,h.get? b=Z o->h'.get? b=Z o)->tn i h'
 item:∀(X:Cx),X.p=P->X.w=w->X.K=K->X.c=af->∀(i:Nat)(aa:Ae)(s:ag)(σ:St)(H:Hp)(E:Aa),aJ X aa σ H s->(∀b∈fp,jJ X aa H b)->tn i s.heap->J.go i H ->
  Ff (Fg P w) X.A (pyNext (.ref it)) (λr s1=>∃u,r=Z u /\
   Ff (Fg P w) X.A (letOwnedTupleGo tg (.ref it) u) (λ_ s2=>∃x H',aJ X aa σ H' s2/\aP x u/\J.yld i H x H'/\tn (i+1) s2.heap/\∀b∈fp,H' b=ae) E s1) E s
 done:∀(X:Cx),X.p=P->X.w=w->X.K=K->X.c=af->∀(i:Nat)(aa:Ae)(s:ag)(σ:St)(H:Hp)(E:Aa),aJ X aa σ H s->(∀b∈fp,jJ X aa H b)->tn i s.heap->J.stop i H ->
  Ff (Fg P w) X.A (pyNext (.ref it)) (λr s1=>r=ae/\aJ X aa σ H s1) E s
 self:∀(A:av)(i:Nat)(s:ag)(Q:Aa)(E:Aa),tn i s.heap->Q (.ref it) s->Ff (Fg P w) A (pyIter (.ref it)) Q E s
abbrev TI:=St->Hp->(It->Hp->Prop)->Prop
inductive PIE(X:Cx)(aa:Ae)(σ:St)(tg:au)(R:It->Hp->Prop)(itv:ai)(s2:ag):Prop
 |mk (it:ac) (fp:List ac) (tn:Nat->ao->Prop) (J:It) (H':Hp) (f1:itv=.ref it) (f2:aJ X aa σ H' s2) (f3:JO X.p X.w X.K tg J fp it tn) (f4:tn 0 s2.heap) (f5:(∀b∈fp,jJ X aa H' b)) (f6:R J H')
def  PI(X:Cx)(f c:au)(d:TI):Prop:=
 ∀(aa:Ae)(s:ag)(σ:St)(H:Hp)(R:It->Hp->Prop),aJ X aa σ H s->d σ H R ->
  Ff (Fg X.p X.w) X.A (eval c X.e) (λv g=>Ff (Fg X.p X.w) X.A (pyIter v) (PIE X aa σ f R) X.xe g) X.xe s
def Vn{Q:Unit->ag->Prop}(d:s.heap.get? it=Z o)(i:o.cls=.type n)(g:o.data=.fields vs)(f:["enumerate","zip","dict_itemiterator","dict_reverseitemiterator","odict_iterator","itertools.zip_longest","itertools.pairwise"].contains n=ah)(c:Q PUnit.unit s):Ff M A (letOwnedTupleGo tg (.ref it) u) Q E s:=by
 unfold letOwnedTupleGo;cases tg <;> first
  |show bg c
  | (cases u <;> first
      |show bg c
      | (show ba (pM d ?_)
         rw[i,g];change Ff M A (if (["enumerate","zip","dict_itemiterator","dict_reverseitemiterator","odict_iterator","itertools.zip_longest","itertools.pairwise"].contains n&&vs[0]?==Z (rawInt _))=af then _ else _) Q E s;show aj (by intro h;rw[f,Bool.false_and] at h;cases h)\bg c))
def  Itl(K:bz)(a:ac):It:=
 {λi H=>∃c x,aN K H a c/\c[i]?=Z x,λi H x H'=>H'=H/\∀c,aN K H a c->c[i]?=Z x,λi H=>∃c,aN K H a c/\c.length<=i}
def  Itt(K:bz)(a:ac):It:=
 {λi H=>∃c x,aV K H a c/\c[i]?=Z x,λi H x H'=>H'=H/\∀c,aV K H a c->c[i]?=Z x,λi H=>∃c,aV K H a c/\c.length<=i}
def  Itr(lo:Int)(n:Nat):It:={λi _=>i<n,λi H x H'=>H'=H/\x=.int (lo+i),λi _=>n<=i}
def zhc{P:am}{w:ap}{K:bz}{O:au}(a it:ac):JO P w K O (Itl K a) [it] it (λi h=>h.IsListIter it a i) where
 mem:=?s
 obj:=λi h f b g=>by
  let e:b=it:=<-g
  subst e;let #[o,e,c,d]:=f;show{o,e,λv z=>by rw[d] at z;cases z}
 keep:=λi h h' f k=>f.at λo e=>k it ?s o e
 item:=by intro X A t B M i aa s σ H E I m f y;subst A t B;let #[N,x,l,r]:=y;let #[q,n,p,hz]:=I.list l;let #[u,hu,T]:=n.get r;let #[L,J,f2,G,D,C]:=m it ?s;show rV f p.isList (x:=u) (<-hu) λh' j Q=>?_;let I1:aJ X aa σ H { s with heap:=h' }:=I.turned (t':=s.toks) (λb o g e=>(Q.2 b g).trans e) L J G D C;let #[o,e,c,d]:=id j;show{u,U,Vn (s:={ s with heap:=h' }) e c d () {x,H,I1,T,{rfl,λys hy=>I.list_inj hy l\r},j,λb g=>(m b g).1}}
 done:=by intro X A t B M i aa s σ H E I m f y;subst A t B;let #[N,l,r]:=y;let #[q,n,p,hz]:=I.list l;let #[L,J,f2,G,D,C]:=m it ?s;let hl:=n.length;show sw (I.ok.hd M) f p.isList (by simp;lia) λh' eb=>{U,I.turned (t':=s.toks) (λb o g e=>eb b o g e) L J G D C}
 self:=λ_ _ _ _ _ f h=>wpAny_pyIter_listiter f h
def zeP{P:am}{w:ap}{K:bz}{O:au}(a it:ac):JO P w K O (Itt K a) [it] it (λi h=>h.IsTupleIter it a i) where
 mem:=?s
 obj:=λi h f b j=>by
  let e:b=it:=<-j
  subst e;let #[o,e,c,d]:=f;show{o,e,λv z=>by rw[d] at z;cases z}
 keep:=λi h h' f k=>f.at λo e=>k it ?s o e
 item:=by intro X A t B M i aa s σ H E I n f y;subst A t B;let #[N,x,m,r]:=y;let #[g,q,p,hz]:=I.tuple m;let #[u,hu,T]:=q.get r;let #[L,J,f2,G,D,C]:=n it ?s;show wpAny_pyNext_tuple_item f (s.heap.IsTuple a g.toArray|>p) (x:=u) (<-hu) λh' l Q=>?_;let I1:aJ X aa σ H { s with heap:=h' }:=I.turned (t':=s.toks) (λb o j e=>(Q.2 b j).trans e) L J G D C;let #[o,e,c,d]:=id l;show{u,U,Vn (s:={ s with heap:=h' }) e c d () {x,H,I1,T,{rfl,λys hy=>I.tuple_inj hy m\r},l,λb j=>(n b j).1}}
 done:=by intro X A t B M i aa s σ H E I n f y;subst A t B;let #[N,m,r]:=y;let #[g,q,p,hz]:=I.tuple m;let #[L,J,f2,G,D,C]:=n it ?s;let hl:=q.length;show wpAny_pyNext_tuple_end (I.ok.hd M) f (s.heap.IsTuple a g.toArray|>p) (by simp;lia) λh' eb=>{U,I.turned (t':=s.toks) (λb o j e=>eb b o j e) L J G D C}
 self:=λ_ _ _ _ _ f h=>wpAny_pyIter_tupleiter f h
def zeQ{P:am}{w:ap}{K:bz}{G:au}(it:ac)(lo:Int)(n:Nat):JO P w K G (Itr lo n) [it] it (λi h=>IsRangeIter h it (lo+(i:Nat)*1) ((n:Int)-(i:Nat)) 1) where
 mem:=?s
 obj:=λi h c b d=>by
  let e:b=it:=<-d
  subst e;show{_,c,λv z=>by let D:u9 _=Data.cell v:=z;cases D}
 keep:=λi h h' c k=>k it ?s _ c
 item:=by intro X p j q m i aa s σ H E I g c l;subst p j q;let #[B,A,M,y,u,r]:=g it ?s;let W:=Walks.range (prog:=X.p) (w:=X.w) (I.ok.hd m) it lo 1 n;show W.item i s _ _ l c λv h' C L f J=>?_;let #[t,rfl]:=L;let O:aJ X aa σ H { s with heap:=h',toks:=C }:=I.turned (λb o d e=>J b o (<-d) e) B A y u r;show{_,U,Vn (s:={ s with heap:=h',toks:=C }) (n:="range_iterator") f rfl rfl () {.int (lo+i),H,O,{t,?_},{rfl,rfl},f,λb d=>(g b d).1}};rw[Int.mul_one]
 done:=by intro X p j q m i aa s σ H E I g c l;subst p j q;let #[B,A,M,y,u,r]:=g it ?s;show rW (I.ok.hd m) c (by let:n<=i:=l;lia) λh' N=>{U,I.turned (t':=s.toks) (λb o d e=>N b o d e) B A y u r}
 self:=λ_ _ _ _ _ c h=>rX c h
section
variable {tg:au}
inductive ziE(K:bz)(R:It->Hp->Prop)(x:V)(H:Hp):Prop
 |mk (a:_):x=.ref a->(∃xs,aN K H a xs)->R (Itl K a) H->ziE K R x H
def  vt(K:bz)(c:TE):TI:=λσ H R=>c σ H (ziE K R)
def  zoj(K:bz)(f:TE):TI:=λσ H R=>f σ H λx c=>∃a,x=.ref a/\(∃d,aV K c a d)/\R (Itt K a) c
def yR{f:TE}(m:PE X l f):PI X tg l (vt X.K f):=by
 intro aa s σ H R I h;show aT (m aa s σ H _ I h) ?_;rintro v c ⟨x,r,d,g,i⟩;let #[a,e,#[t,k],q]:=i;subst e;cases g;let #[j,u,p,w]:=d.list k;show lA p.isList ?_;show{c.heap.objs.size,[c.heap.objs.size],_,_,r,U,d.kept (t':=c.toks) λb o e=>bf _ e,zhc a _,{_,bq _ U,U,U},λb n=>?_,q};let e:b=c.heap.objs.size:=<-n
 subst e;show d.fpOk (bh _) (d.hok.fresh (bh _))
def ziF{g:TE}(m:PE X l g):PI X tg l (zoj X.K g):=by
 intro aa s σ H R I h;show aT (m aa s σ H _ I h) ?_;rintro v c ⟨x,r,d,i,j⟩;let #[a,e,#[t,k],q]:=j;subst e;cases i;let #[f,u,p,w]:=d.tuple k;show wpAny_pyIter_tuple (c.heap.IsTuple a f.toArray|>p) ?_;show{c.heap.objs.size,[c.heap.objs.size],_,_,r,U,d.kept (t':=c.toks) λb o e=>bf _ e,zeP a _,{_,bq _ U,U,U},λb n=>?_,q};let e:b=c.heap.objs.size:=<-n
 subst e;show d.fpOk (bh _) (d.hok.fresh (bh _))
def ziG{H:Hp}{R:It->Hp->Prop}{lo c:Int}(I:aJ X aa σ H s)(k:-(2^62)<=lo)(j:lo<2^62)(i:-(2^62)<=c)(g:c<2^62)(q:R (Itr lo (c-lo).toNat) H):Ff (Fg X.p X.w) X.A (pyIter (.ref s.heap.objs.size)) (PIE X aa σ tg R) E { s with heap:=s.heap.push { cls:=.type "range",data:=.fields #[.int lo t,.int c u,.int 1 v] },toks:=tk }:=by
 show wpAny_pyIter_range (IsRange.new ..) (small_one k j i g) ?_;let d:aJ X aa σ H { s with heap:=s.heap.push { cls:=.type "range",data:=.fields #[.int lo t,.int c u,.int 1 v] },toks:=tk }:=I.kept λb o e=>bf _ e;show{(s.heap.push { cls:=.type "range",data:=.fields #[.int lo t,.int c u,.int 1 v] }).objs.size,[(s.heap.push { cls:=.type "range",data:=.fields #[.int lo t,.int c u,.int 1 v] }).objs.size],_,_,H,U,
  d.kept (t':=tk) λb o e=>bf _ e,zeQ _ lo (c-lo).toNat,?_,λb f=>?_,q}
 .let m:lo+((0:Nat):Int)*1=lo:=?s
  let l:(((c-lo).toNat:Nat):Int)-((0:Nat):Int)=mz lo c 1:=by rw[rangeSize_one];split <;> lia
  change IsRangeIter _ _ (lo+((0:Nat):Int)*1) ((((c-lo).toNat:Nat):Int)-((0:Nat):Int)) 1;show [m,l]\bq _ rfl
 .let e:b=(s.heap.push { cls:=.type "range",data:=.fields #[.int lo t,.int c u,.int 1 v] }).objs.size:=<-f
  subst e;show d.fpOk (bh _) (d.hok.fresh (bh _))
def  zmR(ta:TA):TI:=λσ H R=>ta σ H λc d=>∃j:Int,c=[.int j]/\-(2^62)<=j/\j<2^62/\R (Itr 0 j.toNat) d
def zhd{a:au}{ta:TA}(k:Gl X "range")(i:X.mg "range"=ae)(l:PA X [a] ta)(g:Fe [a] X.e=[(ah,eval a X.e)]:=by rfl):PI X tg (.Call (.Name "range" p) [a] [] pos) (zmR ta):=by
 intro aa s σ H R I h;show Call_ (ZH I k i boot_range (eu (aT (l pos aa s σ H _ I h) ?_) g U));rintro o u ⟨n,v,m,d,c⟩;let #[j,e,c,f,q]:=c;subst e;cases d with
 |cons r rr=>
  cases rr;let #[t,rfl]:=r;show call_range_1 (ziG m () () c f (<-q))
def  YC(j:TI)(g:TG)(tb:TS):TS:=λD σ H=>j σ H λJ l=>∃W:Nat->Nat->Ah,(∃m,W 0 m σ l)/\∀i m σ H,W i m σ H ->
 (J.stop i H/\D.nx σ H)\/(J.go i H/\∃N:Ah,(∀c H',N c H'->∃f,f<m/\W (i+1) f c H')/\∀x H',J.yld i H x H'->g x σ H' λd k=>tb { D with nx:=N,ct:=N,bk:=D.nx } d k)
def  WB(c:List ac)(h:ao):Ae:=c.filterMap λb=>(h.get? b).map λo=>(b,o)
def vI{h:ao}{b:ac}{o:Obj}(c:b∈fp)(e:h.get? b=Z o):(b,o)∈WB fp h:=dY.mpr {b,c,e\U}
def zhe(c:p∈WB fp h):p.1∈fp/\h.get? p.1=Z p.2:=by
 let #[b,d,e]:=List.mem_filterMap.mp c;cases q:h.get? b with
 |none=>rw[q] at e;cases e
 |some o=>
  rw[q] at e;let f:(b,o)=p:=cf e;subst f;show{d,q}
def aJ.pinned{H:Hp}(I:aJ X aa σ H s)(l:∀b∈fp,jJ X aa H b)(k:∀b∈fp,∃o,s.heap.get? b=Z o/\∀v,o.data≠.cell v):aJ X (aa++WB fp s.heap) σ H s:=
 I.pins_of λp j=>(bw.mp j).elim (λz=>I.pin p (bD _ z)) λz=>by let #[f,e]:=zhe z;let #[r,q,n,_]:=l p.1 f;let #[o,g,d]:=k p.1 f;rw[e] at g;cases g;show{e,r,q,n,d}
def aJ.unpinned{H:Hp}(I:aJ X (aa++pl) σ H s):aJ X aa σ H s:=I.pins_of λp d=>I.pin p (bD _ (cO _ d))
def xM{wi:TI}{g:TG}{tb:TS}(G:PassesOwn (Fg X.p X.w) X.A X.e X.xe)(hc:X.c=af)(hi:PI X tg iter wi)(hg:PG X tg g)(p:PSs X body tb)(hs:∀x,foldedSetIterable iter X.e x=pure x:=by intro _;rfl):PS X (.For tg iter body [] pos) (YC wi g tb):=by
 intro aa s σ H D I h;show wpAny_For (aT (hi aa s σ H _ I h) λv s1 h1=>aT h1 λaI s2 h2=>?_) hs;let #[it,M,tn,J,H2,e,I2,T,al,f2,W,#[m0,w0],A]:=h2;subst e
 let l:∀ {H':Hp},(∀b∈M,H' b=ae)->∀b∈M,jJ X aa H' b:=λhn b p=>{hn b p,(f2 b p).2};show codeAny_forLoop_any (λn s'=>∃i k H',aJ X aa k H' s'/\tn i s'.heap/\(∀b∈M,H' b=ae)/\W i n k H') ?_ m0 {0,σ,H2,I2,al,λb p=>(f2 b p).1,w0};rintro n s3 ⟨i,j,O,I3,B,L,w3⟩;obtain ⟨stop,qn⟩|⟨go,N,hN,step⟩:=A i n j O w3
 .show ik G (aT (T.done X U U U hc i aa s3 j O X.xe I3 (l L) B stop) ?_);rintro r s4 ⟨hr,I4⟩;subst hr;show gH {j,O,I4,qn}
 .show ik G (aT (T.item X U U U hc i aa s3 j O X.xe I3 (l L) B go) ?_);rintro r s4 ⟨u,hr,h4⟩;subst hr;show ik G (aT h4 ?_);rintro _ s5 ⟨x,H5,I5,r5,y5,z,an⟩;let ar:=I5.pinned (l an) (T.obj _ _ z);show ik G (aT (hg _ s5 j H5 x u _ ar r5 (step x H5 y5)) ?_);rintro _ s6 ⟨Q,H6,I6,q6⟩;show ik G (aT (p _ s6 Q H6 _ I6 q6) λf s7 y=>?_);let q:∀ {c:St}{w:Hp},aJ X (aa++WB M s5.heap) c w s7->N c w->∃m,m<n/\∃i k H',aJ X aa k H' s7/\tn i s7.heap/\(∀b∈M,H' b=ae)/\W i m k H':=λ{c w} t C=>by let #[m',hm,w7]:=hN c w C;show{m',hm,i+1,c,w,t.unpinned,T.keep _ _ _ z λb p o e=>(t.pin (b,o) (bD _ (bD _ (vI p e)))).1,λb p=>?_,w7};let #[o,e,d]:=T.obj _ _ z b p;show(t.pin (b,o) (bD _ (bD _ (vI p e)))).2.1
  cases f with
  |next=>let #[c,w,t,C]:=y;show q t C
  |cont=>let #[c,w,t,C]:=y;show q t C
  |brk=>let #[c,w,t,y]:=y;show{c,w,t.unpinned,y}
  |ret v=>let #[x7,c,w,t,r7,y]:=y;show{x7,c,w,t.unpinned,r7,y}
end
abbrev R2:=V->V->Hp->VK->Prop
def  Az(X:Cx)(f:ai->ai->Sem ai)(r:R2):Prop:=
 ∀(aa:Ae)(s:ag)(σ:St)(H:Hp)(x y:V)(v u:ai)(Q:VK),aJ X aa σ H s->aP x v->aP y u->r x y H Q ->
  Ff (Fg X.p X.w) X.A (f v u) (EP X aa σ Q) X.xe s
def  UnR(X:Cx)(f:ai->Sem ai)(r:V->Hp->VK->Prop):Prop:=
 ∀(aa:Ae)(s:ag)(σ:St)(H:Hp)(x:V)(v:ai)(Q:VK),aJ X aa σ H s->aP x v->r x H Q ->
  Ff (Fg X.p X.w) X.A (f v) (EP X aa σ Q) X.xe s
def  wn(X:Cx)(f:ai)(r:LV->Hp->VK->Prop):Prop:=
 ∀(aa:Ae)(s:ag)(σ:St)(H:Hp)(c:LV)(d:zQ)(Q:VK),aJ X aa σ H s->aO c d->r c H Q ->
  Ff (Fg X.p X.w) X.A (call f d) (EP X aa σ Q) X.xe s
def  aL(r:R2)(ta tb:TE):TE:=λσ H Q=>ta σ H λx d=>tb σ d λy c=>r x y c Q
def  tUn(r:V->Hp->VK->Prop)(ta:TE):TE:=λσ H Q=>ta σ H λx c=>r x c Q
inductive rI(C:Int->Int->Prop)(g:Int->Int->V)(x y:V)(H:Hp)(Q:VK):Prop
 |mk (i j:_):x=.int i->y=.int j->C i j->Q (g i j) H->rI C g x y H Q
inductive rI0(g:Int->Int->V)(x y:V)(H:Hp)(Q:VK):Prop
 |mk (i j:_):x=.int i->y=.int j->Q (g i j) H->rI0 g x y H Q
inductive rU(g:Int->V)(x:V)(H:Hp)(Q:VK):Prop
 |mk (i:_):x=.int i->Q (g i) H->rU g x H Q
variable {c:au}{tc:TE}
section
variable {a:au}
def znl(t:PE X a ta)(r:PE X b tb){aa:Ae}{H:Hp}{R:V->V->Hp->Prop}(I:aJ X aa σ H s)(h:ta σ H λx k=>tb σ k λy d=>R x y d){Q:Aa}{f:ai->ai->Sem ai}
  (q:∀v u j x y d,aJ X aa σ d j->aP x v->aP y u->R x y d->Ff (Fg X.p X.w) X.A (f v u) Q X.xe j) :
  Ff (Fg X.p X.w) X.A (eval a X.e) (λv i=>Ff (Fg X.p X.w) X.A (eval b X.e) (λu g=>Ff (Fg X.p X.w) X.A (f v u) Q X.xe g) X.xe i) X.xe s:=by show aT (t aa s σ H _ I h) ?_;rintro v l ⟨x,k,z,n,p⟩;show aT (r aa l σ k _ z p) ?_;rintro u j ⟨y,d,w,m,o⟩;show q v u j x y d w n m o
def zE{r:R2}(i:Az X (binaryOp op) r)(k:PE X a ta)(j:PE X b tb):PE X (.BinOp a op b pos) (aL r ta tb):=by intro aa s σ H Q I h;show wpAny_BinOp (znl k j I h λv u d x y m l g f q=>i aa d σ m x y v u Q l g f q)
def zaB{r:V->Hp->VK->Prop}(i:UnR X (unaryOp op) r)(j:PE X a ta):PE X (.UnaryOp op a pos) (tUn r ta):=by intro aa s σ H Q I h;show UnaryOp_ (aT (j aa s σ H _ I h) λv d ⟨x,l,k,f,g⟩=>i aa d σ l x v Q k f g)
def opI{f:ai->ai->Sem ai}{C:Int->Int->Prop}{g:Int->Int->Int}
  (rule:∀(i j:Int)(t u:Tok)(s:ag)(Q:Aa)(E:Aa),C i j->Q (.int (g i j) s.toks) { s with toks:=s.toks+1 }->Ff (Fg X.p X.w) X.A (f (.int i t) (.int j u)) Q E s) :
  Az X f (rI C λi j=>.int (g i j)):=by intro aa s σ H x y v u Q I l k h;let #[i,j,rfl,rfl,m,q]:=h;let #[t,rfl]:=l;let #[d,rfl]:=k;show rule i j t d s _ _ m {.int (g i j),H,I.tok _,{_,U},q}
def zok{f:ai->ai->Sem ai}{g:Int->Int->Int}
  (rule:∀(i j:Int)(t u:Tok)(s:ag)(Q:Aa)(E:Aa),Q (.int (g i j) s.toks) { s with toks:=s.toks+1 }->Ff (Fg X.p X.w) X.A (f (.int i t) (.int j u)) Q E s) :
  Az X f (rI0 λi j=>.int (g i j)):=by intro aa s σ H x y v u Q I l k h;let #[i,j,rfl,rfl,q]:=h;let #[t,rfl]:=l;let #[d,rfl]:=k;show rule i j t d s _ _ {.int (g i j),H,I.tok _,{_,U},q}
def zli{f:ai->ai->Sem ai}{g:Int->Int->Bool}
  (rule:∀(i j:Int)(t u:Tok)(s:ag)(Q:Aa)(E:Aa),Q (.bool (g i j)) s->Ff (Fg X.p X.w) X.A (f (.int i t) (.int j u)) Q E s) :
  Az X f (rI0 λi j=>.bl (g i j)):=by intro aa s σ H x y v u Q I l k h;let #[i,j,rfl,rfl,q]:=h;let #[t,rfl]:=l;let #[d,rfl]:=k;show rule i j t d s _ _ {.bl (g i j),H,I,U,q}
def  JP(i j:Int):Prop:=0<=j/\j<=1000000/\i.natAbs<2^64
def yK:Az X (binaryOp .Add) (rI0 λi j=>.int (i+j)):=zok λ_ _ _ _ _ _ _ q=>add_int q
def kH:Az X (binaryOp .Sub) (rI0 λi j=>.int (i-j)):=zok λ_ _ _ _ _ _ _ q=>sub_int q
def xp:Az X (binaryOp .Mod) (rI (λ_ j=>0<j) λi j=>.int (i%j)):=opI λi j _ _ _ _ _ d q=>by let f:(0:Int)<j:=d;show mod_int' () (Int.fmod_eq_emod_of_nonneg i ()\q)
def ZK:Az X (binaryOp .Pow) (rI JP λi j=>.int (i^j.toNat)):=opI λ_ _ _ _ _ _ _ d q=>pow_int_small d.1 d.2.1 d.2.2 q
def unI{f:ai->Sem ai}{g:Int->Int}
  (rule:∀(i:Int)(t:Tok)(s:ag)(Q:Aa)(E:Aa),Q (.int (g i) s.toks) { s with toks:=s.toks+1 }->Ff (Fg X.p X.w) X.A (f (.int i t)) Q E s) :
  UnR X f (rU λi=>.int (g i)):=by intro aa s σ H x v Q I d h;let #[i,rfl,q]:=h;let #[t,rfl]:=d;show rule i t s _ _ {.int (g i),H,I.tok _,{_,U},q}
def WC:UnR X (unaryOp .USub) (rU λi=>.int (-i)):=unI λ_ _ _ _ _ q=>neg_int q
end
def  zlj:V->V->Bool
 |.non,.non=>af|.non,.int _=>af|.int _,.non=>af|.non,.bl _=>af|.bl _,.non=>af|.non,.str _=>af|.str _,.non=>af
 |.int _,.int _=>af|.bl _,.bl _=>af|.str _,.str _=>af|.byt _,.byt _=>af
 |.int _,.str _=>af|.str _,.int _=>af|.bl _,.str _=>af|.str _,.bl _=>af
 |_,_=>ah
inductive rEq(x y:V)(H:Hp)(Q:VK):Prop
 |mk:zlj x y=af->Q (.bl (decide (x=y))) H->rEq x y H Q
inductive rNe(x y:V)(H:Hp)(Q:VK):Prop
 |mk:zlj x y=af->Q (.bl (!decide (x=y))) H->rNe x y H Q
def zf2{i j:Int}:decide (V.int i=V.int j)=(i==j):=mB\?s
def ziH :decide (V.bl i=V.bl j)=(i==j):=mB\?s
def zf3 :decide (V.str i=V.str j)=(i==j):=mB\?s
def zf4 :decide (V.byt i=V.byt j)=(i.toList==j.toList):=by rw[mB];cases i;cases j;simp
section
variable {a:au}
def yC{H:Hp}{Q:VK}(I:aJ X aa σ H s)(q:Q (.bl k) H)(e:k=k'):EP X aa σ Q (.bool k') s:=by subst e;show{.bl k,H,I,U,q}
def yH:Az X (Fi .Eq) rEq:=by
 intro aa s σ H x y v u Q I k d h;let #[g,q]:=h;cases x with
 |non=>
  cases k;cases y with
  |non=>cases d;show PySem.EqNone.eq_none_none (yC I q ?s)
  |bl j=>cases d;show PySem.EqNone.eq_none_bool (yC I q ?s)
  |int j=>let #[f,rfl]:=d;show PySem.EqNone.eq_none_int (yC I q ?s)
  |str j=>let #[f,rfl]:=d;show PySem.EqNone.eq_none_str (yC I q ?s)
  |_=>show absurd (ah=af|>g) bL
 |bl i=>
  cases k;cases y with
  |non=>cases d;show PySem.EqNone.eq_bool_none (yC I q ?s)
  |bl j=>cases d;show eq_bool (yC I q ziH)
  |str j=>let #[f,rfl]:=d;show PySem.EqMixed.eq_bool_str (yC I q ?s)
  |_=>show absurd (ah=af|>g) bL
 |int i=>
  let #[t,rfl]:=k;cases y with
  |non=>cases d;show PySem.EqNone.eq_int_none (yC I q ?s)
  |int j=>let #[f,rfl]:=d;show eq_int (yC I q zf2)
  |str j=>let #[f,rfl]:=d;show PySem.EqMixed.eq_int_str (yC I q ?s)
  |_=>show absurd (ah=af|>g) bL
 |str i=>
  let #[t,rfl]:=k;cases y with
  |non=>cases d;show PySem.EqNone.eq_str_none (yC I q ?s)
  |bl j=>cases d;show PySem.EqMixed.eq_str_bool (yC I q ?s)
  |int j=>let #[f,rfl]:=d;show PySem.EqMixed.eq_str_int (yC I q ?s)
  |str j=>let #[f,rfl]:=d;show eq_str (yC I q zf3)
  |_=>show absurd (ah=af|>g) bL
 |byt i=>
  let #[t,rfl]:=k;cases y with
  |byt j=>let #[f,rfl]:=d;show W.eq_bytes (yC I q zf4)
  |_=>show absurd (ah=af|>g) bL
 |_=>cases y <;> show absurd (ah=af|>g) bL
def kX:Az X (Fi .NotEq) rNe:=by
 intro aa s σ H x y v u Q I k d h;let #[g,q]:=h;cases x with
 |non=>
  cases k;cases y with
  |non=>cases d;show PySem.EqNone.ne_none_none (yC I q ?s)
  |bl j=>cases d;show PySem.EqNone.ne_none_bool (yC I q ?s)
  |int j=>let #[f,rfl]:=d;show PySem.EqNone.ne_none_int (yC I q ?s)
  |str j=>let #[f,rfl]:=d;show PySem.EqNone.ne_none_str (yC I q ?s)
  |_=>show absurd (ah=af|>g) bL
 |bl i=>
  cases k;cases y with
  |non=>cases d;show PySem.EqNone.ne_bool_none (yC I q ?s)
  |bl j=>cases d;show ne_bool (yC I q (congrArg not ziH))
  |str j=>let #[f,rfl]:=d;show PySem.EqMixed.ne_bool_str (yC I q ?s)
  |_=>show absurd (ah=af|>g) bL
 |int i=>
  let #[t,rfl]:=k;cases y with
  |non=>cases d;show PySem.EqNone.ne_int_none (yC I q ?s)
  |int j=>let #[f,rfl]:=d;show ne_int (yC I q (congrArg not zf2))
  |str j=>let #[f,rfl]:=d;show PySem.EqMixed.ne_int_str (yC I q ?s)
  |_=>show absurd (ah=af|>g) bL
 |str i=>
  let #[t,rfl]:=k;cases y with
  |non=>cases d;show PySem.EqNone.ne_str_none (yC I q ?s)
  |bl j=>cases d;show PySem.EqMixed.ne_str_bool (yC I q ?s)
  |int j=>let #[f,rfl]:=d;show PySem.EqMixed.ne_str_int (yC I q ?s)
  |str j=>let #[f,rfl]:=d;show ne_str (yC I q (congrArg not zf3))
  |_=>show absurd (ah=af|>g) bL
 |byt i=>
  let #[t,rfl]:=k;cases y with
  |byt j=>let #[f,rfl]:=d;show W.ne_bytes (yC I q (congrArg not zf4))
  |_=>show absurd (ah=af|>g) bL
 |_=>cases y <;> show absurd (ah=af|>g) bL
def YG:Az X (Fi .Lt) (rI0 λi j=>.bl (decide (i<j))):=zli λ_ _ _ _ _ _ _ q=>lt_int q
def zmS:Az X (Fi .LtE) (rI0 λi j=>.bl (decide (i<=j))):=zli λ_ _ _ _ _ _ _ q=>le_int q
def Vo:Az X (Fi .Gt) (rI0 λi j=>.bl (decide (j<i))):=zli λ_ _ _ _ _ _ _ q=>gt_int q
def zf5:Az X (Fi .GtE) (rI0 λi j=>.bl (decide (j<=i))):=zli λ_ _ _ _ _ _ _ q=>ge_int q
def zaC:Az X (Fi .In) (λx y H Q=>∃i j,x=.str i/\y=.str j/\Q (.bl (!(dI j i 0 j.length 1).isEmpty)) H):=by intro aa s σ H x y v u Q I f d h;let #[i,j,rfl,rfl,q]:=h;let #[t,rfl]:=f;let #[g,rfl]:=d;show in_str (yC I q U)
def zeR:Az X (Fi .Is) (λx y H Q=>y=.non/\Q (.bl (decide (x=.non))) H):=by
 intro aa s σ H x y v u Q I d f h;let #[rfl,q]:=h;cases f;show is_none_gen (yC I q ?_);cases x <;> first
  |(cases d;rfl)
  |(let #[t,rfl]:=d;rfl)
def Jt:Az X (Fi .IsNot) (λx y H Q=>y=.non/\Q (.bl (!decide (x=.non))) H):=by
 intro aa s σ H x y v u Q I d f h;let #[rfl,q]:=h;cases f;show isnot_none_gen (yC I q ?_);cases x <;> first
  |(cases d;rfl)
  |(let #[t,rfl]:=d;rfl)
def zC(b:au)(h:op≠.In:=by lia)(d:op≠.NotIn:=by lia):behindInMarks op b=ah:=by
 let g:(op==CmpOp.In)=ah:=by cases op <;> first|rfl|show absurd U h
 let f:(op==CmpOp.NotIn)=ah:=by cases op <;> first|rfl|show absurd U d
 cases b <;> simp[behindInMarks,g,f]
def jA{r:R2}(i:Az X (Fi op) r)(l:PE X a ta)(k:PE X b tb)(j:behindInMarks op b=ah):PE X (.Compare a [op] [b] pos) (aL r ta tb):=by intro aa s σ H Q I h;show wpAny_Compare1 (znl l k I h λv u d x y n m g f q=>i aa d σ n x y v u Q m g f q) j
def  zT(t:TE):TT:=λσ H Q=>t σ H (tBk Q)
def zq{r:R2}(o:Az X (Fi op) r)(t:PE X a ta)(q:PE X b tb)(p:behindInMarks op b=ah):PT X (.Compare a [op] [b] pos) (zT (aL r ta tb)):=by
 intro aa s σ H Q I h;show wpAny_isTrue_Compare1 (aT (t aa s σ H _ I h) λv f ⟨x,G,B,j,n⟩=>aT (q aa f σ G _ B n) λu d ⟨y,D,A,i,m⟩=>
  aT (o aa d σ D x y v u _ A j i m) λc J ⟨z,C,w,g,k,e,l⟩=>?_) p
 subst e;cases g;show fP {C,w,l}
def  ziI(r g:R2)(ta tb tc:TE):TE:=λσ H Q=>ta σ H λx l=>tb σ l λy j=>r x y j λz d=>∃k,z=.bl k /\
 (if k=af then tc σ d λf i=>g y f i Q else Q (.bl ah) d)
def ziJ{r i:R2}(L:Az X (Fi op) r)(f:Az X (Fi op') i)(T:PE X a ta)(O:PE X b tb)(N:PE X c tc)(M:lastMarks [op,op'] [b,c]=ah:=by with_unfolding_all rfl):PE X (.Compare a [op,op'] [b,c] pos) (ziI r i ta tb tc):=by
 intro aa s σ H Q I h;show Compare_chain (aT (T aa s σ H _ I h) λv w ⟨x,H1,I1,C,J⟩=>chain_link (aT (O aa w σ H1 _ I1 J) λu t ⟨y,H2,I2,g,G⟩=>
  aT (L aa t σ H2 x y v u _ I2 C g G) λd q ⟨z,m,l,B,k,e,j⟩=>?_)) M
 subst e;cases B;show fP ?_;cases k with
 |false=>show ite_ff {.bl ah,m,l,U,j}
 |true=>show ite_tt (chain_last (aT (N aa q σ m _ l j) λo p ⟨n,H4,I4,A,D⟩=>f aa p σ H4 y n u o Q I4 g A D))
def zbG:(Fb:Nat)<2^63:=by rw[cp];decide
def yY:Az X (binaryOp .Add) (λx y H Q=>∃i j,x=.str i/\y=.str j/\i.length+j.length<=Fb/\Q (.str (i++j)) H):=by intro aa s σ H x y v u Q I g f h;let #[i,j,rfl,rfl,k,q]:=h;let #[t,rfl]:=g;let #[d,rfl]:=f;show add_str (λd l=>{.str (i++j),H,I.tok _,{_,U},q}) k
def xD{x:V}(r:aO [x] us):∃u,us=[u]/\aP x u:=by
 cases r with
 |cons r1 r2=>cases r2;show{_,U,r1}
def ziK{x y:V}(r:aO [x,y] us):∃u w',us=[u,w']/\aP x u/\aP y w':=by
 cases r with
 |cons r1 r2=>
  cases r2 with
  |cons r3 r4=>cases r4;show{_,_,U,r1,r3}
def jB:wn X (.type "str") (λd H Q=>∃i,d=[.int i]/\i.natAbs.log2<1920/\Q (.str (toString i)) H):=by intro aa s σ H d g Q I r h;let #[i,rfl,f,q]:=h;let #[u,rfl,t,rfl]:=xD r;show PySem.P.str_of_int f {.str _,H,I.tok _,{_,U},q}
def ziL:wn X (.builtin "ord") (λd H Q=>∃x,d=[.str x]/\x.length=1/\Q (.int (x.cps.getD 0 0:Nat)) H):=by intro aa s σ H d g Q I r h;let #[x,rfl,f,q]:=h;let #[u,rfl,t,rfl]:=xD r;show ord_of_one f {.int _,H,I.tok _,{_,U},q}
def  znm(K:bz)(x:V)(H:Hp)(n:Nat):Prop:=
 match x with
 |.str y=>y.length<=Fb/\n=y.length
 |.byt y=>y.size<=Fb/\n=y.size
 |.ref p=>(∃d,aN K H p d/\n=d.length)\/∃d,aV K H p d/\n=d.length
 |_=>False
inductive vo(K:bz)(xs:LV)(H:Hp)(Q:VK):Prop
 |mk (x n:_):xs=[x]->znm K x H n->Q (.int n) H->vo K xs H Q
inductive ziM(K:bz)(xs:LV)(H:Hp)(Q:VK):Prop
 |mk (p ys:_):xs=[.ref p]->(aN K H p ys\/aV K H p ys)->(∀l,H l=ae->Q (.ref l) (upd H l (.lst ys)))->ziM K xs H Q
def zU:wn X (.builtin "len") (vo X.K):=by
 intro aa s σ H f v Q I r h;let #[x,n,rfl,e,q]:=h;let #[u,rfl,i]:=xD r;let z:=zbG;let w:Fb=16777216:=cp;cases x with
 |str y=>
  let #[t,rfl]:=i;obtain⟨o,g⟩:y.length<=Fb/\n=y.length:=e;subst g;show len_str () {.int _,H,I.tok _,{_,U},q}
 |byt y=>
  let #[t,rfl]:=i;obtain⟨o,g⟩:y.size<=Fb/\n=y.size:=e;subst g;show W.len_bytes () {.int _,H,I.tok _,{_,U},q}
 |ref p=>
  cases i;let g:(∃f,aN X.K H p f/\n=f.length)\/∃f,aV X.K H p f/\n=f.length:=e;obtain ⟨f,hx,g⟩|⟨f,hx,g⟩:=g
  .subst g;let #[l,j,k,m]:=I.list hx;let d:=j.length;show Calls.call_len_list k.isList (by simp only[bH];lia) {.int f.length,H,I.tok _,{_,by simp only[bH];rw[d]},q}
  .subst g;let #[l,j,k,m]:=I.tuple hx;let d:=j.length;show len_tuple k (by simp only[bH];lia) {.int f.length,H,I.tok _,{_,by simp only[bH];rw[d]},q}
 |_=>show(False|>e).elim
end
structure ObjM(h:ao)(x dx C:ac)(mA:At):Prop where
 obj:h.get? x=Z (iE C dx)
 ns:h.Ns1 dx mA
 ne:dx≠x
def zhf{i:At}(n:h.Ns1 dx i):∃g,h.get? dx=Z g/\∀d,Br d g=Z (i d):=by
 let #[o,j,v,l,r,p,_,m]:=n;show{o,l,λd=>?_};let e:=m d;unfold nsFind findBy at e;rw[<-Array.find?_toList] at e;unfold Br;rw[r];dsimp only;split
 .rename_i y q;rw[q] at e;show congrArg Z e
 .rename_i q;rw[q] at e;let a:j.toList.any (·.refKey)=ah:=by rw[List.any_eq_false];intro y k;let #[z,t,f]:=p y (tw.mp k);simp[DictEntry.refKey,f]
  let u:¬ j.toList.any (·.refKey)=af:=a\bL
  show aj u\congrArg Z e
def ObjM.look(I:ObjM h x dx C mA):∃f,W.InstAt h x (iE C dx) C (Z f)/\∀d,Br d f=Z (mA d):=
 let ⟨f,ho,hl⟩:=zhf I.ns
 {f,{I.obj,U,U,ho},hl}
variable {A:av}{dx C f:ac}
section
variable {prog:am}{w:ap}{K:bz}{mA:At}{name:Str}{v:ai}
def zlk{Q:Aa}(X:K.In s.heap)(I:ObjM s.heap x dx C mA)(k:uD K C name=af)(j:Ba K C=af)(l:gR K (.ref C) name=Z ae)(g:mA name=Z v)(d:W.handedIn v=af)(h:Q v { s with toks:=s.toks+1 }) :
  Ff (Fg prog w) A (getAttr (.ref x) name expr) Q E s:=by let #[m,J,i]:=I.look;show W.get_value X J (uf k).1 (W.findObj_own j l U ([i,g]\_)) d h
def ziN{g:Sem Bool}{Q:ai×zQ->ag->Prop}(X:K.In s.heap)(I:ObjM s.heap x dx C mA)(d:uD K C name=af)(m:gR K (.ref C) name=Z (Z (.ref f)))(k:W.isFn K (.ref f)=af)(j:mA name=ae)(h:Q (.ref f,[.ref x]) s) :
  Ff (Fg prog w) A (getMethod (.ref x) name g) Q E s:=by let #[i,J,l]:=I.look;show W.method_fn X J (uf d).1 (uf d).2 m (beq_iff_eq.mp k) (by change (Br name i).map (·.isSome)=Z ah;rw[l,j];rfl) h
def zll{m:zO}{Q:Unit->ag->Prop}(X:K.In s.heap)(I:ObjM s.heap x dx C mA)(t:gR K (.ref C) "__setattr__"=Z (Z (.builtin "object.__setattr__")))(u:W.plainOver K C=af)(p:W.takerIn K C name=Z ae)(z:Ba K C=af)(o:uM mA m)(q:m.length<=Fb)(h:∀h',ObjM h' x dx C (λy=>if y=name then Z v else mA y)->cy dx s.heap h'->Q PUnit.unit { s with heap:=h',toks:=s.toks+2 }) :
  Ff (Fg prog w) A (setAttr (.ref x) name v) Q E s:=by let #[L,J,N]:=I.look;show W.set_plain X J t (W.osa_open (s:={ s with toks:=s.toks+1 }) (r:=ae) X J u p λb=>?_);let #[O,B,k]:=W.any_some z;let n:s.heap.get? x=Z {.ref C,Z dx,.plain,#[]}:=I.obj;show ba (bg (ba (ba (wpAny_loadPart n (ba (W.Looks.here (s:={ s with toks:=s.toks+1 }) (W.looks_clsIn X B) ?_))))));rw[k];show bg (a:=Z dx) (ba (bg (ba ?_)));show wpAny_nsSet1 (s:={ s with toks:=s.toks+1 }) I.ns λh' g d=>?_;let #[M,D,G,i,j,l]:=g.count (PySem.Within.cons name v o);show ba (wpAny_lookBehind i (j\pastItsLine_dict (bR l (bJ\()))) ?_);show bg (h _ {(d.2 _ (cY I.ne)).trans I.obj,g,I.ne} d)
def zcU{R:ay->ag->Prop}{j:zQ}(X:K.In s.heap)(k:Bb K C=af)(l:gR K (.ref C) "__init__"=Z (Z (.ref f)))(m:W.typeIn K (.ref f)=Z (.type "function"))(h:codeAny (Fg prog w) (A.under (.builtin "type.__call__" {.ref C::j,kw})) (.call (.ref f) {.ref (s.heap.objs.size+1)::j,kw}) (W.InitBack (s.heap.objs.size+1) R)
   { s with heap:=(s.heap.push fQ).push (iE C s.heap.objs.size) }) :
  codeAny (Fg prog w) A (.call (.ref C) {j,kw}) R s:=by let #[o,g,d,t,n]:=s;show W.make_core (W.makes_of X k) (nA X l) (λi=>W.bind_fn X i m) (.inl U) h
def zhg{R:ay->ag->Prop}(X:K.In s.heap)(j:Bb K C=af)(k:gR K (.ref C) "__init__"=Z (Z (.builtin "object.__init__")))(l:∀i,pC (Fg prog w) s.heap (bindSpecial (.builtin "object.__init__") i) (.builtin "object.__init__",[i]))(h:codeAny (Fg prog w) (A.under (.builtin "type.__call__" {[.ref C],[]})) (.call (.builtin "object.__init__") {[.ref (s.heap.objs.size+1)],[]}) (W.InitBack (s.heap.objs.size+1) R)
   { s with heap:=(s.heap.push fQ).push (iE C s.heap.objs.size) }) :
  codeAny (Fg prog w) A (.call (.ref C) {[],[]}) R s:=by let #[n,g,d,t,m]:=s;show W.make_core (W.makes_of X j) (nA X k) l (.inr {U,U}) h
end
def  xE(f:Str)(v:V):LSV->LSV
 |[]=>[(f,v)]
 |(g,x)::r=>if g=f then (g,v)::r else (g,x)::xE f v r
def Vp(f g:Str)(v:V):∀i:LSV,(xE f v i).lookup g=if g=f then Z v else i.lookup g
 |[]=>by
  change eG g [(f,v)]=_;by_cases h:g=f
  .let d:(g==f)=af:=beq_iff_eq.mpr h;simp only[eG,d,ak h]
  .let d:(g==f)=ah:=beq_eq_false_iff_ne.mpr h;simp only[eG,d,aj h]
 |(k,x)::r=>by
  let j:=Vp f g v r;rw[xE f v ((k,x)::r)=(if k=f then (k,v)::r else (k,x)::xE f v r)|>rfl];by_cases hk:k=f
  .rw[ak hk];by_cases h:g=k
   .let d:(g==k)=af:=beq_iff_eq.mpr h;simp only[eG,d,ak (h.trans hk)]
   .let d:(g==k)=ah:=beq_eq_false_iff_ne.mpr h;simp only[eG,d,aj (λe:g=f=>h (e.trans hk.symm))]
  .rw[aj hk];by_cases h:g=k
   .let d:(g==k)=af:=beq_iff_eq.mpr h;simp only[eG,d,aj (λe:g=f=>hk (h.symm.trans e))]
   .let d:(g==k)=ah:=beq_eq_false_iff_ne.mpr h;simp only[eG,d];show j
def WD(f:Str)(v:V):∀d:LSV,f∈(xE f v d).map (·.1)/\∀g,g∈d.map (·.1)->g∈(xE f v d).map (·.1)
 |[]=>{by simp[xE],λg h=>by simp at h}
 |(k,x)::r=>by
  let #[j,i]:=WD f v r;rw[xE f v ((k,x)::r)=(if k=f then (k,v)::r else (k,x)::xE f v r)|>rfl];by_cases hk:k=f
  .rw[ak hk];subst hk;show{?s,λg h=><-h}
  .rw[aj hk];show{?_,λg h=>?_}
   .show bB\br _ j
   .rw[bB] at h ⊢;obtain e|e:=bo.mp h
    .show bo.mpr (.inl e)
    .show br _ (i g e)
def Vq(f:Str)(v:V):∀d:LSV,(xE f v d).length<=d.length+1
 |[]=>by simp[xE]
 |(k,x)::r=>by
  let g:=Vq f v r;rw[xE f v ((k,x)::r)=(if k=f then (k,v)::r else (k,x)::xE f v r)|>rfl];by_cases hk:k=f
  .rw[ak hk,bJ,bJ];lia
  .rw[aj hk,bJ,bJ];lia
def Am.some_of(r:Am (Z v) o):∃u,o=Z u/\aP v u:=by
 cases o with
 |none=>show(False|>r).elim
 |some u=>show{u,U,r}
def Am.none_of(r:Am ae o):o=ae:=by
 cases o with
 |none=>rfl
 |some u=>show(False|>r).elim
def zhh(r:aP v u):W.handedIn u=af:=by
 cases v with
 |non=>cases (u=cb|>r);rfl
 |bl b=>cases (u=lz b|>r);rfl
 |int i=>let #[t,e]:=((∃t,u=gP i t)|>r);cases e;rfl
 |str x=>let #[t,e]:=((∃t,u=iQ x t)|>r);cases e;rfl
 |byt b=>let #[t,e]:=((∃t,u=Value.bytes b t)|>r);cases e;rfl
 |flt b=>let #[t,e]:=((∃t,u=u7 b t)|>r);cases e;rfl
 |ref a=>cases (u=bC a|>r);rfl
 |ty n=>cases (u=gg n|>r);rfl
section
variable {w:ap}{fs fs':LSV}
def Ju(i:Ax P w H h)(e:H a=Z (.ins C dx fs)):∃g,ObjM h a dx C g/\(∀f,Am (fs.lookup f) (g f))/\uM g (fs.map (·.1))/\fs.length<=1000/\H dx=Z (.own a):=by let #[d,z,k,j,g,n,r,q]:=(aQ P w H h a (.ins C dx fs)|>i a _ e);show{g,{j,n,k},r,q,z,d}
end
structure AC(K:bz)(C:ac):Prop where
 pg:uD K C gq=af
 hd:Ba K C=af
 po:W.plainOver K C=af
 sa:gR K (.ref C) "__setattr__"=Z (Z (.builtin "object.__setattr__"))
def AC.get{K:bz}(c:AC K C)(f:Str):uD K C f=af:=c.pg
def  aK(K:bz)(C:ac)(f:Str):Prop:=gR K (.ref C) f=Z ae
def aK.taker{K:bz}{C:ac}{f:Str}(n:aK K C f):W.takerIn K C f=Z ae:=by unfold W.takerIn;rw[gR K (.ref C) f=Z ae|>n];rfl
structure zhi(K:bz)(C:ac)(m:Str)(f:ac):Prop where
 at_:gR K (.ref C) m=Z (Z (.ref f))
 fn:W.isFn K (.ref f)=af
 kp:oX K (.ref f)=af
section
variable {fs:LSV}{f:Str}{v:V}
def JQ{b:Bool}{Q:Aa}(I:aJ X aa σ H s)(e:H a=Z (.ins C dx fs))(c:AC X.K C)(n:aK X.K C f)(l:fs.lookup f=Z v)(h:∀u d,aJ X aa σ H d->aP v u->Q u d):Ff (Fg X.p X.w) A (getAttr (.ref a) f b) Q E s:=by let #[i,O,r,_,_,_]:=Ju I.hok e;let #[u,j,g]:=Am.some_of (v:=v) (o:=i f) ([<-l]\r f);show zlk I.kIn O (c.get f) c.hd n j (zhh g) (h u _ (I.tok _) g)
def JR{d:Sem Bool}{Q:ai×zQ->ag->Prop}(I:aJ X aa σ H s)(e:H a=Z (.ins C dx fs))(c:AC X.K C)(k:zhi X.K C m g)(l:fs.lookup m=ae)(h:Q (.ref g,[.ref a]) s):Ff (Fg X.p X.w) A (getMethod (.ref a) m d) Q E s:=by let #[i,O,r,_,_,_]:=Ju I.hok e;let j:i m=ae:=Am.none_of ([<-l]\r m);show ziN I.kIn O (c.get m) k.at_ k.fn j h
def JS{Q:Unit->ag->Prop}(I:aJ X aa σ H s)(e:H a=Z (.ins C dx fs))(c:AC X.K C)(n:aK X.K C f)(G:fs.length<1000)(p:aP y u)(h:∀j,aJ X aa σ (upd H a (.ins C dx (xE f y fs))) j->Q PUnit.unit j):Ff (Fg X.p X.w) A (setAttr (.ref a) f u) Q E s:=by
 let #[k,O,r,i,_,l]:=Ju I.hok e;let t:(fs.map (·.1)).length<=Fb:=[bd,cp]\()
 show zll I.kIn O c.sa c.po n.taker c.hd i t λh' d m=>h _ ?_;let B:∃o,h'.get? dx=Z o:=let ⟨o,_,_,e',_⟩:=d.ns;{o,e'}
 show I.write (x:=a) (e:=dx) (e\gh) (.inr l) (λb q D z=>(m.2 b D).trans z) B ?_;show{zm O.ne\l,?_,O.ne,d.obj,_,d.ns,λg=>?_,λg w=>?_}
 .let:=Vq f y fs;lia
 .change Am ((xE f y fs).lookup g) (if g=f then Z u else k g);rw[Vp];by_cases q:g=f
  .show [ak q,ak q]\p
  .show [aj q,aj q]\r g
 .by_cases q:g=f
  .show q\(WD f y fs).1
  .show(WD f y fs).2 g (i g λz=>w ?_);change (if g=f then Z u else k g)=ae;show aj q\z
def aJ.made(I:aJ X aa σ H s):aJ X aa σ (upd (upd H s.heap.objs.size (.own (s.heap.objs.size+1))) (s.heap.objs.size+1) (.ins C s.heap.objs.size []))
  { s with heap:=(s.heap.push fQ).push (iE C s.heap.objs.size) }:=by
 let g:(s.heap.push fQ).get? s.heap.objs.size=Z fQ:=bq s.heap rfl;let n:((s.heap.push fQ).push (iE C s.heap.objs.size)).get? (s.heap.objs.size+1)=Z (iE C s.heap.objs.size):=by
  let:=bq (s.heap.push fQ) (o:=iE C s.heap.objs.size) rfl
  rwa [gX] at this
 let l:(s.heap.push fQ).Ns s.heap.objs.size (λ_=>ae):={fQ,#[],_,g,U,(λe k=>absurd k ?s),λ_=>rfl};let r:=I.laid (a:=s.heap.objs.size) (o:=.own (s.heap.objs.size+1)) (h':=s.heap.push fQ) (t':=s.toks) (λb u q=>bf _ q) (bh _) {_,g};show r.laid (a:=s.heap.objs.size+1) (o:=.ins C s.heap.objs.size []) (t':=s.toks) (λb u q=>bf _ q) (gC (gX _ _)) ?_;let d:s.heap.objs.size≠s.heap.objs.size+1:=bO (iH _);show{[zm d,zh]\_,bP _,d,n,λ_=>ae,(Heap.Ns1.of_empty l).at λo q=>bf _ q,λ_=>gh,λy j=>absurd U j}
def zlm{d:Env}{f:Str}{pos:Pos}{Q:Aa}(i:attributeBase e f d (eval e d)=eval e d)(h:Ff (Fg prog w) A (eval e d) (λo g=>Ff (Fg prog w) A (getAttr o f af) Q E g) E s):Ff (Fg prog w) A (eval (.Attribute e f pos) d) Q E s:=
 Attribute_any_ h ([arm_eval_Attribute,i]\_)
end
inductive zf6(K:bz)(f:Str)(Q:VK)(x:V)(H:Hp):Prop
 |mk (a C dx fs v:_):x=.ref a->H a=Z (.ins C dx fs)->AC K C->aK K C f->fs.lookup f=Z v->Q v H->zf6 K f Q x H
def  yq(K:bz)(ta:TE)(f:Str):TE:=λσ H Q=>ta σ H (zf6 K f Q)
inductive zcV(K:bz)(f:Str)(N:Hp->Prop)(y x:V)(H:Hp):Prop
 |mk (a C dx fs:_):x=.ref a->H a=Z (.ins C dx fs)->AC K C->aK K C f->fs.length<1000->N (upd H a (.ins C dx (xE f y fs)))->zcV K f N y x H
def  xw(K:bz)(ta d:TE)(f:Str):TS:=λD σ H=>d σ H λy g=>ta σ g (zcV K f (D.nx σ) y)
def  zol(X:Cx)(g:Operator)(d:V->V->Hp->VK->Prop):Prop:=
 ∀(aa:Ae)(s:ag)(σ:St)(H:Hp)(x y:V)(u v:ai)(Q:VK),aJ X aa σ H s->aP x u->aP y v->d x y H Q->Ff (Fg X.p X.w) X.A (inplaceOp g u v) (EP X aa σ Q) X.xe s
def  zf7(K:bz)(ta l:TE)(m:V->V->Hp->VK->Prop)(f:Str):TS:=λD σ H=>ta σ H λx k=>∃a C dx i v,x=.ref a/\k a=Z (.ins C dx i)/\AC K C/\aK K C f/\i.lookup f=Z v /\
 l σ k λy n=>m v y n λz j=>∃g d,j a=Z (.ins C g d)/\d.length<1000/\D.nx σ (upd j a (.ins C g (xE f z d)))
section
variable {o value:au}{f:Str}{pos' tpos:Pos}{tv:TE}
def zu(i:PE X e ta)(j:attributeBase e f X.e (eval e X.e)=eval e X.e):PE X (.Attribute e f pos) (yq X.K ta f):=by intro aa s σ H Q I h;show zlm j (aT (i aa s σ H _ I h) ?_);rintro u z ⟨x,t,r,d,a,C,dx,B,v,k,m,c,n,l,q⟩;subst k;obtain rfl:u=bC a:=d;show JQ r m c n l λw y p g=>{v,t,p,g,q}
def yj(r:PE X o ta)(m:PE X value tv)(p:swapsWith value (Z (.Attribute o f pos')) pos.line X.e=pure ah):PS X (.Assign [.Attribute o f pos'] value pos) (xw X.K ta tv f):=by intro aa s σ H D I h;show plainObj_wpAny_Assign_Attribute (aT (m aa s σ H _ I h) λu d ⟨y,G,B,g,q⟩=>aT (r aa d σ G _ B q) ?_) p;rintro k L ⟨x,N,z,i,a,C,dx,M,t,v,c,n,l,j⟩;subst t;obtain rfl:k=bC a:=i;show JS z v c n l g λJ w=>{σ,_,w,j}
def zaD{i:V->V->Hp->VK->Prop}(N:PE X o ta)(M:PE X value tv)(d:zol X op i):PS X (.AugAssign (.Attribute o f tpos) op value pos) (zf7 X.K ta tv i f):=by intro aa s σ H D I h;show wpAny_AugAssign_AttributeAny (aT (N aa s σ H _ I h) ?_);rintro J s1 ⟨x,H1,I1,t,a,C,dx,fs,v,Q,T,c,n,l,q⟩;subst Q;obtain rfl:J=bC a:=t;show JQ I1 T c n l λu m I2 w=>aT (M aa m σ H1 _ I2 q) λj k ⟨y,H2,I3,r,G⟩=>aT (d aa k σ H2 v y u j _ I3 w r G) ?_;rintro w4 s4 ⟨z,H3,I4,p,al,O,g,L,B⟩;show JS I4 g c n L p λs5 I5=>{σ,_,I5,B}
def  zom:V->V->Hp->VK->Prop:=λx y H Q=>∃i j,x=.int i/\y=.int j/\Q (.int (i+j)) H
def ziO:zol X .Add zom:=by rintro aa s σ H x y u v Q I k g ⟨i,j,rfl,rfl,q⟩;let #[t,rfl]:=((∃t,u=gP i t)|>k);let #[d,rfl]:=((∃d,v=gP j d)|>g);show PyProof.Rows.iadd_int {.int (i+j),H,I.tok _,{_,U},q}
end
section
variable {Q:Aa}{c:ai}{b:Bool}
inductive Y5(K:bz)(H:Hp):V->ai->Prop where
 |non:Y5 K H .non (.type "NoneType")
 |bl (x:Bool):Y5 K H (.bl x) (.type "bool")
 |int (i:Int):Y5 K H (.int i) (.type "int")
 |str (x:Str):Y5 K H (.str x) (.type "str")
 |flt (x:UInt64):Y5 K H (.flt x) (.type "float")
 |lst {a:ac} {xs:LV} (e:H a=Z (.lst xs)):Y5 K H (.ref a) (.type "list")
 |frz {a:ac} {o:Obj} {xs:LV} (e:H a=Z (.frz o (.lst xs))):Y5 K H (.ref a) (.type "list")
 |tup {a:ac} {xs:LV} (e:H a=Z (.tup xs)):Y5 K H (.ref a) (.type "tuple")
 |dK {a:ac} {aI:xC} (e:H a=Z (.dK aI)):Y5 K H (.ref a) (.type "dict")
 |dT {a:ac} {aI:yd} (e:H a=Z (.dT aI)):Y5 K H (.ref a) (.type "dict")
 |ins {a C dx:ac} {fs:LSV} (e:H a=Z (.ins C dx fs)) (cl:AC K C) (ha:gR K (.ref C) "__class__"=Z (Z (.builtin "object.__class__"))) (hn:Bc K (.builtin "object.__class__") "__get__"=Z (Z (.builtin "getset_descriptor.__get__"))) (htk:W.takesIn K (.builtin "object.__class__")=Z af) (hm:Bs K C (.type "object")=Z af):Y5 K H (.ref a) (.ref C)
def zhj{x:V}(I:aJ X aa σ H s)(d:aP x u)(l:Y5 X.K H x t)(e:fS X.K t c=Z b)(h:∀m,Q (.bool b) { s with toks:=m }) :
  Ff (Fg X.p X.w) A (call (.builtin "isinstance") [u,c]) Q E s:=by
 cases l with
 |non=>cases (u=cb|>d);show iR W.kitx_none I.kIn gh e () h
 |bl y=>cases (u=lz y|>d);show iR W.kitx_bool I.kIn gh e () h
 |int i=>let #[t,q]:=((∃t,u=gP i t)|>d);cases q;show iR W.kitx_int I.kIn gh e () h
 |str y=>let #[t,q]:=((∃t,u=iQ y t)|>d);cases q;show iR W.kitx_str I.kIn gh e () h
 |flt y=>let #[t,q]:=((∃t,u=u7 y t)|>d);cases q;show iR W.kitx_float I.kIn gh e () h
 |@lst a j ea=>
  cases (u=bC a|>d);let #[_,_,n,_,g]:=(aQ X.p X.w H s.heap a (.lst j)|>I.hok a _ ea);show iR W.kitx_list I.kIn {_,g,U} e () h
 |@frz a ob j ea=>
  cases (u=bC a|>d);let #[_,_,_,n,_,g]:=(aQ X.p X.w H s.heap a (.frz ob (.lst j))|>I.hok a _ ea);show iR W.kitx_list I.kIn {_,g,U} e () h
 |@tup a j ea=>
  cases (u=bC a|>d);let #[_,_,_,p]:=(aQ X.p X.w H s.heap a (.tup j)|>I.hok a _ ea);let #[o,g,k,_]:=p;show iR W.kitx_tuple I.kIn {o,g,k} e () h
 |@dK a aI ea=>
  cases (u=bC a|>d);let #[_,_,w,_,p]:=(aQ X.p X.w H s.heap a (.dK aI)|>I.hok a _ ea);let #[o,r,v,g,k,_]:=p;show iR W.kitx_dict I.kIn {o,g,k.1} e () h
 |@dT a aI ea=>
  cases (u=bC a|>d);let #[_,_,j,_,o,r,v,g,k,_]:=(aQ X.p X.w H s.heap a (.dT aI)|>I.hok a _ ea);show iR W.kitx_dict I.kIn {o,g,k.1} e () h
 |@ins a C dx fs ea cl ha hn htk hm=>
  cases (u=bC a|>d);let #[B,O,_]:=Ju I.hok ea;let #[z,J,_]:=O.look;show iR (W.kitx_own (cl.get _) cl.hd ha hn htk hm) I.kIn J e () h
end
structure aY(k:Nat)(A:av):Prop where
 hd:A.handled=ae
 dp:A.depth+3*k+5<recursionLimit
 un:A.units+16*k+200<cLine
def aY.mono(r:aY k A)(h:j<=k):aY j A:={r.hd,by let:=r.dp;lia,by let:=r.un;lia}
def aY.deeper(r:aY (k+1) A)(d:Env):aY k (A.deeper d):=
 {r.hd,by let:=r.dp;change A.depth+1+3*k+5<_;lia,by let:=r.un;change A.units+3+16*k+200<_;lia}
def zeS{C:ac}{d:zQ}{g:List (Str×ai)}:(A.under (.builtin "type.__call__" {.ref C::d,g})).depth=A.depth+1:=by first|rfl|simp[uN,Code.weight,Code.isCreation,Code.isGuard,Code.isCaller,Code.frames,uO,guardIds]
def zeT{C:ac}{d:zQ}{g:List (Str×ai)}:(A.under (.builtin "type.__call__" {.ref C::d,g})).units=A.units+1:=by first|rfl|simp[uN,Code.cUnits,Code.frames,uO]
def aY.make(r:aY (k+1) A)(C:ac)(d:zQ)(g:List (Str×ai)):aY k (A.under (.builtin "type.__call__" {.ref C::d,g})):=
 {r.hd,by let:=r.dp;rw[zeS];lia,by let:=r.un;rw[zeT];lia}
def aY.depth(r:aY k A):A.depth<recursionLimit:=by let:=r.dp;lia
def aY.units(r:aY k A):A.units+64<cLine:=by let:=r.un;lia
def  zo:TA:=λ_ H Q=>Q [] H
def  zf(ta:TE)(g:TA):TA:=λσ H Q=>ta σ H λx j=>g σ j λd i=>Q (x::d) i
variable {es:List au}
section
variable {t:TA}
def zc:PA X [] zo:=λ_ _ _ _ H Q I h=>io {[],H,I,.nil,h}
def za(o:PE X e te)(n:PA X es t)(m:Fe (e::es) X.e=(ah,eval e X.e)::Fe es X.e:=by rfl):PA X (e::es) (zf te t):=by intro pos aa s σ H Q I h;rw[m];change Ff _ _ (spliced ((ah,eval e X.e)::backTo pos (Fe es X.e))) _ _ s;show eK (aT (o aa s σ H _ I h) ?_);rintro u g ⟨x,v,q,j,l⟩;show aT (n pos aa g σ v _ q l) λw y ⟨d,r,p,i,k⟩=>{x::d,r,p,.cons j i,k}
inductive zln(f:LV->HO)(Q:VK)(xs:LV)(H:Hp):Prop
 |mk:xs.length<=Fb->(∀p,H p=ae->Q (.ref p) (upd H p (f xs)))->zln f Q xs H
def  wS(t:TA):TE:=λσ H Q=>t σ H (zln .tup Q)
def  wT(t:TA):TE:=λσ H Q=>t σ H (zln .lst Q)
def yk{x1}(h:PA X es t):PE X (.Tuple es x1 pos) (wS t):=by intro aa s σ H Q I l;show wpAny_Tuple_spliced (aT (h pos aa s σ H _ I l) λk d ⟨j,i,g,r,z,q⟩=>{[<-r.length]\z,?_});let m:i d.heap.objs.size=ae:=g.hok.fresh (bh _);show{.ref d.heap.objs.size,upd i d.heap.objs.size (.tup j),g.laid (t':=d.toks) (λb u e=>bf _ e) (bh _) ?_,U,q _ m};show{z,k,r,{_,bq _ U,U,_,U}}
def zZ(h:PA X es t):PE X (.List es pos) (wT t):=by intro aa s σ H Q I l;show wpAny_List_spliced (aT (h pos aa s σ H _ I l) λk d ⟨j,i,g,r,z,q⟩=>{[<-r.length]\z,?_});let m:i d.heap.objs.size=ae:=g.hok.fresh (bh _);show{.ref d.heap.objs.size,upd i d.heap.objs.size (.lst j),g.laid (t':=d.toks) (λb u e=>bf _ e) (bh _) ?_,U,q _ m};show{z,k,0,r,bq _ U}
end
abbrev Sp:=LV->Hp->VK->XK->Prop
abbrev CXT:=LEv->Hp->ag->XK->Aa
structure Env0(P:am)(w:ap)(K:bz)(mg:At)(base:ao)(A:av)(outer:LEv)(s:ag)(H:Hp):Prop where
 frames:A.frames=Z outer
 mod:Mod K mg base
 bs:∀b o,base.get? b=Z o->s.heap.get? b=Z o/\H b=ae
 bsz:base.objs.size<=s.heap.objs.size
 funs:s.heap.FunFrames base outer
 frf:∀b∈Af outer,H b=ae
 hok:Ax P w H s.heap
 bare:AllBare s.gens
inductive CE(outer:LEv)(P:am)(w:ap)(H:Hp)(s:ag)(Q:VK)(u:ai)(s':ag):Prop
 |mk (v H':_) (f1:s'.os=s.os) (f2:AllBare s'.gens) (f3:Un (Af outer) [] H H' s.heap s'.heap) (f4:Ax P w H' s'.heap) (f5:aP v u) (f6:Q v H')
def  CR(i:CXT)(d:LEv)(P:am)(w:ap)(H:Hp)(s:ag)(Q:VK)(E:XK)(r:ay)(g:ag):Prop:=
 match r with
 |.ok (.ret u)=>CE d P w H s Q u g
 |.ok _=>False
 |.error e=>i d H s E e g
structure bv(P:am)(w:ap)(K:bz)(mg:At)(base:ao)(CX:CXT)(k:Nat)(f:ac)(fd:Fc)(ps:zO)(sp:Sp):Prop where
 len:∀vs H Q E,sp vs H Q E->vs.length=ps.length
 run:∀(A:av)(outer:LEv)(s:ag)(H:Hp)(args:Args)(us:zQ)(vs:LV)(Q:VK)(E:XK),aY k A->Env0 P w K mg base A outer s H->BindsTo s fd args (ps.zip us)->aO vs us->sp vs H Q E ->
  codeAny (Fg P w) A (.call (.ref f) args) (CR CX outer P w H s Q E) s
def bv.mono{w:ap}{K:bz}{mg:At}{base:ao}{CX:CXT}{j k:Nat}{f:ac}{fd:Fc}{ps:zO}{sp:Sp}(F:bv P w K mg base CX j f fd ps sp)(h:j<=k) :
  bv P w K mg base CX k f fd ps sp:={F.len,λA outer s H args us vs Q E d=>F.run A outer s H args us vs Q E (d.mono h)}
def Env0.make{w:ap}{K:bz}{mg:At}{base:ao}{A:av}{outer:LEv}{s:ag}{H:Hp}(e:Env0 P w K mg base A outer s H)(C:ac)(d:zQ)(g:List (Str×ai)) :
  Env0 P w K mg base (A.under (.builtin "type.__call__" {.ref C::d,g})) outer s H:={by first|show e.frames|(simpa[uN,Code.envs,uO,pushEnvs] using e.frames),e.mod,e.bs,e.bsz,e.funs,e.frf,e.hok,e.bare}
section
variable {s':ag}
def aJ.env0(I:aJ X aa σ H s):Env0 X.p X.w X.K X.mg X.M X.A X.k s H:=
 {I.ok.frames,I.ok.mod,I.bs,bR I.ok.bsz I.sz,I.stack,I.stkFree,I.hok,I.bare}
def aJ.after{Q:VK}(I:aJ X aa σ H s)(h:CE X.k X.p X.w H s Q u s'):EP X aa σ Q u s':=by let #[v,H',os,bare,un,hok,r,q]:=h;let #[k,g,d,t,j]:=s';obtain rfl:j=s.os:=os;show{v,H',I.call (h':=k) (g':=g) (d':=d) (t':=t) (ch:=[]) un hok bare (λb z=>absurd z ?s),r,q}
end
def  yn(i:Sp)(d:LV)(E:XK)(t:TA):TE:=λσ H Q=>t σ H λg j=>i (g++d) j Q E
inductive zeU(C:ac)(m:Str)(R:VK)(x:V)(H:Hp):Prop
 |mk (a dx fs:_):x=.ref a->H a=Z (.ins C dx fs)->fs.lookup m=ae->R x H->zeU C m R x H
def  zY(C:ac)(m:Str)(i:Sp)(d:LV)(E:XK)(ta:TE)(t:TA):TE:=λσ H Q=>ta σ H (zeU C m λx k=>t σ k λg j=>i (x::(g++d)) j Q E)
def  YH(C:ac)(j:Sp)(d:LV)(E:XK)(t:TA):TE:=λσ H Q=>t σ H λi g=>∀x dx,g x=ae->g dx=ae->dx≠x ->
 j (.ref x::(i++d)) (upd (upd g dx (.own x)) x (.ins C dx [])) (λv k=>v=.non/\Q (.ref x) k) E
def  hU(K:bz)(j:Fc)(g:zO)(i:zQ):Prop:=
 ∀(s:ag)(d:zQ),K.In s.heap->(d++i).length=g.length->BindsTo s j {d,[]} (g.zip (d++i))
def hU.all{K:bz}{i:Fc}(h:∀d:zQ,d.length=ps.length->bindArgs i {d,[]}=pure (ps.zip d)):hU K i ps []:=λs d _ g=>by rw[cV] at g ⊢;show .of_eq (h d g)
def  wI(g:CXT)(X:Cx)(E:XK):Prop:=∀(aa:Ae)(σ:St)(H:Hp)(s:ag)(e:ai)(d:ag),aJ X aa σ H s->g X.k H s E e d->X.xe e d
variable {CX:CXT}{fd:Fc}{ps:zO}{p mt:Pos}
section
variable {k:Nat}{sp:Sp}{dvs:LV}{ds:zQ}{E:XK}{x m:Str}{o:au}{t:TA}
def zeV{H:Hp}{Q:VK}(F:bv X.p X.w X.K X.mg X.M CX k f fd ps sp)(l:aY k X.A)(v:hU X.K fd ps ds)(q:aO dvs ds)(j:wI CX X E)(I:aJ X aa σ H s)(r:aO vs us)(h:sp (vs++dvs) H Q E):Ff (Fg X.p X.w) X.A (call (.ref f) us) (EP X aa σ Q) X.xe s:=by
 let g:aO (vs++dvs) (us++ds):=r.append q;let n:(us++ds).length=ps.length:=[<-g.length]\F.len _ _ _ _ h
 show mR (fV (F.run X.A X.k s H {us,[]} (us++ds) (vs++dvs) Q E l I.env0 (v s us I.kIn n) g h) λr i d=>?_);cases r with
 |error e=>show j aa σ H s e i I d
 |ok fl=>
  cases fl with
  |ret u=>show I.after d
  |next=>show dD d
  |brk=>show dD d
  |cont=>show dD d
def zlo(F:bv X.p X.w X.K X.mg X.M CX k f fd ps sp)(l:aY k X.A)(v:Gl X x)(n:X.mg x=Z (.ref f))(u:oX X.K (.ref f)=af)(z:hU X.K fd ps ds)(y:aO dvs ds)(j:wI CX X E)(B:PA X (e::es) t)(g:B1 x:=by lia)(w:Fe (e::es) X.e=(ah,eval e X.e)::Fe es X.e:=by rfl)(d:(backTo pos (Fe es X.e)).any (·.1)=ah:=by rfl) :
  PE X (.Call (.Name x p) (e::es) [] pos) (yn sp dvs E t):=by intro aa s σ H Q I h;show fq (wV I v n ?_ g);show oY (h₀:=X.M) I.ok.mod.kin u (aT (B pos aa s σ H _ I h) λG J ⟨D,L,i,r,q⟩=>{i.kIn,?_}) w d;show zeV F l z y j i r q
def zf8{pl:Sem Bool}(J:PE X o ta)(c:AC X.K C)(j:zhi X.K C m f)(F:bv X.p X.w X.K X.mg X.M CX k f fd ps sp)(G:aY k X.A)(M:hU X.K fd ps ds)(L:aO dvs ds)(B:wI CX X E)(N:PA X (e::es) t)(d:Fe (e::es) X.e=(ah,eval e X.e)::Fe es X.e:=by rfl)(g:(backTo pos (Fe es X.e)).any (·.1)=ah:=by rfl)(D:eval (.Call (.Attribute o m mt) (e::es) [] pos) X.e=(do
   let i <-eval o X.e
   standAt mt.atName
   let (f,first) <-holding [i] (getMethod i m pl)
   callWith pos f first (backTo pos (Fe (e::es) X.e)) (backToKw pos (keywordEach [] X.e))):=by rfl) :
  PE X (.Call (.Attribute o m mt) (e::es) [] pos) (zY C m sp dvs E ta t):=by intro aa s σ H Q I h;show W.methodCall_KW (pl:=pl) (aT (J aa s σ H _ I h) ?_) D;rintro u w ⟨x,H1,v,y,a,dx,fs,O,T,l,q⟩;subst O;obtain rfl:u=bC a:=y;show JR v T c j l ?_;show oY (first:=[.ref a]) (h₀:=X.M) I.ok.mod.kin j.kp (aT (N pos aa w σ H1 _ v q) λus s2 ⟨vs,H2,n,r,z⟩=>{n.kIn,?_}) d g;show zeV (us:=.ref a::us) (vs:=.ref a::vs) F G M L B n (.cons U r) z
def zcW{pl:Sem Bool}(w:PE X o ta)(c:AC X.K C)(i:zhi X.K C m f)(F:bv X.p X.w X.K X.mg X.M CX k f fd ps sp)(v:aY k X.A)(z:hU X.K fd ps ds)(y:aO dvs ds)(n:wI CX X E)(r:eval (.Call (.Attribute o m mt) [] [] pos) X.e=(do
   let g <-eval o X.e
   standAt mt.atName
   let (f,first) <-holding [g] (getMethod g m pl)
   callWith pos f first (backTo pos (Fe [] X.e)) (backToKw pos (keywordEach [] X.e))):=by rfl) :
  PE X (.Call (.Attribute o m mt) [] [] pos) (zY C m sp dvs E ta zo):=by intro aa s σ H Q I h;show W.methodCall_KW (pl:=pl) (aT (w aa s σ H _ I h) ?_) r;rintro u G ⟨x,L,d,j,a,dx,J,B,D,l,q⟩;subst B;obtain rfl:u=bC a:=j;show JR d D c i l ?_;show ug (first:=[.ref a]) d.kIn i.kp (zeV (us:=[.ref a]) (vs:=[.ref a]) F v z y n d (.cons U .nil) q)
structure Mk(K:bz)(C f:ac):Prop where
 makes:Bb K C=af
 init:gR K (.ref C) "__init__"=Z (Z (.ref f))
 fn:W.isFn K (.ref f)=af
 kp:oX K (.ref C)=af
def zcX{H:Hp}{Q:VK}(M:Mk X.K C f)(F:bv X.p X.w X.K X.mg X.M CX k f fd ps sp)(y:aY (k+1) X.A)(D:hU X.K fd ps ds)(B:aO dvs ds)(w:wI CX X E)(I:aJ X aa σ H s)(r:aO vs us)(h:∀x dx,H x=ae->H dx=ae->dx≠x->sp (.ref x::(vs++dvs)) (upd (upd H dx (.own x)) x (.ins C dx [])) (λv L=>v=.non/\Q (.ref x) L) E) :
  Ff (Fg X.p X.w) X.A (call (.ref C) us) (EP X aa σ Q) X.xe s:=by
 let j:=h (s.heap.objs.size+1) s.heap.objs.size (I.hok.fresh (iS _)) (I.hok.fresh (bh _)) (bO (iH _));let g:=aJ.made (C:=C) I;let i:aO (V.ref (s.heap.objs.size+1)::(vs++dvs)) (bC (s.heap.objs.size+1)::(us++ds)):=.cons U (r.append B);let z:(bC (s.heap.objs.size+1)::us++ds).length=ps.length:=by let e:=i.length;rw[F.len _ _ _ _ j] at e;show e.symm
 show mR (zcU (f:=f) I.kIn M.makes M.init (beq_iff_eq.mp M.fn) (fV (F.run _ X.k _ _ {bC (s.heap.objs.size+1)::us,[]} (bC (s.heap.objs.size+1)::(us++ds)) _ _ E (y.make C us []) (g.env0.make C us []) (D _ (bC (s.heap.objs.size+1)::us) g.kIn z) i j) λr l d=>?_))
 cases r with
 |error e=>show w aa σ _ _ e l g d
 |ok fl=>
  cases fl with
  |ret u=>
   let #[v,H',J,n,G,q]:=g.after d;subst G;show{n,{V.ref (s.heap.objs.size+1),H',J,U,q}}
  |next=>show dD d
  |brk=>show dD d
  |cont=>show dD d
def qG(M:Mk X.K C f)(F:bv X.p X.w X.K X.mg X.M CX k f fd ps sp)(l:aY (k+1) X.A)(u:Gl X x)(n:X.mg x=Z (.ref C))(y:hU X.K fd ps ds)(w:aO dvs ds)(j:wI CX X E)(z:PA X (e::es) t)(g:B1 x:=by lia)(v:Fe (e::es) X.e=(ah,eval e X.e)::Fe es X.e:=by rfl)(d:(backTo pos (Fe es X.e)).any (·.1)=ah:=by rfl) :
  PE X (.Call (.Name x p) (e::es) [] pos) (YH C sp dvs E t):=by intro aa s σ H Q I h;show fq (wV I u n ?_ g);show oY (h₀:=X.M) I.ok.mod.kin M.kp (aT (z pos aa s σ H _ I h) λD G ⟨B,J,i,r,q⟩=>{i.kIn,?_}) v d;show zcX M F l y w j i r q
def ziP(M:Mk X.K C f)(F:bv X.p X.w X.K X.mg X.M CX k f fd ps sp)(i:aY (k+1) X.A)(l:Gl X x)(j:X.mg x=Z (.ref C))(q:hU X.K fd ps ds)(n:aO dvs ds)(g:wI CX X E)(d:B1 x:=by lia):PE X (.Call (.Name x p) [] [] pos) (YH C sp dvs E zo):=by intro aa s σ H Q I h;show fq (wV I l j ?_ d);show ug I.kIn M.kp (zcX (us:=[]) M F i q n g I .nil h)
end
structure aG(N P:zO)(sc:ax):Prop where
 kind:sc.kind=.function
 co:sc.isCoroutine=ah
 gen:sc.isGenerator=ah
 nd:N.Nodup
 pre:N.take P.length=P
 par:∀x∈P,sc.names.lookup x=Z .local\/sc.names.lookup x=Z .cell
 nofree:∀y∈sc.names,y.2≠.free
def zaE{g:Str->Option NameKind}{x:Str}:∀ {d:List (Str×ai)}{m:At},(∀v,(x,v) ∉ d)->bindL g d m x=m x
 |[],_,_=>rfl
 |(n,v)::r,m,h=>by
  unfold bindL;rw[zaE λw i=>h w (br _ i)];split
  .let:x≠n:=by rintro rfl;show h v bp
   simp[this]
  .rfl
def zaF{g:Str->Option NameKind}{x:Str}:∀ {d:List (Str×ai)}{m:At},(∀v,(x,v) ∉ d)->bindC g d m x=m x
 |[],_,_=>rfl
 |(n,v)::r,m,h=>by
  unfold bindC;rw[zaF λw i=>h w (br _ i)];split
  .rfl
  .let:x≠n:=by rintro rfl;show h v bp
   simp[this]
def zaG{d:Str->Option NameKind}{x:Str}{v:ai}:∀ {P:zO}{g:zQ}{i:Nat}{m:At},P.Nodup->P[i]?=Z x->g[i]?=Z v->d x=Z .local ->
  bindL d (P.zip g) m x=Z v
 |[],_,_,_,_,h,_,_=>by simp at h
 |_::_,[],_,_,_,_,h,_=>by simp at h
 |p::P,w::g,0,m,nd,h1,h2,hk=>by simp at h1 h2;subst h1;subst h2;change bindL d ((p,w)::P.zip g) m p=_;unfold bindL;rw[zaE λv j=>(cW.mp nd).1 (sy j).1,ak hk];simp
 |p::P,w::g,i+1,m,nd,h1,h2,hk=>by change bindL d ((p,w)::P.zip g) m x=_;unfold bindL;show zaG (i:=i) (cW.mp nd).2 (<-h1) (<-h2) hk
def zaH{d:Str->Option NameKind}{x:Str}{v:ai}:∀ {P:zO}{g:zQ}{i:Nat}{m:At},P.Nodup->P[i]?=Z x->g[i]?=Z v->d x≠Z .local ->
  bindC d (P.zip g) m x=Z v
 |[],_,_,_,_,h,_,_=>by simp at h
 |_::_,[],_,_,_,_,h,_=>by simp at h
 |p::P,w::g,0,m,nd,h1,h2,hk=>by simp at h1 h2;subst h1;subst h2;change bindC d ((p,w)::P.zip g) m p=_;unfold bindC;rw[zaF λv j=>(cW.mp nd).1 (sy j).1,aj hk];simp
 |p::P,w::g,i+1,m,nd,h1,h2,hk=>by change bindC d ((p,w)::P.zip g) m x=_;unfold bindC;show zaH (i:=i) (cW.mp nd).2 (<-h1) (<-h2) hk
def  start(N:zO)(d:LV):St:=d.map Z++dF (N.length-d.length) ae
def  jh(CX:CXT)(P:am)(w:ap)(K:bz)(mg:At)(base:ao)(N:zO)(g:Str)(d:ax)(f:ac)(j:ai)(A:av)(outer:LEv)(s:ag)(H:Hp)(E:XK):Cx where
 p:=P
 w:=w
 K:=K
 mg:=mg
 M:=base
 A:=A.deeper (envOfC g d s.heap.objs.size f j)
 N:=N
 s₀:=s
 H₀:=H
 e:=envOfC g d s.heap.objs.size f j
 J:=outer
 k:=envOfC g d s.heap.objs.size f j::outer
 ex:=[]
 c:=af
 fn:=λ_=>af
 pn:=[]
 xe:=λe k=>Ff (Fg P w) (A.deeper (envOfC g d s.heap.objs.size f j)) (leaving (envOfC g d s.heap.objs.size f j) e) (λ_ i=>CX outer H s E e i) (λl i=>CX outer H s E l i) k
def zcY{d:ax}{n:Nat}{x:Str}(h:d.names.lookup x=Z .cell):∃c,(cellsFrom n d.names []).lookup x=Z c:=by let q:=W.cellsFrom_some d.names n [] (.inl h);show eY.mp q
def zhk{CX:CXT}{P:am}{w:ap}{K:bz}{O:At}{m:ao}{N ps:zO}{j:Str}{d:ax}{f:ac}{L:ai}{A:av}{g:LEv}{s s1:ag}{H:Hp}{E:XK}{M:zQ}{t:LV}
  (S:aG N ps d) (hd:A.handled=ae) (o:Env0 P w K O m A g s H) (hl:t.length=ps.length) (r:aO t M) (x:InCallC s s.heap.objs.size (bindL (envOfC j d s.heap.objs.size f L).kindOf (ps.zip M) λ_=>ae) (cellsFrom (s.heap.objs.size+1) d.names []) (bindC (envOfC j d s.heap.objs.size f L).kindOf (ps.zip M) λ_=>ae) s1) :
  aJ (jh CX P w K O m N j d f L A g s H E) [] (start N t) H s1:=by
 let al:ps.length<=N.length:=by let:=congrArg eA S.pre;rw[bQ] at this;lia
 let #[J,tk,rfl,T]:=x.done;let B:∀b:ac,b ∉ (jh CX P w K O m N j d f L A g s H E).ex:=λb z=>absurd (b∈([]:List ac)|>z) ?s;show{{o.mod,S.kind,U,U,bh _,λy z c J l=>?_,λy hy=>?_,λy c _ h=>?_,λ_=>hd,Around.frames_deeper o.frames,.inr {U,U},λb z=>absurd z (B b),o.bs,o.bsz,λb _ _=>B b,λb z=>absurd z (B b),o.funs,o.frf},
  rfl,o.bare,Un.kept T,{_,x.toInCall.ns,λi y v J l h3=>?_},λy c h=>{_,x.cell y c h},o.hok.fresh (bh _),λy c h=>?_,λp G=>absurd (p∈([]:Ae)|>G) ?s,o.hok.kept T,?_}
 .show name_of_addr x.apart (gI J) (gI l)
 .let hy:d.names.lookup y=Z .cell\/d.names.lookup y=Z .free:=hy;obtain hy|hy:=hy
  .show zcY hy
  .show absurd U (S.nofree _ (gI hy))
 .show ml (x.above y c (gI h))
 .let I:i<t.length:=by
   unfold start at l;by_cases I:i<t.length
   .show I
   .rw[dH (<-I)] at l;rw[rg] at l;split at l <;> cases l
  let ha:t[i]?=Z v:=by
   unfold start at l;rw[gY (<-I),bn] at l;cases e:t[i]? with
   |none=>rw[e] at l;cases l
   |some a=>rw[e] at l;cases l;rfl
  let #[u,Q,rv]:=r.get ha;let G:ps[i]?=Z y:=[<-S.pre,List.getElem?_take_of_lt ()]\J
  let D:ps.Nodup:=[<-S.pre]\S.nd.sublist (uE _ _)
  show{u,rv,?_};obtain k|k:=S.par y (b7 G)
  .show .inl {k,zaG D G Q k}
  .let #[c,e]:=zcY (n:=s.heap.objs.size+1) k;show .inr {.inl k,c,e,?_};let q:=x.cell y c e;rw[zaH D G Q (by change d.names.lookup y≠_;rw[k];decide)] at q;show q
 .show o.hok.fresh (ml (x.above y c (gI h)))
 .unfold start;change _=N.length;rw[bj,bd,iT];lia
def ziQ{CX:CXT}{P:am}{w:ap}{K:bz}{mg:At}{m:ao}{k:Nat}{f:ac}{G i:Str}{l:Arguments}{z:List aq}{d:ax}{dV kV aI pm j ct oc:ai}{an od:Option ac}
  {aM:Array (Option ai)} {N ps:zO} {sp:Sp} (lk:K.lookup f=Z {oc,od,.func (Bd G i l z d dV kV aI pm an j ct),aM}) (aW:u6 K j i=af) (S:aG N ps d) (T:∀D H Q E,sp D H Q E->D.length=ps.length) (M:∀(A:av)(g:LEv)(s:ag)(H:Hp)(D:LV)(Q:VK)(E:XK),aY k (A.deeper (envOfC i d s.heap.objs.size f j))->sp D H Q E ->
   ∃t,PSs (jh CX P w K mg m N i d f j A g s H E) z t/\t { nx:=λ_ H'=>Q .non H',rt:=Q } (start N D) H) :
  bv P w K mg m CX (k+1) f (Bd G i l z d dV kV aI pm an j ct) ps sp:=by
 show{T,λA g s H a1 us D Q E hr e0 hb r al=>?_};let hl:=T _ _ _ _ al;let KX:K.In s.heap:=e0.mod.kin.keeps λb o e=>(e0.bs b o e).1;let aS:s.heap.NoLimit:=e0.mod.nolimit.keeps λb o e=>(e0.bs b o e).1;let L:∀y∈ps.zip us,d.names.lookup y.1=Z .local\/(d.names.lookup y.1=Z .cell/\((cellsFrom (s.heap.objs.size+1) d.names []).lookup y.1).isSome=af):=λ⟨n,v⟩ hy=>by
  obtain q|q:=S.par n (sy hy).1
  .show .inl q
  .show .inr {q,W.cellsFrom_some _ _ _ (.inl q)}
 show codeAny_call_function hr.depth (KX _ _ lk) U S.co S.gen U (W.codeRec_of KX aW) (hb _ _ _ _ ?_);show wpAny_newFunctionEnv_cells S.kind L λa2 he s1 x=>?_;subst he;show{aS.keeps x.toInCall.keep,codeAny_func ?_};let #[t,ht,hq]:=M A g s H D Q E (hr.deeper _) al;let I:aJ (jh CX P w K mg m N i d f j A g s H E) [] (start N D) H s1:=zhk S hr.hd e0 hl r x;show dM (ht [] s1 (start N D) H _ I hq) (λfl s' O=>?_) λe s' O=>O;let ar:∀ {B:St}{H':Hp}{v:V}{u:ai},aJ (jh CX P w K mg m N i d f j A g s H E) [] B H' s'->aP v u->Q v H'->CE g P w H s Q u s':=
  λ{B H' v u} J rv q=>{v,H',J.os,J.bare,J.base,J.hok,rv,q}
 cases fl with
 |ret u=>
  let #[v,B,H',J,rv,q]:=O;show ar J rv q
 |next=>
  let #[B,H',J,q]:=O;show ar (v:=V.non) (u:=cb) J U q
 |brk=>
  let #[_,_,_,q]:=O;show dD q
 |cont=>
  let #[_,_,_,q]:=O;show dD q
section
variable {x:Str}{t:TA}{id T:String}{r:LV->Hp->VK->Prop}
def  Ad(r:LV->Hp->VK->Prop)(t:TA):TE:=λσ H Q=>t σ H λd g=>r d g Q
def zJ(w:wn X (.builtin id) r)(u:Gl X x)(q:X.mg x=ae)(n:Fh x=Z (.builtin id))(y:PA X (e::es) t)(o:x≠"__name__":=by lia)(g:B1 x:=by lia)(v:Fe (e::es) X.e=(ah,eval e X.e)::Fe es X.e:=by rfl)(d:(backTo pos (Fe es X.e)).any (·.1)=ah:=by rfl):PE X (.Call (.Name x p) (e::es) [] pos) (Ad r t):=by intro aa s σ H Q I h;show fq (ZH I u q n ?_ o g);show PyProof.Rows.callWith_builtin1 (aT (y pos aa s σ H _ I h) λj k ⟨i,B,z,l,m⟩=>w aa k σ B i j Q z l m) v d
def yi(w:wn X (.type T) r)(u:Gl X x)(q:X.mg x=ae)(n:Fh x=Z (.type T))(y:PA X (e::es) t)(o:x≠"__name__":=by lia)(g:B1 x:=by lia)(v:Fe (e::es) X.e=(ah,eval e X.e)::Fe es X.e:=by rfl)(d:(backTo pos (Fe es X.e)).any (·.1)=ah:=by rfl):PE X (.Call (.Name x p) (e::es) [] pos) (Ad r t):=by intro aa s σ H Q I h;show fq (ZH I u q n ?_ o g);show eu (aT (y pos aa s σ H _ I h) λj k ⟨i,B,z,l,m⟩=>w aa k σ B i j Q z l m) v d
end
end L2
namespace HT
open PySem PyProof.Rows
def rcLt_int(A:av)(s:ag)(a:Int)(t:Tok)(c:Int)(u:Tok)(b:am)(w:ap)(E:ai->ag->Prop)(Q:ai->ag->Prop)(h:Q (.bool (decide (a<c))) s) :
  Ff (Fg b w) A (richCompare .Lt (.int a t) (.int c u)) Q E s:=
 (tQ h:Ff (Fg b w) A (Fi .Lt (.int a t) (.int c u)) Q E s)
section
variable {prog:am}{w:ap}{A:av}{E:ai->ag->Prop}{s:ag}
def cat_tup{Q:ai->ag->Prop}(u:IsTup s.heap t vs.toArray)(v:IsTup s.heap b ws.toArray)(m:vs≠[])(y:ws=[]->Q (.ref t) s)(x:ws≠[]->Q (.ref s.heap.objs.size) { s with heap:=s.heap.push { cls:=.type "tuple",data:=.seq (vs++ws).toArray } })(i:vs.length+ws.length<=Fb):Ff (Fg prog w) A (binaryOp .Add (.ref t) (.ref b)) Q E s:=by
 let #[#[cls,q,data,k],h,p,n,o]:=id u;let #[#[r,g,j,c],a,f,l,d]:=id v;simp only at p o f d;subst p o f d;let e:vs.toArray++ws.toArray=(vs++ws).toArray:=?s
 by_cases hw:ws=[]
 .show concat_meets {_,h,U} {_,a,U} noFill_tuple_add seq_tuple_add rY rh (pN _ _) (tuple_addW1 t b vs.toArray ws.toArray n l q g k c (<-m) (by simp[hw])) {h,a,y hw}
 .show concat_meets {_,h,U} {_,a,U} noFill_tuple_add seq_tuple_add rY rh (pN _ _) (tuple_addW2 t b vs.toArray ws.toArray n l q g k c (<-m) (<-hw) ([bH,bH]\i)) {h,a,?_}
  show e\x hw
def  sIx(n d:Nat):Option Int->Nat
 |none=>d
 |some v=>if v<0 then (v+(n:Int)).toNat else min v.toNat n
def sIx_none(n d:Nat):sIx n d ae=d:=rfl
def sIx_nat(n d k:Nat):sIx n d (Z (k:Int))=min k n:=by change (if (k:Int)<0 then ((k:Int)+(n:Int)).toNat else min (k:Int).toNat n)=min k n;rw[aj (),cK]
def sIx_le(n d:Nat)(a:d<=n)(o:Option Int):sIx n d o<=n:=by
 cases o with
 |none=>show a
 |some v=>
  change (if v<0 then (v+(n:Int)).toNat else min v.toNat n)<=n;by_cases hv:v<0
  .rw[ak hv];lia
  .show aj hv\uS _ _
end
end HT
namespace L2
open PySem PySem.Spec PyProof.Rows
abbrev TO:=St->Hp->(Option Int->Hp->Prop)->Prop
def  PO(X:Cx)(e:Option au)(t:TO):Prop:=
 ∀(b:Ae)(s:ag)(a:St)(H:Hp)(Q:Option Int->Hp->Prop),aJ X b a H s->t a H Q ->
  Ff (Fg X.p X.w) X.A (evalPart e X.e) (λu d=>∃o c,aJ X b a c d/\IsPart u o/\Q o c) X.xe s
def  yo:TO:=λ_ H Q=>Q ae H
inductive zeW(Q:Option Int->Hp->Prop)(x:V)(H:Hp):Prop
 |mk (i:_):x=.int i->Q (Z i) H->zeW Q x H
def  yT(t:TE):TO:=λa H Q=>t a H (zeW Q)
abbrev yI:=List Int
def zeX{ns:yI}:∀ {a:zQ},aO (ns.map V.int) a->IntsAre a ns:=by
 induction ns with
 |nil=>intro a r;rw[iU] at r;cases r;show .nil
 |cons n ns ih=>
  intro a r;rw[bB] at r;cases r with
  |cons r1 r2=>
   let #[t,e]:=r1;subst e;show .cons n t (ih r2)
variable {X:Cx}{e:au}{pos:Pos}
section
variable {te:TE}{lo hi:Option au}{tl th:TO}{p2:Pos}
def yp:PO X ae yo:=by intro b s a H Q I h;show evalPart_none\bg {ae,H,I,.none,h}
def yb(h:PE X e te):PO X (Z e) (yT te):=by intro f s a H Q I d;rw[evalPart_some];show aT (h f s a H _ I d) ?_;rintro u k ⟨x,j,g,b,c⟩;let #[i,rfl,q]:=c;let #[t,rfl]:=b;show{Z i,j,g,.int i t,q}
def  SlR(X:Cx)(r:V->Option Int->Option Int->Hp->VK->Prop):Prop:=
 ∀(f:Ae)(s:ag)(a:St)(H:Hp)(x:V)(v c b:ai)(lo hi:Option Int)(d:ac)(Q:VK),aJ X f a H s->aP x v->s.heap.IsSliceOf d c b .none->IsPart c lo->IsPart b hi->r x lo hi H Q ->
  ∃T id,typeLookup (.type T) "__getitem__"=pure (Z (.builtin id))/\s.TypeIs v T/\Ff (Fg X.p X.w) X.A (getItem v (.ref d)) (EP X f a Q) X.xe s
def  AH(r:V->Option Int->Option Int->Hp->VK->Prop)(te:TE)(tl th:TO):TE:=λa H Q=>te a H λx d=>tl a d λl c=>th a c λu b=>r x l u b Q
def zV{r:V->Option Int->Option Int->Hp->VK->Prop}(A:SlR X r)(D:PE X e te)(B:PO X lo tl)(y:PO X hi th):PE X (.Subscript e (.Slice lo hi ae p2) pos) (AH r te tl th):=by intro d s c H Q I h;show Subscript_ (aT (D d s c H _ I h) ?_);rintro v k ⟨x,O,M,m,p⟩;show wpAny_Slice (aT (B d k c O _ M p) λg j ⟨l,N,L,w,o⟩=>aT (y d j c N _ L o) ?_);rintro f a ⟨u,i,J,t,n⟩;rw[evalPart_none];show bg ?_;let G:aJ X d c i { a with heap:=a.heap.push { cls:=.type "slice",data:=.fields #[g,f,.none] } }:=J.kept (t':=a.toks) λb ob q=>bf _ q;let #[T,id,E,z,C]:=A d { a with heap:=a.heap.push { cls:=.type "slice",data:=.fields #[g,f,.none] } } c i x v g f l u a.heap.objs.size Q G m (Heap.IsSliceOf.new ..) w t n;change Ff (Fg X.p X.w) X.A (subscriptTail e (.Slice lo hi ae p2) v (.ref a.heap.objs.size)) (EP X d c Q) X.xe { a with heap:=a.heap.push { cls:=.type "slice",data:=.fields #[g,f,.none] } };show tail_any (ops:=[.ref a.heap.objs.size,v]) z E C (by with_unfolding_all rfl)
def  vV(a:LV)(lo hi:Option Int):LV:=(a.drop (HT.sIx a.length 0 lo)).take (HT.sIx a.length a.length hi-HT.sIx a.length 0 lo)
def zcZ(a:LV)(lo hi:Option Int):(vV a lo hi).length<=a.length:=by unfold vV;rw[bQ,cz];lia
def  zc0(K:bz):R2:=λx y H Q=>∃a b d c,x=.ref a/\y=.ref b/\aV K H a d/\aV K H b c/\d≠[]/\d.length+c.length<=Fb /\
 (c=[]->Q (.ref a) H)/\(c≠[]->∀p,H p=ae->Q (.ref p) (upd H p (.tup (d++c))))
def aO.nil_iff(r:aO xs us):us=[]↔xs=[]:=by
 cases r with
 |nil=>simp
 |cons _ _=>simp
def Jv:Az X (binaryOp .Add) (zc0 X.K):=by intro E s C H x y v u Q I l k h;let #[a,b,j,i,rfl,rfl,B,A,t,g,n,m]:=h;cases l;cases k;let #[r,d,p,_]:=I.tuple B;let #[f,c,p2,_]:=I.tuple A;show HT.cat_tup p p2 (λz=>t (d.nil_iff.mp z)) (λz=>{.ref a,H,I,U,n (c.nil_iff.mp z)}) (λz=>?_) ([<-d.length,<-c.length]\g);show{.ref s.heap.objs.size,_,I.laid (t':=s.toks) (o:=.tup (j++i)) (λb D q=>bf _ q) (bh _) ?_,U,m (λw=>z (c.nil_iff.mpr w)) _ (I.hok.fresh (bh _))};show{bj\g,_,d.append c,IsTup.new _ _}
end
def  ixN(n:Nat)(i:Int):Option Nat:=if 0<=i then (if i<n then Z i.toNat else ae) else if -(n:Int)<=i then Z (i+n).toNat else ae
def  atI{α:Type}(a:List α)(i:Int):Option α:=(ixN a.length i).bind λj=>a[j]?
def zlp{i:Int}(h:ixN n i=Z j):seqIndex? i n=Z j/\j<n/\-(n:Int)<=i/\i<n:=by
 unfold ixN at h;by_cases h0:0<=i
 .rw[ak h0] at h;by_cases h1:i<n
  .rw[ak h1] at h;let e:i.toNat=j:=cf h;show{[seqIndex_of h0 h1,e]\_,(),(),h1}
  .rw[aj h1] at h;cases h
 .rw[aj h0] at h;by_cases h1:-(n:Int)<=i
  .rw[ak h1] at h;let e:(i+n).toNat=j:=cf h;show{[seqIndex_neg () h1,e]\_,(),h1,()}
  .rw[aj h1] at h;cases h
def zbH{b:Type}{a:List b}{i:Int}{v:b}(h:atI a i=Z v):∃j,seqIndex? i a.length=Z j/\a[j]?=Z v/\j<a.length/\-(a.length:Int)<=i/\i<a.length:=by
 unfold atI at h;cases e:ixN a.length i with
 |none=>rw[e] at h;cases h
 |some j=>
  rw[e] at h;let #[g,f,d,c]:=zlp e;show{j,g,h,f,d,c}
def yL{b:Type}{a:List b}{j:Nat}{v:b}(h:a[j]?=Z v):atI a (j:Int)=Z v:=by
 let c:j<a.length:=(bi.mp h).1;let e:ixN a.length (j:Int)=Z j:=by unfold ixN;rw[ak (),ak ()];simp
 unfold atI;show e\h
def  zf9(b:au):Prop:=∀o i,subscripted b ah o i=operate [o,i] (getItem o i)
def  IxR(X:Cx)(r:R2):Prop:=
 ∀(b a:au)(d:Ae)(s:ag)(c:St)(H:Hp)(x y:V)(v u:ai)(Q:VK),aJ X d c H s->aP x v->aP y u->r x y H Q ->
  subscripted a ah v u=operate [v,u] (getItem v u)->Ff (Fg X.p X.w) X.A (subscriptTail b a v u) (EP X d c Q) X.xe s
def  MtR(X:Cx)(id:String)(r:V->LV->Hp->VK->Prop):Prop:=
 ∀(d:Ae)(s:ag)(a:St)(H:Hp)(x:V)(b:LV)(v:ai)(c:zQ)(Q:VK),aJ X d a H s->aP x v->aO b c->r x b H Q ->
  Ff (Fg X.p X.w) X.A (call (.builtin id) (v::c)) (EP X d a Q) X.xe s
variable {mt aW:Pos}
section
variable {a b:au}{ta tb:TE}
def zoo{r:R2}(j:IxR X r)(l:PE X a ta)(k:PE X b tb)(i:zf9 b):PE X (.Subscript a b pos) (aL r ta tb):=by intro m s c H Q I h;show Subscript_ (znl l k I h λv u d x y o n g f q=>j a b m d c o x y v u Q n g f q (i _ _))
inductive wW(K:bz)(x y:V)(H:Hp)(Q:VK):Prop
 |mk (p xs i v:_):x=.ref p->y=.int i->aN K H p xs->atI xs i=Z v->Q v H->wW K x y H Q
inductive xO(K:bz)(x y:V)(H:Hp)(Q:VK):Prop
 |mk (p xs i v:_):x=.ref p->y=.int i->aV K H p xs->atI xs i=Z v->Q v H->xO K x y H Q
inductive zlq(x y:V)(H:Hp)(Q:VK):Prop
 |mk (z i c:_):x=.str z->y=.int i->z.length<=Fb->atI z.cps.toList i=Z c->Q (.str ⟨#[c]⟩) H->zlq x y H Q
def zW:IxR X (wW X.K):=by
 intro f g C s o H x y v u Q I G E h A;let #[p,xs,i,z,rfl,rfl,J,M,q]:=h;cases G;let #[t,rfl]:=E;let #[m,r,l,hz]:=I.list J;let #[j,d,T,h3,O,N]:=zbH M;let #[w,B,k]:=r.get T;let L:=r.length;let hn:=zbG;let c:EP X C o Q w s:={z,H,I,k,q};by_cases h0:0<=i
 .let n:i.toNat=j:=by rw[seqIndex_of h0 N] at d;show cf d
  show item_listR l.isList h0 () (by rw[n];simpa using B) c A
 .let n:(i+(m.toArray.size:Int)).toNat=j:=by rw[seqIndex_neg () O] at d;show [bH,<-L]\cf d
  show rZ (x:=w) l.isList.typeIs slot_list_getitem.lookup
   (wpAny_getItem_list_neg (Q:=λr D=>r=w/\EP X C o Q r D) l.isList () (by rw[bH] <;> lia) () (by rw[n];simpa using B) {U,c}) A
def zR:IxR X (xO X.K):=by
 intro c d m s k H x y v u Q I A o h C;let #[p,N,i,z,rfl,rfl,D,G,q]:=h;cases A;let #[t,rfl]:=o;let #[B,r,l,O]:=I.tuple D;let #[j,L,J,h3,h4,h5]:=zbH G;let #[w,M,f]:=r.get J;let E:=r.length;let T:=zbG;let g:EP X m k Q w s:={z,H,I,f,q};show rZ (x:=w) l.typeIs slot_tuple_getitem.lookup
  (getItem_tuple (j:=j) (Q:=λr n=>r=w/\EP X m k Q r n) l () () ([bH,<-E]\L) (<-M) {U,g}) C
def ziR:IxR X zlq:=by
 intro d f L s C H x y v u Q I l k h m;let #[z,i,c,rfl,rfl,E,o,q]:=h;let #[t,rfl]:=l;let #[D,rfl]:=k;let #[j,g,w,J,r,p]:=zbH o;let n:z.cps.toList.length=z.length:=by simp[eZ]
 rw[n] at g r p;let G:=zbG;show tail_any (ip s z t) slot_str_getitem.lookup (getItem_str (c:=c) (by let B:decide (i < -(2^63:Int))=ah:=Fk ();let A:decide (i >= 2^63)=ah:=Fk ();rw[B,A,rj]) (by rw[g];simpa using w) {.str ⟨#[c]⟩,H,I.tok _,{_,U},q}) m
def zbI(lo c:Option Int)(n:Nat):(sliceBounds lo c ae n).1=((HT.sIx n 0 lo:Nat):Int)/\(sliceBounds lo c ae n).2.1=((HT.sIx n n c:Nat):Int)/\(sliceBounds lo c ae n).2.2=1:=by
 show{?_,?_,U}
 .cases lo with
  |none=>simp[sliceBounds,HT.sIx]
  |some i=>
   simp only[sliceBounds,HT.sIx,uT,(1:Int) > 0|>(),if_true];by_cases h:i<0
   .simp only[h,if_true] <;> lia
   .simp only[h,if_false] <;> lia
 .cases c with
  |none=>simp[sliceBounds,HT.sIx]
  |some i=>
   simp only[sliceBounds,HT.sIx,uT,(1:Int) > 0|>(),if_true];by_cases h:i<0
   .simp only[h,if_true] <;> lia
   .simp only[h,if_false] <;> lia
def QN(c:zQ)(lo d:Option Int):slicePick c.toArray lo d ae=((c.drop (HT.sIx c.length 0 lo)).take (HT.sIx c.length c.length d-HT.sIx c.length 0 lo)).toArray:=by let #[h,g,f]:=zbI lo d c.toArray.size;unfold slicePick;rw[h,g,f];simp only[sliceRange_one,pick_run,bH] <;> rfl
inductive wz(K:bz)(x:V)(lo hi:Option Int)(H:Hp)(Q:VK):Prop
 |mk (a xs:_):x=.ref a->aN K H a xs->(∀p,H p=ae->Q (.ref p) (upd H p (.lst (vV xs lo hi))))->wz K x lo hi H Q
def yu:SlR X (wz X.K):=by intro B s u H x v y w f g z Q I j t l k h;let #[a,c,rfl,p,q]:=h;cases j;let #[m,r,i,n]:=I.list p;let d:=r.length;show{"list",_,slot_list_getitem.lookup,i.isList.typeIs,?_};show wpAny_getItem_list_slice i.isList t l k .none ?s ?_ (by rw[bH] <;> lia);rw[QN,<-d];show{.ref s.heap.objs.size,_,I.laid (t':=s.toks) (o:=.lst (vV c f g)) (λb A q=>bf _ q) (bh _) ?_,U,q _ (I.hok.fresh (bh _))};show{bR (zcZ c f g) n,_,0,(r.drop (HT.sIx c.length 0 f)).take (HT.sIx c.length c.length g-HT.sIx c.length 0 f),bq _ U}
def  Vr:V->Bool
 |.non=>af
 |.bl _=>af
 |.int _=>af
 |.str _=>af
 |_=>ah
def  eqV:V->V->Bool
 |.non,.non=>af
 |.bl a,.bl b=>a==b
 |.bl a,.int b=>(if a then 1 else 0)==b
 |.int a,.bl b=>a==(if b then 1 else 0)
 |.int a,.int b=>a==b
 |.str a,.str b=>a==b
 |_,_=>ah
def znn(f:aP y u)(c:aP x v)(h:Vr y=af)(g:Vr x=af):SeqAt.EqAt A s u v (eqV y x):=by
 cases y with
 |non=>
  cases f;cases x with
  |non=>cases c;show SeqAt.EqAt.same _
  |bl b=>cases c;show SeqAt.EqAt.none_bool b
  |int b=>let #[t,rfl]:=c;show SeqAt.EqAt.none_int b t
  |str b=>let #[t,rfl]:=c;show SeqAt.EqAt.none_str b t
  |_=>show absurd (ah=af|>g) bL
 |bl a=>
  cases f;cases x with
  |non=>cases c;show SeqAt.EqAt.bool_none a
  |bl b=>cases c;show SeqAt.EqAt.bool_bool a b
  |int b=>let #[t,rfl]:=c;show SeqAt.EqAt.bool_int a b t
  |str b=>let #[t,rfl]:=c;show SeqAt.EqAt.bool_str a b t
  |_=>show absurd (ah=af|>g) bL
 |int a=>
  let #[d,rfl]:=f;cases x with
  |non=>cases c;show SeqAt.EqAt.int_none a d
  |bl b=>cases c;show SeqAt.EqAt.int_bool a d b
  |int b=>let #[t,rfl]:=c;show oZ a d b t
  |str b=>let #[t,rfl]:=c;show ud a d b t
  |_=>show absurd (ah=af|>g) bL
 |str a=>
  let #[d,rfl]:=f;cases x with
  |non=>cases c;show SeqAt.EqAt.str_none a d
  |bl b=>cases c;show SeqAt.EqAt.str_bool a d b
  |int b=>let #[t,rfl]:=c;show ue a d b t
  |str b=>let #[t,rfl]:=c;show mC a d b t
  |_=>show absurd (ah=af|>g) bL
 |_=>show absurd (ah=af|>h) bL
def  eqU(x:V)(u:ai):Bool:=match u with
 |.none=>eqV .non x
 |.bool b=>eqV (.bl b) x
 |.int i _=>eqV (.int i) x
 |.str z _=>eqV (.str z) x
 |_=>ah
def ziS(r:aP y u)(f:Vr y=af):eqU x u=eqV y x:=by
 cases y with
 |non=>cases r;rfl
 |bl b=>cases r;rfl
 |int i=>let #[t,rfl]:=r;rfl
 |str z=>let #[t,rfl]:=r;rfl
 |_=>show absurd (ah=af|>f) bL
def XH{x:V}:∀ {c:LV}{d:zQ},aO c d->c.all Vr=af->d.any (eqU x)=c.any λy=>eqV y x
 |_,_,.nil,_=>rfl
 |y::c,u::d,.cons r t,f=>by rw[lD,bK] at f;rw[mD,mD,ziS r f.1,XH t f.2]
def ZL{A:av}{s:ag}{x:V}{v:ai}(g:aP x v)(h:Vr x=af):∀ {c:LV}{d:zQ},aO c d->c.all Vr=af->∀u∈d,SeqAt.EqAt A s u v (eqU x u)
 |_,_,.nil,_=>λu hu=>by cases hu
 |y::c,u::d,.cons r t,f=>λi hu=>by
  rw[lD,bK] at f;obtain rfl|hu:=bo.mp hu
  .show ziS r f.1\znn r g f.1 h
  .show ZL g h t f.2 i hu
def  inV(x:V)(c:LV):Bool:=c.any λy=>eqV y x
def  rIn(K:bz)(d:Bool):R2:=λx y H Q=>∃p c,y=.ref p/\(aN K H p c\/aV K H p c)/\Vr x=af/\c.all Vr=af/\Q (.bl (if d then !inV x c else inV x c)) H
def wO:Az X (Fi .In) (rIn X.K ah):=by
 intro o s m H x y v u Q I i k h;let #[p,n,rfl,hq,j,d,q]:=h;cases k;obtain hq|hq:=hq
 .let #[c,r,f,l]:=I.list hq;show SeqAt.in_listAt (eqU x) f.isList (λw g=>ZL i j r d w (<-g)) {.bl _,H,I,U,?_};show [c.toArray.any (eqU x)=c.any (eqU x)|>?s,XH r d]\q
 .let #[c,r,f,l]:=I.tuple hq;show SeqAt.in_tupleAt (eqU x) f (λw g=>ZL i j r d w (<-g)) {.bl _,H,I,U,?_};show [c.toArray.any (eqU x)=c.any (eqU x)|>?s,XH r d]\q
def zbJ:Az X (Fi .NotIn) (rIn X.K af):=by
 intro o s m H x y v u Q I i k h;let #[p,n,rfl,hq,j,d,q]:=h;cases k;obtain hq|hq:=hq
 .let #[c,r,f,l]:=I.list hq;show SeqAt.notIn_listAt (eqU x) f.isList (λw g=>ZL i j r d w (<-g)) {.bl _,H,I,U,?_};show [c.toArray.any (eqU x)=c.any (eqU x)|>?s,XH r d]\q
 .let #[c,r,f,l]:=I.tuple hq;show SeqAt.notIn_tupleAt (eqU x) f (λw g=>ZL i j r d w (<-g)) {.bl _,H,I,U,?_};show [c.toArray.any (eqU x)=c.any (eqU x)|>?s,XH r d]\q
def wX:wn X (.type "list") (ziM X.K):=by
 intro B s z H C D Q I r h;let #[p,m,rfl,hq,q]:=h;let #[u,rfl,A]:=xD r;cases A;let l:∀(c:zQ),aO m c->m.length<=Fb->∀(d:ao)(g:Nat),(∀b y,s.heap.get? b=Z y->d.get? b=Z y) ->
   d.get? s.heap.objs.size=Z { cls:=.type "list",dict:=ae,data:=.seq c.toArray g,slots:=#[] }->EP X B z Q (.ref s.heap.objs.size) { s with heap:=d }:=λc f j d g i e=>
  {.ref s.heap.objs.size,_,I.laid (t':=s.toks) i (bh _) (aQ X.p X.w _ d _ (.lst m)|>{j,c,g,f,e}),U,q _ (I.hok.fresh (bh _))}
 obtain hq|hq:=hq
 .let #[c,f,t,j]:=I.list hq;let k:=f.length;let #[o,v,x,n,w]:=t.isList;show call_list_seq p (.inl U) v x w (λd g i e=>l c f j d g i e) (by simp only[bH] <;> lia)
 .let #[c,f,t,j]:=I.tuple hq;let k:=f.length;let #[o,v,x,n,w]:=t;show call_list_seq p (.inr U) v x w (λd g i e=>l c f j d g i e) (by simp only[bH] <;> lia)
def YI:wn X (.type "tuple") (λk H Q=>∃p d,k=[.ref p]/\((aN X.K H p d/\∀l,H l=ae->Q (.ref l) (upd H l (.tup d)))\/(aV X.K H p d/\Q (.ref p) H))):=by
 intro t s j H k z Q I r h;let #[p,d,rfl,h]:=h;let #[u,rfl,w]:=xD r;cases w;obtain ⟨hq,q⟩|⟨hq,q⟩:=h
 .let #[c,g,i,m]:=I.list hq;let n:=g.length;show call_tuple_list i.isList (λf x=>?_) (by simp only[bH] <;> lia);let v:aJ X t j H { s with heap:=f }:=I.kept (t':=s.toks) x;let y:aJ X t j (upd H f.objs.size (.tup d)) { s with heap:=f.push { cls:=.type "tuple",data:=.seq c.toArray } }:=
   v.laid (t':=s.toks) (λb o e=>bf _ e) (bh _) (aQ X.p X.w _ _ _ (.tup d)|>{m,c,g,IsTup.new _ _})
  show{.ref f.objs.size,_,y,U,q _ (v.hok.fresh (bh _))}
 .let #[c,g,i,m]:=I.tuple hq;show call_tuple_same i {.ref p,H,I,U,q}
def  tyV(K:bz)(T:String)(x:V)(H:Hp):Prop:=match x with
 |.str _=>T="str"
 |.int _=>T="int"
 |.ref p=>(T="list"/\∃d,aN K H p d)\/(T="tuple"/\∃o,K.lookup p=Z o/\o.cls=.type "tuple"/\o.dict=ae) \/
   (T="dict"/\((∃c,H p=Z (.dK c))\/∃c,H p=Z (.dT c)))\/(T="set"/\∃S n,H p=Z (.set S n))
 |_=>False
def ziT{l:St}{H:Hp}{s:ag}{T:String}{x:V}{v:ai}(I:aJ X aa l H s)(r:aP x v)(f:tyV X.K T x H) :
  s.TypeIs v T/\∀a,v=.ref a->∃k,s.heap.get? a=Z k/\k.dict=ae:=by
 cases x with
 |str z=>
  let #[t,rfl]:=r;cases (T="str"|>f);show{ip s z t,λ_ e=>nomatch e}
 |int i=>
  let #[t,rfl]:=r;cases (T="int"|>f);show{typeIs_int s i t,λ_ e=>nomatch e}
 |ref p=>
  cases r;obtain ⟨rfl,xs,hq⟩|⟨rfl,o,hk,hc,g⟩|⟨rfl,hk⟩|⟨rfl,S,n,hk⟩:=f
  .let #[m,_,j,_]:=I.list hq;show{j.isList.typeIs,λa e=>?_};cases e;let #[o,n,e,c,g,_]:=j;show{o,e,g}
  .show{{o,I.kIn p o hk,hc},λa e=>?_};cases e;show{o,I.kIn _ o hk,g}
  .let z:∃o,s.heap.get? p=Z o/\o.ExactDict:=by
    obtain ⟨aI,hk⟩|⟨aI,hk⟩:=hk
    .let #[_,_,_,_,o,_,_,e,d,_]:=I.hok p _ hk;show{o,e,d}
    .let #[_,_,_,_,o,_,_,e,d,_]:=I.hok p _ hk;show{o,e,d}
   let #[o,e,d]:=z;show{{o,e,d.1},λa h=>?_};cases h;show{o,e,d.2.1}
  .let #[o,_,_,_,e,d,_]:=I.hok p _ hk;show{{o,e,d.1},λa h=>?_};cases h;show{o,e,d.2.1}
 |_=>show dD f
def  zeY(K:bz)(T:String)(r:V->LV->Hp->VK->Prop)(f:TE):TE:=λd H Q=>f d H λx c=>tyV K T x c/\r x [] c Q
def  AK(K:bz)(T:String)(r:V->LV->Hp->VK->Prop)(g:TE)(t:TA):TE:=λc H Q=>g c H λx d=>tyV K T x d/\t c d λf h=>r x f h Q
variable {o:au}{es:List au}{to:TE}{t:TA}{name:Str}{T id:String}{r:V->LV->Hp->VK->Prop}
def WE(q:PlainAttrs T)(f:Slot T name id)(g:typeOf (.builtin id)=pure (.type "method_descriptor"))(w:MtR X id r)(u:PE X o to)(d:attributeBase o name X.e (eval o X.e)=eval o X.e:=by rfl)(c:(mt.endLine==aW.line)=af:=by rfl):PE X (.Call (.Attribute o name mt) [] [] aW) (zeY X.K T r to):=by intro k s i H Q I h;show rm d c (aT (u k s i H _ I h) ?_);rintro v n ⟨x,A,l,j,m,p⟩;let #[z,y]:=ziT l j m;show{T,id,q,f,g,z,y,dX U (tR (w k n i A x [] v [] Q l j .nil p))}
def yQ(D:PlainAttrs T)(g:Slot T name id)(k:typeOf (.builtin id)=pure (.type "method_descriptor"))(J:MtR X id r)(G:PE X o to)(L:PA X (e::es) t)(f:attributeBase o name X.e (eval o X.e)=eval o X.e:=by rfl)(i:((backTo aW (Fe (e::es) X.e)).all (λx=>!x.1)&&(backToKw aW (keywordEach [] X.e)).all (λx=>x.1.isSome)
   && decide ((e::es).length+([]:List Keyword).length+(if ([]:List Keyword).isEmpty then 0 else 1)<30))=af:=by rfl)(d:(mt.endLine==aW.line)=af:=by rfl)(E:Fe (e::es) X.e=(ah,eval e X.e)::Fe es X.e:=by rfl)(c:(backTo aW (Fe es X.e)).any (·.1)=ah:=by rfl) :
  PE X (.Call (.Attribute o name mt) (e::es) [] aW) (AK X.K T r to t):=by intro l s j H Q I h;show wpAny_Call_method_late f i d U (aT (G l s j H _ I h) ?_);rintro v z ⟨x,H1,p,m,w,C⟩;let #[N,M]:=ziT p m w;show{T,id,D,g,k,N,M,?_};let n:=L aW l z j H1 _ p C;rw[E] at n ⊢;show dX (by change (ah || (backTo aW (Fe es X.e)).any (·.1))=ah;rw[c] <;> rfl) (eI ?_);show aT n λu y ⟨q,H2,O,A,B⟩=>J l y j H2 x q v u Q O m A B
end
def  MtM(X:Cx)(id:String)(r:V->LV->Hp->VK->Prop):Prop:=
 ∀(d:Ae)(s:ag)(a:St)(H:Hp)(x:V)(b:LV)(v:ai)(c:zQ)(Q:VK),aJ X d a H s->aP x v->aO b c->r x b H Q ->
  Ff (Fg X.p X.w) X.A (call (.builtin id) (v::c)) (EP X d a Q) X.xe s
def aO.one:∀ {x:V}{a:zQ},aO [x] a->∃u,a=[u]/\aP x u
 |_,_,.cons r .nil=>{_,U,r}
def aO.zero:∀ {a:zQ},aO [] a->a=[]
 |_,.nil=>rfl
def aO.dropLast(h:aO xs us):aO xs.dropLast us.dropLast:=by
 induction h with
 |nil=>show .nil
 |cons r t ih=>
  cases t with
  |nil=>show .nil
  |cons q t'=>show .cons r ih
def aO.eraseIdx:∀ {a:LV}{b:zQ}(i:Nat),aO a b->aO (a.eraseIdx i) (b.eraseIdx i)
 |_,_,_,.nil=>.nil
 |_,_,0,.cons _ t=>t
 |_,_,i+1,.cons r t=>.cons r (aO.eraseIdx i t)
def zeZ{c:Type}(l:List c):l.eraseIdx (l.length-1)=l.dropLast:=by
 induction l with
 |nil=>rfl
 |cons a r ih=>
  cases r with
  |nil=>rfl
  |cons b r=>
   let e:(a::b::r).length-1=((b::r).length-1)+1:=by let f:(a::b::r).length=r.length+2:=rfl;let d:(b::r).length=r.length+1:=rfl;lia
   rw[e,mE,ih]
   all_goals rfl
def zaI{a:Type}:∀(l:List a)(i:Nat),(l.eraseIdx i).length<=l.length
 |[],_=>bh _
 |_::_,0=>iS _
 |_::r,i+1=>iI (zaI r i)
variable {aa:Ae}{σ:St}{H:Hp}{s:ag}
section
variable {l b:ac}{xs ys zs:LV}
def aJ.lset{its its':zQ}{n:Nat}{f:Array ai->Array ai}(I:aJ X aa σ H s)(k:H l=Z (.lst xs))(e:s.heap.get? l=Z { cls:=.type "list",data:=.seq its.toArray n })(h:f its.toArray=its'.toArray)(d:aO ys its')(a:ys.length<=Fb) :
  aJ X aa σ (upd H l (.lst ys)) { s with heap:=s.heap.update l (dN f),toks:=t' }:=by let q:=PySem.IsL.update e f;rw[h] at q;show I.write (x:=l) (e:=l) (k\trivial) (.inl U) (λo u j g=>(cg s.heap (dN f) (cY j)).trans g) {_,q} ?_;show{a,its',_,d,q}
def aJ.lnew(I:aJ X aa σ H s)(d:aO ys its)(a:ys.length<=Fb) :
  aJ X aa σ (upd H s.heap.objs.size (.lst ys)) { s with heap:=s.heap.push { cls:=.type "list",data:=.seq its.toArray },toks:=t' }:=
 I.laid (λ_ _ q=>bf _ q) (bh _) {a,its,0,d,bq _ U}
def aJ.fresh(I:aJ X aa σ H s):H s.heap.objs.size=ae:=I.hok.fresh (bh _)
def aJ.lstM(I:aJ X aa σ H s)(d:H l=Z (.lst xs)):xs.length<=Fb/\∃(a:zQ)(n:Nat),aO xs a/\xs.length=a.length/\s.heap.get? l=Z { cls:=.type "list",data:=.seq a.toArray n }:=by let #[z,a,n,r,e]:=I.hok l _ d;show{z,a,n,r,r.length,e}
def ziU(h:n<=Fb):mn n=ah:=by unfold mn;show Fk ()
end
inductive zbK(x:V)(vs:LV)(H:Hp)(Q:VK):Prop
 |mk (l xs y:_):x=.ref l->vs=[y]->H l=Z (.lst xs)->xs.length<Fb->Q .non (upd H l (.lst (xs++[y])))->zbK x vs H Q
def yE:MtM X "list.append" zbK:=by intro aa s σ H x i v j Q I c d h;let #[l,g,y,rfl,rfl,b,k,q]:=h;cases c;let #[u,rfl,f]:=d.one;let #[z,a,n,r,m,e]:=I.lstM b;show gF F.slot_list_append {_,e,U} F.entry_list_append (F.args_list_append_2 _ _) (PySem.list_append l a.toArray n u (bH\())) {e,?_};show{.non,_,I.lset (its':=a++[u]) b e ?s (r.append (.cons f .nil)) ?_,U,q};rw[bj,bN];lia
def  zga:V->LV->Hp->VK->Prop:=λx d H Q=>∃l b c a,x=.ref l/\d=[.ref b]/\H l=Z (.lst c)/\H b=Z (.lst a)/\c.length+a.length<=Fb/\Q .non (upd H l (.lst (c++a)))
def WF:MtM X "list.extend" zga:=by
 intro aa s σ H x C v D Q I i j h;let #[l,b,B,y,rfl,rfl,g,t,E,q]:=h;cases i;let #[u,rfl,k]:=j.one;cases k;let #[z,c,n,r,G,e]:=I.lstM g;let #[A,a,o,m,p,w]:=I.lstM t;let f:c.toArray.size+a.toArray.size<=Fb:=[bH,bH]\()
 let d:¬ (!c.toArray.isEmpty&&mn (c.toArray.size+a.toArray.size))=af:=[ziU f,tI]\bL
 show gF F.slot_list_extend {_,e,U} F.entry_list_extend (F.args_list_extend_2 _ _) (AutoSeq1.list_extend_list_list_0 l c.toArray n b a.toArray o d (bH\()) ()) {e,w,?_}
 show{.non,_,I.lset (its':=c++a) g e ?s (r.append m) ?_,U,q};rw[bj];lia
def  zop:V->LV->Hp->VK->Prop:=λx b H Q=>∃l a y,x=.ref l/\b=[]/\H l=Z (.lst a)/\a[a.length-1]?=Z y/\Q y (upd H l (.lst a.dropLast))
def WG:MtM X "list.pop" zop:=by
 intro aa s σ H x p v t Q I f g h;let #[l,o,y,rfl,rfl,d,j,q]:=h;cases f;let c:=g.zero;subst c;let #[z,a,n,r,m,e]:=I.lstM d;let #[u,k,i]:=r.get j;let b:a.toArray[a.toArray.size-1]?=Z u:=by change a.toArray[a.length-1]?=Z u;show [<-bU,<-m]\k
 show gF F.slot_list_pop {_,e,U} F.entry_list_pop (F.args_list_pop_1 _) (MeetsSeq.list_pop_last l a.toArray n u b (bH\())) {e,?_};show{y,_,I.lset (its':=a.dropLast) d e ?_ r.dropLast ?_,i,q}
 .change a.toArray.eraseIdxIfInBounds (a.toArray.size-1)=a.dropLast.toArray;rw[bH,mS,zeZ]
 .rw[List.length_dropLast];lia
inductive qH(x y:V)(H:Hp)(Q:VK):Prop
 |mk (l b xs zs:_):x=.ref l->y=.ref b->H l=Z (.lst xs)->H b=Z (.lst zs)->xs.length+zs.length<=Fb->(∀p,H p=ae->Q (.ref p) (upd H p (.lst (xs++zs))))->qH x y H Q
def xq:Az X (binaryOp .Add) qH:=by
 intro aa s σ H x y v u Q I f d h;let #[l,b,w,p,rfl,rfl,j,k,B,q]:=h;cases f;cases d;let #[z,c,n,r,C,e]:=I.lstM j;let #[t,a,A,g,i,o]:=I.lstM k;show PySem.P.add_list e o ?_ ([bH,bH]\());let m:c.toArray++a.toArray=(c++a).toArray:=?s
 show m\{.ref _,_,I.lnew (t':=s.toks) (r.append g) (bj\()),U,q _ I.fresh}
variable {A:av}{E:Aa}
section
variable {prog:am}{w:ap}
set_option maxRecDepth 100000 in
end
section
variable {κ:Type}[DecidableEq κ]
def  yD(b:List (κ×V))(k:κ):Option V:=(b.find? λa=>decide (a.1=k)).map (·.2)
def  xW(b:List (κ×V))(k:κ)(v:V):List (κ×V):=
 if (b.any λa=>decide (a.1=k))=af then b.map (λa=>if a.1=k then (a.1,v) else a) else b++[(k,v)]
def  yU(b:List (κ×V))(k:κ):List (κ×V):=b.filter λa=>decide (a.1≠k)
def ziV :yD ([]:List (κ×V)) k=ae:=rfl
def xl{p:κ×V}{r:List (κ×V)}(e:p.1=k):yD (p::r) k=Z p.2:=by simp[yD,iV,e]
def xm{p:κ×V}{r:List (κ×V)}(e:¬ p.1=k):yD (p::r) k=yD r k:=by simp[yD,iV,e]
def vW(k:κ):∀a:List (κ×V),(a.any λb=>decide (b.1=k))=(yD a k).isSome
 |[]=>rfl
 |p::r=>by
  rw[mD];by_cases e:p.1=k
  .simp only[xl e,Fj e,Bool.true_or,Option.isSome_some]
  .show [xm e,Fk e,Bool.false_or]\vW k r
def zc1(k j:κ)(y:V):∀c:List (κ×V),yD (c.map λa=>if a.1=k then (a.1,y) else a) j=(yD c j).map λx=>if j=k then y else x
 |[]=>rfl
 |p::r=>by
  let b:=zc1 k j y r;rw[bB];by_cases h:p.1=k
  .rw[ak h];by_cases e:p.1=j
   .rw[xl (p:=(p.1,y)) e,xl e,oG,ak (e.symm.trans h)]
   .rw[xm (p:=(p.1,y)) e,xm e,b]
  .rw[aj h];by_cases e:p.1=j
   .rw[xl (p:=p) e,xl e,oG,aj (λz=>h (e.trans z))]
   .rw[xm (p:=p) e,xm e,b]
def zaJ(k j:κ)(y:V):∀a:List (κ×V),yD a k=ae->yD (a++[(k,y)]) j=if j=k then Z y else yD a j
 |[],_=>by
  by_cases e:k=j
  .show ak e.symm\xl (p:=(k,y)) e
  .show aj (λz=>e z.symm)\xm (p:=(k,y)) e
 |p::r,hn=>by
  rw[fI];let b:¬ p.1=k:=λz=>by rw[xl z] at hn;cases hn
  rw[xm b] at hn;let c:=zaJ k j y r hn;by_cases e:p.1=j
  .rw[xl e,xl e,aj (λz=>b (e.trans z))]
  .rw[xm e,xm e,c]
def ziW(b:List (κ×V))(k j:κ)(y:V):yD (xW b k y) j=if j=k then Z y else yD b j:=by
 unfold xW;by_cases a:(b.any λc=>decide (c.1=k))=af
 .rw[ak a,zc1];rw[vW] at a;by_cases e:j=k
  .let #[x,d]:=eY.mp a;rw[ak e,e,d,oG,ak rfl]
  .rw[aj e];cases yD b j with
   |none=>rfl
   |some x=>rw[oG,aj e]
 .rw[aj a];show zaJ k j y b ?_;rw[vW] at a;cases q:yD b k with
  |none=>rfl
  |some x=>rw[q] at a;show(a U).elim
def ka(a:List (κ×V))(k:κ)(v:V):(xW a k v).length<=a.length+1:=by
 unfold xW;split
 .rw[bd];lia
 .rw[bj,bJ,iW];lia
def ZM{a:List (κ×V)}(v:V)(h:yD a k=ae):xW a k v=a++[(k,v)]:=by unfold xW;show [vW,h]\aj ()
def Am.isSome_eq(r:Am o u):o.isSome=u.isSome:=by
 cases o with
 |none=>cases u with
  |none=>rfl
  |some _=>show(False|>r).elim
 |some _=>cases u with
  |none=>show(False|>r).elim
  |some _=>rfl
def Am.getD(r:Am o u)(a:aP d d'):aP (o.getD d) (u.getD d'):=by
 cases o with
 |none=>cases u with
  |none=>show a
  |some _=>show(False|>r).elim
 |some _=>cases u with
  |none=>show(False|>r).elim
  |some _=>show r
def KV.val(r:KV aI vs)(k:κ):Am (yD aI k) (valueAt vs k):=by
 unfold KV at r;induction r with
 |nil=>show gh
 |@cons p q ps qs h t ih=>
  let #[c,d]:=h;by_cases e:p.1=k
  .let a:q.1=k:=c.symm.trans e;let b:valueAt (q::qs) k=Z q.2:=by simp[valueAt,iV,a]
   show [xl e,b]\d
  .let a:¬ q.1=k:=λz=>e (c.trans z);let b:valueAt (q::qs) k=valueAt qs k:=by simp[valueAt,iV,a]
   show [xm e,b]\ih
def KV.any(r:KV aI vs)(k:κ):(aI.any λa=>decide (a.1=k))=vs.any λa=>decide (a.1=k):=by
 unfold KV at r;induction r with
 |nil=>rfl
 |cons h t ih=>rw[mD,mD,ih,h.1]
def KV.repl(r:KV aI vs)(k:κ)(c:aP y u) :
  KV (aI.map λa=>if a.1=k then (a.1,y) else a) (vs.map λa=>if a.1=k then (a.1,u) else a):=by
 unfold KV at r ⊢;induction r with
 |nil=>show .nil
 |@cons p q ps qs h t ih=>
  rw[bB,bB];show .cons ?_ ih;let #[b,d]:=h;by_cases e:p.1=k
  .show [ak e,ak (b.symm.trans e)]\({b,c})
  .show [aj e,aj (λz=>e (b.trans z))]\({b,d})
def KV.put(r:KV aI vs)(k:κ)(a:aP y u):KV (xW aI k y) (stored vs k u):=by
 unfold xW stored;rw[r.any k];by_cases e:(vs.any λb=>decide (b.1=k))=af
 .show [ak e,ak e]\r.repl k a
 .show [aj e,aj e]\Paired.snoc r {U,a}
def KV.drop(r:KV aI vs)(k:κ):KV (yU aI k) (without vs k):=by
 unfold KV at r ⊢;unfold yU without;induction r with
 |nil=>show .nil
 |@cons p q ps qs h t ih=>
  let #[c,d]:=h;rw[nX,nX];by_cases e:p.1=k
  .let a:¬ decide (p.1≠k)=af:=by simp[e]
   let b:¬ decide (q.1≠k)=af:=by simp[c.symm.trans e]
   show [aj a,aj b]\ih
  .let f:¬ q.1=k:=λz=>e (c.trans z);let a:decide (p.1≠k)=af:=by simp[e]
   let b:decide (q.1≠k)=af:=by simp[f]
   show [ak a,ak b]\.cons {c,d} ih
def KV.length{a:List (κ×ai)}(r:KV aI a):aI.length=a.length:=bZ r
def zc2(a:List (κ×V))(k:κ):(yU a k).length<=a.length:=sB _ _
end
def Vs(r:aP (kV k) u):(ye P w).is k u=af:=by
 cases k with
 |inl i=>let #[t,e]:=((∃t,u=gP i t)|>r);subst e;show Vl P w i t
 |inr x=>let #[t,e]:=((∃t,u=iQ x t)|>r);subst e;show Vm P w x t
def WH{P:am}{w:ap}:∀ {ks:xu}{a:zQ},aO (ks.map kV) a->ItemsAre (ye P w) ks a
 |[],_,r=>by rw[iU] at r;cases r;show .nil
 |k::ks,_,r=>by
  rw[bB] at r;cases r with
  |cons h t=>show .cons (Vs h) (WH t)
abbrev KT(H:Hp):yd->List (xu×ac×ai)->Prop:=B0 λp q=>p.1=q.1/\H q.2.1=Z (.tup (p.1.map kV))/\aP p.2 q.2.2
def KT.val{H:Hp}{f:yd}{c:List (xu×ac×ai)}(r:KT H f c)(k:xu):Am (yD f k) ((atKey c k).map (·.2)):=by
 induction r with
 |nil=>show gh
 |@cons p q ps qs h t ih=>
  let #[d,_,g]:=h;by_cases e:p.1=k
  .let a:q.1=k:=d.symm.trans e;let b:atKey (q::qs) k=Z q.2:=by simp[atKey,iV,a]
   show [xl e,b]\g
  .let a:¬ q.1=k:=λz=>e (d.trans z);let b:atKey (q::qs) k=atKey qs k:=by simp[atKey,iV,a]
   show [xm e,b]\ih
def KT.repl{H:Hp}(r:KT H aI xs)(k:xu)(d:aP y u) :
  KT H (aI.map λb=>if b.1=k then (b.1,y) else b) (xs.map (putAt k u)):=by
 induction r with
 |nil=>show .nil
 |@cons p q ps qs h t ih=>
  rw[bB,bB];show .cons ?_ ih;let #[a,c,f]:=h;unfold putAt;by_cases e:p.1=k
  .show [ak e,ak (a.symm.trans e)]\({a,c,d})
  .show [aj e,aj (λz=>e (a.trans z))]\({a,c,f})
def KT.put{H:Hp}(r:KT H aI xs)(k:xu)(d:H b=Z (.tup (k.map kV)))(a:aP y u) :
  KT H (xW aI k y) (storedH xs k b u):=by
 let e:(aI.any λc=>decide (c.1=k))=(atKey xs k).isSome:=[vW,(r.val k).isSome_eq,pO]\_
 unfold xW storedH;rw[e];by_cases q:(atKey xs k).isSome=af
 .show [ak q,ak q]\r.repl k a
 .show [aj q,aj q]\Paired.snoc r {U,d,a}
def KT.keeps{H c:Hp}(r:KT H aI xs)(d:∀b a,H b=Z (.tup a)->c b=Z (.tup a)):KT c aI xs:=
 Paired.mapP r λ_ _ z=>{z.1,d _ _ z.2.1,z.2.2}
variable {a:ac}
section
variable {P:am}{w:ap}{h:ao}
def zmT(b:Ax P w H h)(e:Rd H a u):aQ P w H h a u:=e.ok b
def JT(b:Ax P w H h)(e:Rd H a (.dK aI)):aI.length<=Fb/\(a==sysModules)=ah/\∃vs,KV aI vs/\h.DictOf (ye P w) a vs:=
 aQ P w H h a (.dK aI)|>zmT b e
def ziX(b:Ax P w H h)(e:H a=Z (.dK aI)):aI.length<=Fb/\(a==sysModules)=ah/\∃vs,KV aI vs/\h.DictOf (ye P w) a vs:=JT b (.inl e)
def qI{b:xu}(d:Ax P w H h)(e:H a=Z (.tup (b.map kV))):(tupleKind (ye P w)).is h b a:=by let #[_,c,r,o,i,g,n,f]:=(aQ P w H h a (.tup (b.map kV))|>d a _ e);show{o,c.toArray,n,i,g,f,<-WH r}
def JU(c:Ax P w H h)(e:Rd H a (.dT aI)):aI.length<=Fb/\(a==sysModules)=ah /\
  ∃xs,KT H aI xs/\h.DictOfH (tupleKind (ye P w)) a xs:=by
 let #[z,y,xs,r,o,k,n,j,i,g,f,d]:=(aQ P w H h a (.dT aI)|>zmT c e);show{z,y,xs,r,o,k,n,j,i,g,f,λx hx=>?_,d};let b:∀ {l:yd}{m:List (xu×ac×ai)},KT H l m->∀x∈m,(tupleKind (ye P w)).is h x.1 x.2.1:=by
  intro l m q;induction q with
  |nil=>intro x hx;show nomatch hx
  |@cons p q ps qs hq t ih=>
   intro x hx;obtain e|hx:=bo.mp hx
   .subst e;show qI c ([<-hq.1]\hq.2.1)
   .show ih x hx
 show b r x hx
def zc3(b:Ax P w H h)(e:H a=Z (.dT aI)):aI.length<=Fb/\(a==sysModules)=ah /\
  ∃xs,KT H aI xs/\h.DictOfH (tupleKind (ye P w)) a xs:=JU b (.inl e)
end
def  Ay(H:Hp)(a:ac)(y:V)(r:Option V):Prop:=
 (∃c k,Rd H a (.dK c)/\y=kV k/\r=yD c k)\/∃c k b,Rd H a (.dT c)/\y=.ref b/\H b=Z (.tup (k.map kV))/\r=yD c k
def  DPut(H:Hp)(a:ac)(y v:V)(d:Hp):Prop:=
 (∃c k,H a=Z (.dK c)/\y=kV k/\c.length<Fb/\d=upd H a (.dK (xW c k v))) \/
 ∃c k b,H a=Z (.dT c)/\y=.ref b/\H b=Z (.tup (k.map kV))/\c.length<Fb/\d=upd H a (.dT (xW c k v))
def Ay.k{H:Hp}{k:Key}(e:H a=Z (.dK aI)):Ay H a (kV k) (yD aI k):=.inl {aI,k,.inl e,U,U}
def Ay.t{H:Hp}{c:yd}{k:xu}(e:H a=Z (.dT c))(d:H b=Z (.tup (k.map kV))):Ay H a (.ref b) (yD c k):=.inr {c,k,b,.inl e,U,d,U}
def DPut.k{H:Hp}{k:Key}(e:H a=Z (.dK aI))(b:aI.length<Fb):DPut H a (kV k) v (upd H a (.dK (xW aI k v))):=.inl {aI,k,e,U,b,U}
def DPut.t{H:Hp}{c:yd}{k:xu}{v:V}(e:H a=Z (.dT c))(f:H b=Z (.tup (k.map kV)))(d:c.length<Fb) :
  DPut H a (.ref b) v (upd H a (.dT (xW c k v))):=.inr {c,k,b,e,U,f,d,U}
variable {y:V}{u r:ai}
section
variable {v:V}{o:Option V}
def aJ.big(I:aJ X aa σ H s):sysModules<s.heap.objs.size:=by let h:Fd<s.heap.objs.size:=(I.mod.glob.keeps I.bk).lt;show sC () h
def zhl{Q:Aa}(x:A.units+1<cLine)(I:aJ X aa σ H s)(g:Ay H a y (Z v))(q:aP y u)(h:∀f n,aJ X aa σ H n->aP v f->Q f n) :
  Ff (Fg X.p X.w) A (getItem (.ref a) u) Q E s:=by
 obtain ⟨aI,k,e,ey,l⟩|⟨aI,k,b,e,ey,eb,l⟩:=g
 .subst ey;let #[z,C,w,d,m]:=JT I.hok e;let #[f,i,c]:=Am.some_of (v:=v) (o:=valueAt w k) (l\d.val k);show wpAny_getItem_of (Vs q) m.mapOf i (h f _ (I.tok _) c)
 .subst ey;cases (u=bC b|>q);let #[z,C,t,d,m]:=JU I.hok e;let #[f,i,c]:=Am.some_of (v:=v) (o:=(atKey t k).map (·.2)) (l\d.val k);let #[p,B,j]:=cj.mp i;show wpAny_getItem_heap (fu x) (qI I.hok eb) m B ?_;show j\h f _ (I.tok _) c
def zo7{Q:Aa}(m:A.units+1<cLine)(I:aJ X aa σ H s)(g:Ay H a y o)(j:aP y u)(h:∀i,aJ X aa σ H i->Q (.bool o.isSome) i) :
  Ff (Fg X.p X.w) A (Fi .In u (.ref a)) Q E s:=by
 obtain ⟨aI,k,e,ey,l⟩|⟨aI,k,b,e,ey,eb,l⟩:=g
 .subst ey;let #[z,d,p,c,f]:=JT I.hok e;show wpAny_in_of (Vs j) d f.mapOf ?_;show [<-(c.val k).isSome_eq,<-l]\h _ (I.tok _)
 .subst ey;cases (u=bC b|>j);let #[z,d,n,c,f]:=JU I.hok e;show wpAny_in_heap (fu m) (qI I.hok eb) d f ?_;let q:=(c.val k).isSome_eq;rw[pO] at q;show [<-q,<-l]\h _ (I.tok _)
def zlr{Q:Aa}(m:A.units+1<cLine)(I:aJ X aa σ H s)(g:Ay H a y o)(j:aP y u)(h:∀i,aJ X aa σ H i->Q (.bool (!o.isSome)) i) :
  Ff (Fg X.p X.w) A (Fi .NotIn u (.ref a)) Q E s:=by
 obtain ⟨aI,k,e,ey,l⟩|⟨aI,k,b,e,ey,eb,l⟩:=g
 .subst ey;let #[z,d,p,c,f]:=JT I.hok e;show wpAny_notIn_of (Vs j) d f.mapOf ?_;show [<-(c.val k).isSome_eq,<-l]\h _ (I.tok _)
 .subst ey;cases (u=bC b|>j);let #[z,d,n,c,f]:=JU I.hok e;show wpAny_notIn_heap (fu m) (qI I.hok eb) d f ?_;let q:=(c.val k).isSome_eq;rw[pO] at q;show [<-q,<-l]\h _ (I.tok _)
def Ys(I:aJ X aa σ H s)(d:Mut (H a))(f:cy a s.heap h')(g:∃q,h'.get? a=Z q)(c:aQ X.p X.w (upd H a ob) h' a ob) :
  aJ X aa σ (upd H a ob) { s with heap:=h',toks:=t' }:=
 I.write (x:=a) (e:=a) d (.inl U) (λb q h z=>(f.2 b h).trans z) g c
def ziY{w:ap}{i:Hp}{f:ao}{d:xC}{b:List (Key×ai)}(z:d.length<=Fb)(g:(a==sysModules)=ah)(c:KV d b)(h:f.DictOf (ye P w) a b) :
  aQ P w i f a (.dK d):={z,g,b,c,h}
def zhm{G:Hp}{Q:Unit->ag->Prop}(M:A.units+1<cLine)(I:aJ X aa σ H s)(g:DPut H a y v G)(x:aP y u)(B:aP v r)(h:∀w,aJ X aa σ G w->Q PUnit.unit w) :
  Ff (Fg X.p X.w) A (setItem (.ref a) u r) Q E s:=by
 obtain ⟨aI,k,e,ey,l,eH⟩|⟨aI,k,b,e,ey,eb,l,eH⟩:=g
 .subst ey eH;let #[z,p,L,d,t]:=ziX I.hok e;let j:L.length<=Fb:=[<-d.length]\z
  let n:(xW aI k v).length<=Fb:=by let:=ka aI k v;lia
  show wpAny_setItem_pairs (hsz:=j) (Vs x) t λC f m=>h _ ?_;let N:∃q,C.get? a=Z q:=let ⟨q,_,_,i,_⟩:=f;{q,i}
  show Ys I (e\gh) m N (ziY n p (d.put k B) f)
 .subst ey eH;cases (u=bC b|>x);let #[z,p,J,d,t]:=zc3 I.hok e;let j:J.length<=Fb:=[<-bZ d]\z
  let n:(xW aI k v).length<=Fb:=by let:=ka aI k v;lia
  show wpAny_setItem_heap (hsz:=j) (fu M) (qI I.hok eb) t λC f m=>h _ ?_;let #[q,es,ep,i,h2,h3,T,_,O]:=f;show Ys I (e\gh) m {q,i} {n,p,_,(d.put k eb B).keeps λc ys D=>?_,q,es,ep,i,h2,h3,T,O};show zm (zN D e ())\D
end
variable {aI:xC}
section
variable {k:Key}
def zmU{b:zQ}{Q:Aa}(I:aJ X aa σ H s)(e:H a=Z (.dK aI))(g:aP (kV k) u)(l:yD aI k=Z v)(p:b=[]\/∃x,b=[x])(h:∀d n,aJ X aa σ (upd H a (.dK (yU aI k))) n->aP v d->Q d n):Ff (Fg X.p X.w) A (call (.builtin "dict.pop") (.ref a::u::b)) Q E s:=by
 let #[z,J,m,c,w]:=ziX I.hok e;let #[d,B,j]:=Am.some_of (v:=v) (o:=valueAt m k) ([<-l]\c.val k);let D:(keyPart u).isSome=af:=by
  cases k with
  |inl i=>let #[t,q]:=((∃t,u=gP i t)|>g);subst q;rfl
  |inr x=>let #[t,q]:=((∃t,u=iQ x t)|>g);subst q;rfl
 let L:argsOk "dict.pop" {.ref a::u::b,[]}:=by
  obtain q|⟨x,q⟩:=p
  .subst q;show ro _ _
  .subst q;show rp _ _ _
 show nG fW w.typeIs mO L (meets_dict_pop_there (ye X.p X.w) a (Vs g) b p D)
  {m,d,w,[<-c.length]\z,B,λM f C=>h d _ ?_ j}
 let G:∃q,M.get? a=Z q:=let ⟨q,_,_,hq,_⟩:=f;{q,hq}
 show Ys I (e\gh) C G (ziY (bR (zc2 aI k) z) J (c.drop k) f)
def zno{Q:Aa}(I:aJ X aa σ H s)(e:H a=Z (.dK aI))(b:aP (kV k) u)(l:yD aI k=ae)(h:∀f,aJ X aa σ H f->Q r f) :
  Ff (Fg X.p X.w) A (call (.builtin "dict.pop") [.ref a,u,r]) Q E s:=by
 let #[z,n,d,c,g]:=ziX I.hok e;let m:valueAt d k=ae:=Am.none_of ([<-l]\c.val k);let j:(keyPart u).isSome=af:=by
  cases k with
  |inl i=>let #[t,q]:=((∃t,u=gP i t)|>b);subst q;rfl
  |inr x=>let #[t,q]:=((∃t,u=iQ x t)|>b);subst q;rfl
 show nG fW g.typeIs mO (rp _ _ _) (meets_dict_pop_default (ye X.p X.w) a (Vs b) n j r) {d,g,m,h _ (I.tok _)}
end
def  zoq(i:au):Prop:=∀b c,subscripted i ah b c=operate [b,c] (getItem b c)
def zls{E:Aa}{g:Env}{pos:Pos}{T id:String}{Q:Aa}
  (n:typeLookup (.type T) "__getitem__"=pure (Z (.builtin id))) (m:zoq slice) (h:Ff (Fg prog w) A (eval value g) (λo d=>Ff (Fg prog w) A (eval slice g) (λi s₂=>s₂.TypeIs o T/\Ff (Fg prog w) A (getItem o i) Q E s₂) E d) E s) :
  Ff (Fg prog w) A (eval (.Subscript value slice pos) g) Q E s:=by
 show Subscript_ (dM h (λo d k=>dM k (λi s₂ b=>?_) λ_ _ x=>x) λ_ _ x=>x);let #[l,b]:=b;unfold subscriptTail;show ba ?_;rw[getitemInPython_of_ne l.not_modules];show ba (sD l n ?_);let f:Ff (Fg prog w) A (subscripted slice ah o i) (λr c=>Ff (Fg prog w) A (letTemporaryGo value o r >>= λ_=>pure r) Q E c) E s₂:=m o i\wpAny_operating (dM b (λr c j=>ba (wpAny_letTemporaryGo (bg j))) λ_ _ x=>x)
 first
  |show bg (ba f)
  |show ba (bg (ba f))
  |show ba f
def zc4{H:Hp}(I:aJ X aa σ H s)(g:Ay H a y o):s.TypeIs (.ref a) "dict":=by
 obtain ⟨aI,k,e,_,_⟩|⟨aI,k,b,e,_,_,_⟩:=g
 .let #[_,_,f,_,c]:=JT I.hok e;show c.typeIs
 .let #[_,_,d,_,c]:=JU I.hok e;show c.typeIs
inductive ziZ(Q:VK)(x y:V)(H:Hp):Prop
 |mk (a v:_):x=.ref a->Ay H a y (Z v)->Q v H->ziZ Q x y H
def  zaK(c b:TE):TE:=λσ H Q=>c σ H λx d=>b σ d (ziZ Q x)
inductive zi0(N:Hp->Prop)(x y v:V)(H:Hp):Prop
 |mk (a H4:_):x=.ref a->DPut H a y v H4->N H4->zi0 N x y v H
def  XI(d b c:TE):TS:=λD σ H=>c σ H λv h=>d σ h λx g=>b σ g λy f=>zi0 (D.nx σ) x y v f
variable {td ty:TE}
section
variable {o i value:au}{pos' tpos:Pos}{tv:TE}
def kc(m:X.A.units+1<cLine)(p:PE X o td)(q:PE X i ty)(n:zoq i):PE X (.Subscript o i pos) (zaK td ty):=by intro aa s σ H Q I h;show zls PySem.F.slot_dict_getitem.lookup n (aT (p aa s σ H _ I h) λu d ⟨x,C,z,j,l⟩=>aT (q aa d σ C _ z l) ?_);rintro L J ⟨y,B,c,f,a,v,t,g,k⟩;subst t;obtain rfl:u=bC a:=j;show{zc4 c g,zhl m c g f λD G w b=>{v,B,w,b,k}}
def kg(p:X.A.units+1<cLine)(t:PE X o td)(w:PE X i ty)(n:PE X value tv)(q:swapsWith value (Z (.Subscript o i pos')) pos.line X.e=pure ah) :
  PS X (.Assign [.Subscript o i pos'] value pos) (XI td ty tv):=by intro aa s σ H D I h;show wpAny_Assign_Subscript (aT (n aa s σ H _ I h) λr c ⟨v,N,J,j,m⟩=>aT (t aa c σ N _ J m) λu b ⟨x,M,G,f,l⟩=>aT (w aa b σ M _ G l) ?_) q;rintro T Q ⟨y,H3,C,d,a,L,z,g,k⟩;subst z;obtain rfl:u=bC a:=f;show zhm p C g d j λO B=>{σ,L,B,k}
end
def zi1{H:Hp}(h:ao)(b:sysModules<h.objs.size):aQ P w H (h.push { cls:=.type "dict",data:=.dict #[] }) h.objs.size (.dK []):=
 {bP _,beq_eq_false_iff_ne.mpr (cY (bO b)),[],.nil,Heap.DictOf.new h}
def zc5{H:Hp}(h:ao)(b:sysModules<h.objs.size):aQ P w H (h.push { cls:=.type "dict",data:=.dict #[] }) h.objs.size (.dT []):=
 {bP _,beq_eq_false_iff_ne.mpr (cY (bO b)),[],.nil,_,#[],0,bq _ U,{U,U,U},U,U,gZ}
def  WI:TE:=λ_ H Q=>∀p,H p=ae->Q (.ref p) (upd H p (.dK []))
def  JV:TE:=λ_ H Q=>∀p,H p=ae->Q (.ref p) (upd H p (.dT []))
def ZN:PE X (.Dict [] [] pos) WI:=λaa s σ H Q I h=>
 wpAny_Dict_empty {.ref s.heap.objs.size,_,I.laid (a:=s.heap.objs.size) (o:=.dK []) (t':=s.toks) (λ_ _ q=>bf _ q) (bh _) (zi1 s.heap I.big),U,h _ (I.hok.fresh (bh _))}
def ZO:PE X (.Dict [] [] pos) JV:=λaa s σ H Q I h=>
 wpAny_Dict_empty {.ref s.heap.objs.size,_,I.laid (a:=s.heap.objs.size) (o:=.dT []) (t':=s.toks) (λ_ _ q=>bf _ q) (bh _) (zc5 s.heap I.big),U,h _ (I.hok.fresh (bh _))}
structure M1(X:Cx)(o:au)(m:Str)(mt:Pos)(e:au)(aW:Pos):Prop where
 base:attributeBase o m X.e (eval o X.e)=eval o X.e
 few:((backTo aW (Fe [e] X.e)).all (λx=>!x.1)&&(backToKw aW (keywordEach [] X.e)).all (λx=>x.1.isSome)
  && decide (([e]:List au).length+([]:List Keyword).length+(if ([]:List Keyword).isEmpty then 0 else 1)<30))=af
 line:(mt.endLine==aW.line)=af
 trees:backTo aW (Fe [e] X.e)=[(ah,eval e X.e)]
structure M2(X:Cx)(o:au)(m:Str)(mt:Pos)(e f:au)(aW:Pos):Prop where
 base:attributeBase o m X.e (eval o X.e)=eval o X.e
 few:((backTo aW (Fe [e,f] X.e)).all (λx=>!x.1)&&(backToKw aW (keywordEach [] X.e)).all (λx=>x.1.isSome)
  && decide (([e,f]:List au).length+([]:List Keyword).length+(if ([]:List Keyword).isEmpty then 0 else 1)<30))=af
 line:(mt.endLine==aW.line)=af
 trees:backTo aW (Fe [e,f] X.e)=[(ah,eval e X.e),(ah,eval f X.e)]
def  IsD(H:Hp)(a:ac):Prop:=(∃aI,Rd H a (.dK aI))\/∃aI,Rd H a (.dT aI)
def WJ{H:Hp}(I:aJ X aa σ H s)(d:IsD H a) :
  s.TypeIs (.ref a) "dict"/\(∀b,bC a=.ref b->∃c,s.heap.get? b=Z c/\c.dict=ae)/\(a==sysModules)=ah:=by
 obtain ⟨aI,e⟩|⟨aI,e⟩:=d
 .let #[_,g,k,_,f]:=JT I.hok e;show{f.typeIs,λb q=>?_,g};cases q;let #[c,_,_,i,h,_]:=f;show{c,i,h.2.1}
 .let #[_,g,j,_,f]:=JU I.hok e;show{f.typeIs,λb q=>?_,g};cases q;let #[c,_,_,i,h,_]:=f;show{c,i,h.2.1}
section
variable {d:V}{o:Option V}
def znq{Q:Aa}(t:A.units+1<cLine)(I:aJ X aa σ H s)(g:Ay H a y o)(n:aP y u)(p:aP d r)(h:∀j m,aJ X aa σ H m->aP (o.getD d) j->Q j m) :
  Ff (Fg X.p X.w) A (call (.builtin "dict.get") [.ref a,u,r]) Q E s:=by
 obtain ⟨aI,k,e,ey,l⟩|⟨aI,k,b,e,ey,eb,l⟩:=g
 .subst ey;let #[z,i,v,c,f]:=JT I.hok e;show nG nH f.typeIs r9 (rq _ _ _) (meets_dict_get_default (ye X.p X.w) a (Vs n) i r) {_,f.mapOf,h _ _ (I.tok _) ?_};show l\(c.val k).getD p
 .subst ey;cases (u=bC b|>n);let #[z,i,q,c,f]:=JU I.hok e;show nG nH f.typeIs r9 (rq _ _ _) (meetsH_dict_get_default (tupleKind (ye X.p X.w)) a b i r) {fu t,k,q,qI I.hok eb,f,h _ _ (I.tok _) ?_};show l\(c.val k).getD p
end
def  JW(td ty d:TE):TE:=λσ H Q=>td σ H λx c=>∃a,x=.ref a/\IsD c a/\ty σ c λy f=>d σ f λz b=>∃o,Ay b a y o/\Q (o.getD z) b
def  ze0(td ty:TE):TE:=λσ H Q=>td σ H λx c=>∃a,x=.ref a/\IsD c a/\ty σ c λy b=>∃aI k v,b a=Z (.dK aI)/\y=kV k/\yD aI k=Z v/\Q v (upd b a (.dK (yU aI k)))
def  znr(td ty d:TE):TE:=λσ H Q=>td σ H λx c=>∃a,x=.ref a/\IsD c a/\ty σ c λy f=>d σ f λz b=>∃aI k,b a=Z (.dK aI)/\y=kV k /\
 (∀v,yD aI k=Z v->Q v (upd b a (.dK (yU aI k))))/\(yD aI k=ae->Q z b)
section
variable {o f:au}{tx:TE}
def kY(B:X.A.units+1<cLine)(C:PE X o td)(G:PE X e ty)(D:PE X f tx)(m:M2 X o "get" mt e f aW):PE X (.Call (.Attribute o "get" mt) [e,f] [] aW) (JW td ty tx):=by
 intro aa s σ H Q I h;show lE m.base m.few m.line fA nH PySem.F.type_dict_get (aT (C aa s σ H _ I h) ?_);rintro u l ⟨x,H1,c,q,a,J,d,w⟩;subst J;obtain rfl:u=bC a:=q;let #[j,i,_]:=WJ c d;show{j,i,?_};rw[m.trees];show dX U (eI (eK (aT (G aa l σ H1 _ c w) λiv k ⟨y,T,N,p,v⟩=>
  eK (aT (D aa k σ T _ N v) λfv s3 ⟨z,O,M,n,ov,g,t⟩=>io ?_))))
 show znq B M g p n λw' s4 L b=>{_,O,L,b,t}
def JX(w:PE X o td)(z:PE X e ty)(m:M1 X o "pop" mt e aW):PE X (.Call (.Attribute o "pop" mt) [e] [] aW) (ze0 td ty):=by intro aa s σ H Q I h;show lE m.base m.few m.line fA fW nI (aT (w aa s σ H _ I h) ?_);rintro u j ⟨x,L,c,p,a,C,d,t⟩;subst C;obtain rfl:u=bC a:=p;let #[i,g,_]:=WJ c d;show{i,g,?_};rw[m.trees];show dX U (eI (eK (aT (z aa j σ L _ c t) λT O ⟨y,H2,J,n,aI,k,v,D,B,l,q⟩=>io ?_)));subst B;show zmU J D n l (.inl U) λM N G b=>{v,_,G,b,q}
def zc6(N:PE X o td)(T:PE X e ty)(O:PE X f tx)(m:M2 X o "pop" mt e f aW):PE X (.Call (.Attribute o "pop" mt) [e,f] [] aW) (znr td ty tx):=by
 intro aa s σ H Q I h;show lE m.base m.few m.line fA fW nI (aT (N aa s σ H _ I h) ?_);rintro u B ⟨x,H1,n,D,a,ex,d,M⟩;subst ex;obtain rfl:u=bC a:=D;let #[q,p,_]:=WJ n d;show{q,p,?_};rw[m.trees];show dX U (eI (eK (aT (T aa B σ H1 _ n M) λiv w ⟨y,H2,I2,g,L⟩=>
  eK (aT (O aa w σ H2 _ I2 L) λfv s3 ⟨z,H3,j,C,aI,k,i,ey,J,G⟩=>io ?_))))
 subst ey;cases l:yD aI k with
 |some v=>show zmU j i g l (.inr {fv,U}) λw' t c b=>{v,_,c,b,J v l}
 |none=>show zno j i g l λt c=>{z,H3,c,C,G l}
end
end L2
namespace Att
open PySem PySem.W PySem.Calls PyProof.Rows
def V8 :∀(ns:List Int)(c:List ai),WellAll P h c (ns.map WData.int)->IntsAre c ns:=by
 intro ns;induction ns with
 |nil=>
  intro c w;rw[iU] at w;cases w;show .nil
 |cons n ns ih=>
  intro c w;rw[bB] at w;cases w with
  |cons a b=>
   cases a;show .cons _ _ (ih _ b)
def zaL{l:OpenLaw}{n:Nat}(s:l.most=Z n){P:Params}{args:List WData}{c:List ai}
  (e:l.row.toRowW.claim.pre args=af) (j:WellAll P h c args) :
  ∃a m b,c=[bC a]/\args=[WData.list (b.map WData.int)]/\h.get? a=Z { cls:=.type "list",data:=.seq m.toArray }/\IntsAre m b/\b.length<=n:=by
 let k:WShape.hasAll [] args [.list .int]=af:=(pre_splitW e).1;let o:l.pre.holds [] { args:=args }=af:=(pre_splitW e).2;let #[d,r,rfl,v,u]:=hasAllW_cons k;obtain rfl:=hasAllW_nil u;let #[w,rfl,t]:=hasW_list v;let #[b,rfl]:=items_int t;let f:b.length<=n:=by
  unfold OpenLaw.pre at o;let i:(WTm.not (.lt (.lit (.int (n:Int))) (.len (.arg 0)))).holds [] { args:=[.list (b.map .int)] }=af:=by let i:=(holds_andW o).1;rw[s] at i;show i
  let g:=condW_of i (w_not (w_lt w_lit (w_len_list (w_arg U))));rw[bd] at g;show Nat.le_of_not_lt λq=>?_;let p:(n:Int)<((b.length:Nat):Int):=()
  first
   |(rw[Fj p] at g;show absurd g ())
   |(simp at g;lia)
 cases j with
 |cons w1 w2=>
  cases w2;cases w1 with
  |list ho hall=>show{_,_,b,U,U,ho,V8 b _ hall,f}
def zaM(l:OpenLaw)(args:List WData):l.row.toRowW.claim.post args (.bool af) args=af:=
 postW_of (r:=l.row.toRowW) (X:=(af==af))
  (WShape.has [] (.bool af) .bool=af|>by first|rfl|decide|simp[WShape.has,WShape.arms,WShape.armsAll])
  ((WTm.eq .res (.lit (.bool af))).value [] { args:=args,res:=Z (.bool af),after:=args }=Z (.bool (af==af))|>w_eq_bool (w_res U) w_lit) rfl
section
variable {prog:am}{w:ap}{A:av}{E:ai->ag->Prop}{s:ag}{K:Frag}
end
end Att
namespace L2
open PySem PySem.Spec PyProof.Rows
def zaN:∀ {a:zQ}{b:yI},IntsAre a b->aO (b.map V.int) a
 |_,_,.nil=>.nil
 |_,_,.cons n t h=>.cons {t,U} (zaN h)
def  zhn(H:Hp):Prop:=∀b,H b=ae\/∃o a,H b=Z (.frz o (.lst a))
def zc7{P:am}{w:ap}{K:bz}{B Q:At}{CX:CXT}{k:Nat}{fa a:ac}{fd:Fc}{x:Str}{sp:Sp}{s₁:ag}{p:zQ}{A:yI}
  (KX:K.In s₁.heap) (G:s₁.heap.Ns Fd B) (f:s₁.heap.Ns builtinsNs Q) (aa:∀x:Str,x≠"__name__"->Q x=Fh x) (I:s₁.heap.NoLimit) (hg:s₁.gens=#[]) (N:s₁.heap.get? a=Z { cls:=.type "list",data:=.seq p.toArray }) (hi:IntsAre p A) (hl:A.length<=Fb) (hr:aY k callerA) (F:∀i:ao,K.In i->i.Ns Fd B->bv P w K B i CX k fa fd [x] sp) (t:∀(s:ag)(u:ai),BindsTo s fd {[u],[]} [(x,u)]) (T:∀H:Hp,zhn H->aN K H a (A.map V.int)->sp [.ref a] H (λv _=>v=.bl af) λ_ _ _=>False) (al:∀H e g,CX [] H s₁ (λ_ _ _=>False) e g->False) :
  codeAny (Fg P w) callerA (.call (.ref fa) {[.ref a],[]}) (λr g=>r=.ok (.ret (.bool af))/\OldK s₁.heap g.heap/\g.os=s₁.os/\AllBare g.gens) s₁:=by
 let rv:=zaN hi;let C:=hi.length
 let l:∀H:Hp,zhn H->aN K H a (A.map V.int)->Ax P w H s₁.heap->(∀b,H b≠ae->b=a)->(H a≠ae->K.lookup a=ae) ->
   codeAny (Fg P w) callerA (.call (.ref fa) {[.ref a],[]}) (λr g=>r=.ok (.ret (.bool af))/\OldK s₁.heap g.heap/\g.os=s₁.os/\AllBare g.gens) s₁:=by
  intro H hO hS E hA hK;let c:∀ {b:ac}{o:Obj},s₁.heap.get? b=Z o->H b=ae->(zbF s₁.heap H).get? b=Z o:=λe n=>ziz e n;let O:∀ {b:ac}{o:Obj}{L:Array DictEntry}{ep:Nat},s₁.heap.get? b=Z o->o.data=.dict L ep->H b=ae:=λ{b o L ep} e d=>by
   cases q:H b with
   |none=>rfl
   |some u=>
    let e':b=a:=hA b (q\?s);subst e';rw[N] at e;cases e;let d':Data.seq p.toArray _=Data.dict L ep:=d;cases d'
  let j:∀ {b:ac}{m:At},s₁.heap.Ns b m->(zbF s₁.heap H).Ns b m:=λ{b m} ⟨o,L,ep,e,d,r⟩=>{o,L,ep,c e (O e d),d,r};let J:K.In (zbF s₁.heap H):=λb o e=>c (KX b o e) (by
   cases q:H b with
   |none=>rfl
   |some u=>
    let e':b=a:=hA b (q\?s);subst e';rw[hK (q\?s)] at e;cases e)
  let hM:Mod K B (zbF s₁.heap H):={J,j G,{Q,j f,aa},let ⟨mc,h1,h2⟩:=I;{mc,j h1,h2}};let e0:Env0 P w K B (zbF s₁.heap H) callerA [] s₁ H:={U,hM,λb o e=>zlf e,gC (zhb _ _),trivial,λb f=>absurd (b∈([]:List ac)|>f) ?s,E,.of_eq hg};show fV ((F _ J (j G)).run callerA [] s₁ H {[.ref a],[]} [.ref a] [.ref a] _ _ hr e0 (t s₁ (.ref a)) (.cons U .nil) (T H hO hS)) λr g h=>?_;cases r with
  |error e=>show(al H e g h).elim
  |ok fl=>
   cases fl with
   |next=>show dD h
   |brk=>show dD h
   |cont=>show dD h
   |ret u=>
    let #[v,H',os,M,un,D,r',q]:=h;let q':v=.bl af:=q;subst q';obtain rfl:u=lz af:=r';show{U,OldK.of_keep λb o e=>?_,os,M};cases q:H b with
    |none=>show un.keep b o e q (by intro z;show absurd (b∈([]:List ac)|>z) ?s) ?s
    |some u=>
     obtain z|⟨ob,xs,z⟩:=hO b
     .rw[q] at z;cases z
     .let z2:=un.frzs b ob _ z;let #[e1,_]:=E b _ z;let #[e2,_]:=D b _ z2;rw[e] at e1;cases e1;show e2
 cases hk:K.lookup a with
 |some o=>
  let e:=KX a o hk;rw[N] at e;cases e;show l (λ_=>ae) (λ_=>.inl U) (.inr {_,p.toArray,_,hk,U,U,U,[bH,C]\hl,<-rv}) (λb u z=>by let y:(ae:Option HO)=Z u:=z;cases y) (λb z=>absurd rfl z) λz=>absurd rfl z
 |none=>
  show l (λb=>if b=a then Z (.frz { cls:=.type "list",data:=.seq p.toArray } (.lst (A.map V.int))) else ae) (λb=>?_) (.inl (.inr {{ cls:=.type "list",data:=.seq p.toArray },ak U})) (λb u z=>?_) (λb z=>?_) λ_=>hk
  .by_cases f:b=a
   .show .inr {_,_,ak f}
   .show .inl (aj f)
  .by_cases f:b=a
   .let y:=(ak f).symm.trans z;cases y;subst f;show{N,bd\hl,p,_,rv,N}
   .let y:=(aj f).symm.trans z;cases y
  .by_cases f:b=a
   .show f
   .show absurd (aj f) z
abbrev KOf{K:bz}{h:ao}(_:K.In h):bz:=K
def  zK(s:aq)(j:Nat):aq:=match s with
 |.ClassDef _ _ _ body _ _ _ _ _ _ _=>body.getD j (.Pass {0,0,0,0})
 |_=>.Pass {0,0,0,0}
def  Yt(s:aq):Arguments:=match s with
 |.FunctionDef _ a _ _ _ _ _ _ _ _=>a
 |_=>{ posonlyargs:=[],args:=[],vararg:=ae,kwonlyargs:=[],kw_defaults:=[],kwarg:=ae,defaults:=[] }
def  xX(s:aq):List aq:=match s with
 |.FunctionDef _ _ b _ _ _ _ _ _ _=>b
 |_=>[]
def  zg(s:aq):ax:=match s with
 |.FunctionDef _ _ _ _ _ _ sc _ _ _=>sc
 |_=>{ kind:=.function,names:=[],isGenerator:=ah,isCoroutine:=ah }
abbrev E0:XK:=λ_ _ _=>False
structure Fun(K:bz)(x qual:Str)(st:aq)(f:ac)(fd:Fc):Prop where
 ex:∃(oc:ai)(od:Option ac)(kV doc pm:ai)(an:Option ac)(cdv ct:ai)(osl:Array (Option ai)),
  fd=Bd x qual (Yt st) (xX st) (zg st) .none kV doc pm an cdv ct/\K.lookup f=Z {oc,od,.func fd,osl}/\u6 K cdv qual=af
 kp:oX K (.ref f)=af
section
variable {P:am}{w:ap}{K:bz}{mg:At}{base:ao}
def fun_mk{b:aq}{f:ac}{m:ai}{j i:Option ac}{e:Array (Option ai)}{kV d g a h:ai}(l:K.lookup f=Z {m,j,.func (Bd x qual (Yt b) (xX b) (zg b) .none kV d g i a h),e})(c:u6 K a qual=af)(k:oX K (.ref f)=af):Fun K x qual b f (Bd x qual (Yt b) (xX b) (zg b) .none kV d g i a h):={{m,j,kV,d,g,i,a,h,e,U,l,c},k}
end
def xt(a:aY k A):A.units+1<cLine:=dZ (tT (():1<=64) _) a.units
variable {X:Cx}
def Y(i:Nat){a:Pos}(e:X.N[i]?=Z x:=by rfl)(c:Vis X.e.scope x:=by first|show iy rfl|show Bo (iy U)|show Bo (Bo U))(d:B1 x:=by lia)(b:(x==("__classdict__":Str))=ah:=by lia):PE X (.Name x a) (zd i):=znh e c d b
def zo9{c A B:Prop}[Decidable c](b:c->A)(a:¬ c->B):if c then A else B:=by
 by_cases h:c
 .show ak h\b h
 .show aj h\a h
def  aH(H a:Hp):Prop:=∀b o,H b=Z o->a b=Z o
def aH.refl(H:Hp):aH H H:=λ_ _ h=>h
def aH.trans{H d H2:Hp}(a:aH H d)(b:aH d H2):aH H H2:=λc o h=>b c o (a c o h)
def aH.free{H a:Hp}(e:aH H a)(h:a l=Option.none):H l=Option.none:=by
 cases q:H l with
 |none=>rfl
 |some o=>
  rw[e l o q] at h;cases h
section
variable {κ:Type}[DecidableEq κ]
def zi2{a:List (κ×V)}{k:κ}(h:yD a k=ae):¬ k∈a.map (·.1):=by intro m;let #[p,c,e]:=bM.mp m;let q:(a.any λb=>decide (b.1=k))=af:=List.any_eq_true.mpr {p,c,Fj e};rw[vW,h] at q;show absurd q ?s
def zgc{a:List (κ×V)}{k:κ}{v:V}(h:yD a k=Z v):k∈a.map (·.1):=by
 let q:(a.any λb=>decide (b.1=k))=af:=by
  rw[vW,h]
  all_goals rfl
 let #[p,c,e]:=List.any_eq_true.mp q;show bM.mpr {p,c,of_decide_eq_true e}
def zgd:∀ {l:List κ}{k:κ},l.Nodup->¬ k∈l->(l++[k]).Nodup
 |[],k,_,_=>?s
 |a::r,k,h,hk=>by
  let #[c,b]:=cW.mp h;change (a::(r++[k])).Nodup;show cW.mpr {λm=>?_,zgd b λm=>hk (bo.mpr (Bo m))};obtain q|q:=bw.mp m
  .show c q
  .show hk (bo.mpr (iy (bu.mp q).symm))
def zlt{a:List (κ×V)}{k:κ}(v:V)(b:(a.map (·.1)).Nodup)(h:yD a k=ae):((xW a k v).map (·.1)).Nodup:=[ZM v h,bW]\zgd b (zi2 h)
def zho{p:κ×V}{r:List (κ×V)}(e:p.1=k):yU (p::r) k=yU r k:=by unfold yU;rw[nX,aj (by simp[e])]
def zaO{p:κ×V}{r:List (κ×V)}(e:¬ p.1=k):yU (p::r) k=p::yU r k:=by unfold yU;rw[nX,ak (by simp[e])]
def zhp{aI:List (κ×V)}{p:κ×V}(h:p∈yU aI k):p∈aI:=(eN.mp h).1
end
end L2
set_option Elab.async false
set_option linter.all false
set_option maxRecDepth 100000
set_option maxHeartbeats 4000000
namespace L2
open PySem PySem.Spec PyProof.Rows
def  Cx.comp(X:Cx)(a:ax)(c:List (Str×ac))(C:ac)(N:zO)(b:List ac)(s:ag)(H:Hp):Cx:=
 { X with e:=compEnvC a c C X.e,N:=N,s₀:=s,H₀:=H,J:=X.k,ex:=b,fn:=λ_=>ah,pn:=[],xe:=λ_ _=>False }
abbrev wU:=List Nat
structure kZ(X:Cx)(scope:ax)(cl:List (Str×ac))(ix:wU):Prop where
 clos:closureFor scope X.e=pure cl
 nocell:∀y∈scope.names,y.2≠.cell
 kind:scope.kind=.function
 names:∀y∈scope.names,y.2=.local->scope.names.lookup y.1=Z .local
 sub:∀y c,cl.lookup y=Z c->X.e.cells.lookup y=Z c
 has:∀y,((relabel scope X.e).names.lookup y=Z .cell\/(relabel scope X.e).names.lookup y=Z .free)->∃c,cl.lookup y=Z c
 cap:∀i∈ix,∃y,X.N[i]?=Z y/\(X.e.kindOf y=Z .cell\/X.e.kindOf y=Z .free)/\((relabel scope X.e).names.lookup y=Z .cell\/(relabel scope X.e).names.lookup y=Z .free)
def  jK(a:ax)(b:Env):List (Str×ac):=a.names.foldl (λc y=>if y.2==.free then (y.1,(b.cells.lookup y.1).getD 0)::c else c) []
def  zc8(a:ax)(N:zO)(b:ax)(c:wU):Bool:=
 b.kind==.function&&b.names.all (λy=>y.2 != .cell&&(y.2 != .local || b.names.lookup y.1==Z .local)&&(y.2 != .free || a.names.lookup y.1==Z .cell || a.names.lookup y.1==Z .free)) &&
  c.all λi=>match N[i]? with
   |some y=>b.names.lookup y==Z .free
   |none=>ah
def vX{l:List (Str×NameKind)}{y:Str}(h:l.lookup y=Z k):(y,k)∈l:=gI h
def qJ{a:Env}:∀ {b:List (Str×NameKind)}{x:Str}{k:NameKind},(b.map λ(n,k)=>if (k==eh&&a.scope.kind==.function&&a.kindOf n==Z .cell) then (n,rA) else (n,k)).lookup x=Z k ->
  ∃c,b.lookup x=Z c/\(c=.free\/c=k)
 |[],_,_,h=>by simp at h
 |(n,c)::r,x,k,h=>by
  let f:=@qJ a r x k;rw[bB] at h;cases hx:x==n with
  |true=>
   by_cases hc:(c==eh&&a.scope.kind==.function&&a.kindOf n==Z .cell)=af
   .let e:c=.free:=by let:=(bK _ _ ▸ (bK _ _ ▸ hc).1).1;simpa using this
    show{c,by simp[cE,hx],.inl e}
   .simp only[aj hc,cE,hx] at h;show{c,by simp[cE,hx],.inr (cf h)}
  |false=>
   let g:(r.map λ(n,k)=>if (k==eh&&a.scope.kind==.function&&a.kindOf n==Z .cell) then (n,rA) else (n,k)).lookup x=Z k:=by
    by_cases hc:(c==eh&&a.scope.kind==.function&&a.kindOf n==Z .cell)=af
    .simp only[ak hc,cE,hx] at h;show h
    .simp only[aj hc,cE,hx] at h;show h
   let #[q,e,d]:=f g;show{q,by simp only[cE,hx];show e,d}
def XJ{a:Env}:∀ {b:List (Str×NameKind)}{x:Str},b.lookup x=Z .free ->
  ((b.map λ(n,k)=>if (k==eh&&a.scope.kind==.function&&a.kindOf n==Z .cell) then (n,rA) else (n,k)).lookup x=Z .cell \/
   (b.map λ(n,k)=>if (k==eh&&a.scope.kind==.function&&a.kindOf n==Z .cell) then (n,rA) else (n,k)).lookup x=Z .free)
 |[],_,h=>by simp at h
 |(n,k')::r,x,h=>by
  let c:=@XJ a r x;rw[bB];cases hx:x==n with
  |true=>
   simp only[cE,hx] at h;cases h;by_cases hc:(eh==eh&&a.scope.kind==.function&&a.kindOf n==Z .cell)=af
   .left;simp only[ak hc,cE,hx]
   .right;simp only[aj hc,cE,hx]
  |false=>
   simp only[cE,hx] at h;by_cases hc:(k'==eh&&a.scope.kind==.function&&a.kindOf n==Z .cell)=af
   .simp only[ak hc,cE,hx];show c h
   .simp only[aj hc,cE,hx];show c h
def zaP{a:Env}:∀(l:List (Str×NameKind))(d:List (Str×ac)),(∀y∈l,y.2=.free->∃c,a.cells.lookup y.1=Z c) ->
  (∀y c,d.lookup y=Z c->a.cells.lookup y=Z c)->∀y c,(l.foldl (λd y=>if y.2==.free then (y.1,(a.cells.lookup y.1).getD 0)::d else d) d).lookup y=Z c->a.cells.lookup y=Z c
 |[],_,_,h,y,c,e=>h y c e
 |z::r,d,hl,h,y,c,e=>by
  rw[gJ] at e;show zaP r _ (λy j=>hl y (br _ j)) (λg n b=>?_) y c e;by_cases hz:z.2=.free
  .let #[m,i]:=hl z bp hz;let f:(z.2==eh)=af:=<-hz
   rw[ak f,i,cE] at b;cases hq:g==z.1 with
   |true=>
    rw[hq] at b;let k:g=z.1:=<-hq
    cases b;show k\i
   |false=>rw[hq] at b;show h _ _ b
  .let f:(z.2==eh)=ah:=<-hz
   rw[f] at b;show h _ _ b
def zc9{b:Env}:∀(l:List (Str×NameKind))(a:List (Str×ac))(y:Str),((∃c,a.lookup y=Z c)\/(y,eh)∈l) ->
  ∃c,(l.foldl (λa y=>if y.2==.free then (y.1,(b.cells.lookup y.1).getD 0)::a else a) a).lookup y=Z c
 |[],_,_,h=>h.elim id nofun
 |z::r,a,y,h=>by
  rw[gJ];show zc9 r _ y ?_;obtain ⟨c,h⟩|h:=h
  .left
   by_cases hz:(z.2==eh)=af
   .rw[ak hz,cE];cases y==z.1 with
    |true=>show{_,U}
    |false=>show{c,h}
   .show aj hz\({c,h})
  .obtain h|h:=bo.mp h
   .left
    subst h;rw[ak (by rfl),cE];simp
   .show .inr h
def zbL{a:Env}:∀(l:List (Str×NameKind))(b:List (Str×ac)),(∀y∈l,y.2=.free->∃c,a.cells.lookup y.1=Z c) ->
  forIn (m:=Sem) l b (λx r=>match x with|(name,kind)=>if (kind==eh)=af then do let c <-cellOf a name;pure (gK ((name,c)::r)) else pure (gK r)) =
   pure (l.foldl (λb y=>if y.2==.free then (y.1,(a.cells.lookup y.1).getD 0)::b else b) b)
 |[],_,_=>rfl
 |(n,k)::r,b,h=>by
  rw[Bf,gJ];by_cases hz:(k==eh)=af
  .let #[c,f]:=h (n,k) bp (<-hz);let e:cellOf a n=pure c:=by unfold cellOf;rw[f]
   simp only[hz,if_true,e,Bg];rw[zbL r _ λy d=>h y (br _ d)];simp only[f,Option.getD_some]
  .simp only[hz,if_false,Bg];show zbL r _ λy d=>h y (br _ d)
def qK(k:X.Ok)(h:zc8 osc N scope ix=af)(n:X.e.scope=osc)(r:X.N=N):kZ X scope (jK scope X.e) ix:=by
 subst n r;unfold zc8 at h;rw[bK,bK,cx,cx] at h;let #[#[v,u],t]:=h;let p:∀y∈scope.names,y.2≠.cell/\(y.2=.local->scope.names.lookup y.1=Z .local)/\(y.2=.free->X.e.kindOf y.1=Z .cell\/X.e.kindOf y.1=Z .free):=λy hy=>by
  let q:=u y hy;rw[bK,bK] at q;let #[#[j,d],b]:=q;show{<-j,λe=>?_,λe=>?_}
  .rw[e] at d;simpa using d
  .rw[e] at b;let a:X.e.scope.names.lookup y.1=Z .cell\/X.e.scope.names.lookup y.1=Z .free:=<-b
   show a
 let f:∀y∈scope.names,y.2=.free->∃c,X.e.cells.lookup y.1=Z c:=λy hy e=>k.has y.1 ((p y hy).2.2 e);show{?_,λy hy=>(p y hy).1,<-v,λy hy=>(p y hy).2.1,λy c e=>zaP scope.names [] f (λ_ _ z=>by simp at z) y c e,λy hy=>?_,λi o=>?_}
 .let e:=zbL scope.names [] f;unfold closureFor jK;show Eq.trans (congrArg (λm=>m >>= λs=>(pure s:Sem (List (Str×ac)))) e) ?_;rw[Bg]
 .show zc9 scope.names [] y (.inr ?_);obtain hy|hy:=hy
  .obtain⟨l,e,z|z⟩:=qJ hy
   .subst z;show vX e
   .subst z;show absurd U (p _ (vX e)).1
  .obtain⟨l,e,z|z⟩:=qJ hy
   .subst z;show vX e
   .subst z;show vX e
 .let q:=t i o;cases hy:X.N[i]? with
  |none=>rw[hy] at q;cases q
  |some y=>
   rw[hy] at q;let g:scope.names.lookup y=Z .free:=<-q
   show{y,U,(p _ (vX g)).2.2 U,XJ g}
def  ze1(b:wU)(a:St):St:=b.map λi=>(a[i]?).getD ae
def  wx(a:wU)(N:zO):zO:=a.map λi=>(N[i]?).getD ""
variable {X:Cx}{aa:Ae}{σ:St}{H:Hp}{s:ag}{scope:ax}{cl:List (Str×ac)}{ix:wU}{C:ac}{xs:zO}
section
variable {fp:List ac}
def aJ.compOk(I:aJ X aa σ H s)(S:kZ X scope cl ix)(g:C=s.heap.objs.size)(d:∀b∈fp,jJ X aa H b)(k:∀b∈fp,b<s.heap.objs.size)(n:zO) :
  (X.comp scope cl C n fp s H).Ok where
 mod:=I.ok.mod
 kind:=S.kind
 glob:=I.ok.glob
 blt:=I.ok.blt
 above:=gC g.symm
 inj:=λx y c f l=>I.ok.inj x y c (S.sub x c f) (S.sub y c l)
 has:=λx j=>S.has x j
 cab:=λx c f _=>nomatch f
 hd:=I.ok.hd
 frames:=I.ok.frames
 stk:=.inl rfl
 exf:=λb a=>{λz=>absurd (k b a) (by rw[z];change ¬ C<_;show g\gy _),λx c h=>(d b a).2.2.2.2.1 x c (S.sub x c h)}
 bs:=I.bs
 bsz:=bR I.ok.bsz I.sz
 noex:=λb o e a=>by
  rcases(d b a).2.2.2.1 with z|z
  .show I.ok.noex b o e z
  .show absurd (cn (bG e) (bR I.ok.bsz z)) (gy _)
 exfs:=λb a z=>by
  obtain e|e:=bo.mp (I.stkSub b z)
  .show(d b a).2.1 e
  .show(d b a).2.2.1 e
 funs:=I.stack
 frf:=I.stkFree
def aJ.comp{d:ao}{f:At}{t':Nat}(I:aJ X aa σ H s)(S:kZ X scope cl ix)(D:C=s.heap.objs.size)(T:∀b∈fp,jJ X aa H b)(Q:∀b∈fp,b<s.heap.objs.size)(O:d.Ns C f)(n:∀b o,s.heap.get? b=Z o->d.get? b=Z o) :
  aJ (X.comp scope cl C (xs++wx ix X.N) fp s H) [] (dF xs.length ae++ze1 ix σ) H { s with heap:=d,toks:=t' } where
 ok:=I.compOk S D T Q _
 os:=rfl
 bare:=I.bare
 base:=Un.kept n
 loc:=by
  show{f,O,λi y v e1 g e3=>?_};by_cases hi:i<xs.length
  .rw[gY (<-hi),rg,ak hi] at g;cases g
  .let a:(xs++wx ix X.N)[i]?=Z y:=e1;rw[dH ()] at a;rw[dH (iT\()),iT] at g;generalize i-xs.length=j at a g;unfold wx at a;unfold ze1 at g;rw[bn] at a g;cases hj:ix[j]? with
   |none=>rw[hj] at a;cases a
   |some k=>
    rw[hj] at a g;let #[t,J,G,E]:=S.cap k (b7 hj);let ey:t=y:=by let q:(X.N[k]?).getD ""=y:=cf a;rw[J] at q;show q
    subst ey;let ev:σ[k]?=Z (Z v):=by
     let q:(σ[k]?).getD ae=Z v:=cf g;cases hs:σ[k]? with
     |none=>rw[hs] at q;cases q
     |some o=>rw[hs] at q;show congrArg Z q
    let #[m,hm,L]:=I.loc;let #[u,r,l]:=L k t v J ev (G.elim (λz=>.inr (.inl z)) λz=>.inr (.inr z));show{u,r,.inr {E,?_}};obtain ⟨l1,_⟩|⟨_,c,lc,⟨o,A,B⟩⟩:=l
    .obtain z|z:=G <;> (rw[l1] at z;cases z)
    .let #[c',h]:=S.has t E;let e:=S.sub _ _ h;rw[lc] at e;cases e;show{c,h,o,n _ _ A,B}
 cell:=λx c e=>by let #[v,o,A,B]:=I.cell x c (S.sub x c e);show{v,o,n _ _ A,B}
 free:=I.hok.fresh (gC D.symm)
 freeC:=λx c e=>I.freeC x c (S.sub x c e)
 pin:=λp M=>absurd (p∈([]:Ae)|>M) ?s
 hok:=I.hok.kept n
 len:=by change (dF xs.length ae++ze1 ix σ).length=(xs++wx ix X.N).length;rw[bj,bj,iT,ze1,wx,bd,bd]
def aJ.uncomp{h:St}{g:Hp}{L:zO}{l:ao}(I:aJ X aa σ H s)(z:C=s.heap.objs.size)(y:∀b∈fp,jJ X aa H b)(J:aJ (X.comp scope cl C L fp s H) [] h g s')(f:cy C s'.heap l):aJ X aa σ g { s' with heap:=l }:=by
 let lt:∀b o,s.heap.get? b=Z o->b≠C:=λb o e=>z\bO (bG e)
 let B:Un (Af X.k) fp H g s.heap s'.heap:=J.base;show I.call' (s':={ s' with heap:=l }) (ch:=fp) J.os ?_ ?_ J.bare ?_
 .show{λb o e n d k=>(f.2 b (lt b o e)).trans (B.keep b o e n d k),λb o e n d k=>by
   let #[r,q]:=B.slot b o e n d k;show{r,(f.2 b (lt b o e)).trans q},B.free,λb o e d=>by let #[t,q]:=B.there b o e d;show{t,(f.2 b (lt b o e)).trans q},B.tups,B.frzs,B.tbls}
 .intro b o e;show(J.hok b o e).stay (λc u hc q=>(f.2 c ?_).trans q) (λ_ q=>q) λ_ _ q=>q;let a:g C=ae:=J.free;rintro rfl;obtain rfl|hc:=hc
  .rw[a] at e;cases e
  .rw[a] at hc;cases hc
 .intro b j;let #[O,G,M,E,D,A]:=y b j;show{E,G,D,A}
end
def  PTs(X:Cx)(a:List au)(t:TT):Prop:=
 ∀(aa:Ae)(s:ag)(σ:St)(H:Hp)(Q:Bool->Hp->Prop),aJ X aa σ H s->t σ H Q ->
  Ff (Fg X.p X.w) X.A (forIn a af λc r=>if r=af then do let b <-isTrue c X.e (eval c X.e);pure (gK b) else pure (gK r)) (TP X aa σ Q) X.xe s
def  JY:TT:=λ_ H Q=>Q af H
def wY :PTs X [] JY:=λ_ _ _ H _ I h=>wpAny_tests_nil {H,I,h}
def zbM(h:PT X c t):PTs X [c] t:=λaa s σ H Q I q=>wpAny_tests_one (h aa s σ H Q I q)
variable {prog:am}{A:av}{R:ay->ag->Prop}
section
variable {w:ap}
def XL{u a l:au}{t:List au}{scope:ax}{B:Pos}{M y:ai}{b:Env}(W:Nat->ag->Prop){EE:Aa}
  (O:∀e L,EE e L->notedBy (Fg prog w) A b (λe L=>R (.error e) L) e L) (z:∀n s,W n s->Ff (Fg prog w) A (pyNext M) (λr f=>match r with
   |none=>R (.ok .next) f
   |some v=>Ff (Fg prog w) A (letOwnedTupleGo a M v) (λ_ g=>Ff (Fg prog w) A (assign a b v) (λ_ k=>
     Ff (Fg prog w) A (forIn t af λc r=>if r=af then do let D <-isTrue c b (eval c b);pure (gK D) else pure (gK r)) (λD d=>
      if D=af then Ff (Fg prog w) A (eval u b) (λx j=>Ff (Fg prog w) A (call (.builtin "list.append") [y,x]) (λ_ i=>∃m,m<n/\W m i) EE j) EE d
      else ∃m,m<n/\W m d) EE k) EE g) EE f) EE s) (n:Nat) (h:W n s):codeAny (Fg prog w) A (.compLoop (.ListComp u [{a,l,t,0}] scope B) 0 M y b) R s:=by
 show codeAny_loop U W (λn s N=>?_) n h;change Ff _ A ((compTurn (.ListComp u [{a,l,t,0}] scope B) 0 M y b).onRaise (λx=>do noteFrame x b;theTreesLotGoes x)) _ _ s;show wpAny_noted (dM ?_ (λ_ _ q=>q) O);rw[compTurn_list];show ba (lG (ba (aT (z n s N) λr f p=>?_)));cases r with
 |none=>show bg p
 |some v=>
  show ba (aT p λ_ g E=>?_);show ba (aT E λ_ k J=>ba (aT J λD d o=>?_));cases D with
  |false=>show bg {U,o}
  |true=>show ba (ba (aT o λx j I=>ba (aT I λ_ i G=>bg (bg {U,G}))))
end
def  vx(o:TI)(g:TG)(p:TT)(q:TE)(k:Nat)(ix:wU):TE:=λσ H Q=>o σ H λJ n=>∀D,n D=ae ->
 ∃W:Nat->Nat->LV->Ah,(∃m,W 0 m [] (dF k ae++ze1 ix σ) (upd n D (.lst [])))/\∀i m e h H,W i m e h H->H D=Z (.lst e) /\
  ((J.stop i H/\Q (.ref D) H)\/(J.go i H/\e.length<Fb/\∃N:V->Ah,
   (∀v a d,N v a d->d D=Z (.lst e)/\∃f,f<m/\W (i+1) f (e++[v]) a (upd d D (.lst (e++[v]))))/\∃j:Ah,(∀a d,j a d->∃f,f<m/\W (i+1) f e a d) /\
   ∀x d,J.yld i H x d->g x h d λc t=>p c t λb l=>if b=af then q c l λv r=>N v c r else j c l))
variable {tg:au}{pos:Pos}{te:TE}
section
variable {elt iter:au}{ifs:List au}{wi:TI}{g:TG}{tt:TT}
def JZ(S:kZ X scope cl ix)(hc:X.c=af)(hi:PI X tg iter wi)(hg:∀C f s H,PG (X.comp scope cl C (xs++wx ix X.N) f s H) tg g)(ht:∀C f s H,PTs (X.comp scope cl C (xs++wx ix X.N) f s H) ifs tt)(he:∀C f s H,PE (X.comp scope cl C (xs++wx ix X.N) f s H) elt te)
  {H:Hp} {Q:VK} (I:aJ X aa σ H s) (h:vx wi g tt te xs.length ix σ H Q) {RR:ai->ac->ay->ag->Prop}
  (hR:∀v u G C,aP v u->(∃H',Q v H'/\(∃m,G.heap.Ns C m)/\(∀h',cy C G.heap h'->aJ X aa σ H' { G with heap:=h' })/\jJ X aa H' C)->RR u C (.ok .next) G) :
  Ff (Fg X.p X.w) X.A (eval iter X.e) (λx aM=>Ff (Fg X.p X.w) X.A (pyIter x) (λit aI=>Ff (Fg X.p X.w) X.A (newList []) (λa8 ar=>
   Ff (Fg X.p X.w) X.A (newFunctionEnv scope X.e.globals cl [] X.e.qual ae .none (Z X.e)) (λL an=>
    codeAny (Fg X.p X.w) X.A (.compStart (.ListComp elt [{tg,iter,ifs,0}] scope pos) 0 it a8 { L with scope:=relabel scope X.e }) (RR a8 L.locals) an) X.xe ar) X.xe aI) X.xe aM) X.xe s:=by
 show aT (hi aa s σ H _ I h) λv s1 h1=>aT h1 λbS a h2=>?_;let #[it,f,tn,J,H2,e,I2,T,a2,f2,hW]:=h2;subst e;show cC (tz S.nocell (λy hy=>nomatch hy) (λh₁ k j=>?_) S.kind);dsimp only at k j ⊢;let #[W,#[m0,w0],al]:=hW a.heap.objs.size I2.fresh;let I3:=I2.lnew (t':=a.toks) (ys:=[]) (its:=[]) .nil (bP _);let a6:∀b∈f,b<a.heap.objs.size:=λb c=>by let #[o,e,_]:=T.obj _ _ a2 b c;show bG e
 generalize hs3:({ a with heap:=a.heap.push { cls:=.type "list",data:=.seq ([]:zQ).toArray },toks:=a.toks }:ag)=s3 at I3;let D:s3.heap=a.heap.push { cls:=.type "list",data:=.seq ([]:zQ).toArray }:=[<-hs3]\_
 let a9:s3.heap.objs.size=a.heap.objs.size+1:=[D,gX]\_
 let f3:∀b∈f,jJ X aa (upd H2 a.heap.objs.size (.lst [])) b:=λb c=>by let #[q0,q]:=f2 b c;show{zm (bO (a6 b c))\q0,q}
 let a5:∀b∈f,b<s3.heap.objs.size:=λb c=>a9\gG (a6 b c)
 rw[<-D] at k j ⊢;let hk:∀b o,s3.heap.get? b=Z o->h₁.get? b=Z o:=λb o e=>(j.2 b (bO (bG e))).trans (bf _ e);let bk:∀b o,a.heap.get? b=Z o->s3.heap.get? b=Z o:=λb o e=>D\bf _ e
 let J0:=I3.comp (xs:=xs) (t':=a.toks) (C:=s3.heap.objs.size) S U f3 a5 k hk;let a1:tn 0 h₁:=T.keep _ _ _ a2 λb _ o e=>hk b o (bk b o e);let a4:∀t,codeAny (Fg X.p X.w) X.A (.compLoop (.ListComp elt [{tg,iter,ifs,0}] scope pos) 0 (.ref it) (.ref a.heap.objs.size) (compEnvC scope cl s3.heap.objs.size X.e)) (RR (.ref a.heap.objs.size) s3.heap.objs.size) { s3 with heap:=h₁,toks:=t }:=by
  intro t;show XL (EE:=λ_ _=>False) (λn G=>∃i ys E H',aJ (X.comp scope cl s3.heap.objs.size (xs++wx ix X.N) f s3 (upd H2 a.heap.objs.size (.lst []))) [] E H' G/\tn i G.heap/\(∀b∈f,H' b=ae)/\W i n ys E H')
   (λ_ _ z=>z.elim) ?_ m0 {0,[],_,_,J0.tok t,a1,λb c=>(f3 b c).1,w0}
  rintro n G ⟨i,ys,E,H',I',a3,a7,w'⟩;let w:∀ {H':Hp},(∀b∈f,H' b=ae)->∀b∈f,jJ (X.comp scope cl s3.heap.objs.size (xs++wx ix X.N) f s3 (upd H2 a.heap.objs.size (.lst []))) [] H' b:=λhn b c=>
   {hn b c,(I'.ok.exf b c).1,I'.ok.exfs b c,.inl c,(I'.ok.exf b c).2,λp hp=>absurd (p∈([]:Ae)|>hp) ?s}
  obtain⟨hD,⟨aS,q⟩|⟨go,hz,N,hN,Nf,bl,aW⟩⟩:=al i n ys E H' w'
  .show aT (T.done (X.comp scope cl s3.heap.objs.size (xs++wx ix X.N) f s3 (upd H2 a.heap.objs.size (.lst []))) U U U hc i [] G E H' _ I' (w a7) a3 aS) ?_;rintro r s4 ⟨hr,I4⟩;subst hr;show hR (.ref a.heap.objs.size) _ s4 _ U {H',q,?_,λh' c=>I3.uncomp U f3 I4 c,I3.fpOk (bh _) I4.free};let #[m,hn,_]:=I4.loc;show{m,hn}
  .show aT (T.item (X.comp scope cl s3.heap.objs.size (xs++wx ix X.N) f s3 (upd H2 a.heap.objs.size (.lst []))) U U U hc i [] G E H' _ I' (w a7) a3 go) ?_;rintro r s4 ⟨u,hr,h4⟩;subst hr;show aT h4 ?_;rintro _ s5 ⟨x,H5,I5,r5,y5,O,bx⟩;let bI:=I5.pinned (w bx) (T.obj _ _ O);show aT (hg _ _ _ _ _ s5 E H5 x u _ bI r5 (aW x H5 y5)) ?_;rintro _ s6 ⟨l,H6,I6,q6⟩;show aT (ht _ _ _ _ _ s6 l H6 _ I6 q6) ?_;rintro ok s7 ⟨H7,I7,q7⟩;let M:∀ {s8:ag}{H8:Hp}{m:Nat}{zs:LV},aJ (X.comp scope cl s3.heap.objs.size (xs++wx ix X.N) f s3 (upd H2 a.heap.objs.size (.lst []))) ([]++WB f s5.heap) l H8 s8->W (i+1) m zs l H8 ->
     ∃i ys E H',aJ (X.comp scope cl s3.heap.objs.size (xs++wx ix X.N) f s3 (upd H2 a.heap.objs.size (.lst []))) [] E H' s8/\tn i s8.heap/\(∀b∈f,H' b=ae)/\W i m ys E H':=λ{s8 H8 m zs} I8 w8=>by show{i+1,zs,l,H8,I8.unpinned,T.keep _ _ _ O λb c o e=>(I8.pin (b,o) (bD _ (bD _ (vI c e)))).1,λb c=>?_,w8};let #[o,e,d]:=T.obj _ _ O b c;show(I8.pin (b,o) (bD _ (bD _ (vI c e)))).2.1
   cases ok with
   |false=>
    rw[aj bL] at q7 ⊢;let #[m',hm,w7]:=bl _ _ q7;show{m',hm,M I7 w7}
   |true=>
    rw[ak rfl] at q7 ⊢;show aT (he _ _ _ _ _ s7 l H7 _ I7 q7) ?_;rintro y s8 ⟨v8,H8,I8,r8,n8⟩;let #[bt,m',hm,w8]:=hN _ _ _ n8;show aT (yE _ s8 l H8 (.ref a.heap.objs.size) [v8] (.ref a.heap.objs.size) [y] (λ_ Hn=>∃m,m<n/\W (i+1) m (ys++[v8]) l Hn) I8 U (.cons r8 .nil) {_,ys,v8,U,U,bt,hz,m',hm,w8}) ?_;rintro _ s9 ⟨_,H9,I9,_,m9,be,w9⟩;show{m9,be,M I9 w9}
 let e3:∀t,({ s3 with heap:=h₁,toks:=t }:ag)={ a with heap:=h₁,toks:=t }:=λt=>[<-hs3]\_
 let B:∀t,codeAny (Fg X.p X.w) X.A (.compLoop (.ListComp elt [{tg,iter,ifs,0}] scope pos) 0 (.ref it) (.ref a.heap.objs.size) (compEnvC scope cl s3.heap.objs.size X.e)) (RR (.ref a.heap.objs.size) s3.heap.objs.size) { a with heap:=h₁,toks:=t }:=λt=>[<-e3]\a4 t
 show se (B _) (T.self _ 0 _ _ _ a1 (B _))
def vQ(l:X.c=af)(t:zc8 osc N scope ix=af)(i:PI X tg iter wi)(j:∀C a s H,PG (X.comp scope (jK scope X.e) C (xs++wx ix X.N) a s H) tg g)(d:∀C a s H,PTs (X.comp scope (jK scope X.e) C (xs++wx ix X.N) a s H) ifs tt)(k:∀C a s H,PE (X.comp scope (jK scope X.e) C (xs++wx ix X.N) a s H) elt te)(b:X.e.scope=osc:=by rfl)(o:X.N=N:=by rfl)(e:∀x,foldedSetIterable iter X.e x=pure x:=by intro _;rfl) :
  PE X (.ListComp elt [{tg,iter,ifs,0}] scope pos) (vx wi g tt te xs.length ix):=by intro aa s σ H Q I h;let S:=qK I.ok t b o;rw[eval_ListComp];show mq (use:=ae) U e S.clos S.kind S.names (JZ S l i j d k I h (RR:=λc C=>compPost (Fg X.p X.w) X.A X.xe ae (EP X aa σ Q) c C) ?_);rintro v u z C r ⟨y,q,⟨m,f⟩,p,_⟩;show{m,f,λw n=>{v,y,p w n,r,q}}
def Y6{y:Str}{d:Pos}{j:Nat}{c:Pos}(p:X.N.Nodup)(hj:X.N[j]?=Z y)(hc:X.c=af)(J:Loc X.e.scope y)(hD:zc8 osc N scope ix=af)(hi:PI X tg iter wi)(hg:∀C f s H,PG (X.comp scope (jK scope X.e) C (xs++wx ix X.N) f s H) tg g)(M:∀C f s H,PTs (X.comp scope (jK scope X.e) C (xs++wx ix X.N) f s H) ifs tt)(he:∀C f s H,PE (X.comp scope (jK scope X.e) C (xs++wx ix X.N) f s H) elt te)(k:X.e.scope=osc:=by rfl)(hN:X.N=N:=by rfl)(i:swapsWith (.ListComp elt [{tg,iter,ifs,0}] scope pos) (Z (.Name y d)) c.line X.e=pure af:=by rfl)(O:∀x,foldedSetIterable iter X.e x=pure x:=by intro _;rfl)(hf:X.fn y=af\/X.e.scope.names.lookup y=Z .local:=by first|show .inl rfl|show .inr rfl|assumption) :
  PS X (.Assign [.Name y d] (.ListComp elt [{tg,iter,ifs,0}] scope pos) c) (yc (vx wi g tt te xs.length ix) (zD j)):=by
 intro aa s σ H D I h;let S:=qK I.ok hD k hN;rw[sE _ _ _ _ i];show ba (lG (ba ?_));change Ff _ X.A (do let _ <-comprehension (.ListComp elt [{tg,iter,ifs,0}] scope pos) scope X.e _ (newList []) ah (eval iter X.e) (Z (assign (.Name y d) X.e))) _ _ s;show ba (aT (mq (use:=Z (assign (.Name y d) X.e)) (Q:=λ_ s'=>SP X aa D .next s') rfl O S.clos S.kind S.names
  (JZ S hc hi hg M he I h (RR:=λw C=>compPost (Fg X.p X.w) X.A X.xe (Z (assign (.Name y d) X.e)) (λ_ s'=>SP X aa D .next s') w C) ?_)) λ_ s' T=>bg (bg T))
 rintro v u s' C r ⟨E,q,⟨m,hn⟩,hI,f0,B,f2,f3,z,f5⟩;let I':aJ X aa σ E s':=hI s'.heap (.refl ..);change Ff _ X.A (assign (.Name y d) X.e u) _ _ _;show pL (Wz I' p hj J r (λG I2 L=>?_) hf);let #[a,hb,ha]:=L;let t:C≠a:=by
  obtain rfl|ha:=ha
  .show B
  .show cY (z _ _ ha)
 show{m,hn.sameBut hb t,λh' n=>{_,E,?_,q}};show I2.turned (t':=G.toks) (λb o l e=>(n.2 b l).trans e) f0 B f3 z f5
end
abbrev k7:R2:=λx y H Q=>∃i j,x=.str i/\y=.str j/\i.length+j.length<=Fb/\Q (.str (i++j)) H
abbrev zns:R2:=λx y H Q=>∃i j,x=.str i/\y=.str j/\Q (.bl (!(dI j i 0 j.length 1).isEmpty)) H
abbrev zos:R2:=λx y H Q=>y=.non/\Q (.bl (decide (x=.non))) H
abbrev zda:R2:=λx y H Q=>y=.non/\Q (.bl (!decide (x=.non))) H
abbrev RC:=LV->Hp->VK->Prop
abbrev zhq(K:bz):RC:=λxs H Q=>∃x c t b,xs=[x,c]/\Y5 K H x t/\(∃T,c=.ty T/\fS K t (.type T)=Z b)/\Q (.bl b) H
abbrev zlu(K:bz):RC:=λxs H Q=>∃(a:ac)(b:List Bool),xs=[.ref a]/\aN K H a (b.map V.bl)/\Q (.bl (b.all id)) H
abbrev zi4:RC:=λxs H Q=>∃i,xs=[.int i]/\i.natAbs.log2<1920/\Q (.str (toString i)) H
abbrev RM:=V->LV->Hp->VK->Prop
abbrev Zl:RM:=λx xs H Q=>∃a b,x=.str a/\xs=[.str b]/\Q (.bl (0+b.length<=a.length&&iq a b 0)) H
abbrev zot:RC:=λxs H Q=>∃(x:Str)(n:Int),xs=[.str x]/\PySem.intText? x=Z n/\x.length<=640/\Q (.int n) H
def hZ(p:ac){H:Hp}(h:H p=ae):aH H (upd H p o):=λb u e=>zm (zy e h)\e
def zM(h:n<=100000):n<=Fb:=bR h ()
def yA:Fh "len"=Z (.builtin "len"):=()
def xI:Fh "isinstance"=Z (.builtin "isinstance"):=()
def zi5:Fh "all"=Z (.builtin "all"):=()
def znt:Fh "any"=Z (.builtin "any"):=()
def znu:Fh "ord"=Z (.builtin "ord"):=()
def Yu:Fh "sorted"=Z (.builtin "sorted"):=()
def znv:Fh "sum"=Z (.builtin "sum"):=()
def zdb:Fh "reversed"=Z (.type "reversed"):=()
def XM:Fh "enumerate"=Z (.type "enumerate"):=()
def J8:Fh "str"=Z (.type "str"):=()
def ze2:Fh "int"=Z (.type "int"):=()
def zlv:Fh "bool"=Z (.type "bool"):=()
def jC:Fh "list"=Z (.type "list"):=()
def zdc:Fh "tuple"=Z (.type "tuple"):=()
def Jw:Fh "dict"=Z (.type "dict"):=()
def znw:Fh "set"=Z (.type "set"):=()
def QO:Fh "ValueError"=Z (.type "ValueError"):=()
def  big:Int:=10^200
def  YJ(_ j:Int):Prop:=0<j/\j<big
def  CMulB(i j:Int):Prop:=(-big<i/\i<big)/\(-big<j/\j<big)
def zdd{j:Int}(h:j.natAbs<10^200):j.natAbs.log2<700:=by
 by_cases h0:j.natAbs=0
 .rw[h0];decide
 .show(Nat.log2_lt h0).mpr (cn h ())
def zge{j:Int}(h:-big<j/\j<big):j.natAbs<10^200:=by
 let e:big=((10^200:Nat):Int):=()
 rw[e] at h;lia
def CMulB.ok{i j:Int}(h:CMulB i j):IntMulOk i j:=by
 let b:∀k:Int,(-big<k/\k<big)->eX k<=2^20:=λk a=>by let q:=zdd (zge a);unfold eX;split <;> lia
 show .of_bits (b i h.1) (b j h.2)
def zlw:Az X (binaryOp .Mult) (rI CMulB λi j=>.int (i*j)):=opI λ_ _ _ _ _ _ _ a q=>mul_int q a.ok
def wZ:Az X (binaryOp .FloorDiv) (rI YJ λi j=>.int (i/j)):=opI λi j _ _ _ _ _ a q=>by let b:(0:Int)<j:=a.1;show floordiv_int () ?_ (.inl (PyProof.noPylong_of_log2 (sC (zdd (zge {by let:=a.2;lia,a.2})) ())));show Int.fdiv_eq_ediv_of_nonneg i ()\q
def J9:wn X (.builtin "isinstance") (zhq X.K):=by intro aa s σ H xs j Q I r h;let #[x,c,t,b,rfl,a,#[T,rfl,e],q]:=h;let #[u,i,rfl,g,f]:=ziK r;cases f;show zhj I g a e λd=>{.bl b,H,I.tok d,U,q}
def  Its(x:Str):It:={λi _=>i<x.cps.size,λi H v a=>a=H/\∃c,x.cps[i]?=Z c/\v=.str ⟨#[c]⟩,λi _=>x.cps.size<=i}
def zde{P:am}{w:ap}{K:bz}{tg:au}{it:ac}{x:Str}{t:Tok}{j:String}(B:["enumerate","zip","dict_itemiterator","dict_reverseitemiterator","odict_iterator","itertools.zip_longest","itertools.pairwise"].contains j=ah)(W:∀A:av,A.handled=ae->Walks P w A it [it] [it] x.cps.size (SignAt x) (λi h=>h.IsStrIter it j x t i))(self:∀(A:av)(i:Nat)(s:ag)(Q:Aa)(E:Aa),s.heap.IsStrIter it j x t i->Q (.ref it) s->Ff (Fg P w) A (pyIter (.ref it)) Q E s) :
  JO P w K tg (Its x) [it] it (λi h=>i<=x.cps.size/\h.IsStrIter it j x t i) where
 mem:=?s
 obj:=λi h a b f=>by
  let e:b=it:=<-f
  subst e;let #[_,o,e,c,d]:=a;show{o,e,λv z=>by rw[d] at z;cases z}
 keep:=λi h n a k=>by let #[hi,o,e,r]:=a;show{hi,o,k it ?s o e,r}
 item:=by intro X J y L G i aa s σ H E I m a l;subst J y L;let #[f0,T,f2,O,N,M]:=m it ?s;show(W X.A (I.ok.hd G)).item i s _ _ l a.2 λv n p hv g q=>?_;let #[c,u,D,rfl]:=hv;let I1:aJ X aa σ H { s with heap:=n,toks:=p }:=I.turned (λb o f e=>q b o (<-f) e) f0 T O N M;let #[o,e,c1,d1]:=id g;show{_,U,Vn (s:={ s with heap:=n,toks:=p }) e c1 d1 B {.str ⟨#[c]⟩,H,I1,{u,rfl},{rfl,c,D,rfl},{l,g},λb f=>(m b f).1}}
 done:=by intro X J y L G i aa s σ H E I m a l;subst J y L;let #[f0,T,f2,O,N,M]:=m it ?s;let e:i=x.cps.size:=Nat.le_antisymm a.1 l;subst e;show(W X.A (I.ok.hd G)).done s _ _ a.2 λn p q=>{U,I.turned (λb o f e=>q b o (<-f) e) f0 T O N M}
 self:=λA i s Q E a h=>self A i s Q E a.2 h
def  zlx(a:TE):TI:=λσ H R=>a σ H λx b=>∃z,x=.str z/\R (Its z) b
def zi6{k:TE}(p:PE X l k):PI X tg l (zlx k):=by
 intro aa s σ H R I h;show aT (p aa s σ H _ I h) ?_;rintro v a ⟨x,j,d,m,n⟩;let #[z,rfl,q]:=n;let #[t,rfl]:=m;let c:∀b∈[a.heap.objs.size],jJ X aa j b:=λb r=>by
  let e:b=a.heap.objs.size:=<-r
  subst e;show d.fpOk (bh _) (d.hok.fresh (bh _))
 cases ha:z.cps.all (· < 128)
 .show wpAny_pyIter_wide ha ?_;show{a.heap.objs.size,[a.heap.objs.size],_,_,j,U,d.kept (t':=a.toks) λb o e=>bf _ e,
   zde (t:=t) () (λA g=>Walks.strWide g _ z t) λA i s Q E f h=>wpAny_pyIter_striter_wide f h,{bP _,_,bq _ U,U,U},c,q}
 .show wpAny_pyIter_ascii ha ?_;show{a.heap.objs.size,[a.heap.objs.size],_,_,j,U,d.kept (t':=a.toks) λb o e=>bf _ e,
   zde (t:=t) () (λA g=>Walks.strAscii g _ z t) λA i s Q E f h=>wpAny_pyIter_striter_ascii f h,{bP _,_,bq _ U,U,U},c,q}
def zaQ(E:X.c=af):wn X (.builtin "all") (zlu X.K):=by
 intro aa s σ H xs M Q I r h;let #[a,c,rfl,D,q]:=h;let #[u,rfl,z]:=xD r;cases z;let #[d,t,p,T]:=I.list D;let m:=t.length;rw[bd] at m;let l:a≠s.heap.objs.size:=by let #[o,n,e,_]:=p;show bO (bG e)
 show call_all_walk (lA p.isList ?_);show{s.heap.objs.size,_,_,d.toArray.size,λi v=>d.toArray[i]?=Z v,_,λi=>c.getD i ah,U,Bp (A:=X.A.in1) (I.ok.hd E) _ a l d.toArray,?_,?_,λh' O k=>?_}
 .show{{_,bq _ U,U,U},?_};show p.isList.at λo e=>bf _ e
 .intro i v s' L E' B G;let f:d[i]?=Z v:=<-B
  let j:i<c.length:=m\(bi.mp f).1
  let #[N,w,y]:=t.get (i:=i) (x:=V.bl c[i]) (by simp[j]);rw[f] at w;cases w;cases y;let e:c.getD i ah=c[i]:=by simp[j]
  let g:L (c.getD i ah) s':=G;rw[e] at g;show fP g
 .let e:(cH d.toArray.size).all (λi=>c.getD i ah)=c.all id:=by
   rw[bH,<-m];let:c.map id=(cH c.length).map λi=>c.getD i ah:=by apply dq;intro i;by_cases j:i<c.length <;> simp[j]
   let J:c.all id=(c.map id).all id:=?s
   rw[J,this,uP];rfl
  rw[e];show{.bl (c.all id),H,?_,U,q};show I.kept λb o e=>k b o (by let:=bO (bG e);simpa using this) (bf _ e)
def QP:MtR X "str.startswith" Zl:=by intro aa s σ H x xs v f Q I d e h;let #[a,b,rfl,rfl,q]:=h;let #[t,rfl]:=d;let #[u,rfl,c,rfl]:=xD e;show gF F.slot_str_startswith (ip s a t) F.entry_str_startswith (F.args_str_startswith_2 _ _) (gives_str_startswith a b t c).meets (_|>{.bl _,H,I,U,q})
def  zi7:V->Option Int->Option Int->Hp->VK->Prop:=λx a b H Q=>∃z,x=.str z/\z.length<=Fb/\Q (.str (eO z a b)) H
def zbN:SlR X zi7:=by
 intro aa s σ H x v b a g p G Q I d m f e h;let #[z,rfl,j,q]:=h;let #[t,rfl]:=d;let #[o,n,w,r]:=m;show{"str",_,F.slot_str_getitem.lookup,ip _ _ _,?_};obtain⟨l,E,D⟩:∃l:Option (Int×Tok),b=partValue l/\g=l.map (·.1):=by
  cases f with
  |none=>show{ae,U,U}
  |int i t=>show{Z (i,t),U,U}
 obtain⟨u,B,y⟩:∃l:Option (Int×Tok),a=partValue l/\p=l.map (·.1):=by
  cases e with
  |none=>show{ae,U,U}
  |int i t=>show{Z (i,t),U,U}
 subst E D B y;show wpAny_getItem_str_slice (l:=l) (u:=u) (st:=ae) {o,n,w,r} rfl
  (post_val_or_str {bR (Txt.slice_le z _ _) j,λc k=>{.str (eO z (l.map (·.1)) (u.map (·.1))),H,I.tok k,{c,U},q}})
def XO:wn X (.type "int") zot:=by intro aa s σ H xs c Q I r h;let #[x,n,rfl,a,b,q]:=h;let #[u,rfl,t,rfl]:=xD r;show W.KIN.call_text a b {.int n,H,I.tok _,{_,U},q}
def aQ.there{H:Hp}(x:aQ P w H h a o):∃u,h.get? a=Z u:=by
 cases o with
 |lst xs=>let #[_,_,_,_,e]:=x;show{_,e}
 |tup xs=>let #[_,_,_,o,e,_]:=x;show{_,e}
 |dK aI=>let #[_,_,_,_,o,_,_,e,_]:=x;show{_,e}
 |dT aI=>let #[_,_,_,_,o,_,_,e,_]:=x;show{_,e}
 |set S n=>let #[o,_,_,_,e,_]:=x;show{_,e}
 |ins C dx fs=>let #[_,_,_,e,_]:=x;show{_,e}
 |own y=>show x
 |xd fs=>let #[_,#[o,_,_,e,_],_]:=x;show{_,e}
 |rng lo hi=>let #[_,_,_,e]:=x;show{_,e}
 |frz ob u=>let #[e,_]:=x;show{_,e}
 |tbl ps=>show{_,(h.get? a=Z _|>x)}
 |met f y=>show{_,(h.get? a=Z _|>x)}
 |ext φ=>let #[_,e,_]:=x;show e
inductive XF(g h:ao)(H:Hp)(e:ac)(cls:ai):Prop
 |mk (oe vs a0 T oT ts:_) (f1:h.get? e=Z oe) (f2:(oe.cls=cls/\vs[0]?=Z a0)) (f3:oe.data=.fields vs) (f4:vs[1]?=Z (.ref T)) (f5:T≠e) (f6:h.get? T=Z oT) (f7:oT.data=.fields ts) (f8:ts[3]?=Z .none) (f9:g.get? e=ae) (f10:g.get? T=ae) (f11:H e=ae) (f12:H T=ae)
inductive AJ(P:am)(w:ap)(outer:LEv)(H:Hp)(s:ag)(E:XK)(ev:ai)(s':ag):Prop
 |mk (e cls H':_) (f1:ev=.ref e) (f2:s'.os=s.os) (f3:AllBare s'.gens) (f4:Un (Af outer) [] H H' s.heap s'.heap) (f5:Ax P w H' s'.heap) (f6:XF s.heap s'.heap H' e cls) (f7:E cls ae H')
def xi{g h:ao}(k:∀b o,g.get? b=Z o->∃a,h.get? b=Z a)(e:h.get? b=ae):g.get? b=ae:=by
 cases q:g.get? b with
 |none=>rfl
 |some o=>
  let #[a,z]:=k b o q;rw[e] at z;cases z
def XF.older{H:Hp}(x:XF g h H e cls)(k:∀b o,g'.get? b=Z o->∃f,g.get? b=Z f):XF g' h H e cls:=by let #[oe,vs,a0,T,oT,ts,t,r,q,p,n,m,l,j,i,d,c,a]:=x;show{oe,vs,a0,T,oT,ts,t,r,q,p,n,m,l,j,xi k i,xi k d,c,a}
def aJ.stackFields(J:aJ X aa σ H s)(a:b∈Af X.k):∃o,s.heap.get? b=Z o/\∀vs,o.data≠.fields vs:=(J.stack.mem a).2
def aJ.there0(a:X.ex=[])(J:aJ X aa σ H s):∀b o,X.s₀.heap.get? b=Z o->∃o',s.heap.get? b=Z o':=λb o e=>J.base.there b o e (a\?s)
def aJ.behind{cs:List ac}(l:X.ex=[])(J:aJ X aa σ H s)(d:∀b∈cs,H b=ae/\X.s₀.heap.get? b=ae)(r:∀b o,s.heap.get? b=Z o->b ∉ Af X.k->b ∉ cs->h2.get? b=Z o)(E:∀b o,s.heap.get? b=Z o->b∈Af X.k->∃a,h2.get? b=Z { o with slots:=a }) :
  Un X.fs [] X.H₀ H X.s₀.heap h2/\Ax X.p X.w H h2:=by
 let B:Un X.fs [] X.H₀ H X.s₀.heap s.heap:=by let:=J.base;rw[l] at this;show this
 let D:∀b o,X.s₀.heap.get? b=Z o->b≠X.e.locals:=λb o e=>bO (cn (bG e) J.ok.above);let k:∀b o,X.s₀.heap.get? b=Z o->b ∉ cs:=λb o e z=>by rw[(d b z).2] at e;cases e
 let g:∀b o,s.heap.get? b=Z o->b ∉ cs->∃a,h2.get? b=Z { o with slots:=a }:=λb o e n=>by
  by_cases hb:b∈Af X.k
  .show E b o e hb
  .show{o.slots,r b o e hb n}
 show{{λb o e n f _=>?_,λb o e n f _=>?_,B.free,λb o e f=>?_,B.tups,B.frzs,B.tbls},λb u e=>?_}
 .show r b o (B.keep b o e n f ?s) (λz=>?_) (k b o e);obtain q|q:=bo.mp (J.stkSub b z)
  .show D b o e q
  .show f q
 .let #[a,q]:=B.slot b o e n f ?s;let #[h,j]:=g b _ q (k b o e);show{h,j}
 .let #[y,q]:=B.there b o e ?s;let #[a,j]:=g b y q (k b o e);show{_,j}
 .show(J.hok b u e).stay (λc v hc q=>?_) (λ_ q=>q) λ_ _ q=>q;let t:H c≠ae:=by
   obtain rfl|hc:=hc
   .rw[e];simp
   .rw[hc];simp
  show r c v q (λz=>t (J.stkFree c z)) λz=>t (d c z).1
def aJ.flown{cs:List ac}(f:X.ex=[])(J:aJ X aa σ H s)(a:∀b∈cs,H b=ae/\X.s₀.heap.get? b=ae)(D:∀b o,s.heap.get? b=Z o->b ∉ Af X.k->b ∉ cs->B.get? b=Z o)(y:∀b o,s.heap.get? b=Z o->b∈Af X.k->∃h,h2.get? b=Z { o with slots:=h })(he:H e=ae)(k:X.s₀.heap.get? e=ae)(kb:B.StaysIn h2)(O:h2.TracedW B e cls a0) :
  Un X.fs [] X.H₀ H X.s₀.heap h2/\Ax X.p X.w H h2/\XF X.s₀.heap h2 H e cls:=by
 let t:=J.behind (h2:=h2) f a (λb o q n1 n2=>kb b o (D b o q n1 n2)) y;show{t.1,t.2,?_};let #[Q,M,T,r,n,h1,l,h3,h4,I,h6,G,E,h9]:=O;let d:∀o,s.heap.get? T=Z o->T∈cs:=λo q=>by
  by_cases hb:T∈Af X.k
  .let #[g,j,nf]:=J.stackFields hb;let #[h,z]:=y T g j hb;rw[G] at z;let L:r={ g with slots:=h }:=cf z;show absurd ([<-E,L]\_) (nf n)
  .by_cases hc:T∈cs
   .show hc
   .rw[D T o q hb hc] at I;cases I
 show{Q,M,a0,T,r,n,h1,l,h3,h4,h6,G,E,h9,k,?_,he,?_}
 .cases q:X.s₀.heap.get? T with
  |none=>rfl
  |some o=>
   let #[g,j]:=J.there0 f T o q;rw[(a T (d g j)).2] at q;cases q
 .cases q:H T with
  |none=>rfl
  |some u=>
   let #[o,z]:=(J.hok T u q).there;rw[(a T (d o z)).1] at q;cases q
def zhr{k:ao}{e:ac}{d:ai}{p:zQ}{E:XK}{EE:Aa}(c:X.k=X.e::X.J/\X.e.frame=Z X.e.locals)(f:X.ex=[])(J:aJ X aa σ H s)(g:tJ s.heap k e d p)(M:E d ae H) :
  Ff (Fg X.p X.w) X.A (leaving X.e (.ref e)) (λ_ v=>AJ X.p X.w X.J X.H₀ X.s₀ E (.ref e) v) EE { s with heap:=k }:=by
 let O:s.heap.FunFrames (fN s.heap (Af X.k)) (X.e::X.J):=by let q:=fJ (as:=Af X.k) J.stack λl D a I=>dY.mpr {l,D,I};rw[c.1] at q ⊢;show q
 show wpAny_leaves_madeW (s:={ s with heap:=k }) (base:=fN s.heap (Af X.k)) (h:=s.heap) ([J.ok.frames,c.1]\_) c.2 (λb o q=>gQ _ q) O g λN t j _ _ i=>?_;let #[T,f2,f3,Q]:=j;let L:∀b o,s.heap.get? b=Z o->b∈Af X.k->∃r,N.get? b=Z { o with slots:=r }:=λb o q G=>by let #[o',m,B]:=J.stackFields G;rw[q] at m;cases m;show i b o (g.keeps b o q) B
 let #[y,x,w]:=J.flown (cs:=[]) f (λb z=>nomatch z) (λb o q n _=>fm _ q n) L
  (by
   cases q:H e with
   |none=>rfl
   |some u=>
    let #[o,z]:=(J.hok e u q).there;rw[g.new] at z;cases z) (xi (J.there0 f) g.new) T Q
 show{e,d,H,U,J.os,J.bare,y,x,w,M}
def zi8{e:ac}{d:ai}{E:XK}{EE:Aa}(c:X.k=X.e::X.J/\X.e.frame=Z X.e.locals)(i:X.ex=[])(J:aJ X aa σ H s)(u:XF X.s₀.heap s.heap H e d)(hE:E d ae H) :
  Ff (Fg X.p X.w) X.A (leaving X.e (.ref e)) (λ_ y=>AJ X.p X.w X.J X.H₀ X.s₀ E (.ref e) y) EE s:=by
 let #[I,v,a0,T,L,w,h1,h2,h3,h4,h5,h6,h7,h8,r,l,f,k]:=id u;let fr:s.heap.FunFrames (fN s.heap (Af X.k++[e,T])) (X.e::X.J):=by let q:=fJ (as:=Af X.k++[e,T]) J.stack λm O a ha=>cO _ (dY.mpr {m,O,ha});rw[c.1] at q ⊢;show q
 show wpAny_leaves_onW (base:=fN s.heap (Af X.k++[e,T])) (a0:=a0) ([J.ok.frames,c.1]\_) c.2
  {λb o q=>gQ _ q,dE _ (bD _ ?s),fr,I,v,T,L,w,h1,h2,h3,h4,dE _ (bD _ ?s),h5,h6,h7,h8} λj h g=>?_
 let #[f1,f2,f3,f4]:=h;let hF:∀b o,s.heap.get? b=Z o->b∈Af X.k->∃x,j.get? b=Z { o with slots:=x }:=λb o q Q=>by let #[o',p,M]:=J.stackFields Q;rw[q] at p;cases p;show g b o q M
 let #[G,D,B]:=J.flown (cs:=[e,T]) i (λb z=>by
   let t:b=e\/b=T:=<-z
   obtain rfl|rfl:=t
   .show{f,r}
   .show{k,l}) (λb o q n N=>fm _ q λz=>(bw.mp z).elim n N) hF f r f1 f4
 show{e,d,H,U,J.os,J.bare,G,D,B,hE}
def  ze3(X:Cx)(E:XK):Prop:=∀(aa:Ae)(σ:St)(H:Hp)(s:ag)(b:ao)(e:ac)(a:ai)(c:zQ),aJ X aa σ H s->tJ s.heap b e a c->E a ae H->X.xe (.ref e) { s with heap:=b }
variable {P:am}{K:bz}{mg:At}{base:ao}{N:zO}{qual:Str}{f:ac}
section
variable {w:ap}{cd:ai}{outer:LEv}{s₀:ag}{H₀:Hp}{E:XK}
def Ka:wI (AJ P w) (jh (AJ P w) P w K mg base N qual scope f cd A outer s₀ H₀ E) E:=by intro aa σ H s m l I d;let #[e,k,n,rfl,i,a,h,c,g,j]:=d;let J:=I.call' (ch:=[]) i h c a (λb z=>nomatch z);show zi8 (X:=jh (AJ P w) P w K mg base N qual scope f cd A outer s₀ H₀ E) {U,U} U J (g.older (I.there0 U)) j
def zbO:ze3 (jh (AJ P w) P w K mg base N qual scope f cd A outer s₀ H₀ E) E:=by intro aa σ H s g e c d I a b;show zhr (X:=jh (AJ P w) P w K mg base N qual scope f cd A outer s₀ H₀ E) {U,U} U I a b
def zpa:PassesOwn (Fg P w) (jh (AJ P w) P w K mg base N qual scope f cd A outer s₀ H₀ E).A (jh (AJ P w) P w K mg base N qual scope f cd A outer s₀ H₀ E).e (jh (AJ P w) P w K mg base N qual scope f cd A outer s₀ H₀ E).xe:=PassesOwn.leaving
end
abbrev Kb:zQ:=[.type "ValueError",.type "Exception",.type "BaseException",.type "object"]
abbrev kI:String:="ValueError.__new__"
def  Y7(C:ac)(b:TA)(E:XK):TS:=λ_ σ H=>b σ H λa c=>a.length<=Fb/\E (.ref C) ae c
inductive zpb(K:bz)(h:ao)(C:ac)(bmB:zQ)(newId:String):Prop
 |mk (bm N nm qn bs hdct sn sub ab col dd k0 k1 k2 k3 k5 mN:_) (a:h.get? C=Z (excClassObj nm qn C N bs bm hdct sn sub ab col dd k0 k1 k2 k3 k5 newId)) (b:h.Ns N mN) (c:mN "__init__"=ae) (d:OwnTail h bmB bm)
def zbP{h:ao}{C:ac}{b:zQ}{newId:String}(X:K.In h)(q:sF K C b newId=af):zpb K h C b newId:=by
 unfold sF at q;split at q
 case h_2=>cases q
 rename_i dd cd sl ho;split at q
 case h_2=>cases q
 rename_i C' bm k0 k1 k2 k3 n k5 hm hs;rw[bK,bK,bK,bK,bK] at q;let #[#[#[#[#[u,t],r],p],k],o]:=q;obtain rfl:C'=C:=by simpa using u
 obtain rfl:n=newId:=by simpa using t
 let #[w,y,d,v,m,x,l,c,z,j,i]:=cd;let a:i=ah:=<-r
 let g:d=.ref C'::bm:=hm;subst a g;let e:sl=#[k0,k1,k2,k3,Z (.builtin n),k5]:=by apply Array.ext';show hs
 subst e;show{bm,v,w,m,y,x,l,c,z,j,dd,k0,k1,k2,k3,k5,_,X _ _ ho,.of_isNs (W.isNs_of_in X k),W.nsMap_none_of_in X k (<-o),W.tail_of_in X p}
variable {x:Str}{np aW:Pos}
section
variable {e₀:au}{rest:List au}{ta:TA}{E:XK}
def k8(u:X.c=af)(q:sF X.K C Kb kI=af)(o:ze3 X E)(r:Gl X x)(c:X.mg x=Z (.ref C))(v:PA X (e₀::rest) ta)(d:Fe (e₀::rest) X.e=(ah,eval e₀ X.e)::Fe rest X.e:=by rfl)(p:(backTo aW (Fe rest X.e)).any (·.1)=ah:=by rfl)(t:B1 x:=by lia) :
  PS X (.Raise (Z (.Call (.Name x np) (e₀::rest) [] aW)) ae pos) (Y7 C ta E):=by
 intro aa s σ H D I h;let #[j,N,nm,m,bs,hdct,sn,sub,ab,col,dd,k0,k1,k2,k3,k5,mN,y,w,b,T]:=zbP I.ok.mod.kin q;show wpAny_Raise_call_subT (C:=C) (nm:=nm) (q:=m) (N:=N) (bs:=bs) (bm:=j) (hdct:=hdct) (sn:=sn) (sub:=sub) (ab:=ab) (col:=col) (dd:=dd) (k0:=k0) (k1:=k1) (k2:=k2) (k3:=k3) (k5:=k5) (newId:=kI)
  fK (mN:=mN) (T.hasType fK.hasBase) (I.ok.hd u) (d\p) b (wV I r c {U,?_} t)
 let g:=v aW aa s σ H _ I h;rw[d] at g ⊢;show eI (aT g ?_);rintro J k ⟨G,B,a,l,i,n⟩;show{U,[<-l.length]\i,a.bk _ _ y,w.keeps a.bk,T.keeps a.bk,λz e c=>o aa σ B k z e _ _ a c n}
end
def  Av(x:Str):Prop:=∀c∈x.cps.toList,c<128
variable {e:au}{a:Str}{j:Nat}{p1 p2 p3:Pos}
def  zi9(te:TE):TE:=λσ H Q=>te σ H λv b=>∃x:Str,v=.str x/\x.length<=100000/\Av x/\∀y:Str,Q (.str y) b
def zbQ(p:PE X e te)(M:a.length<=1000:=by lia):PE X (.JoinedStr [.Constant (.str a) j p1,.FormattedValue e 114 ae p2] p3) (zi9 te):=by
 intro aa s σ H Q I h;show sG ?_;change Ff _ _ (eval (.Constant (.str a) j p1) X.e) _ _ s;let m:(gq++a).length=a.length:=by rw[e9];simp[gq,eZ]
 show iO {a,_,U,m\zM (),?_};change Ff _ _ (eval (.FormattedValue e 114 ae p2) X.e) _ _ _;show wpAny_FormattedValue_repr (aT (p aa _ σ H _ (I.tok _) h) ?_);rintro v n ⟨x,E,D,o,z,B,G,w,q⟩;subst B;let #[t,rfl]:=o;let L:(reprText z).length<=10*z.length+2:=StrLaws.reprText_len z λc r=>sC (w c r) ();let J:Fb=16777216:=cp;show wpAny_pyReprObj_gives (ip _ z t) PySem.F.slot_str_repr PySem.F.entry_str_repr (PySem.F.args_str_repr_1 _) (gives_str_repr z t) ?_ U ();let i:∀(l:Tok)(k:Nat),∃y u,iQ (reprText z) l=iQ y u/\(gq++a++y).length<=Fb/\Joins (Fg X.p X.w) X.A X.xe (evalEach [] X.e) (gq++a++y) (λd b=>d.length<=Fb/\EP X aa σ Q (.str d b.toks) { b with toks:=b.toks+1 }) { n with toks:=k }:=λl k=>by
  let g:(gq++a++reprText z).length<=Fb:=[e9,m]\()
  show{_,_,U,g,g,.str _,E,D.tok _,{_,U},q _}
 show wpAny_formatField_str (i _ _) (i _ _) ()
structure ExC(K:bz)(C:ac):Prop where
 ga:gR K (.ref C) "__getattribute__"=Z (Z (.builtin "BaseException.__getattribute__"))
 gx:gR K (.ref C) "__getattr__"=Z ae
 cl:gR K (.ref C) "__class__"=Z (Z (.builtin "object.__class__"))
 ob:Bs K C (.type "object")=Z af
 be:Bs K C (.type "BaseException")=Z af
 ge:Bc K (.builtin "object.__class__") "__get__"=Z (Z (.builtin "getset_descriptor.__get__"))
 tk:W.takesIn K (.builtin "object.__class__")=Z af
variable {E:Aa}
section
variable {w:ap}{e:ac}
def zja(X:K.In h)(c:ExC K C):pC M h (PySem.Builtin.ObjectAttr.find (.ref e) (.ref C) "__class__") (.bind (.builtin "getset_descriptor.__get__") (.builtin "object.__class__")):=by let g:=nA (M:=M) X c.cl;let d:pC M h (PySem.Builtin.ObjectAttr.getOf (Z (.builtin "object.__class__"))) (Z (.builtin "getset_descriptor.__get__")):=W.looks_specialIn X c.ge;let b:=W.looks_takesIn (M:=M) X c.tk;show g.andThen (d.andThen ?_);show(pC M h (PySem.Builtin.ObjectAttr.dataDescriptor? (Z (.builtin "object.__class__")) (Z (.builtin "getset_descriptor.__get__"))) (Z ((.builtin "getset_descriptor.__get__"),(.builtin "object.__class__")))|>b.andThen .now).andThen (W.Looks.tag .now)
open PySem.Builtin PySem.Builtin.Getset_descriptor in
def zly{R:ay->ag->Prop}(X:K.In s.heap)(c:ExC K C)(h:pC (Fg prog w) s.heap (typeOf (.ref e)) (.ref C))(b:R (.ok (.ret (.ref C))) s) :
  codeAny (Fg prog w) A (.call (.builtin "getset_descriptor.__get__") {[.builtin "object.__class__",.ref e,tp],[]}) R s:=by
 let #[k,l,m,d,i]:=s;let g:=uh (M:=Fg prog w) X c.ob;show lO W.KF.slot_gs.plain W.KF.entry_gs (W.KF.slot_gs.check _ _ _ _ _ _ _ _ W.KF.type_class (W.KF.args_gs _ _ _) ?_);unfold Builtin.«getset_descriptor.__get__» descrGet;rw[W.dga_obj];show ba (bg ?_);unfold descrGetter descrCheckInstance descrNameAndClass isInstance;simp only[W.KF.owner_class]
 repeat lk
 show{ui _ (),de W.KF.entry_class ?_};unfold Builtin.«object.__class__» shownTypeOf
 repeat lk
 show b
def zhs{Q:Option ai->ag->Prop}(X:K.In s.heap)(c:ExC K C)(LT:∀M:Model,pC M s.heap (typeOf (.ref e)) (.ref C))(q:Q (Z (.ref C)) { s with toks:=s.toks+1 }) :
  Ff (Fg prog w) A (getAttr? (.ref e) "__class__") Q E s:=by
 let #[r,y,z,d,v]:=s;let b:=LT (Fg prog w);let l:=nA (M:=Fg prog w) X c.ga;let k:=nA (M:=Fg prog w) X c.gx;let i:=uh (M:=Fg prog w) X c.be;let h:=zja (M:=Fg prog w) (e:=e) X c;let u:=uh (M:=Fg prog w) X c.ob;let g:bindSpecial (.builtin "BaseException.__getattribute__") (.ref e)=pure (.builtin "BaseException.__getattribute__",[.ref e]):=F.excAttr_ValueError.ga.bind (.ref e);let t:(uj "BaseException.__getattribute__" == uj "object.__getattribute__")=ah:=()
 unfold getAttr? getAttrBy? getAttrBy;show ba (wpAny_mkText (ba (fB (cF (ba (b.at (ba (l.at ?_))))))));simp only[t,tI,cA,if_false];unfold getAttrByItsOwn hookBefore;show ba (k.at ?_);unfold callGetattribute boundAndCalled;simp only[Bool.false_and,cA,if_false,Option.toList,g];show ba (fB (cF (ba (bg (mR ?_)))));show lO F.excAttr_ValueError.ga.plain F.entry_bexc_ga ?_;let p:builtinKind "BaseException.__getattribute__"=Z .slot:=()
 let o:splitId "BaseException.__getattribute__"=Z ("BaseException","__getattribute__"):=()
 let n:=F.args_bexc_ga (.ref e) (.str "__class__" d);simp only[checkBuiltinCall,p,o];show ba (?_:Ff _ _ (isInstance (.ref e) (.type "BaseException")) _ _ _);let m:pC (Fg prog w) r (isInstance (.ref e) (.type "BaseException")) af:=b.andThen i;show m.at ?_;simp only[Bool.not_true,cA,if_false,fI,eQ];show oH (_=pure PUnit.unit|>n) ?_;show ba (bg (ba (bg (ba (b.at (ba (h.at ?_)))))));change Ff _ _ (holding [.builtin "object.__class__"] (call (.builtin "getset_descriptor.__get__") [.builtin "object.__class__",.ref e,.ref C]) >>= ret) _ _ _;show ba (cF (mR (zly X c b (bg ?_))));show W.handed_on U (bg q)
def zdf{a:ac}(c:ExC K C)(b:(Bt K C).isSome=af):W.KitX K (.ref a) (.ref C) (λh=>∃o,h.get? a=Z o/\o.cls=.ref C) where
 ty:=λM h _ p=>by let #[o,p1,p2]:=p;show p2 ▸ (pP p1).andThen .now
 it:=λ_ _ X _=>by
  let #[g,z]:=eY.mp b;unfold Bt at z;split at z
  .rename_i y;intro u r t l k q;unfold isType loadHead;show ba (wpAny_loadPart (k _ _ (X _ _ y)) (bg q))
  .cases z
 ne:=λh tp m d n i X p=>by
  let #[g,z]:=eY.mp b;show fc.mpr λq=>?_;obtain rfl:C=tp:=Value.ref.inj (beq_iff_eq.mp q);unfold Bt at z;split at z
  .rename_i y;cases (X _ _ y).symm.trans p
  .cases z
 ca:=λX p k=>by let #[o,p1,p2]:=p;show zhs X c (λM=>p2 ▸ (pP p1).andThen .now) k
end
def aJ.land{cs:List ac}(g:X.ex=[])(I:aJ X aa σ H s)(y:∀b∈cs,H b=ae/\X.s₀.heap.get? b=ae)(B:∀b∈cs,∀p∈X.pn++aa,p.1≠b)(O:∀b o,s.heap.get? b=Z o->b ∉ Af X.k->b ∉ cs->h2.get? b=Z o)(t:s.heap.UpToSlots h2):aJ X aa σ H { s with heap:=h2 }:=by
 let hF:∀b o,s.heap.get? b=Z o->b∈Af X.k->∃D,h2.get? b=Z { o with slots:=D }:=λb o q hb=>by let #[o',G,h]:=I.stackFields hb;rw[q] at G;cases G;show t b o q h
 let #[r1,T]:=I.behind g y O hF;let Q:∀c v,s.heap.IsCell c v->h2.IsCell c v:=λc v ⟨o,ho,M⟩=>by
  let #[D,q]:=t c o ho λvs z=>by rw[M] at z;cases z
  show{_,q,M}
 show{I.ok,I.os,I.bare,g\r1,?_,λx c e=>?_,I.free,I.freeC,λp L=>?_,T,I.len}
 .let #[m,hn,hl]:=I.loc;show{m,t.ns hn,λi x v e1 e2 e3=>?_};let #[u,r,l]:=hl i x v e1 e2 e3;show{u,r,?_};obtain l|⟨k,c,e,z⟩:=l
  .show .inl l
  .show .inr {k,c,e,Q c _ z}
 .let #[v,z]:=I.cell x c e;show{v,Q c v z}
 .let #[e,n,J,h,d]:=I.pin p L;show{O _ _ e (λz=>(bo.mp (I.stkSub _ z)).elim J h) λz=>B _ z p L U,n,J,h,d}
def aJ.track{e:ac}{g:ao->Prop}(I:aJ X aa σ H s)(L:H e=ae)(T:X.s₀.heap.get? e=ae)(M:X.ex=[])(Q:e≠X.e.locals)(O:∀x c,X.e.cells.lookup x=Z c->c≠e)(J:∀p∈X.pn++aa,p.1≠e)(ok:g s.heap/\(∃o,s.heap.get? e=Z o)/\∀k h:ao,g k->(∀o,k.get? e=Z o->h.get? e=Z o)->g h):aJ X aa σ (upd H e (.ext g)) s:=by
 let d:∀b u,H b=Z u->b≠e:=λb u q z=>by rw[z,L] at q;cases q
 let B:=I.base;show{I.ok,I.os,I.bare,{B.keep,B.slot,λb o q n x=>?_,B.there,λb xs q=>?_,λb o u q=>?_,λb G q=>?_},I.loc,I.cell,?_,λx c q=>?_,λp q=>?_,λb u q=>?_,I.len}
 .show [zm λz=>by rw[z,T] at q;cases q]\B.free b o q n x
 .let z:=B.tups b xs q;show zm (d _ _ z)\z
 .let z:=B.frzs b o u q;show zm (d _ _ z)\z
 .let #[m,z]:=B.tbls b G q;show{m,zm (d _ _ z)\z}
 .show zm (cY Q)\I.free
 .show zm (O x c q)\I.freeC x c q
 .let #[D,y,t,r,l]:=I.pin p q;show{D,zm (J p q)\y,t,r,l}
 .by_cases hb:b=e
  .subst hb;rw[zh] at q;cases q;show ok
  .rw[zm hb] at q;show(I.hok b u q).stay (λc v _ z=>z) (λc z=>zm (d _ _ z)\z) λc xs z=>zm (d _ _ z)\z
def aJ.forget{t':Nat}{i:Nat}{n:Str}{m:At}{v:Option ai}(I:aJ X aa σ H s)(hN:X.N.Nodup)(M:X.N[i]?=Z n)(hm:s.heap.Ns X.e.locals m)(hl:∀(i:Nat)(x:Str)(v:V),X.N[i]?=Z x->σ[i]?=Z (Z v)->Vis X.e.scope x->∃u,aP v u/\zoh X.e s.heap m x u)(hn:h'.Ns X.e.locals (λx=>if x=n then v else m x))(g:cy X.e.locals s.heap h'):aJ X aa (σ.set i ae) H { s with heap:=h',toks:=t' }:=by
 let D:∀b o,X.s₀.heap.get? b=Z o->b≠X.e.locals:=λb o e=>bO (cn (bG e) I.ok.above);let t:i<σ.length:=I.len\(bi.mp M).1
 show{I.ok,I.os,I.bare,{λb o e n G l=>(g.2 b (D b o e)).trans (I.base.keep b o e n G l),λb o e n G l=>?_,I.base.free,λb o e l=>?_,I.base.tups,I.base.frzs,I.base.tbls},{_,hn,λj y w h B e3=>?_},λy c e=>?_,I.free,I.freeC,λp hp=>?_,λb u e=>?_,<-I.len}
 .let #[O,h]:=I.base.slot b o e n G l;show{O,(g.2 b (D b o e)).trans h}
 .let #[Q,h]:=I.base.there b o e l;show{Q,(g.2 b (D b o e)).trans h}
 .by_cases hj:j=i
  .subst hj;rw[gN t] at B;cases B
  .rw[lN (cY hj)] at B;let #[u,r,q]:=hl j y w h B e3;show{u,r,?_};obtain ⟨k,e⟩|⟨k,c,e,z⟩:=q
   .let:y≠n:=λe=>hj (JK hN h (e ▸ M));show .inl {k,by simp[this,e]}
   .show .inr {k,c,e,z.sameBut g (I.cne y c e)}
 .let #[J,z]:=I.cell y c e;show{J,z.sameBut g (I.cne y c e)}
 .let #[e,n,L,T,d]:=I.pin p hp;show{(g.2 p.1 L).trans e,n,L,T,d}
 .show(I.hok b u e).stay (λc J hc q=>(g.2 c ?_).trans q) (λ_ q=>q) λ_ _ q=>q;rintro rfl;obtain rfl|hc:=hc
  .rw[I.free] at e;cases e
  .rw[I.free] at hc;cases hc
def  exO(e C:ac):HO:=.ext λh=>∃o,h.get? e=Z o/\o.cls=.ref C
abbrev Cx.sub(X:Cx)(e:ac):Cx:={ X with A:=X.A.mark (Z (.ref e)),c:=ah,xe:=λ_ _=>False }
section
variable {e:ac}
def aJ.toSub(I:aJ X aa σ H s):aJ (X.sub e) aa σ H s:=
 {{I.ok.mod,I.ok.kind,I.ok.glob,I.ok.blt,I.ok.above,I.ok.inj,I.ok.has,I.ok.cab,(),I.ok.frames,I.ok.stk,I.ok.exf,I.ok.bs,I.ok.bsz,I.ok.noex,I.ok.exfs,I.ok.funs,I.ok.frf},I.os,I.bare,I.base,I.loc,I.cell,I.free,I.freeC,I.pin,I.hok,I.len}
def aJ.ofSub{J:aJ X aa σ H s}{b:St}{d:Hp}(I:aJ (X.sub e) aa b d s'):aJ X aa b d s':=
 {J.ok,I.os,I.bare,I.base,I.loc,I.cell,I.free,I.freeC,I.pin,I.hok,I.len}
end
abbrev EXK:=ai->Ah
inductive PX(X:Cx)(aa:Ae)(EX:EXK)(ev:ai)(s':ag):Prop
 |mk (e cls σ s1 H1 H':_) (f1:ev=.ref e) (f2:aJ X aa σ H1 s1) (f3:aJ X aa σ H' s') (f4:XF s1.heap s'.heap H' e cls) (f5:EX cls σ H')
def  PEX(X:Cx)(c:au)(t:EXK->TE):Prop:=
 ∀(aa:Ae)(s:ag)(σ:St)(H:Hp)(Q:VK)(b:EXK),aJ X aa σ H s->t b σ H Q->Ff (Fg X.p X.w) X.A (eval c X.e) (EP X aa σ Q) (PX X aa b) s
def  PSX(X:Cx)(st:aq)(t:EXK->TS):Prop:=
 ∀(aa:Ae)(s:ag)(σ:St)(H:Hp)(D:ZF)(b:EXK),aJ X aa σ H s->t b D σ H->Ff (Fg X.p X.w) X.A (exec st X.e) (SP X aa D) (PX X aa b) s
variable {fd:Fc}{ps:zO}{p:Pos}{es:List au}
section
variable {k:Nat}{sp:Sp}{t:TA}
def  znx(sp:Sp)(d:TA)(i:EXK):TE:=λσ H Q=>d σ H λc h=>sp (c++[]) h Q λb _ g=>i b σ g
end
variable {i:Nat}
section
variable {ex:au}{tx:EXK->TE}{y:Str}
def  zjb(tx:EXK->TE)(c:EXK):TS:=λD σ H=>tx c σ H λ_ b=>D.nx σ b
def zjc(d:PEX X ex tx)(c:swapsWith ex ae pos.line X.e=pure ah:=by rfl):PSX X (.Expr ex pos) (zjb tx):=by intro aa s σ H D l I h;show wpAny_Expr_any (aT (d aa s σ H _ l I h) λv m ⟨x,k,g,n,b⟩=>{σ,k,g,b}) I.quiet c
end
structure ExK(K:bz)(C:ac):Prop extends ExC K C where
 has:(Bt K C).isSome=af
def  zpc(i:Nat)(D:ZF):ZF:={ nx:=λσ H=>D.nx (σ.set i ae) H,rt:=D.rt,bk:=λσ H=>D.bk (σ.set i ae) H,ct:=λσ H=>D.ct (σ.set i ae) H }
def  zou(K:bz)(h:EXK->TS)(k:ac)(i:Nat)(g:TS):TS:=λD σ H=>h (λc b d=>∃C,c=.ref C/\ExK K C/\uk K (.ref C) (.ref k)=Z af /\
 ∀e,d e=ae->g (zpc i D) (b.set i (Z (.ref e))) (upd d e (exO e C))) D σ H
variable {b₀:aq}{suite:List aq}{tb:EXK->TS}{th:TS}{hpos:Pos}
section
variable {st:aq}{c n:Str}{C0:ac}
def zny(al:X.k=X.e::X.J/\X.e.frame=Z X.e.locals)(B:X.ex=[])(hN:X.N.Nodup)(hb:PSX X st tb)(hg:Gl X c)(hm:X.mg c=Z (.ref C0))(hi:X.N[i]?=Z n)(hl:X.e.scope.names.lookup n=Z .local)(hs:∀e,PSs (X.sub e) (b₀::suite) th)(be:B1 c:=by lia) :
  PS X (.Try [st] [.ExceptHandler (Z (.Name c np)) (Z n) (b₀::suite) hpos] [] [] pos) (zou X.K tb C0 i th):=by
 intro aa s σ H D I h;show rO (iG (dM (hb aa s σ H D _ I h) (λf y q=>?_) λev y q=>?_))
 .cases f with
  |next=>show gH (gH q)
  |ret v=>show q
  |brk=>show q
  |cont=>show q
 let #[e,cls,M,s0,H0,H1,rfl,I0,I1,xf,C,rfl,ek,hx,a8]:=q;let #[oe,vs,a0,T,oT,ts,h1,h2,h3,h4,h5,h6,h7,h8,h9,bl,aM,bk]:=xf;let fr:y.heap.FunFrames (fN y.heap (Af X.k++[e,T])) (X.e::X.J):=by let q:=fJ (as:=Af X.k++[e,T]) I1.stack λbt he a ha=>cO _ (dY.mpr {bt,he,ha});rw[al.1] at q ⊢;show q
 let O:∀b∈[e,T],s0.heap.get? b=ae/\H1 b=ae:=λb z=>by
  let z':b=e\/b=T:=<-z
  obtain rfl|rfl:=z'
  .show{h9,aM}
  .show{bl,bk}
 let ar:∀b∈[e,T],H1 b=ae/\X.s₀.heap.get? b=ae:=λb z=>{(O b z).2,xi (I0.there0 B) (O b z).1};let aI:∀b∈[e,T],∀p∈X.pn++aa,p.1≠b:=λb z p hp q=>by let:=(I0.pin p hp).1;rw[q,(O b z).1] at this;cases this
 show wpAny_looks_onW (base:=fN y.heap (Af X.k++[e,T])) (a0:=a0) (cls:=.ref C) ([I1.ok.frames,al.1]\_) al.2
  {λb o q=>gQ _ q,dE _ (bD _ ?s),fr,oe,vs,T,oT,ts,h1,h2,h3,h4,dE _ (bD _ ?s),h5,h6,h7,h8} λg4 an a1=>?_
 show wpAny_landsW an λg5 t aS=>?_;let hB:∀ {g:ao},(fN y.heap (Af X.k++[e,T])).StaysIn g->∀b o,y.heap.get? b=Z o->b ∉ Af X.k->b ∉ [e,T]->g.get? b=Z o:=
  λ{g} k b o q n1 n2=>k b o (fm _ q λz=>(bw.mp z).elim n1 n2)
 let I5:aJ X aa M H1 { y with heap:=g5 }:=I1.land B ar aI (hB t.1) (a1.trans aS);let K5:=I5.kIn;show wpAny_handleBy_cons (sH ?_) (by intro q;cases q);show wV (X:=X.sub e) (I5.toSub (e:=e)) hg hm ?_ be;let a4:pC (Fg X.p X.w) g5 (typeOf (.ref e)) (.ref C):=by let #[o,p1,p2]:=t.there;show p2 ▸ (pP p1).andThen .now
 show(W.exm_one K5 a4 hx).here ?_;show pD ?_;show lands_againW t λg6 G a5=>?_;let I6:aJ X aa M H1 { y with heap:=g6 }:=I1.land B ar aI (hB G.1) ((a1.trans aS).trans a5);let a6:e≠X.e.locals:=λz=>by let #[m,#[o,_,_,ho,_],_]:=I0.loc;rw[<-z,h9] at ho;cases ho
 let a7:∀x c,X.e.cells.lookup x=Z c->c≠e:=λx c q z=>by let #[v,o,ho,_]:=I0.cell x c q;rw[z,h9] at ho;cases ho
 let #[o6,p6,q6]:=G.there;let I7:aJ X aa M (upd H1 e (exO e C)) { y with heap:=g6 }:=I6.track aM (ar e ?s).2 B a6 a7 (aI e ?s)
  {{o6,p6,q6},{o6,p6},λa b ⟨o,z1,z2⟩ k=>{o,k o z1,z2}}
 show ZE (X:=X) (v:=.ref e) I7 hN hi (.inl hl) U (λs8 I8=>?_) (.inr hl);show dM (hs e aa s8 _ _ _ I8.toSub (a8 e aM)) (λf s9 q=>?_) λ_ _ z=>dD z;let a3:(X.e.scope.kind==.class || (X.e.scope.kind==.module&&X.e.locals != X.e.globals))=ah:=I.ok.kind\U
 let go:∀ {d:St}{L:Hp}{R:ag->Prop},aJ (X.sub e) aa d L s9->(∀s',aJ X aa (d.set i ae) L s'->R s') ->
   Ff (Fg X.p X.w) X.A (do bindName X.e n .none;unbindBehindTheSuite X.e n hpos) (λ_ l=>R l) X.xe s9:=λ{d L R} J k=>by let w:aJ X aa d L s9:=aJ.ofSub (J:=I) J;let #[m,a2,a9]:=w.loc;show tD (Q:=λ_ l=>R l) hl a2 a3 λh' v a b=>k _ (w.forget hN hi a2 a9 a b)
 cases f with
 |next=>
  let #[d,L,J,z]:=q;show go (R:=λl=>SP X aa D .next l) J λs' w=>{_,_,w,z}
 |brk=>
  let #[d,L,J,z]:=q;show go (R:=λl=>SP X aa D .brk l) J λs' w=>{_,_,w,z}
 |cont=>
  let #[d,L,J,z]:=q;show go (R:=λl=>SP X aa D .cont l) J λs' w=>{_,_,w,z}
 |ret u=>
  let #[v,d,L,J,r,z]:=q;show go (R:=λl=>SP X aa D (.ret u) l) J λs' w=>{v,_,_,w,r,z}
end
def  zov:V->Option ai
 |.ty T=>Z (.type T)
 |.ref D=>Z (.ref D)
 |_=>ae
abbrev znz(K:bz):RC:=λxs H Q=>∃a C c d b,xs=[.ref a,c]/\H a=Z (exO a C)/\ExK K C/\zov c=Z d/\fS K (.ref C) d=Z b/\Q (.bl b) H
abbrev zmV(K:bz):RC:=λxs H Q=>∃a C p,∃c:List ac,∃b,xs=[.ref a,.ref p]/\H a=Z (exO a C)/\ExK K C/\H p=Z (.tup (c.map V.ref))/\W.kitAny K (.ref C) (c.map bC)=Z b/\Q (.bl b) H
def zaR:∀ {d:List ac}{b:zQ},aO (d.map V.ref) b->b=d.map bC
 |[],_,.nil=>rfl
 |c::r,_,.cons h t=>by rw[zaR t];cases h;rfl
def zjd{w:ap}{H:Hp}{h:ao}{a C:ac}(k:Ax P w H h)(e:H a=Z (exO a C)):∃o,h.get? a=Z o/\o.cls=.ref C:=(k a _ e).1
def zdg:wn X (.builtin "isinstance") (znz X.K):=by
 intro aa s σ H xs v Q I r h;let #[a,C,c,cv,b,rfl,o,k,d,n,q]:=h;let #[u,l,rfl,m,g]:=ziK r;cases m;let t:l=cv:=by
  cases c <;> simp only[zov,cr,reduceCtorEq] at d
  .subst d;show g
  .subst d;show g
 subst t;show iR (zdf k.toExC k.has) I.kIn (zjd I.hok o) n () λw=>{.bl b,H,I.tok _,U,q}
def zht:wn X (.builtin "isinstance") (zmV X.K):=by intro aa s σ H xs M Q I r h;let #[a,C,p,g,b,rfl,J,d,D,G,q]:=h;let #[u,L,rfl,m,l]:=ziK r;cases m;cases l;let #[_,B,k,o,z,y,n,w]:=(aQ X.p X.w H s.heap p (.tup (g.map V.ref))|>I.hok p _ D);obtain rfl:=zaR k;let #[v,T,c,t]:=o;obtain rfl:v=.type "tuple":=y;obtain rfl:c=.seq (g.map bC).toArray n:=w;show W.kia_tup (zdf d.toExC d.has) I.kIn (zjd I.hok J) z G () λO=>{.bl b,H,I.tok _,U,q}
def zj :wI (AJ P w) X E0:=λ_ _ _ _ _ _ _ h=>by let #[_,_,_,_,_,_,_,_,_,z]:=h;show z.elim
section
variable {w:ap}
def Fun.ok1{x qual:Str}{st:aq}{f:ac}{fd:Fc}{N ps:zO}{k:Nat}{sp:Sp}(F:Fun K x qual st f fd)(S:aG N ps (zg st))(g:∀c H Q E,sp c H Q E->c.length=ps.length)(d:∀(cdv:ai)(A:av)(b:LEv)(s:ag)(H:Hp)(c:LV)(Q:VK)(E:XK),aY k (A.deeper (envOfC qual (zg st) s.heap.objs.size f cdv))->sp c H Q E ->
   ∃t,PSs (jh (AJ P w) P w K mg base N qual (zg st) f cdv A b s H E) (xX st) t/\t { nx:=λ_ o=>Q .non o,rt:=Q } (start N c) H):bv P w K mg base (AJ P w) (k+1) f fd ps sp:=by let #[oc,od,kV,doc,pm,an,cdv,ct,osl,rfl,m,l]:=F.ex;show ziQ m l S g λA b s H c Q E n h=>d cdv A b s H c Q E n h
def Fun.ok0{x qual:Str}{st:aq}{f:ac}{fd:Fc}{N ps:zO}{k:Nat}{sp:Sp}(F:Fun K x qual st f fd)(S:aG N ps (zg st))(l:∀d H Q E,sp d H Q E->d.length=ps.length)(g:∀(cdv:ai)(A:av)(c:LEv)(s:ag)(H:Hp)(d:LV)(Q:VK)(E:XK),aY k (A.deeper (envOfC qual (zg st) s.heap.objs.size f cdv))->sp d H Q E ->
   ∃t,PSs (jh (AJ P w) P w K mg base N qual (zg st) f cdv A c s H E).nox (xX st) t/\t { nx:=λ_ n=>Q .non n,rt:=Q } (start N d) H):bv P w K mg base (AJ P w) (k+1) f fd ps sp:=
 F.ok1 S l λcdv A c s H d Q E m h=>let ⟨t,a,b⟩:=g cdv A c s H d Q E m h;{t,a.nox,b}
end
variable {nx:Ah}{B:V->St->Hp->Ah->Prop}
abbrev FoP(J:It)(nx:Ah)(B:V->St->Hp->Ah->Prop)(σ:St)(H:Hp):Prop:=∃W:Nat->Nat->Ah,(∃m,W 0 m σ H)/\∀i m σ H,W i m σ H->(J.stop i H/\nx σ H)\/(J.go i H/\∃N:Ah,(∀b c,N b c->∃d,d<m/\W (i+1) d b c)/\∀x c,J.yld i H x c->B x σ c N)
def zgf{J:It}(Pv:Nat->Ah)(h:Pv 0 σ H)(k:∀i σ H,i<n->Pv i σ H->J.go i H/\∀x b,J.yld i H x b->B x σ b (Pv (i+1)))(st:∀σ H,Pv n σ H->J.stop n H/\nx σ H):FoP J nx B σ H:=by
 show{λi m σ H=>m=n-i/\i<=n/\Pv i σ H,{n,?s,bP _,h},?_};rintro i m σ H ⟨rfl,l,p⟩;by_cases hlt:i<n
 .let #[g,y]:=k i σ H hlt p;show .inr {g,Pv (i+1),λc b d=>{n-(i+1),(),U,hlt,d},y}
 .obtain rfl:i=n:=by lia
  show .inl (st σ H p)
def xY{a:ac}(xs:LV)(Pv:Nat->Ah)(g:Pv 0 σ H)(b:∀i σ H,Pv i σ H->aN K H a xs)(c:∀i x σ H,xs[i]?=Z x->Pv i σ H->B x σ H (Pv (i+1)))(d:∀σ H,Pv xs.length σ H->nx σ H) :
  FoP (Itl K a) nx B σ H:=zgf Pv g (λi σ H l p=>{{xs,xs[i],b i σ H p,by simp[l]},by rintro x h ⟨rfl,y⟩;show c i x σ _ (y xs (b i σ _ p)) p}) λσ H p=>{{xs,b _ σ H p,bh _},d σ H p}
def zje{a:ac}(xs:LV)(Pv:Nat->Ah)(g:Pv 0 σ H)(b:∀i σ H,Pv i σ H->aV K H a xs)(c:∀i x σ H,xs[i]?=Z x->Pv i σ H->B x σ H (Pv (i+1)))(d:∀σ H,Pv xs.length σ H->nx σ H) :
  FoP (Itt K a) nx B σ H:=zgf Pv g (λi σ H l p=>{{xs,xs[i],b i σ H p,by simp[l]},by rintro x h ⟨rfl,y⟩;show c i x σ _ (y xs (b i σ _ p)) p}) λσ H p=>{{xs,b _ σ H p,bh _},d σ H p}
def jL{J:It}{D:ac}{k:St}{q:Hp}{Q:Hp->Prop}{B:V->St->Hp->(V->Ah)->Ah->Prop}(n:Nat)(hn:n<=1000000)(C:St->Prop)(R:Nat->V->Prop)(hC:C k)(go:∀i H,aH q H->i<n->J.go i H)(r:∀H,aH q H->J.stop n H)(hD:q D=ae)(hs:∀i x l H g,C l->aH q H->i<n->J.yld i H x g->B x l g (λv c L=>C c/\R i v/\aH H L) (λ_ _=>False))(hd:∀d H,d.length=n->(∀i v,d[i]?=Z v->R i v)->aH q H->H D=Z (.lst d)->Q H) :
  ∃W:Nat->Nat->LV->Ah,(∃m,W 0 m [] k (upd q D (.lst [])))/\∀i m d l H,W i m d l H->H D=Z (.lst d) /\
  ((J.stop i H/\Q H)\/(J.go i H/\d.length<Fb/\∃N:V->Ah,
   (∀v c g,N v c g->g D=Z (.lst d)/\∃t,t<m/\W (i+1) t (d++[v]) c (upd g D (.lst (d++[v]))))/\∃Nf:Ah,(∀c g,Nf c g->∃t,t<m/\W (i+1) t d c g) /\
   ∀x g,J.yld i H x g->B x l g N Nf)):=by
 let I:∀ {H:Hp}{o:HO},aH q H->aH q (upd H D o):=λ{H o} h b u e=>zm (zy e hD)\h b u e
 show{λi m d l H=>m=n-i/\i<=n/\d.length=i/\(∀j v,d[j]?=Z v->R j v)/\aH q H/\H D=Z (.lst d)/\C l,{n,?s,bP _,U,?s,I (aH.refl _),zh,hC},?_};rintro i m d l H ⟨rfl,hi,O,hR,G,M,hc⟩;show{M,?_};by_cases hlt:i<n
 .show .inr {go i H G hlt,dZ (():d.length<=1000000) (),(λv c L=>C c/\R i v/\aH H L),?_,(λ_ _=>False),λ_ _ z=>z.elim,λx g y=>hs i x l H g hc G hlt y};rintro v c L ⟨c4,r4,T⟩;show{T _ _ M,n-(i+1),(),U,hlt,by simp[O],λj u w=>?_,I (G.trans T),zh,c4};obtain h|h|h:=pQ j d.length
  .show hR j u (by rwa [gY h] at w)
  .subst h;simp at w;subst w;show O\r4
  .rw[bT (by simp;lia)] at w;cases w
 .obtain rfl:i=n:=by lia
  show .inl {r H G,hd d H O hR G M}
def zbR(n d:Nat)(v:Int):max (0:Int) (min (if v<0 then v+n else v) n)=((HT.sIx n d (Z v):Nat):Int):=by
 change _=(((if v<0 then (v+(n:Int)).toNat else min v.toNat n):Nat):Int);by_cases hv:v<0
 .simp only[ak hv];lia
 .simp only[aj hv];lia
def zlz(a b:Nat):sliceRange (a:Int) (b:Int) 1=(cH (b-a)).map λk=>a+k:=by
 simp only[sliceRange,((1:Int) > 0)=True|>?s,if_true];by_cases hlt:(a:Int)<b
 .let c:(((b:Int)-a+1-1)/1).toNat=b-a:=Int.ediv_one\()
  simp only[hlt,if_true,c];show fR λk _=>?_;lia
 .let:b-a=0:=()
  simp[hlt,this]
def zjf(lo b:Option Int)(n:Nat):oI lo b 1 n=(cH (HT.sIx n n b-HT.sIx n 0 lo)).map λk=>HT.sIx n 0 lo+k:=by
 rw[<-zlz];unfold oI;simp only[((1:Int) > 0)=True|>?s,if_true];cases lo with
 |none=>
  cases b with
  |none=>rfl
  |some v=>simp only[zbR n n v];rfl
 |some u=>
  cases b with
  |none=>simp only[zbR n 0 u];rfl
  |some v=>simp only[zbR n n v,zbR n 0 u]
def zaS(x:Str)(lo b:Option Int):(eO x lo b).cps.toList=(x.cps.toList.drop (HT.sIx x.length 0 lo)).take (HT.sIx x.length x.length b-HT.sIx x.length 0 lo):=by
 let d:=HT.sIx_le x.length x.length (bh _) b;let c:x.cps.toList.length=x.length:=by simp[eZ]
 unfold eO;rw[zjf];split
 .rename_i h;let g:HT.sIx x.length x.length b-HT.sIx x.length 0 lo=x.length:=<-h
  let e0:HT.sIx x.length 0 lo=0\/x.length=0:=()
  obtain e0|e0:=e0
  .rw[e0,iK,bV];lia
  .rw[dJ (():x.cps.toList.length=0)];simp
 .by_cases hab:HT.sIx x.length 0 lo<=HT.sIx x.length x.length b
  .let h:=StrLaws.picks x.cps.toList (HT.sIx x.length x.length b-HT.sIx x.length 0 lo) (HT.sIx x.length 0 lo) ();simpa using h
  .let:HT.sIx x.length x.length b-HT.sIx x.length 0 lo=0:=()
   rw[this];simp
def Y8(x:Str)(k:Nat):(eO x (Z (k:Int)) ae).cps.toList=x.cps.toList.drop k:=by
 rw[zaS,HT.sIx_none,HT.sIx_nat];let b:x.cps.toList.length=x.length:=by simp[eZ]
 by_cases h:k<=x.length
 .rw[gL h,bV (cz\())]
 .rw[iM (():x.cps.toList.length<=k),nY (),iM ()];simp
def Kc(x:Str)(k:Nat):(eO x ae (Z (k:Int))).cps.toList=x.cps.toList.take k:=by
 rw[zaS,HT.sIx_none,HT.sIx_nat,iK,uQ];let b:x.cps.toList.length=x.length:=by simp[eZ]
 by_cases h:k<=x.length
 .rw[gL h]
 .rw[nY (),bV (),bV ()]
def xN(h:x.cps.toList=y.cps.toList):x=y:=by let #[a]:=x;let #[b]:=y;let:a=b:=rP.mp h;rw[this]
def yf(x y:Str):(x++y).cps.toList=x.cps.toList++y.cps.toList:=by change (x.cps++y.cps).toList=_;simp
def zhu(x y:Str):(0+y.length<=x.length&&iq x y 0)=(x.cps.toList.take y.length==y.cps.toList):=by
 rw[StrLaws.subAt_eq,iK];let b:x.cps.toList.length=x.length:=by simp[eZ]
 let c:y.cps.toList.length=y.length:=by simp[eZ]
 by_cases h:y.length<=x.length
 .simp[h]
 .let e:(x.cps.toList.take y.length==y.cps.toList)=ah:=by rw[beq_eq_false_iff_ne];intro e;let:=congrArg eA e;rw[bQ] at this;lia
  rw[e];simp
section
open PySem.NumText
def  z8(w:Int):Str:=bb (toString w)
def  dg(m:Nat):wU:=(sJ 10 m).map Bq
def xF(h:m<10):dg m=[48+m]:=by
 unfold dg;rw[Nat.toDigits_of_lt_base h];let:∀d:Nat,d<10->(Nat.digitChar d).toNat=48+d:=()
 simp[this m h]
def Yv(h:10<=m):dg m=dg (m/10)++[48+m%10]:=by let b:m%10<10:=oC m ();let t:sJ 10 (m/10)++sJ 10 (m%10)=sJ 10 (10*(m/10)+m%10):=Nat.toDigits_append_toDigits () () b;rw[Nat.div_add_mod] at t;rw[<-xF b];unfold dg;rw[<-t,bW]
def kJ(m:Nat):AllDigits (dg m):=by
 induction m using oJ with
 |_ m ih=>
  by_cases h:m<10
  .rw[xF h];intro c hc;let e:c=48+m:=<-hc
   lia
  .rw[Yv ()];intro c hc;obtain hc|hc:=bw.mp hc
   .show ih (m/10) () c hc
   .let e:c=48+m%10:=<-hc
    lia
def zdh(m:Nat):dg m≠[]:=by
 by_cases h:m<10
 .rw[xF h];simp
 .rw[Yv ()];simp
def zjg(m:Nat):digitsVal (dg m)=m:=by
 induction m using oJ with
 |_ m ih=>
  by_cases h:m<10
  .rw[xF h];change 0*10+(48+m-48)=m;lia
  .rw[Yv (),digitsVal_snoc,ih (m/10) ()];lia
def Kd:∀(k m:Nat),m<10^(k+1)->(dg m).length<=k+1
 |0,m,h=>xF (<-h)\?s
 |k+1,m,h=>by
  by_cases hm:m<10
  .rw[xF hm];simp
  .rw[Yv (),bj];let:=Kd k (m/10) (by rw[Nat.pow_succ] at h;lia);simp only[bJ,iW];lia
def yM(m:Nat):(z8 (m:Int)).cps.toList=dg m:=by unfold z8;rw[sf];change (Nat.repr m).toList.map Bq=_;rw[Nat.toList_repr];rfl
def xQ{m:Nat}(h:0<m):(z8 (-(m:Int))).cps.toList=45::dg m:=by
 obtain⟨k,rfl⟩:∃k,m=k+1:={m-1,()};let e:(-((k+1:Nat):Int))=Int.negSucc k:=()
 rw[e];unfold z8;rw[sf];change (("-" ++ Nat.repr (k+1)):String).toList.map Bq=_;rw[String.toList_append,bW,Nat.toList_repr];rfl
def XQ(x:Str):x.length=x.cps.toList.length:=by simp[eZ]
def zjh{w:Int}(h:w.natAbs<10^(k+1)):(z8 w).length<=k+2:=by
 rw[XQ];obtain h0|h0:=nJ w 0
 .obtain⟨m,rfl,b⟩:∃m:Nat,w=-(m:Int)/\0<m:={w.natAbs,(),()};rw[xQ b,bJ];let:=Kd k m ();lia
 .obtain⟨m,rfl⟩:∃m:Nat,w=(m:Int):={w.natAbs,()};rw[yM];let:=Kd k m ();lia
def ze4{w:Int}(h:w.natAbs<10^100):intText? (z8 w)=Z w:=by
 let b:(z8 w).length<=4300:=bR (zjh (k:=99) h) ();obtain h0|h0:=nJ w 0
 .obtain⟨m,rfl,c⟩:∃m:Nat,w=-(m:Int)/\0<m:={w.natAbs,(),()};rw[intText_neg (xQ c) (kJ m) (zdh m) b,zjg]
 .obtain⟨m,rfl⟩:∃m:Nat,w=(m:Int):={w.natAbs,()};rw[tK (yM\kJ m) (yM\zdh m) b,yM,zjg]
def  inF(c:Nat):Bool:=!(dI "0123456789" ⟨#[c]⟩ 0 (eZ "0123456789") 1).isEmpty
def zlA(c:Nat):inF c=af↔48<=c/\c<=57:=by unfold inF;show [uF,decide_eq_true_eq]\{(():∀c∈(bb "0123456789").cps.toList,48<=c/\c<=57) c,λ⟨h,g⟩=>(():∀c<58,48<=c->c∈(bb "0123456789").cps.toList) c (Nat.lt_succ_of_le g) h}
def  k9(x:Str):Bool:=!decide (x="")&&x.cps.toList.all inF
def WK(x:Str):k9 x=af↔x.cps.toList≠[]/\AllDigits x.cps.toList:=by unfold k9;rw[bK,dP,decide_eq_false_iff_not,cx];show and_congr {λh e=>h (xN (e\())),λh e=>h (e\())} ?_;show forall_congr' λc=>forall_congr' λ_=>zlA c
def  inW(i:Int):Bool:=decide (-1000000000000000000000000000000<=i/\i<=1000000000000000000000000000000)
def  wA(x:Str):Str:=if (x.cps.toList.take 1==[45])=af then eO x (Z 1) ae else x
def vJ(x:Str):(∃b,x.cps.toList=45::b/\(wA x).cps.toList=b)\/((∀b,x.cps.toList≠45::b)/\wA x=x):=by
 unfold wA;cases h:x.cps.toList with
 |nil=>show .inr {(λb e=>nomatch e),aj ?s}
 |cons c b=>
  by_cases hc:c=45
  .subst hc;show .inl {b,U,?_};rw[ak ?s];let:=Y8 x 1;rw[h] at this;show this
  .show .inr {λd e=>hc (eE e).1,?_};rw[aj (by simp[hc])]
def  jM(x:Str):Int:=(intText? x).getD 0
def Ke(h:k9 (wA x)=af)(d:x.length<=4300):intText? x=Z (jM x):=by
 let #[c,b]:=(WK _).mp h;unfold jM;obtain ⟨cs,e,ef⟩|⟨_,ef⟩:=vJ x
 .rw[ef] at c b;rw[intText_neg e b c d];rfl
 .rw[ef] at c b;rw[tK b c d];rfl
def  jN(x:Str):Bool:=!(decide (31<(wA x).length) || !k9 (wA x))&&(inW (jM x)&&decide (z8 (jM x)=x))
def WL(x:Str):x.length<=(wA x).length+1:=by
 rw[XQ,XQ];obtain ⟨cs,e,ef⟩|⟨_,ef⟩:=vJ x
 .rw[e,ef];simp
 .rw[ef];lia
def zji(x:Str):(wA x).length<=x.length:=by
 unfold wA;split
 .show Txt.slice_le x _ _
 .show bh _
def wJ{w:Int}(h:inW w=af):jN (z8 w)=af/\jM (z8 w)=w/\(z8 w).length<=40:=by
 let k:-1000000000000000000000000000000<=w/\w<=1000000000000000000000000000000:=of_decide_eq_true h;let d:=ze4 (w:=w) (dZ (():w.natAbs<=1000000000000000000000000000000) ());let b:jM (z8 w)=w:=by unfold jM;rw[d];rfl
 let g:(wA (z8 w)).length<=31/\k9 (wA (z8 w))=af:=by
  rw[WK,XQ];obtain h0|h0:=nJ w 0
  .obtain⟨m,rfl,c⟩:∃m:Nat,w=-(m:Int)/\0<m:={w.natAbs,(),()};obtain ⟨cs,e,ef⟩|⟨e,_⟩:=vJ (z8 (-(m:Int)))
   .rw[xQ c] at e;show [ef,<-(eE e).2]\{Kd 30 m (),zdh m,kJ m}
   .show absurd (xQ c) (e _)
  .obtain⟨m,rfl⟩:∃m:Nat,w=(m:Int):={w.natAbs,()};obtain ⟨cs,e,ef⟩|⟨_,ef⟩:=vJ (z8 (m:Int))
   .let:=kJ m 45 ([<-yM,e]\?s);lia
   .show [ef,yM]\{Kd 30 m (),zdh m,kJ m}
 show{?_,b,bR (WL _) ()};unfold jN;rw[b,g.2,h,Fk (():¬ 31<(wA (z8 w)).length),Fj rfl];rfl
end
def  Vt(x y:Str):Int:=match dI x y 0 x.length 1 with|i::_=>(i:Int)|[]=>-1
abbrev zaT:RM:=λx xs H Q=>∃a b,x=.str a/\xs=[.str b]/\Q (.int (Vt a b)) H
def  xR(b:Str):zO->Str
 |[p]=>p
 |l=>uG b l
def  ze5(b:Str)(c:zO):Nat:=c.foldl (λn p=>n+p.length+b.length) 0
abbrev qa(K:bz):RM:=λx xs H Q=>∃b a c,x=.str b/\xs=[.ref a]/\aN K H a (c.map V.str)/\ze5 b c<=Fb/\Q (.str (xR b c)) H
def Jx(b:Str):∀(c:zO)(k:Nat),c.foldl (λn p=>n+p.length+b.length) k=k+(c.map (·.length)).sum+c.length*b.length
 |[],k=>?s
 |p::r,k=>[gJ,Jx b r,bB,oq,bJ,Nat.add_mul,Nat.one_mul]\()
def zaU(b:Str)(ls:zO):(xR b ls).length<=ze5 b ls:=by
 unfold ze5;rw[Jx];let g:(uG b ls).length<=0+(ls.map (·.length)).sum+ls.length*b.length:=by rw[size_glued];let:(ls.length-1)*b.length<=ls.length*b.length:=oj _ ();lia
 unfold xR;split
 .simp only[bB,iU,oq,List.sum_nil,bJ,iW];lia
 .show g
abbrev ANt:=Array Nat
def zaV:∀ {c:zO}{b:zQ},aO (c.map V.str) b->∃l:List (Str×Tok),b=strValues l/\l.map (·.1)=c
 |[],_,.nil=>{[],U,U}
 |x::r,_,.cons h t=>by let #[l,rfl,e]:=zaV t;let #[k,rfl]:=h;show{(x,k)::l,U,[bB,e]\_}
def  zox(x:Str)(n:Int):Str:=if n<1 then gq else if (n==1 || x.length==0)=af then x else ⟨(dF n.toNat x.cps).foldl (· ++ ·) #[]⟩
def zlB:MtR X "str.find" zaT:=by intro aa s σ H x xs v k Q I d g h;let #[a,b,rfl,rfl,q]:=h;let #[t,rfl]:=d;let #[u,rfl,c,rfl]:=xD g;show call_gives F.slot_str_find (ip s a t) F.entry_str_find (F.args_str_find_2 _ _) (gives_str_find a b t c) {.int (Vt a b),H,I.tok _,{_,U},q}
def zbS:MtR X "str.join" (qa X.K):=by
 intro aa s σ H x xs v D Q I k n h;let #[b,a,w,rfl,rfl,z,c,q]:=h;let #[t,rfl]:=k;let #[u,rfl,o]:=xD n;cases o;let #[y,m,p,G]:=I.list z;let #[l,rfl,e]:=zaV m;let g:lY ((l.map (·.1)).toArray.foldl (· + ·.length+b.length) 0)=ah:=by rw[e,List.foldl_toArray];unfold lY;show Fk (by unfold ze5 at c;lia)
 let d:=zaU b w;show gF F.slot_str_join (ip s b t) F.entry_str_join (F.args_str_join_2 _ _) (meets_str_join_list b t a l g) {p.isList,?_};subst e
 match l,q,d,c with
 |[],q,d,c=>show{bR d c,.str _,H,I.tok _,{_,U},q}
 |[p],q,d,c=>show{.str p.1,H,I,{_,U},q}
 |p::p'::r,q,d,c=>show{bR d c,.str _,H,I.tok _,{_,U},q}
def Av.app(h:Av x)(d:Av y):Av (x++y):=λc b=>by rw[yf] at b;show(bw.mp b).elim (h c) (d c)
def Av.num(w:Int):Av (z8 w):=λc hc=>by
 let d:∀(m c:Nat),c∈dg m->c<128:=λm c h=>by let:=kJ m c h;lia
 obtain h0|h0:=nJ w 0
 .obtain⟨m,rfl,b⟩:∃m:Nat,w=-(m:Int)/\0<m:={w.natAbs,(),()};rw[xQ b] at hc;obtain rfl|hc:=bo.mp hc
  .decide
  .show d m c hc
 .obtain⟨m,rfl⟩:∃m:Nat,w=(m:Int):={w.natAbs,()};rw[yM] at hc;show d m c hc
def yB(x y:Str):(x++y).length=x.length+y.length:=e9 x y
section
open PySem.NumText
def zlC:∀ {v:Nat}{r:wU},dg v=48::r->v=0:=by
 intro v;induction v using oJ with
 |_ v ih=>
  intro r h;by_cases hv:v<10
  .rw[xF hv] at h;let:=(eE h).1;lia
  .rw[Yv ()] at h;cases e:dg (v/10) with
   |nil=>show absurd e (zdh _)
   |cons a l=>
    rw[e] at h;let b:a=48:=(eE h).1;subst b;let:=ih (v/10) () e;lia
def zmW:∀(n:Nat){d:wU},d.length=n->AllDigits d->d≠[]->d.head?≠Z 48->dg (digitsVal d)=d
 |0,d,hn,_,h2,_=>absurd (dJ hn) h2
 |n+1,d,hn,h1,h2,h3=>by
  obtain⟨e,c,rfl⟩:∃e c,d=e++[c]:={d.dropLast,d.getLast h2,(List.dropLast_concat_getLast h2).symm};let m:=h1 c ?s;rw[digitsVal_snoc];by_cases he:e=[]
  .subst he;change dg (0*10+(c-48))=[c];rw[xF ()];congr 1;lia
  .let g:e.head?≠Z 48:=λz=>h3 ([List.head?_append,z]\U);let b:=zmW n (d:=e) (<-hn) (λx h=>h1 x (cO _ h)) he g;let o:digitsVal e≠0:=λz=>by rw[z,xF ()] at b;show g ([<-b]\U)
   rw[Yv ()];let l:(digitsVal e*10+(c-48))/10=digitsVal e:=()
   let k:48+(digitsVal e*10+(c-48))%10=c:=()
   rw[l,k,b]
def  AL(x:Str):wU:=(wA x).cps.toList
def zero_cps:(bb "0").cps.toList=[48]:=()
def zlD(d:x.length<=1000)(c:AllDigits (AL x))(b:AL x≠[]):jM x=if x=wA x then (digitsVal (AL x):Int) else -(digitsVal (AL x):Int):=by
 unfold AL at *
 unfold jM;obtain ⟨cs,e,ef⟩|⟨_,ef⟩:=vJ x
 .rw[ef] at c b;rw[ef,intText_neg e c b (),aj]
  .rfl
  .intro z;let:=congrArg (λy:Str=>y.cps.toList.length) z;simp only[ef] at this;rw[e,bJ] at this;lia
 .rw[ef] at c b;rw[ef,ak U,tK c b ()];rfl
def zlE(L:x.length<=1000):jN x=af↔(AL x≠[]/\(AL x).length<=31/\AllDigits (AL x)/\¬ ((AL x).head?=Z 48/\x≠"0")/\digitsVal (AL x)<=1000000000000000000000000000000):=by
 let A:jN x=af↔((AL x).length<=31/\(AL x≠[]/\AllDigits (AL x))/\inW (jM x)=af/\z8 (jM x)=x):=by unfold jN AL;rw[bK,bK,dP,ii,decide_eq_false_iff_not,decide_eq_true_eq,ul,WK,XQ,Nat.not_lt,and_assoc]
 rw[A];let n:AL x≠[]->AllDigits (AL x)->((inW (jM x)=af/\z8 (jM x)=x)↔(¬ ((AL x).head?=Z 48/\x≠"0")/\digitsVal (AL x)<=1000000000000000000000000000000)):=λv G=>by
  let t:=zlD L G v;let g:(AL x).head?≠Z 48->dg (digitsVal (AL x))=AL x:=zmW _ U G v;let k:dg (digitsVal (AL x))=AL x->(AL x).head?=Z 48->AL x=[48]:=λe z=>by
   cases hd:AL x with
   |nil=>show absurd hd v
   |cons a r=>
    rw[hd] at z;let:a=48:=<-z
    subst this;let l:=zlC (e.trans hd);rw[l,xF ()] at e;rw[<-hd,<-e]
  let o:inW (jM x)=af↔digitsVal (AL x)<=1000000000000000000000000000000:=by unfold inW;rw[decide_eq_true_eq,t];split <;> lia
  rw[o,and_comm];show and_congr_left λ_=>?_;unfold AL at *
  obtain ⟨cs,e,ef⟩|⟨_,ef⟩:=vJ x
  .let u:¬ x=wA x:=λz=>by let:=congrArg (λy:Str=>y.cps.toList.length) z;simp only[ef] at this;rw[e,bJ] at this;lia
   rw[t,aj u];rw[ef] at g k ⊢;let I:x≠"0":=λz=>by let:=e.symm.trans ((congrArg (λy:Str=>y.cps.toList) z).trans zero_cps);cases this
   constructor
   .intro h z;by_cases l:digitsVal cs=0
    .rw[l] at h;let:=(yM 0).symm.trans (congrArg (λy:Str=>y.cps.toList) h);rw[e,xF ()] at this;cases this
    .let:=(xQ (m:=digitsVal cs) ()).symm.trans (congrArg (λy:Str=>y.cps.toList) h);rw[e] at this;let q:=(eE this).2;let J:=k q z.1;rw[J] at l;show l rfl
   .intro h;let D:cs.head?≠Z 48:=λz=>h {z,I};let q:=g D;let l:digitsVal cs≠0:=λz=>by rw[z,xF ()] at q;show D ([<-q]\U)
    show xN ([xQ (),e,q]\_)
  .rw[t,ak ef.symm];rw[ef] at g k ⊢;constructor
   .intro h z;let:=(yM _).symm.trans (congrArg (λy:Str=>y.cps.toList) h);let q:=k this z.1;show z.2 (xN (q.trans zero_cps.symm))
   .intro h;show xN ?_;rw[yM];by_cases z:x.cps.toList.head?=Z 48
    .let:x="0":=uH.mp λw=>h {z,w};rw[this,zero_cps];lia
    .show g z
 constructor
 .rintro⟨a,⟨b,c⟩,d⟩;let:=(n b c).mp d;show{b,a,c,this.1,this.2}
 .rintro⟨b,a,c,d,e⟩;show{a,{b,c},(n b c).mpr {d,e}}
end
def WM(r:aY k A):A.units+64<cLine:=by let:=r.un;lia
def  ZC:V->PyData
 |.non=>.none
 |.bl b=>.bool b
 |.int i=>.int i
 |.str x=>.str x
 |_=>.none
def  yZ:V->Bool
 |.non=>af
 |.bl _=>af
 |.int _=>af
 |.str x=>iz x
 |_=>ah
def Av.flat(h:Av x):yZ (.str x)=af:=by unfold yZ iz;rw[Array.all_eq_true];intro i b;let:=h x.cps[i] ?s;show Fj ()
def  znA:V->V->Bool
 |.bl _,.int _=>ah
 |.int _,.bl _=>ah
 |_,_=>af
def  zbT:LV->LV->Bool
 |x::xs,y::ys=>znA x y&&zbT xs ys
 |_,_=>af
def jO:∀ {xs:LV}{c:zQ},xs.all yZ=af->aO xs c->CarriedAll c (xs.map ZC)
 |[],_,_,.nil=>.nil
 |x::r,_,h,.cons rx t=>by
  rw[lD,bK] at h;show .cons ?_ (jO h.2 t);cases x with
  |non=>cases rx;show .none
  |bl b=>cases rx;show .bool b
  |int i=>let #[t,rfl]:=rx;show .int i t
  |str x=>let #[t,rfl]:=rx;show .str x t
  |byt b=>show absurd h.1 (by simp[yZ])
  |flt b=>show absurd h.1 (by simp[yZ])
  |ref a=>show absurd h.1 (by simp[yZ])
  |ty n=>show absurd h.1 (by simp[yZ])
def zjj{x y:V}(d:yZ x=af)(c:yZ y=af):Bh (ZC x) (ZC y)=decide (x=y):=by cases x <;> cases y <;> simp_all [yZ,ZC,Bh] <;> (rename_i a b;by_cases e:a=b <;> simp[e])
def ZP:∀ {xs c:LV},xs.all yZ=af->c.all yZ=af->pc (xs.map ZC) (c.map ZC)=decide (xs=c)
 |[],[],_,_=>by simp[pc]
 |[],_::_,_,_=>by simp[pc]
 |_::_,[],_,_=>by simp[pc]
 |x::r,y::t,hx,hy=>by rw[lD,bK] at hx hy;rw[bB,bB,pc,zjj hx.1 hy.1,ZP hx.2 hy.2];by_cases a:x=y <;> by_cases b:r=t <;> simp[a,b]
def zhv{x y:V}(c:yZ x=af)(b:yZ y=af)(h:znA x y=af):tU (ZC x) (ZC y)=af:=by cases x <;> cases y <;> simp_all [yZ,ZC,tU,znA]
def qL:∀ {xs b:LV},xs.all yZ=af->b.all yZ=af->zbT xs b=af->nB (xs.map ZC) (b.map ZC)=af
 |[],[],_,_,_=>by simp[nB]
 |[],_::_,_,_,_=>by simp[nB]
 |_::_,[],_,_,_=>by simp[nB]
 |x::r,y::t,hx,hy,h=>by rw[lD,bK] at hx hy;rw[zbT,bK] at h;rw[bB,bB,nB,zhv hx.1 hy.1 h.1,qL hx.2 hy.2 h.2];rfl
def qM{xs:LV}(h:xs.all yZ=af):nK (.list (xs.map ZC))=af/\nK (.tuple (xs.map ZC))=af:=by
 let a:∀x,yZ x=af->(ZC x).canLay0=af/\(ZC x).depth=0:=λx=>by cases x <;> simp[ZC,ib,gS,yZ]
 let l:∀b:LV,b.all yZ=af->lH (b.map ZC)=af/\c7 (b.map ZC)=0:=by
  intro b;induction b with
  |nil=>show λ_=>{U,U}
  |cons y r ih=>
   intro h;rw[lD,bK] at h;show{[bB,lH,(a y h.1).1,(ih h.2).1]\U,[bB,c7,(a y h.1).2,(ih h.2).2]\U}
 show{by simp[nK,ib,gS,(l xs h).1,(l xs h).2],by simp[nK,ib,gS,(l xs h).1,(l xs h).2]}
abbrev znB(K:bz)(d:Bool):R2:=λx y H Q=>∃a b xs c,x=.ref a/\y=.ref b/\aN K H a xs/\aN K H b c/\(xs.all yZ=af/\c.all yZ=af/\zbT xs c=af)/\Q (.bl (if d then !decide (xs=c) else decide (xs=c))) H
def zjk(n:X.A.units+64<cLine):Az X (Fi .Eq) (znB X.K ah):=by intro aa s σ H x y v u Q I k g h;let #[a,b,xs,w,rfl,rfl,r,o,#[d,c,t],q]:=h;cases k;cases g;let #[D,m,p1,_]:=I.list r;let #[z,l,p2,_]:=I.list o;show eq_dataH_same (rC p1.isList (jO d m)) (rC p2.isList (jO c l)) (qM d).1 (qM c).1 n (tU\qL d c t) ?_;show [Bh,ZP d c]\{.bl _,H,I,U,q}
def znC(n:X.A.units+64<cLine):Az X (Fi .NotEq) (znB X.K af):=by intro aa s σ H x y v u Q I k g h;let #[a,b,xs,w,rfl,rfl,r,o,#[d,c,t],q]:=h;cases k;cases g;let #[D,m,p1,_]:=I.list r;let #[z,l,p2,_]:=I.list o;show ne_dataH_same (rC p1.isList (jO d m)) (rC p2.isList (jO c l)) (qM d).1 (qM c).1 n (tU\qL d c t) ?_;show [Bh,ZP d c]\{.bl _,H,I,U,q}
abbrev znD(K:bz):R2:=λx y H Q=>∃a b xs,x=.ref a/\y=.ref b/\aN K H a xs/\aN K H b []/\Q (.bl (decide (xs=[]))) H
def Kf(o:X.A.units+64<cLine):Az X (Fi .Eq) (znD X.K):=by
 intro aa s σ H x y v u Q I d c h;let #[a,b,xs,rfl,rfl,k,g,q]:=h;by_cases e:xs=[]
 .subst e;show zjk o aa s σ H _ _ v u Q I d c {a,b,[],[],U,U,k,g,{U,U,U},q}
 .cases d;cases c;let #[w,n,p1,_]:=I.list k;let #[t,m,p2,_]:=I.list g;cases m;let l:=n.length;let r:xs.length≠0:=λz=>e (dJ z);show PySem.SeqAt.eq_list_lengthsAt p1.isList p2.isList (by simp;intro z;rw[z] at l;show r l) () ?_;rw[Fk e] at q;show{.bl ah,H,I,U,q}
abbrev yV:RM:=zbK
abbrev qc:RM:=zop
def  jw:LV:=[.str "plus",.str "minus",.str "times",.str "over",.str "rest",.str "under",.str "same"]
def  isJ(v:V):Bool:=inV v jw
inductive Er where
 |nought|great|stuck
 deriving DecidableEq
def  zjl(w:Str)(a b:Int):Int:=
 if w="plus" then a+b else if w="minus" then a-b else if w="times" then a*b else if w="under" then (if a<b then 1 else 0) else if w="same" then (if a=b then 1 else 0) else if w="over" then a.fdiv b else a.fmod b
def  zgg(w:Str):Prop:=¬ w="plus"/\¬ w="minus"/\¬ w="times"/\¬ w="under"/\¬ w="same"
instance (w:Str):Decidable (zgg w):=by unfold zgg;infer_instance
def  zmX(w:Str)(a b:Int):Except Er Int:=if zgg w/\b=0 then .error .nought else if inW (zjl w a b)=af then .ok (zjl w a b) else .error .great
def  zoy(b:xC):V->Int
 |.int i=>i
 |.str x=>(match yD b (.inr x) with|some (.int i)=>i|_=>0)
 |_=>0
def  zjm(d:xC)(st:yI)(v:V):Except Er yI:=
 if isJ v=af then (match v,st.reverse with|.str w,b::a::r=>(match zmX w a b with|.ok c=>.ok (r.reverse++[c])|.error e=>.error e)|_,_=>.error .stuck) else .ok (st++[zoy d v])
def  zjn(b:xC):LV->yI->Except Er yI
 |[],st=>.ok st
 |v::r,st=>match zjm b st v with|.ok st'=>zjn b r st'|.error e=>.error e
section
variable {aI:xC}
def  zpd(aI:xC)(ps:LV)(r:Except Er Int):Prop:=(∀b,zjn aI ps b=match r with|.ok i=>.ok (b++[i])|.error e=>.error e)/\r≠.error .stuck
end
def  zbU(v:V):Prop:=(∃i,v=.int i/\inW i=af)\/∃x:Str,v=.str x/\x.length<=1000
def  Jy(b:xC):Prop:=∀k v,yD b k=Z v->∃i,v=.int i/\inW i=af
def zlF(w:Str):isJ (.str w)=af↔(w="plus"\/w="minus"\/w="times"\/w="over"\/w="rest"\/w="under"\/w="same"):=by
 unfold isJ inV jw;simp only[mD,List.any_nil,eqV,rj,oK,beq_iff_eq];constructor
 .rintro(h|h|h|h|h|h|h) <;> simp[<-h]
 .rintro(h|h|h|h|h|h|h) <;> simp[h]
def  Itv(K:bz)(a:ac)(xs:LV):It:={λi H=>i<xs.length/\aN K H a xs,λi H x b=>b=H/\xs[xs.length-1-i]?=Z x,λi _=>xs.length<=i}
def zjp{P:am}{w:ap}{K:bz}{tg:au}(a it:ac)(xs:LV):JO P w K tg (Itv K a xs) [it] it (λi h=>i<=xs.length/\h.IsRevIter it a ((xs.length:Int)-1-(i:Int))) where
 mem:=?s
 obj:=λi h l b n=>by
  let e:b=it:=<-n
  subst e;let #[_,o,e,c,d]:=l;show{o,e,λv z=>by rw[d] at z;cases z}
 keep:=λi h r l k=>{l.1,l.2.at λo e=>k it ?s o e}
 item:=by
  intro X G t J hc i aa s σ H E I q l D;subst G t J;let #[y,hq]:=D;let #[al,rv,p,hz]:=I.list hq;let hl:=rv.length;let #[u,hu,ru]:=rv.get (i:=xs.length-1-i) (x:=xs[xs.length-1-i]'()) (bc ());let #[T,Q,f2,O,M,L]:=q it ?s;let g:=l.2;let e1:(xs.length:Int)-1-(i:Int)=((xs.length-1-i:Nat):Int):=()
  rw[e1] at g;show wpAny_pyNext_rev_item g p.isList (x:=u) (<-hu) λr m sb=>?_;let I1:aJ X aa σ H { s with heap:=r }:=I.turned (t':=s.toks) (λb o n e=>(sb.2 b n).trans e) T Q O M L;let e2:((xs.length-1-i:Nat):Int)-1=(xs.length:Int)-1-((i+1:Nat):Int):=()
  rw[e2] at m;let #[o,e,c,d]:=id m;show{u,U,Vn (s:={ s with heap:=r }) e c d () {_,H,I1,ru,{rfl,bc ()},{y,m},λb n=>(q b n).1}}
 done:=by intro X G t J hc i aa s σ H E I q l D;subst G t J;let #[T,Q,f2,O,M,L]:=q it ?s;let y:i=xs.length:=Nat.le_antisymm l.1 D;let g:=l.2;rw[y,(xs.length:Int)-1-(xs.length:Int)=-1|>()] at g;show wpAny_pyNext_rev_end (I.ok.hd hc) g λr eb=>{U,I.turned (t':=s.toks) (λb o n e=>eb b o n e) T Q O M L}
 self:=λ_ _ _ _ _ l h=>tE l.2 h
def  zoz(K:bz)(d:TA):TI:=λσ H R=>d σ H λc b=>∃a xs,c=[.ref a]/\aN K b a xs/\R (Itv K a xs) b
def znE{a:au}{l:TA}(D:Gl X "reversed")(z:X.mg "reversed"=ae)(J:PA X [a] l)(w:Fe [a] X.e=[(ah,eval a X.e)]:=by rfl):PI X tg (.Call (.Name "reversed" p) [a] [] pos) (zoz X.K l):=by
 intro aa s σ H R I h;show Call_ (ZH I D z zdb (eu (aT (J pos aa s σ H _ I h) ?_) w U));rintro O d ⟨M,L,k,t,u⟩;let #[b,xs,e,y,q]:=u;subst e;cases t with
 |cons r rr=>
  cases rr;cases r;let #[g,n,v,Q]:=k.list y;let T:=n.length;show call_reversed_list v.isList ?_;let m:(d.heap.push (revObj b ((g.toArray.size:Int)-1))).IsRevIter d.heap.objs.size b ((xs.length:Int)-1-((0:Nat):Int)):={_,bq _ U,U,by change u9 _=_;rw[((g.toArray.size:Nat):Int)-1=(xs.length:Int)-1-((0:Nat):Int)|>by simp;lia]}
  show tE (s:={ d with heap:=_ }) m ?_;show{d.heap.objs.size,[d.heap.objs.size],_,_,L,U,k.kept (t':=d.toks) λb o e=>bf _ e,zjp b _ xs,{bP _,m},λc G=>?_,q};let e:c=d.heap.objs.size:=<-G
  subst e;show k.fpOk (bh _) (k.hok.fresh (bh _))
def zjq{a:ac}(xs:LV)(Pv:Nat->Ah)(g:Pv 0 σ H)(c:∀i σ H,Pv i σ H->aN K H a xs)(b:∀i x σ H,i<xs.length->xs[xs.length-1-i]?=Z x->Pv i σ H->B x σ H (Pv (i+1)))(d:∀σ H,Pv xs.length σ H->nx σ H) :
  FoP (Itv K a xs) nx B σ H:=zgf Pv g (λi σ H l p=>{{l,c i σ H p},by rintro x h ⟨rfl,y⟩;show b i x σ _ l y p}) λσ H p=>{bh _,d σ H p}
def  inL(c:Nat):Bool:=!(dI "abcdefghijklmnopqrstuvwxyz" ⟨#[c]⟩ 0 (eZ "abcdefghijklmnopqrstuvwxyz") 1).isEmpty
def  wl:LV:=[.str "take",.str "give",.str "let",.str "say",.str "off",.str "if",.str "else",.str "end",.str "as"]
def  yv(x:Str):Bool:=!(decide (x="") || decide (6<x.length)) && !(inV (.str x) jw || inV (.str x) wl)&&x.cps.toList.all inL
def zbV(c:Nat):inL c=af->97<=c/\c<=122:=by unfold inL;show [uF,decide_eq_true_eq]\(():∀c∈(bb "abcdefghijklmnopqrstuvwxyz").cps.toList,97<=c/\c<=122) c
def QQ(b:x.length<=1000)(hc:c∈x.cps.toList)(h:97<=c):jN x=ah:=by
 show fc.mpr λz=>?_;let d:=((zlE b).mp z).2.2.1;unfold AL at d;obtain ⟨cs,e,ef⟩|⟨_,ef⟩:=vJ x
 .rw[e] at hc;rw[ef] at d;obtain rfl|hc:=bo.mp hc
  .lia
  .let:=d c hc;lia
 .rw[ef] at d;let:=d c hc;lia
def w6(h:yv x=af):x.cps.toList≠[]/\x.length<=6/\isJ (.str x)=ah/\x.cps.toList.all inL=af:=by unfold yv at h;rw[bK,bK,dP,dP,ii,ii,decide_eq_false_iff_not,decide_eq_false_iff_not] at h;show{λz=>h.1.1.1 (xN (z\())),(),h.1.2.1,h.2}
def QR(h:yv x=af):jN x=ah:=by let #[d,g,_,b]:=w6 h;let #[c,r,e]:=List.exists_cons_of_ne_nil d;show QQ (c:=c) () (e\?s) (zbV c (cx.mp b c (e\?s))).1
def zlG(h:isJ (.str x)=af):yv x=ah/\jN x=ah:=by
 show{fc.mpr λz=>?_,?_}
 .rw[(w6 z).2.2.1] at h;cases h
 .rcases(zlF x).mp h with rfl|rfl|rfl|rfl|rfl|rfl|rfl <;> lia
inductive Tw where
 |leaf (w:Str)|node (w:Str) (a b:Tw)
def  pre:Tw->zO
 |.leaf w=>[w]
 |.node w a b=>w::(pre a++pre b)
def zdi(h:yv x=af):Av x:=λc b=>by let:=zbV c (cx.mp (w6 h).2.2.2 c b);lia
def aJ.turnedL{aa:Ae}{H:Hp}{t':Nat}{ch:List ac}(I:aJ X aa σ H s)(k:∀b o,b ∉ ch->s.heap.get? b=Z o->h'.get? b=Z o)(h:∀b∈ch,jJ X aa H b) :
  aJ X aa σ H { s with heap:=h',toks:=t' }:=by
 let g:∀b u,H b=Z u->b ∉ ch:=λb u e z=>by rw[(h b z).1] at e;cases e
 show I.step (g':=s.gens) (d':=s.drawn) (ch:=ch) (λb y=>?_) (λb o _ _ d e _=>k b o d e) (λb o _ _ d e _=>{o.slots,k b o d e}) (λ_ _ _ _ n=>n) (λb o d e=>{o,k b o d e}) (λ_ _ e=>e) (λ_ _ _ e=>e) (λb ps e=>{#[],e\?s}) (λm t=>?_) (λb u e=>?_) I.bare
 .let #[Q,L,O,J,G,D]:=h b y;show{J,L,G,D}
 .let #[o,es,M,l,r]:=t;show{o,es,M,k _ o (λz=>(h _ z).2.1 U) l,r}
 .show(I.hok b u e).stay (λc v d q=>k c v ?_ q) (λ_ q=>q) λ_ _ q=>q;obtain z|z:=d
  .show z\g b u e
  .show g c _ z
abbrev zoB(K:bz):RC:=λxs H Q=>∃p b,xs=[.ref p]/\((aN K H p b/\∀l,H l=ae->Q (.ref l) (upd H l (.tup b)))\/(aV K H p b/\Q (.ref p) H))
open PySem.W
section
variable {α β:Type}{lt:Nat->Nat->Bool}{n:Nat}
def  kOk(lt:Nat->Nat->Bool)(n:Nat):KasT α->(α->Prop)->Prop
 |.ret a,R=>R a
 |.ask i j k,R=>i<n/\j<n/\i≠j/\kOk lt n (k (lt i j)) R
def qd:∀ {t:KasT α}{f:α->KasT β}{R:β->Prop},kOk lt n t (λa=>kOk lt n (f a) R)->kOk lt n (t.bind f) R
 |.ret _,_,_,h=>h
 |.ask _ _ _,_,_,h=>{h.1,h.2.1,h.2.2.1,qd h.2.2.2}
def vY:∀ {t:KasT α}{R b:α->Prop},kOk lt n t R->(∀a,R a->b a)->kOk lt n t b
 |.ret _,_,_,h,m=>m _ h
 |.ask _ _ _,_,_,h,m=>{h.1,h.2.1,h.2.2.1,vY h.2.2.2 m}
structure SO(lt:Nat->Nat->Bool)(n:Nat):Prop where
 irr:∀i,i<n->lt i i=ah
 trans:∀i j k,i<n->j<n->k<n->lt i j=af->lt j k=af->lt i k=af
 tot:∀i j,i<n->j<n->i≠j->lt i j=ah->lt j i=af
def  PP(n:Nat)(p:ANt):Prop:=p.Perm (cH n).toArray
def  gt(p:ANt)(k:Nat):Nat:=p.getD k 0
def qf{p:ANt}(h:k<p.size):p[k]?=Z (gt p k):=by unfold gt;rw[gM,b9 h];rfl
def PP.size{p:ANt}(h:PP n p):p.size=n:=by let:=h.size_eq;simpa using this
def PP.blt{p:ANt}(h:PP n p)(d:k<n):gt p k<n:=by let c:=h.size;let m:gt p k∈p:=Array.mem_of_getElem? (qf ());let b:gt p k∈(cH n).toArray:=(um h).mp m;simpa using b
def PP.inj{p:ANt}(h:PP n p)(t:i<n)(r:j<n)(e:gt p i=gt p j):i=j:=by
 let q:=h.size;let g:p.toList.Nodup:=by
  let:p.toList.Perm (cH n):=by let:=lM.mp h;simpa using this
  show this.nodup_iff.mpr uU
 let l:=qf (p:=p) (k:=i) ();let d:=qf (p:=p) (k:=j) ();rw[<-e] at d;let c:p.toList[i]?=Z (gt p i):=<-l
 let b:p.toList[j]?=Z (gt p i):=<-d
 let #[v,o]:=bi.mp c;let #[u,m]:=bi.mp b;show(iF g).mp (o.trans m.symm)
def  ZD(lt:Nat->Nat->Bool)(p:ANt)(m:Nat):Prop:=∀i j,i<j->j<m->lt (gt p i) (gt p j)=af
def  znF(lt:Nat->Nat->Bool)(p:ANt)(m:Nat):Prop:=∀i j,i<j->j<m->lt (gt p j) (gt p i)=af
def ze8(S:SO lt n){p:ANt}(b:PP n p):∀(f a:Nat),1<=a->a+f<=n->ZD lt p a->kOk lt n (kas_asc p f a) λm=>a<=m/\m<=a+f/\ZD lt p m/\(m<a+f->lt (gt p m) (gt p (m-1))=af)
 |0,a,h1,h2,hr=>{bh _,bh _,hr,λz=>absurd z (gy _)}
 |f+1,a,h1,h2,hr=>by
  show{b.blt (),b.blt (),(λz=>by let:=b.inj () () z;lia),?_};change kOk lt n (if lt (gt p a) (gt p (a-1))=af then .ret a else kas_asc p f (a+1)) _;by_cases c:lt (gt p a) (gt p (a-1))=af
  .show ak c\{bh _,(),hr,λ_=>c}
  .rw[aj c];let g:lt (gt p (a-1)) (gt p a)=af:=S.tot _ _ (b.blt ()) (b.blt ()) (λz=>by let:=b.inj () () z;lia) (fc.mpr c);show vY (ze8 S b f (a+1) () () λi j d q=>?_) λm ⟨o,l,k,h⟩=>{(),(),k,λz=>h ()};by_cases hja:j<a
   .show hr i j d hja
   .obtain rfl:j=a:=by lia
    by_cases hi:i=j-1
    .show hi\g
    .show S.trans _ _ _ (b.blt ()) (b.blt ()) (b.blt ()) (hr i (j-1) () ()) g
def zgj(S:SO lt n){p:ANt}(b:PP n p):∀(f a:Nat),1<=a->a+f<=n->znF lt p a->kOk lt n (kas_desc f p a 0) λr=>r.1=p/\r.2.2=0/\a<=r.2.1/\r.2.1<=a+f/\znF lt p r.2.1
 |0,a,h1,h2,hr=>{U,U,bh _,bh _,hr}
 |f+1,a,h1,h2,hr=>by
  show{b.blt (),b.blt (),(λz=>by let:=b.inj () () z;lia),?_};change kOk lt n (if lt (gt p a) (gt p (a-1))=af then (if 0 > 0 then _ else kas_desc f p (a+1) 0) else .ask (gt p (a-1)) (gt p a) λd=>if d=af then .ret (p,a,0) else kas_desc f p (a+1) (0+1)) _;by_cases c:lt (gt p a) (gt p (a-1))=af
  .rw[ak c,aj ()];show vY (zgj S b f (a+1) () () λi j g u=>?_) λm ⟨l,k,t,q,h⟩=>{l,k,(),(),h};by_cases hja:j<a
   .show hr i j g hja
   .obtain rfl:j=a:=by lia
    by_cases hi:i=j-1
    .show hi\c
    .show S.trans _ _ _ (b.blt ()) (b.blt ()) (b.blt ()) c (hr i (j-1) () ())
  .rw[aj c];let o:lt (gt p (a-1)) (gt p a)=af:=S.tot _ _ (b.blt ()) (b.blt ()) (λz=>by let:=b.inj () () z;lia) (fc.mpr c);show{b.blt (),b.blt (),(λz=>by let:=b.inj () () z;lia),?_};change kOk lt n (if lt (gt p (a-1)) (gt p a)=af then .ret (p,a,0) else _) _;show ak o\{U,U,bh _,iJ _ _,hr}
def zju{p:ANt}(c:m<=p.size)(d:k<m):gt (kas_rev p 0 m) k=gt p (m-1-k):=by let e:=getElem?_mirror_all (xs:=p) (i:=0) (j:=m) c k;rw[ak {bP _,d}] at e;let b:=qf (p:=kas_rev p 0 m) (k:=k) (by unfold kas_rev;rw[mirror_size];lia);let g:=qf (p:=p) (k:=m-1-k) ();unfold kas_rev at b ⊢;rw[e,0+m-1-k=m-1-k|>(),g] at b;show(cf b).symm
def PP.rev{p:ANt}(h:PP n p)(m:Nat):PP n (kas_rev p 0 m):=uV (mirror_perm _ _ _ _) h
def zlH(S:SO lt n){p:ANt}(b:PP n p)(k:1<=m)(t:m<=n)(h:znF lt p m):kOk lt n (kas_tail3 m n p) λr=>PP n r.2/\ZD lt r.2 r.1/\1<=r.1/\r.1<=n:=by show qd (vY (ze8 S (b.rev m) (n-m) m k () λi j g d=>?_) λa ⟨o,l,c,_⟩=>{b.rev m,c,(),()});let q:=b.size;show [zju () (),zju () d]\h _ _ () ()
def zjv(S:SO lt n){p:ANt}(b:PP n p)(G:1<=n):kOk lt n (kas_count n p) λr=>PP n r.2/\ZD lt r.2 r.1/\1<=r.1/\r.1<=n:=by
 show qd (vY (ze8 S b (n-1) 1 (bh _) () λi j g t=>()) λm ⟨k,y,d,q⟩=>?_);by_cases e:(m==n)=af
 .show ak e\{b,d,k,()}
 .rw[aj e];let D:m≠n:=<-e
  by_cases h:m > 1
  .rw[ak h];show{b.blt (),b.blt (),(λz=>by let:=b.inj () () z;lia),?_};change kOk lt n (if lt (gt p 0) (gt p (m-1))=af then .ret (m,p) else _) _;show ak (d 0 (m-1) () ())\{b,d,k,()}
  .rw[aj h];obtain rfl:m=1:=by lia
   let c:=q ();show qd (vY (zgj S b (n-2) 2 () () λi j g t=>?_) λr ⟨o,w,v,u,l⟩=>?_)
   .obtain rfl:j=1:=by lia
    obtain rfl:i=0:=by lia
    show c
   .show [aj (),o]\zlH S b () () l
def Kg(S:SO lt n){p:ANt}(b:PP n p){k:Nat}(t:k<n)(h:ZD lt p k):∀(f l r:Nat),l<=r->r<=k->r-l<=f->(∀i,i<l->lt (gt p i) (gt p k)=af)->(∀i,r<=i->i<k->lt (gt p k) (gt p i)=af) ->
  kOk lt n (kas_place p k f l r) λm=>m<=k/\(∀i,i<m->lt (gt p i) (gt p k)=af)/\∀i,m<=i->i<k->lt (gt p k) (gt p i)=af
 |0,l,r,h1,h2,h3,h4,h5=>{(),h4,λi o g=>h5 i () g}
 |f+1,l,r,h1,h2,h3,h4,h5=>by
  unfold kas_place;by_cases c:l >= r
  .show ak c\{(),h4,λi o g=>h5 i () g}
  .rw[aj c];show{b.blt (),b.blt (),(λz=>by let:=b.inj () () z;lia),?_};change kOk lt n (if lt (gt p k) (gt p ((l+r)/2))=af then _ else _) _;by_cases d:lt (gt p k) (gt p ((l+r)/2))=af
   .rw[ak d];show Kg S b t h f l ((l+r)/2) () () () h4 λi o g=>?_;by_cases e:i=(l+r)/2
    .show e\d
    .show S.trans _ _ _ (b.blt ()) (b.blt ()) (b.blt ()) d (h _ i () g)
   .rw[aj d];let q:lt (gt p ((l+r)/2)) (gt p k)=af:=S.tot _ _ (b.blt ()) (b.blt ()) (λz=>by let:=b.inj () () z;lia) (fc.mpr d);show Kg S b t h f ((l+r)/2+1) r () () () (λi o=>?_) h5;by_cases e:i=(l+r)/2
    .show e\q
    .show S.trans _ _ _ (b.blt ()) (b.blt ()) (b.blt ()) (h i _ () ()) q
def zjw{p:ANt}(b:k<p.size)(g:d<=k)(c:j<p.size):gt (bubble p k d) j=if j=k-d then gt p k else if k-d<j/\j<=k then gt p (j-1) else gt p j:=by
 let e:=getElem?_bubble b d g j;rw[qf (p:=bubble p k d) (k:=j) (bubble_size\c)] at e;by_cases h1:j=k-d
 .rw[ak h1,qf b] at e;show ak h1\cf e
 .rw[aj h1] at e ⊢;by_cases h2:k-d<j/\j<=k
  .rw[ak h2,qf ()] at e;show ak h2\cf e
  .rw[aj h2,qf c] at e;show aj h2\cf e
def zjx(S:SO lt n):∀(f:Nat){p:ANt}(k:Nat),PP n p->k+f=n->ZD lt p k->kOk lt n (kas_bin f p k) λd=>PP n d/\ZD lt d n
 |0,p,k,hp,hk,hr=>{hp,[<-hk]\hr}
 |f+1,p,k,hp,hk,hr=>by
  let o:=hp.size;show qd (vY (Kg S hp () hr k 0 k (bP _) (bh _) () (λi c=>()) (λi t r=>())) λl ⟨m,h,g⟩=>?_);show zjx S f (k+1) (uV (bubble_perm _ _ _) hp) () λi j b q=>?_;rw[zjw () () (),zjw () () ()];let e:k-(k-l)=l:=()
  rw[e];by_cases c:i=l
  .show [ak c,aj (),ak ()]\g _ () ()
  .rw[aj c];by_cases hi2:l<i/\i<=k
   .show [ak hi2,aj (),ak ()]\hr _ _ () ()
   .rw[aj hi2];by_cases hj1:j=l
    .show ak hj1\h _ ()
    .rw[aj hj1];by_cases hj2:l<j/\j<=k
     .rw[ak hj2];by_cases hij2:i<j-1
      .show hr _ _ hij2 ()
      .lia
     .show aj hj2\hr _ _ b ()
def zlI(S:SO lt n)(g:1<=n):kOk lt n (kas_sort n) λp=>PP n p/\ZD lt p n:=by
 show qd (vY (zjv S (p:=pi (cH n)) (Bi _) g) ?_);rintro r ⟨c,b,d,k⟩;by_cases h:r.1<n
 .show [ak h,Nat.max_eq_left d]\zjx S _ _ c () b
 .rw[aj h];obtain e:r.1=n:=by lia
  show{c,by rw[<-e];rw[e] at b ⊢;show b}
end
def zjy{b:Type}{c:Nat->Nat->Bool}{n:Nat}{s:ag}{cmp:Nat->Nat->(Bool->ag->Prop)->ag->Prop}(d:∀i j C,i<n->j<n->i≠j->C (c i j) s->cmp i j C s):∀ {t:KasT b}{R:b->Prop}{Q:b->ag->Prop},kOk c n t R->(∀a,R a->Q a s)->t.kasWp cmp Q s
 |.ret _,_,_,h,m=>m _ h
 |.ask _ _ _,_,_,h,m=>d _ _ _ h.1 h.2.1 h.2.2.1 (zjy d h.2.2.2 m)
def  Kp(a:ac)(h c:ao):Prop:=∀b o,b≠a->h.get? b=Z o->c.get? b=Z o
def  vy(b:zQ)(p:ANt):zQ:=p.toList.map λi=>b.getD i cb
def zdj(vs:zQ):vy vs (pi (cH vs.length))=vs:=by
 unfold vy;apply dq;intro i;simp only[bn];by_cases h:i<vs.length
 .rw[bc (l:=vs) h];simp[oM h,h]
 .rw[bT (():vs.length<=i)];simp;lia
section
variable {w:ap}
def Y9{a:ac}{d:zQ}{n:Nat}{κ:SortKind}{lt:Nat->Nat->Bool}{R:PySem.Fin->ag->Prop}(D:s.heap.get? a=Z (seqObj "list" d.toArray n))(T:d.length<64)(hk:2<=d.length->∀(h:ao)(Q:SortKind->ag->Prop),Kp a s.heap h->Q κ { s with heap:=h }->Ff (Fg P w) A (keyKind' d.toArray) Q (λ_ _=>False) { s with heap:=h })(hc:∀(h:ao) i j C,Kp a s.heap h->i<d.length->j<d.length->i≠j->C (lt i j) { s with heap:=h }->kas_ask P w A κ d i j C { s with heap:=h })(S:SO lt d.length)(al:∀h p c,Kp a s.heap h->h.get? a=Z (seqObj "list" (vy d p).toArray c)->PP d.length p->ZD lt p d.length->R (.done (.ret .none)) { s with heap:=h }) :
  Ff (Fg P w) A (Builtin.«list.sort» {[.ref a],[]}) R E s:=by
 let ha:a<s.heap.objs.size:=bG D;obtain⟨e1,o1⟩:∃e1,(s.heap.update a (dN λ_=>(#[]:Array ai))).get? a=Z (seqObj "list" #[] e1):={_,get?_update_seq D λ_=>#[]};let J:Kp a s.heap (((s.heap.update a (dN λ_=>(#[]:Array ai))).push (seqObj "tuple" d.toArray 0)).push (seqObj "list" #[] 0)):=λb o G e=>
  bf _ (bf _ ((cg _ _ (cY G)).trans e))
 let u:(((s.heap.update a (dN λ_=>(#[]:Array ai))).push (seqObj "tuple" d.toArray 0)).push (seqObj "list" #[] 0)).get? a=Z (seqObj "list" #[] e1):=bf _ (bf _ o1);let v:∀k:zQ,k.length=d.length->∃c,((((s.heap.update a (dN λ_=>(#[]:Array ai))).push (seqObj "tuple" d.toArray 0)).push (seqObj "list" #[] 0)).update a (dN λ_=>k.toArray)).get? a=Z (seqObj "list" k.toArray c):=λk _=>{_,get?_update_seq u λ_=>k.toArray};let q:∀k:zQ,Kp a s.heap ((((s.heap.update a (dN λ_=>(#[]:Array ai))).push (seqObj "tuple" d.toArray 0)).push (seqObj "list" #[] 0)).update a (dN λ_=>k.toArray)):=λk b o G e=>
  (cg _ _ (cY G)).trans (J b o G e)
 rw[list_sort_plain];show ba (listItems_at D U ?_);show ba (uo D U ?_ ([bH,cp]\()) (bP _));show ba (seqEpoch_at o1 U ?_);show ba (pE ?_ (by change d.length<=_;rw[cp];lia));show ba (ou ?_ (bP _));show cF ?_;change Ff (Fg P w) A _ R E { s with heap:=((s.heap.update a (dN λ_=>(#[]:Array ai))).push (seqObj "tuple" d.toArray 0)).push (seqObj "list" #[] 0) };generalize hH:((s.heap.update a (dN λ_=>(#[]:Array ai))).push (seqObj "tuple" d.toArray 0)).push (seqObj "list" #[] 0)=g at *
 dsimp only;let up:∀k:zQ,k.length=d.length->∀p,k=vy d p->PP d.length p->ZD lt p d.length->R (.done (.ret .none)) { s with heap:=g.update a (dN λ_=>k.toArray) }:=λk hl p e t L=>by let #[c,M]:=v k hl;show al _ p c (q k) ?_ t L;show [<-e]\M
 by_cases h2:d.toArray.size<2
 .let r:d.length<2:=<-h2
  rw[ak h2,ak h2];show ba (bg ?_);rw[StateT.run_pure];show ba (bg ?_);dsimp only;let ez:((d.toArray.zip d.toArray).map (·.2))=d.toArray:=by apply rP.mp;rw[Array.toList_map,Array.toList_zip];simp[List.map_snd_zip]
  show ba (seqEpoch_at u U ?_);rw[(arrOf (SortSt.mk' general' (d.toArray.zip d.toArray) #[] 7 ae))=d.toArray.zip d.toArray|>rfl,ez];show ba (uo u U ?_ (bP _) ([bH,cp]\()));simp only[bne_self_eq_false,cA,if_false];show bg (up d U _ (zdj d).symm (Bi _) λi j y hj=>())
 .let r:2<=d.length:=<-h2
  rw[aj h2,aj h2];show ba (dM (hk r g (λm l=>m=κ/\l={ s with heap:=g }) J {rfl,rfl}) (λm l hs=>?_) λ_ _ x=>x.elim);let #[rfl,rfl]:=hs;let I:=zjy (s:={ s with heap:=g }) (cmp:=kas_ask P w A m d) (λi j C hi hj y hC=>hc g i j C J hi hj y hC) (zlI S ()) (Q:=λp l=>l={ s with heap:=g }/\PP d.length p/\ZD lt p d.length) λp t=>{rfl,t};show ba (dM (kat_run (ks:=d) (Q:=λz l=>∃p:ANt,arrOf z=p.map (kas_item (d.toArray.zip d.toArray))/\failedOf z=ae/\l={ s with heap:=g }/\PP d.length p/\ZD lt p d.length) rfl r T (λp z l _ a2 a3 a4=>{p,a2,a3,a4}) I) ?_ λ_ _ e=>e);rintro⟨⟨⟩,z⟩ l ⟨p,O,hf,rfl,t,L⟩;dsimp only;let k:=kat_snds (ks:=d) U O;let ol:(vy d p).length=d.length:=by unfold vy;rw[bd,bE,t.size]
  rw[k];show ba (seqEpoch_at u U ?_);show ba (uo u U ?_ (bP _) (by change (pi (vy d p)).size<=_;rw[bH,ol,cp];lia));rw[hf];simp only[bne_self_eq_false,cA,if_false];show bg (up (vy d p) ol p U t L)
def zdk{l:ac}{vs:zQ}{κ:SortKind}{lt:Nat->Nat->Bool}{Q:Aa}(y:vs.length<64)(S:SO lt vs.length)(u:∀R:zQ->ag->Prop,(∀(h:ao)(g:Nat),(∀b o,s.heap.get? b=Z o->h.get? b=Z o)->R vs { s with heap:=h,toks:=g })->Ff (Fg P w) A.in1 (collect (.ref l)) R E s)(J:2<=vs.length->∀(h:ao)(g:Nat)(Q:SortKind->ag->Prop),(∀b o,s.heap.get? b=Z o->h.get? b=Z o)->Q κ { s with heap:=h,toks:=g }->Ff (Fg P w) A.in1.in1 (keyKind' vs.toArray) Q (λ_ _=>False) { s with heap:=h,toks:=g })(O:∀(h:ao)(g:Nat) i j C,(∀b o,s.heap.get? b=Z o->h.get? b=Z o)->i<vs.length->j<vs.length->i≠j->C (lt i j) { s with heap:=h,toks:=g }->kas_ask P w A.in1.in1 κ vs i j C { s with heap:=h,toks:=g })(z:∀(h:ao)(g:Nat)(d:ao)(p:ANt)(c:Nat),(∀b o,s.heap.get? b=Z o->h.get? b=Z o)->(∀b o,h.get? b=Z o->d.get? b=Z o)->d.get? h.objs.size=Z (seqObj "list" (vy vs p).toArray c)->PP vs.length p->ZD lt p vs.length->Q (.ref h.objs.size) { s with heap:=d,toks:=g }) :
  Ff (Fg P w) A (call (.builtin "sorted") [.ref l]) Q E s:=by
 show lQ tV sK sL (sM _) ?_;unfold Builtin.«sorted»;show ba (m:=checkCount "sorted" 1 1 _) (bg ?_);show ba (u _ λh g r=>?_);show ba (ou ?_ (cp\()));let t:(h.push (seqObj "list" vs.toArray 0)).get? h.objs.size=Z (seqObj "list" vs.toArray 0):=bq _ rfl;let n:∀d,Kp h.objs.size (h.push (seqObj "list" vs.toArray 0)) d->∀b o,h.get? b=Z o->d.get? b=Z o:=λd k b o e=>k b o (bO (bG e)) (bf _ e);show ba (cF (cG pF {_,t,U} oN (Y9 (s:={ s with heap:=h.push (seqObj "list" vs.toArray 0),toks:=g }) t y (κ:=κ) (lt:=lt) (λT d Q' k q=>?_) (λd i j C k M L v q=>?_) S λd p c k I G D=>?_) (pG _)))
 .show J T d g Q' (λb o e=>n d k b o (r b o e)) q
 .show O d g i j C (λb o e=>n d k b o (r b o e)) M L v q
 .show{_,U,bg {_,U,z h g d p c r (n d k) I G D}}
end
def  yg(a b:Str×Int):Bool:=if a.1=b.1 then decide (a.2<b.2) else decide (a.1.cps.toList<b.1.cps.toList)
inductive Ab(h:ao)(v:ai)(q:Str×Int):Prop
 |mk (a o t u n:_) (f1:v=.ref a) (f2:h.get? a=Z o) (f3:o.cls=.type "tuple") (f4:o.data=.seq #[.str q.1 t,.int q.2 u] n)
section
variable {w:ap}
def zlJ{Q:Bool->ag->Prop}(h:Q (decide (a.cps.toList<c.cps.toList)) s):Ff (Fg P w) A (oneLt' af (.str a t) (.str c u)) Q E s:=[<-keyLt'_oneType]\kas_lt_str h
def zlK{a c:Int}{Q:Bool->ag->Prop}(h:Q (decide (a<c)) s):Ff (Fg P w) A (oneLt' ah (.int a t) (.int c u)) Q E s:=
 kat_one _ _ (tQ (W.BoolBack Q (.bool (decide (a<c))) s|>h))
def zaW{x y:ai}{a b:Str×Int}{Q:Bool->ag->Prop}(l:Ab s.heap x a)(k:Ab s.heap y b)(h:Q (yg a b) s)(q:a≠b):Ff (Fg P w) A (keyLt' (tuples' af) x y) Q E s:=by
 let #[p,o,t,u,n,rfl,m,J,r]:=l;let #[p2,G,D,z,I,rfl,c,v,d]:=k;show kat_lt m r c d (kat_cons (wpAny_eqBool_str (kat_go (λe=>kat_yes (kat_cons (wpAny_eqBool_int (kat_go (λg=>?_) λg=>kat_no ?_)))) λe=>kat_no ?_)))
 .show absurd (rD (of_decide_eq_true e) (<-g)) q
 .let e:=of_decide_eq_true e;unfold yg at h;rw[ak e] at h;show zlK h
 .let e:=of_decide_eq_false e;unfold yg at h;rw[aj e] at h;show zlJ h
def Kh{b:zQ}{qs:List (Str×Int)}{Q:SortKind->ag->Prop}(g:b.length=qs.length)(c:∀(i:Nat)(v:ai)(q:Str×Int),b[i]?=Z v->qs[i]?=Z q->Ab s.heap v q)(M:0<b.length)(h:Q (tuples' af) s) :
  Ff (Fg P w) A (keyKind' b.toArray) Q E s:=by
 let T:∀(b:zQ)(qs:List (Str×Int)),b.length=qs.length->(∀(i:Nat)(v:ai)(q:Str×Int),b[i]?=Z v->qs[i]?=Z q->Ab s.heap v q)->∃d,KatTups s.heap b d/\d.length=b.length/\∀v∈d,∃x t,v=iQ x t:=by
  intro b;induction b with
  |nil=>show λqs _ _=>{[],trivial,U,nofun}
  |cons v r ih=>
   intro qs g c
   match qs,g with
   |q::qr,g=>
    let #[d,k,l,kf]:=ih qr (<-g) λi m y L J=>c (i+1) m y (<-L) (<-J);let #[a,o,t,u,n,rfl,D,I,G]:=c 0 v q U rfl;show{.str q.1 t::d,BB D I G U k,by simp[l],λz hz=>?_};obtain rfl|hz:=bo.mp hz
    .show{_,_,U}
    .show kf z hz
 let #[d,k,l,kf]:=T b qs g c;show kat_kind (T:=.type "str") k () (λv c=>?_) () h;let #[x,t,rfl]:=kf v c;show Looks.of_pure rfl
end
def zdl(h:x.cps.toList=y.cps.toList):x=y:=by let #[a]:=x;let #[b]:=y;let:a=b:=rP.mp h;rw[this]
def Xa{d:List (Str×Int)}(q:d.Nodup):SO (λi j=>yg (d.getD i ("",0)) (d.getD j ("",0))) d.length where
 irr:=λi _=>by unfold yg;show ak rfl\Fk ()
 trans:=λi j k _ _ _ l g=>by
  generalize d.getD i ("",0)=a at *
  generalize d.getD j ("",0)=b at *
  generalize d.getD k ("",0)=c at *
  unfold yg at *
  by_cases e1:a.1=b.1
  .rw[ak e1] at l;by_cases e2:b.1=c.1
   .rw[ak e2] at g;rw[ak (e1.trans e2)];let l:=of_decide_eq_true l;let g:=of_decide_eq_true g;show Fj ()
   .rw[aj e2] at g;show [aj (e1\e2),e1]\g
  .rw[aj e1] at l;let l:=of_decide_eq_true l;by_cases e2:b.1=c.1
   .show [aj ([<-e2]\e1),<-e2]\Fj l
   .rw[aj e2] at g;let g:=of_decide_eq_true g;let n:=List.lt_trans l g;show aj (λz=>by rw[z] at n;show List.lt_irrefl _ n)\Fj n
 tot:=λi j t r m h=>by
  let o:d.getD i ("",0)≠d.getD j ("",0):=λz=>m (by rw[bA,bA,bc t,bc r] at z;show(iF q).mp z)
  generalize d.getD i ("",0)=a at *
  generalize d.getD j ("",0)=b at *
  unfold yg at *
  by_cases e:a.1=b.1
  .rw[ak e] at h;rw[ak e.symm];let h:=of_decide_eq_false h;let:a.2≠b.2:=λz=>o (rD e z);show Fj ()
  .rw[aj e] at h;rw[aj (λz=>e z.symm)];let h:=of_decide_eq_false h;show Fj ?_;obtain z|z:=List.le_iff_lt_or_eq.mp (List.not_lt.mp h)
   .show z
   .show absurd (zdl z.symm) e
section
open PySem.SeqAt
open PySem.AutoSeq1 (wpAny_loadPart')
open PySem.MeetsSeq PySem.MeetsSeq2 PySem.MeetsSeq3
def Ki(l b:ac)(x y:Str)(i j:Int)(t u o z:Tok)(n T:Nat)(dd M:Option ac)(O D:Array (Option ai)) :
  Meets (Builtin.«tuple.__lt__» {[.ref l,.ref b],[]}) (λ_ R s=>s.heap.get? l=Z { cls:=.type "tuple",dict:=dd,data:=.seq #[.str x t,.int i u] n,slots:=O } /\
   s.heap.get? b=Z { cls:=.type "tuple",dict:=M,data:=.seq #[.str y o,.int j z] T,slots:=D }/\R (.ok (.ret (.bool (yg (x,i) (y,j))))) s):=
 .of_wp λprog w A R s h=>by
  let #[v,g,d,m,r]:=s;let #[J,L,h]:=h;let f2:=AutoSeq1.sub_tuple_tuple;let I:∀(E:Aa)(Q:Aa)(s:ag),Q (.bool (decide (x.cps.toList<y.cps.toList))) s->Ff (Fg prog w) A.in1 (richCompare .Lt (.str x t) (.str y o)) Q E s:=λE Q s q=>(PyProof.Rows.lt_str q:Ff (Fg prog w) A.in1 (Fi .Lt (.str x t) (.str y o)) Q E s);let G:=HT.rcLt_int A.in1 {v,g,d,m,r} i u j z prog w;by_cases e:x=y
  .subst e;let c:=mC (A:=A.in1) (s:={v,g,d,m,r}) x t x o prog w;rw[beq_self_eq_true] at c;unfold yg at h;rw[ak rfl] at h;by_cases e2:i=j
   .subst e2;let k:=oZ (A:=A.in1) (s:={v,g,d,m,r}) i u i z prog w;rw[beq_self_eq_true] at k
    wp_walk using iX J,iX L,c,k
    show{_,U,by simpa[Builtin.Tuple.tupleCompareSizes] using h}
   .let k:=oZ (A:=A.in1) (s:={v,g,d,m,r}) i u j z prog w;rw[(i==j)=ah|>(<-e2)] at k
    wp_walk using iX J,iX L,c,k,G
    show{_,U,<-h}
  .let c:=mC (A:=A.in1) (s:={v,g,d,m,r}) x t y o prog w;rw[(x==y)=ah|>(<-e)] at c;unfold yg at h;rw[aj e] at h
   wp_walk using iX J,iX L,c,I
   show{_,U,<-h}
end
def  An(h:ao)(d:ac)(es:Array DictEntry)(b:Nat):Prop:=∃o,h.get? d=Z o/\o.ExactDict/\o.data=.dict es b
section
variable {w:ap}
def An.type{es:Array DictEntry}{b:Nat}(x:An s.heap d es b):s.TypeIs (.ref d) "dict":=let ⟨o,ho,hc,_⟩:=x;{o,ho,hc.1}
def An.at{es:Array DictEntry}{ep:Nat}(x:An h d es ep)(e:∀o,h.get? d=Z o->h'.get? d=Z o):An h' d es ep:=let ⟨o,ho,r⟩:=x;{o,e _ ho,r}
def Kj{es:Array DictEntry}{h:Nat}{Q:Aa}(lo:(d==sysModules)=ah)(c:An s.heap d es h)(q:Q (.ref s.heap.objs.size) { s with heap:=s.heap.push { cls:=.type "dict_keyiterator",data:=.fields #[.ref d,.int 0 0,.int es.size 0,.int h 0] } }):Ff (Fg P w) A (pyIter (.ref d)) Q E s:=by let T:=c.type;let #[o,b,k,g]:=id c;show mT T F.slot_dict_iter (cG F.slot_dict_iter T F.entry_dict_iter ?_ (F.args_dict_iter_1 _));unfold Builtin.«dict.__iter__»;show ba ?_;unfold Builtin.Dict.dictSlotNone;show ba (gU T ?_);change Ff _ _ (pure (bC d)) _ _ s;show bg ?_;change Ff _ _ (iY d >>= _) _ _ s;unfold iY;rw[aj (lo\bL)];show ba (bg ?_);show ba (fe b g ?_);show ba (iZ b g ?_);show ba (cC (bg {_,U,"dict_keyiterator",_,{_,bq _ U,U},F.slot_dict_keyiterator_next.lookup,?_}));simpa[rawInt] using q
def Kk{i ep:Nat}{es:Array DictEntry}{e:DictEntry}{Q:Option ai->ag->Prop}(b:s.heap.IsKeyIter it d i es.size ep)(t:An s.heap d es ep)(n:es[i]?=Z e)(q:∀h,h.IsKeyIter it d (i+1) es.size ep->cy it s.heap h->Q (Z e.key) { s with heap:=h }):Ff (Fg P w) A (pyNext (.ref it)) Q E s:=by
 let #[o,r,v,l]:=id b;let #[y,g,u,k]:=id t;let z:i<es.size:=by
  obtain h|h:=i6 i es.size
  .show h
  .rw[fO h] at n;cases n
 unfold pyNext;show ba (fB (cM (name:=bb "__next__") b.typeIs gA (cG gA b.typeIs nZ ?_ (nM _))));show ba (bg ?_);show ba ?_;show ba ?_
 first|(show ba (gj b.typeIs (bg ?_)))|(show ba (ir b.typeIs (bg ?_)))
 show ba (ic r l ?_);let m:fj "dict_keyiterator"=ah:=()
 simp only[m,cA,if_false];change Ff _ _ (if (bC d==cb)=af then _ else _) _ _ s;rw[aj (¬ ((bC d==cb)=af)|>bL)];show ba (bg ?_);show ba (fe g k ?_);rw[aj ?s];show ba (bg ?_);show ba (iZ g k ?_);rw[aj ?s];show bg ?_;simp only[¬ ((i:Int)<0)|>(),if_false,cK,n];show ba ?_
 first|(show ba (gj b.typeIs (bg ?_)))|(show ba (ir b.typeIs (bg ?_)))
 show ba (sN b.typeIs ?_);change Ff _ _ (setField (.ref it) 1 (rawInt ((i:Int)+1)) >>= _) _ _ s;show ba (eS r l ?s ?_);let c:(s.heap.update it (dC (·.setIfInBounds 1 (rawInt ((i:Int)+1))))).IsKeyIter it d (i+1) es.size ep:=by show{_,cq _ r (eD (da l _)),(pR ..).trans v,?_};rw[da l];simp[rawInt]
 show ba (cF ?_);show ba (sN (s:={ s with heap:=s.heap.update it (dC (·.setIfInBounds 1 (rawInt ((i:Int)+1)))) }) c.typeIs ?_);change Ff _ _ (pure e.key) _ _ _;show bg (bg {_,U,bg (q _ c (dz ..))})
def zbW{i t:Nat}{es:Array DictEntry}{Q:Option ai->ag->Prop}(y:A.handled=ae)(c:s.heap.IsKeyIter it d i es.size t)(v:An s.heap d es t)(u:es.size<=i)(q:∀h,tW it s.heap h->Q ae { s with heap:=h }):Ff (Fg P w) A (pyNext (.ref it)) Q E s:=by
 let #[o,n,G,r]:=id c;let #[D,g,z,k]:=id v;unfold pyNext;show ba (fB (cM (name:=bb "__next__") c.typeIs gA (cG gA c.typeIs nZ ?_ (nM _))));show ba (bg ?_);show ba ?_;show ba ?_
 first|(show ba (gj c.typeIs (bg ?_)))|(show ba (ir c.typeIs (bg ?_)))
 show ba (ic n r ?_);let l:fj "dict_keyiterator"=ah:=()
 simp only[l,cA,if_false];change Ff _ _ (if (bC d==cb)=af then _ else _) _ _ s;rw[aj (¬ ((bC d==cb)=af)|>bL)];show ba (bg ?_);show ba (fe g k ?_);rw[aj ?s];show ba (bg ?_);show ba (iZ g k ?_);rw[aj ?s];show bg ?_;simp only[¬ ((i:Int)<0)|>(),if_false,cK,fO u];show ba ?_
 first|(show ba (gj c.typeIs (bg ?_)))|(show ba (ir c.typeIs (bg ?_)))
 change Ff _ _ (setField (.ref it) 0 .none >>= _) _ _ s;show ba (eS n r ?s ?_);change Ff _ _ (newExc (.type "StopIteration") [] >>= _) _ _ _;show ba ?_;simp only[newExc,newTuple];show ba (cC ?_ (by size_fits));show ba (m:=firstArgMember _ _) (oH (a:=cb) (by first|rfl|(simp only[firstArgMember];rfl)) ?_);show cC ?_ (by size_fits);simp only[raiseNew];show ba (oy ?_);rw[A.in1.handled=ae|>y];show ba (bg (mU ?_));show ba (lV (T:="StopIteration") (b:=af) {_,bq _ U,U} pH (bg (q _ (((dz ..).extBut.push _).push _))))
def zhw(z:A.handled=ae)(I d:ac)(n:d≠I)(es:Array DictEntry)(y:Nat) :
  Walks P w A I [I,d] [I] es.size (λi v=>∃e,es[i]?=Z e/\v=e.key) (λi h=>h.IsKeyIter I d i es.size y/\An h d es y) where
 sub:=λb g=>by simp at g;simp[g]
 frame:=λ_ _ _ c t=>{c.1.at λo e=>t I ?s o e,c.2.at λo e=>t d ?s o e}
 item:=λi s Q E u c m=>by show Kk c.1 c.2 (b9 u) λr l k=>?_;show m _ r s.toks {_,b9 u,U} {l,c.2.at λo e=>k.extBut d o n e} λb o g e=>k.extBut b o (λh=>g (by simp[h])) e
 done:=λs Q E c m=>zbW z c.1 c.2 (bh _) λr q=>m r s.toks λb o g e=>q b o (λh=>g (by simp[h])) e
 self:=λ_ _ _ _ c m=>om c.1 m
end
section
variable {w:ap}
def An.lt{es:Array DictEntry}{b:Nat}(x:An h d es b):d<h.objs.size:=let ⟨_,ho,_⟩:=x;bG ho
def zbX{d:ac}{es:Array DictEntry}{ep:Nat}(lo:(d==sysModules)=ah):W.KdlSrc P w "dict" d d es.size (λi v=>∃e,es[i]?=Z e/\v=e.key) (λh=>An h d es ep) where
 type:=λ_ b=>b.type
 there:=λ_ b=>{b.lt,b.lt}
 keep:=λ_ _ b g=>b.at λo e=>g d (.inl U) o e
 notList:=()
 notTuple:=()
 hint:=λ_ _ _ _ b c=>W.kdl_hint_dict b.type c
 iter:=λ_ _ k b=>{_,_,(λ_ _ c=>Kj lo b c),zhw k _ d (bO b.lt) es ep,{{_,bq _ U,U,U},b.at λo e=>bf _ e}}
def Vu{G:Nat->ai->Prop}{M:ao->Prop}{R:zQ->ag->Prop}(K:W.KdlSrc P w T r d n G M)(hh:A.handled=ae)(y:M s.heap)(hn:n<=Fb)(h:∀(m:ao)(u:Nat)(I:zQ),(∀b o,s.heap.get? b=Z o->m.get? b=Z o)->I.length=n->(∀j v,I[j]?=Z v->G j v)->R I { s with heap:=m,toks:=u }) :
  Ff (Fg P w) A (collect (.ref r)) R E s:=by
 let #[O,Q]:=K.there _ y;unfold collect;show ba (nE (de on ?_));rw[cP i7 _];change Ff _ A.in1 (newList [] >>= λl=>again (.builtin "list.__iadd__" {[l,.ref r],[]})) _ _ s;show ba (cC ?_);show bg {fC fD _,de rQ ?_};rw[cP fD _];let hS:(s.heap.push { cls:=.type "list",data:=.seq ([]:zQ).toArray }).get? s.heap.objs.size=Z { cls:=.type "list",data:=.seq #[] }:=bq _ rfl;change Ff _ A.in1 (dh (.ref s.heap.objs.size) (.ref r) (.ref s.heap.objs.size)) _ _ _;let J:=W.kdl_extend (A:=A) (s:={ s with heap:=s.heap.push { cls:=.type "list",data:=.seq ([]:zQ).toArray } }) (R:=λ(q:ay)(D:ag)=>∃(m:ao)(u:Nat)(k:Array ai)(c:Nat),q=.ok (.ret (.ref s.heap.objs.size))/\D={ s with heap:=m,toks:=u } /\
   (∀b o,s.heap.get? b=Z o->m.get? b=Z o)/\m.get? s.heap.objs.size=Z { cls:=.type "list",dict:=ae,data:=.seq k c,slots:=#[] }/\ItemsOf G k n) K hh (K.keep _ _ y λb _ o e=>bf _ e) s.heap.objs.size (dU O) (dU Q) (.ref s.heap.objs.size) 0 hS
  (λm u k c z t g=>{m,u,k,c,U,U,λb o e=>z b o (bO (bG e)) (bf _ e),t,g}) hn
 show dM J (λL D x=>?_) λe D x=>?_
 .cases L with
  |done f=>
   let #[m,u,k,c,e,rfl,z,t,g]:=x;cases e;change Ff _ A (load s.heap.objs.size >>= _) _ _ _;show ba (pM t ?_);show bg (h m u k.toList z (bE\g.1) λj v e=>g.2 j v ([<-bU]\e))
  |again c=>
   show{x.1,fV x.2 λq D x=>?_};let #[m,u,k,c,rfl,rfl,z,t,g]:=x;change Ff _ A (load s.heap.objs.size >>= _) _ _ _;show ba (pM t ?_);show bg (h m u k.toList z (bE\g.1) λj v e=>g.2 j v ([<-bU]\e))
 .let #[m,u,k,c,e',_]:=x;cases e'
end
def  zI(q:Str×Int):xu:=[.inr q.1,.inl q.2]
abbrev zmY:RC:=λxs H Q=>∃(a:ac)(c:yd)(d:List (Str×Int)),xs=[.ref a]/\H a=Z (.dT c)/\c.map (·.1)=d.map zI/\c.length<64 /\
 ∀(l:ac)(ps:List (ac×(Str×Int))),H l=ae->(ps.map (·.2)).Perm d->(ps.map (·.2)).Pairwise (λa b=>yg a b=af)->(∀n∈ps,H n.1=Z (.tup [.str n.2.1,.int n.2.2]))->Q (.ref l) (upd H l (.lst (ps.map λn=>V.ref n.1)))
def yP{k g:Type}{F:k->g->Prop}:∀ {d:List k}{c:List g},B0 F d c->∀ {i:Nat}{a:k}{b:g},d[i]?=Z a->c[i]?=Z b->F a b
 |_,_,.nil,i,a,b,h,_=>by simp at h
 |_,_,.cons x r,0,a,b,h1,h2=>by simp only[bY,cr] at h1 h2;subst h1 h2;show x
 |_,_,.cons x r,i+1,a,b,h1,h2=>yP r (<-h1) (<-h2)
def Ab.keep{q:Str×Int}(x:Ab h v q)(k:∀b o,h.get? b=Z o->h'.get? b=Z o):Ab h' v q:=by let #[a,o,t,u,n,e,d,r,c]:=x;show{a,o,t,u,n,e,k _ _ d,r,c}
def XR{σ:St}{H:Hp}{s:ag}{a:ac}{q:Str×Int}(I:aJ X aa σ H s)(h:H a=Z (.tup [.str q.1,.int q.2])):Ab s.heap (.ref a) q:=by
 let #[c,b,#[o,d,k,n,g],_]:=I.tuple (aV.of h);cases b with
 |cons r1 rr=>
  cases rr with
  |cons r2 rn=>
   cases rn;let #[t,rfl]:=r1;let #[u,rfl]:=r2;show{a,o,t,u,n,U,d,k,g}
def xJ{b c:Type}{f:b->c}:∀ {l:List b},(l.map f).Nodup->l.Nodup
 |[],_=>gZ
 |a::r,h=>by rw[bB,cW] at h;show cW.mpr {λz=>h.1 (bX z),xJ h.2}
def zbY(hc:X.c=af):wn X (.builtin "sorted") zmY:=by
 intro aa s σ H xs us Q I r h;let #[a,w,qs,rfl,ha,hk,a2,q]:=h;let #[u,rfl,ru]:=xD r;cases ru;let #[hz,lo,xs,y,o,es,ep,ho,l,hd,he,hn]:=(aQ X.p X.w H s.heap a (.dT w)|>I.hok a _ ha);let hh:X.A.handled=ae:=I.ok.hd hc;let lk:w.length=qs.length:=by let:=congrArg eA hk;simpa using this
 let lx:w.length=xs.length:=bZ y;let ar:es.size=xs.length:=[<-bE,he,bd]\_
 let O:∀(i:Nat)(x:xu×ac×ai),xs[i]?=Z x->∃q,qs[i]?=Z q/\x.1=zI q/\H x.2.1=Z (.tup [.str q.1,.int q.2]):=λi x l=>by
  let b:=(bi.mp l).1;obtain⟨kv,d⟩:∃kv,w[i]?=Z kv:={_,bc ()};obtain⟨q,t⟩:∃q,qs[i]?=Z q:={_,bc ()};let rl:=yP y d l;let g:kv.1=zI q:=by
   let g:(w.map (·.1))[i]?=Z kv.1:=[bn,d]\U
   let m:(qs.map zI)[i]?=Z (zI q):=[bn,t]\U
   rw[hk,m] at g;show(cf g).symm
  show{q,t,[<-rl.1,g]\_,?_};let:=rl.2.1;rw[g] at this;show this
 let nq:qs.Nodup:=by
  show xJ (f:=zI) ?_;let e:xs.map (·.1)=qs.map zI:=by
   rw[<-hk];apply dq;intro i;rw[bn,bn];cases l:xs[i]? with
   |none=>
    let:xs.length<=i:=<-l
    rw[bT (():w.length<=i)];rfl
   |some x=>
    let b:=(bi.mp l).1;let d:w[i]?=Z w[i]:=bc ();rw[d];let:=(yP y d l).1;simp[this]
  show [<-e]\hn
 let vv:∀(i:Nat)(v:ai)(q:Str×Int),(xs.map λx=>bC x.2.1)[i]?=Z v->qs[i]?=Z q->Ab s.heap v q:=λi v q hv t=>by rw[bn] at hv;let #[x,l,rfl]:=cj.mp hv;let #[q',T,_,hH]:=O i x l;rw[t] at T;cases T;show XR I hH
 let M:(xs.map λx=>bC x.2.1).length=qs.length:=bd\()
 let L:∀i,i<qs.length->Ab s.heap ((xs.map λx=>bC x.2.1).getD i cb) (qs.getD i ("",0)):=λi b=>by
  show vv i _ _ ?_ ?_
  .rw[bA,bc (M\b)];rfl
  .rw[bA,bc b];rfl
 let S:=Xa nq;rw[<-M] at S;show zdk (vs:=xs.map λx=>bC x.2.1) (κ:=tuples' af) (bd\()) S (λR hR=>?_) (λh2 h k Q' J q'=>?_) (λh k i j C J b D G q'=>?_) λh k h' p c k1 k2 hD hp hr=>?_
 .show Vu (zbX (ep:=ep) (es:=es) lo) hh {o,ho,l,hd} (ar\()) λh' k vs J hl hG=>?_;let ev:vs=xs.map λx=>bC x.2.1:=by
   apply dq;intro i;by_cases b:i<vs.length
   .let #[e,aS,ek]:=hG i vs[i] (bc b);let m:es.toList[i]?=Z e:=bU\aS
    rw[he,bn] at m;let #[x,aM,ex]:=cj.mp m;rw[bc b,ek,bn,aM,<-ex];rfl
   .rw[bT (),bT (bd\())]
  show ev\hR h' k J
 .show Kh (s:={ s with heap:=h,toks:=k }) M (λi v q hv t=>(vv i v q hv t).keep J) () q'
 .rw[M] at b D;show zaW (s:={ s with heap:=h,toks:=k }) ((L i b).keep J) ((L j D).keep J) q' λz=>G ?_;rw[bA,bA,bc b,bc D] at z;show(iF nq).mp z
 .let I1:aJ X aa σ H { s with heap:=h,toks:=k }:=I.kept k1;let ps:∃ps:List (ac×(Str×Int)),ps.map (λn=>bC n.1)=vy (xs.map λx=>bC x.2.1) p/\ps.map (·.2)=p.toList.map (λi=>qs.getD i ("",0))/\∀n∈ps,H n.1=Z (.tup [.str n.2.1,.int n.2.2]):=by
   let pl:∀i∈p.toList,i<xs.length:=λi b=>by
    let:i∈p:=<-b
    let:=(um hp).mp this;rw[bd] at this;simpa using this
   show{p.toList.map λi=>((xs.getD i ([],0,.none)).2.1,qs.getD i ("",0)),?_,fh\U,λn hn=>?_}
   .unfold vy;rw[fh];show fR λi b=>?_;let:=pl i b;simp[bA,bn,bc this]
   .let #[i,b,rfl]:=bM.mp hn;let hl:=pl i b;let #[q,t,_,hH]:=O i xs[i] (bc hl);let g:xs.getD i ([],0,.none)=xs[i]:=[bA,bc hl]\U
    let m:qs.getD i ("",0)=q:=[bA,t]\U
    change H (xs.getD i ([],0,.none)).2.1=Z (.tup [.str (qs.getD i ("",0)).1,.int (qs.getD i ("",0)).2]);show [g,m]\hH
  let #[ps,g,m,al]:=ps;let vr:aO (ps.map λn=>V.ref n.1) (ps.map λn=>bC n.1):=by
   clear g m al;induction ps with
   |nil=>show .nil
   |cons n r ih=>show .cons U ih
  let an:p.size=xs.length:=by let:=hp.size;rw[bd] at this;show this
  let a1:ps.length=xs.length:=by let:=congrArg eA g;unfold vy at this;simpa[an] using this
  let I2:aJ X aa σ (upd H h.objs.size (.lst (ps.map λn=>V.ref n.1))) { s with heap:=h',toks:=k }:=I1.laid (s:={ s with heap:=h,toks:=k }) (a:=h.objs.size) (o:=.lst (ps.map λn=>V.ref n.1)) (t':=k) k2 (bh _)
   {bd\(),ps.map λn=>bC n.1,c,vr,g\hD}
  show{.ref h.objs.size,_,I2,U,q _ ps (I1.hok.fresh (bh _)) ?_ ?_ al}
  .rw[m];let pr:p.toList.Perm (cH qs.length):=by let:=lM.mp hp;rw[M] at this;simpa using this
   show(pr.map _).trans ?_;let:(cH qs.length).map (λi=>qs.getD i ("",0))=qs:=by
    apply dq;intro i;rw[bn];by_cases b:i<qs.length
    .rw[oM b,bc b];simp[bA,bc b]
    .rw[bT (<-b),bT ()];rfl
   rw[this]
  .rw[m,mV,eT];intro i j b D G;rw[bE] at b D;let g1:=qf b;let g2:=qf D;let r:=hr i j G (bd\());let x1:p.toList[i]=gt p i:=by rw[b9 b] at g1;simpa using g1
   let x2:p.toList[j]=gt p j:=by rw[b9 D] at g2;simpa using g2
   show [x1,x2]\r
def  Itd(a:ac)(o:Obj)(b:yd):It:=
 {λi H=>H a=Z (.frz o (.dT b))/\i<b.length,λi H x c=>c=H/\∃k v p,b[i]?=Z (k,v)/\x=.ref p/\H p=Z (.tup (k.map kV)),λi H=>H a=Z (.frz o (.dT b))/\b.length<=i}
def zbZ{σ:St}{H:Hp}{s:ag}{a:ac}{o:Obj}{b:yd}(I:aJ X aa σ H s)(D:H a=Z (.frz o (.dT b))) :
  (a==sysModules)=ah/\∃(es:Array DictEntry)(g:Nat),o.data=.dict es g/\An s.heap a es g/\es.size=b.length/\∀(i:Nat)(e:DictEntry),es[i]?=Z e->∃(k:xu)(v:V)(p:ac),b[i]?=Z (k,v)/\e.key=bC p/\H p=Z (.tup (k.map kV)):=by
 let #[m,M,u,xs,c,J,es,g,h,y,q,n,O]:=(aQ X.p X.w H s.heap a (.frz o (.dT b))|>I.hok a _ D);rw[m] at h;cases h;let L:b.length=xs.length:=bZ c;let w:es.size=xs.length:=[<-bE,n,bd]\_
 show{u,es,g,q,{o,m,y,q},(),λi e z=>?_};let r:es.toList[i]?=Z e:=bU\z
 rw[n,bn] at r;let #[x,d,G]:=cj.mp r;let Q:=(bi.mp d).1;let l:b[i]?=Z b[i]:=bc ();let t:=yP c l d;show{b[i].1,b[i].2,x.2.1,l,[<-G]\U,t.2.1}
def ze9{P:am}{w:ap}{K:bz}{tg:au}{a it:ac}{o:Obj}{aI:yd}{es:Array DictEntry}{ep:Nat}(hd:o.data=.dict es ep) :
  JO P w K tg (Itd a o aI) [it] it (λi h=>h.IsKeyIter it a i es.size ep) where
 mem:=?s
 obj:=λi h l b n=>by
  let e:b=it:=<-n
  subst e;let #[o,e,c,d]:=l;show{o,e,λv z=>by rw[d] at z;cases z}
 keep:=λi h u l k=>l.at λo e=>k it ?s o e
 item:=by intro X J y L hc i aa s σ H E I t l D;subst J y L;let #[G,hi]:=D;let #[lo,al,an,g,m,hs,r]:=zbZ I G;rw[hd] at g;cases g;let #[f0,T,f2,Q,O,M]:=t it ?s;let hx:es[i]?=Z es[i]:=b9 ();let #[k,v,p,hk,ek,hp]:=r i _ hx;show Kk l m hx λu q sb=>?_;let I1:aJ X aa σ H { s with heap:=u }:=I.turned (t':=s.toks) (λb o n e=>(sb.2 b n).trans e) f0 T Q O M;let #[o',e,c,d]:=id q;show{_,U,Vn (s:={ s with heap:=u }) e c d () {.ref p,H,I1,ek\U,{U,k,v,p,hk,U,hp},q,λb n=>(t b n).1}}
 done:=by intro X J y L hc i aa s σ H E I t l D;subst J y L;let #[G,hi]:=D;let #[lo,al,an,g,m,hs,r]:=zbZ I G;rw[hd] at g;cases g;let #[f0,T,f2,Q,O,M]:=t it ?s;show zbW (I.ok.hd hc) l m () λu eb=>{U,I.turned (t':=s.toks) (λb o n e=>eb b o n e) f0 T Q O M}
 self:=λ_ _ _ _ _ l h=>om l h
def  iDT(d:TE):TI:=λσ H R=>d σ H λx c=>∃a o b,x=.ref a/\c a=Z (.frz o (.dT b))/\R (Itd a o b) c
def zjz{k:TE}(u:PE X l k):PI X tg l (iDT k):=by
 intro aa s σ H R I h;show aT (u aa s σ H _ I h) ?_;rintro v c ⟨x,D,d,m,n⟩;let #[a,o,L,e,z,q]:=n;subst e;cases m;let #[r,es,J,w,g,G,t]:=zbZ d z;show Kj r g ?_;show{c.heap.objs.size,[c.heap.objs.size],_,_,D,U,d.kept (t':=c.toks) λb o e=>bf _ e,ze9 w,{_,bq _ U,U,U},λb y=>?_,q};let e:b=c.heap.objs.size:=<-y
 subst e;show d.fpOk (bh _) (d.hok.fresh (bh _))
def  zdm:HO->Prop
 |.tup _=>False
 |.own _=>False
 |.tbl _=>False
 |_=>True
def aJ.relab{σ:St}{H:Hp}{s:ag}{a:ac}{u G:HO}(I:aJ X aa σ H s)(l:H a=Z u)(k:zdm u)(M:∀o z,X.H₀ a≠Z (.frz o z))(L:aQ X.p X.w (upd H a G) s.heap a G):aJ X aa σ (upd H a G) s:=by
 let t:∀b,H b=ae->b≠a:=λb n z=>by subst z;rw[n] at l;cases l
 let d:∀b xs,H b=Z (.tup xs)->b≠a:=λb xs q z=>by subst z;rw[l] at q;cases q;show k
 let h:∀b y,H b=Z (.own y)->b≠a:=λb y q z=>by subst z;rw[l] at q;cases q;show k
 let g:∀b y,H b=Z (.tbl y)->b≠a:=λb y q z=>by subst z;rw[l] at q;cases q;show k
 show{I.ok,I.os,I.bare,{I.base.keep,I.base.slot,λb o q n D=>?_,I.base.there,λb xs q=>?_,λb o z q=>?_,λb ps q=>?_},I.loc,I.cell,?_,λx c e=>?_,λp k=>?_,λb v q=>?_,I.len}
 .let:=I.base.free b o q n D;show zm (t b this)\this
 .let:=I.base.tups b xs q;show zm (d b xs this)\this
 .let:=I.base.frzs b o z q;show zm (λe=>M o z ([<-e]\q))\this
 .let #[m,e]:=I.base.tbls b ps q;show{m,zm (g b _ e)\e}
 .show zm (t _ I.free)\I.free
 .let:=I.freeC x c e;show zm (t _ this)\this
 .let #[Q,J,O]:=I.pin p k;show{Q,zm (t _ J)\J,O}
 .by_cases D:b=a
  .subst D;rw[zh] at q;cases q;show L
  .rw[zm D] at q;show(I.hok b v q).stay (λ_ _ _ r=>r) (λc r=>zm (h c b r)\r) λc xs r=>zm (d c xs r)\r
def  zoC(t:TS):TS:=λD σ H=>∃a d g,H a=Z d/\(d=.dT g\/∃o,d=.frz o (.dT g))/\∀o,t
 {λb c=>c a=Z (.frz o (.dT g))/\D.nx b (upd c a d),λv c=>c a=Z (.frz o (.dT g))/\D.rt v (upd c a d),λb c=>c a=Z (.frz o (.dT g))/\D.bk b (upd c a d),λb c=>c a=Z (.frz o (.dT g))/\D.ct b (upd c a d)} σ (upd H a (.frz o (.dT g)))
def aQ.upd_dT{w:ap}{H:Hp}{h:ao}{a:ac}{g:yd}{u k:HO}(d:H a=Z u)(b:zdm u)(x:aQ P w H h a (.dT g)):aQ P w (upd H a k) h a (.dT g):=by
 show x.stay (λ_ _ _ r=>r) (λc r=>?_) λc xs r=>?_
 .show [zm λz=>by subst z;rw[d] at r;cases r;show b]\r
 .show [zm λz=>by subst z;rw[d] at r;cases r;show b]\r
def znG{G:aq}{t:TS}(w:PS X G t):PS X G (zoC t):=by
 rintro aa s σ H D I ⟨a,u0,l,m,n,h⟩;let O:zdm u0:=by obtain rfl|⟨o,rfl⟩:=n <;> trivial
 let L:∃o,s.heap.get? a=Z o/\(u0=.dT l\/u0=.frz o (.dT l)):=by
  obtain rfl|⟨o,rfl⟩:=n
  .let #[T,Q,xs,J,o,es,ep,y,_]:=(aQ X.p X.w H s.heap a (.dT l)|>I.hok a _ m);show{o,y,.inl U}
  .show{o,(aQ X.p X.w H s.heap a (.frz o (.dT l))|>I.hok a _ m).1,.inr U}
 let #[o,y,n]:=L;let M:aJ X aa σ (upd H a (.frz o (.dT l))) s:=by
  obtain rfl|rfl:=n
  .show I.relab m trivial (λu z q=>?_) {y,aQ.upd_dT m trivial (I.hok a _ m)};let:=I.base.frzs a u z q;rw[m] at this;cases this
  .let e:upd H a (.frz o (.dT l))=H:=by
    funext b;unfold upd;split
    .next z=>show z\m.symm
    .rfl
   show e\I
 let g:∀ {d:St}{H':Hp}{s':ag},aJ X aa d H' s'->H' a=Z (.frz o (.dT l))->aJ X aa d (upd H' a u0) s':=λ{d H' s'} k c=>by
  obtain rfl|rfl:=n
  .show k.relab c trivial (λu z q=>?_) (aQ.upd_dT c trivial (aQ X.p X.w H' s'.heap a (.frz o (.dT l))|>k.hok a _ c).2);let:=I.base.frzs a u z q;rw[m] at this;cases this
  .let e:upd H' a (.frz o (.dT l))=H':=by
    funext b;unfold upd;split
    .next z=>show z\c.symm
    .rfl
   show e\k
 show aT (w aa s σ _ _ M (h o)) λf s' q=>?_;cases f with
 |next=>let #[d,H',k,c,q]:=q;show{d,_,g k c,q}
 |brk=>let #[d,H',k,c,q]:=q;show{d,_,g k c,q}
 |cont=>let #[d,H',k,c,q]:=q;show{d,_,g k c,q}
 |ret v=>let #[x,d,H',k,r,c,q]:=q;show{x,d,_,g k c,r,q}
def zfa{a:ac}{o:Obj}(Pv:Nat->Ah)(g:Pv 0 σ H)(b:∀i σ H,Pv i σ H->H a=Z (.frz o (.dT aI)))(c:∀i k v p σ H,aI[i]?=Z (k,v)->H p=Z (.tup (k.map kV))->Pv i σ H->B (.ref p) σ H (Pv (i+1)))(d:∀σ H,Pv aI.length σ H->nx σ H) :
  FoP (Itd a o aI) nx B σ H:=zgf Pv g (λi σ H l p=>{{b i σ H p,l},by rintro x h ⟨rfl,k,v,q,u,rfl,y⟩;show c i k v q σ _ u y p}) λσ H p=>{{b _ σ H p,bh _},d σ H p}
mutual
inductive Dat(K:bz)(H:Hp):V->PyData->Prop
 |non:Dat K H .non .none
 |bl (b:Bool):Dat K H (.bl b) (.bool b)
 |int (i:Int):Dat K H (.int i) (.int i)
 |str (x:Str):Dat K H (.str x) (.str x)
 |lst {a:ac} {xs:LV} {ds:List PyData}:aN K H a xs->Aj K H xs ds->Dat K H (.ref a) (.list ds)
 |tup {a:ac} {xs:LV} {ds:List PyData}:aV K H a xs->Aj K H xs ds->Dat K H (.ref a) (.tuple ds)
inductive Aj(K:bz)(H:Hp):LV->List PyData->Prop
 |nil:Aj K H [] []
 |cons {x:V} {d:PyData} {xs:LV} {ds:List PyData}:Dat K H x d->Aj K H xs ds->Aj K H (x::xs) (d::ds)
end
mutual
theorem Dat.reads(I:aJ X aa σ H s):∀ {x:V}{d:PyData}{u:ai},Dat X.K H x d->aP x u->∃l,Reads s.heap u d l
 |_,_,_,.non,r=>by cases r;show{_,.none}
 |_,_,_,.bl b,r=>by cases r;show{_,.bool b}
 |_,_,_,.int i,r=>by let #[t,rfl]:=r;show{_,.int i t}
 |_,_,_,.str x,r=>by let #[t,rfl]:=r;show{_,.str x t}
 |_,_,_,.lst hq ha,r=>by cases r;let #[k,g,#[o,n,e,c,_,d],_]:=I.list hq;let #[l,h]:=Aj.reads I ha g;show{_,.list e c d (<-h)}
 |_,_,_,.tup hq ha,r=>by cases r;let #[k,g,#[o,e,c,n,d],_]:=I.tuple hq;let #[l,h]:=Aj.reads I ha g;show{_,.tuple e c d (<-h)}
theorem Aj.reads(I:aJ X aa σ H s):∀ {xs:LV}{ds:List PyData}{b:zQ},Aj X.K H xs ds->aO xs b->∃c,ReadsAll s.heap b ds c
 |_,_,_,.nil,r=>by cases r;show{_,.nil}
 |_,_,_,.cons hx ht,r=>by
  cases r with
  |cons r1 rr=>
   let #[c,h]:=Dat.reads I hx r1;let #[k,g]:=Aj.reads I ht rr;show{_,.cons h g}
end
mutual
def zX:PyData->Bool
 |.none=>af
 |.int _=>af
 |.str x=>iz x
 |.list xs=>yh xs
 |.tuple xs=>yh xs
 |.bool _=>ah
 |.dict _=>ah
def yh:List PyData->Bool
 |[]=>af
 |x::xs=>zX x&&yh xs
end
mutual
theorem zaX:∀ {d:PyData},zX d=af->d.canLay0=af
 |.none,_=>by simp[ib]
 |.int _,_=>by simp[ib]
 |.str x,h=>by simpa[ib,zX] using h
 |.list xs,h=>ib\Xb (by simpa[zX] using h)
 |.tuple xs,h=>ib\Xb (by simpa[zX] using h)
 |.bool _,h=>by simp[zX] at h
 |.dict _,h=>by simp[zX] at h
theorem Xb:∀ {b:List PyData},yh b=af->lH b=af
 |[],_=>by simp[lH]
 |x::xs,h=>by rw[yh,bK] at h;rw[lH,zaX h.1,Xb h.2];rfl
end
mutual
theorem zaY:∀ {d e:PyData},zX d=af->zX e=af->(mW d e=af↔d=e)
 |.list xs,.list ys,h,h'=>[mW,Xc (by simpa[zX] using h) (by simpa[zX] using h'),PyData.list.injEq]\_
 |.tuple xs,.tuple ys,h,h'=>[mW,Xc (by simpa[zX] using h) (by simpa[zX] using h'),pj]\_
 |.bool _,_,h,_=>by simp[zX] at h
 |.dict _,_,h,_=>by simp[zX] at h
 |.none,.bool _,_,h=>by simp[zX] at h
 |.int _,.bool _,_,h=>by simp[zX] at h
 |.str _,.bool _,_,h=>by simp[zX] at h
 |.list _,.bool _,_,h=>by simp[zX] at h
 |.tuple _,.bool _,_,h=>by simp[zX] at h
 |.none,.dict _,_,h=>by simp[zX] at h
 |.int _,.dict _,_,h=>by simp[zX] at h
 |.str _,.dict _,_,h=>by simp[zX] at h
 |.list _,.dict _,_,h=>by simp[zX] at h
 |.tuple _,.dict _,_,h=>by simp[zX] at h
 |.none,.none,_,_|.none,.int _,_,_|.none,.str _,_,_|.none,.list _,_,_|.none,.tuple _,_,_=>by simp[mW]
 |.int _,.none,_,_|.int _,.int _,_,_|.int _,.str _,_,_|.int _,.list _,_,_|.int _,.tuple _,_,_=>by simp[mW]
 |.str _,.none,_,_|.str _,.int _,_,_|.str _,.str _,_,_|.str _,.list _,_,_|.str _,.tuple _,_,_=>by simp[mW]
 |.list _,.none,_,_|.list _,.int _,_,_|.list _,.str _,_,_|.list _,.tuple _,_,_=>by simp[mW]
 |.tuple _,.none,_,_|.tuple _,.int _,_,_|.tuple _,.str _,_,_|.tuple _,.list _,_,_=>by simp[mW]
theorem Xc:∀ {xs b:List PyData},yh xs=af->yh b=af->(oz xs b=af↔xs=b)
 |[],[],_,_=>by simp[oz]
 |[],_::_,_,_=>by simp[oz]
 |_::_,[],_,_=>by simp[oz]
 |x::xs,y::b,h,h'=>by rw[yh,bK] at h h';rw[oz,bK,zaY h.1 h'.1,Xc h.2 h'.2,c8]
end
abbrev zdn(K:bz)(c:Bool):R2:=λx y H Q=>∃d e,Dat K H x d/\Dat K H y e/\(zX d=af/\zX e=af/\d.depth<=64/\e.depth<=64)/\∀b:Bool,(b=af↔d=e)->Q (.bl (if c then !b else b)) H
def XS(h:zX d=af)(b:d.depth<=64):nK d=af:=by unfold nK;rw[zaX h,Fj b];rfl
def XT(n:X.A.units+64<cLine):Az X (Fi .NotEq) (zdn X.K af):=by intro aa s σ H x y v u Q I c b h;let #[d,e,r,o,#[p1,p2,m,l],q]:=h;let #[w,k]:=r.reads I c;let #[t,g]:=o.reads I b;show ne_dataH k g (XS p1 m) (XS p2 l) n {.bl _,H,I,U,q _ (zaY p1 p2)}
abbrev zlL(b:Bool):R2:=λx y H Q=>∃a o,y=.ref a/\Ay H a x o/\Q (.bl (if b then !o.isSome else o.isSome)) H
def zb0(d:X.A.units+1<cLine):Az X (Fi .In) (zlL ah):=by intro aa s σ H x y v u Q I c b h;let #[a,o,rfl,g,q]:=h;cases b;show zo7 d I g c λl k=>{.bl _,H,k,U,q}
def zfb(d:X.A.units+1<cLine):Az X (Fi .NotIn) (zlL af):=by intro aa s σ H x y v u Q I c b h;let #[a,o,rfl,g,q]:=h;cases b;show zlr d I g c λl k=>{.bl _,H,k,U,q}
abbrev Pl:=Str×Int
abbrev Row:=Pl×Int
abbrev zG:=List Row
def  zS:zG->Pl->Option Int
 |[],_=>ae
 |r::t,p=>(zS t p).or (if r.1=p then Z r.2 else ae)
def  XU(b:yd)(q:Row):yd:=xW b (zI q.1) (.int q.2)
def  Ac(b:zG):yd:=b.foldl XU []
def xj{p q:Pl}(h:zI p=zI q):p=q:=by unfold zI at h;simp only[c8,Bu,Bv,and_true] at h;show rD h.1 h.2
def zdo:∀(c:zG)(b:yd)(p:Pl),yD (c.foldl XU b) (zI p)=((zS c p).map V.int).or (yD b (zI p))
 |[],_,_=>rfl
 |r::t,b,p=>by
  rw[gJ,zdo t,zS];change _=_;rw[XU,ziW];cases zS t p with
  |some w=>rfl
  |none=>
   by_cases e:r.1=p
   .subst e;simp
   .rw[aj (λz=>e (xj z).symm)];simp[e]
def XV(b:zG)(p:Pl):yD (Ac b) (zI p)=(zS b p).map V.int:=by unfold Ac;rw[zdo,ziV];cases zS b p <;> rfl
def zjA(b:zG)(q:Row):Ac (b++[q])=xW (Ac b) (zI q.1) (.int q.2):=by unfold Ac;rw[uI];rfl
def  OkKv(b:yd):Prop:=(b.map (·.1)).Nodup/\∀c∈b,∃(p:Pl)(w:Int),c=(zI p,.int w)
def OkKv.put(h:OkKv aI)(p:Pl)(w:Int):OkKv (xW aI (zI p) (.int w)):=by
 cases e:yD aI (zI p) with
 |none=>
  show{zlt _ h.1 e,λb hk=>?_};rw[ZM _ e] at hk;obtain hk|hk:=bw.mp hk
  .show h.2 b hk
  .show{p,w,bu.mp hk}
 |some v=>
  let q:(aI.any λb=>decide (b.1=zI p))=af:=[vW,e]\U
  unfold xW;rw[ak q];constructor
  .rw[fh];let:((λx:xu×V=>x.1) ∘ λb:xu×V=>if b.1=zI p then (b.1,V.int w) else b)=λx=>x.1:=by
    funext b
    change (if b.1=zI p then (b.1,V.int w) else b).1=b.1;split <;> rfl
   show this\h.1
  .intro b hk;let #[z,c,rfl]:=bM.mp hk;by_cases e:z.1=zI p
   .show{p,w,[ak e,e]\_}
   .show aj e\h.2 z c
def zaZ:∀(c:zG)(b:yd),OkKv b->OkKv (c.foldl XU b)
 |[],_,h=>h
 |r::t,b,h=>zaZ t _ (h.put r.1 r.2)
def ZQ(b:zG):OkKv (Ac b):=zaZ b [] {gZ,λ_ h=>nomatch h}
def zlM(b:yd)(k:xu)(v:V):(xW b k v).length<=b.length+1:=by
 unfold xW;split
 .rw[bd];lia
 .rw[bj];simp
def zdp:∀(c:zG)(b:yd),(c.foldl XU b).length<=b.length+c.length
 |[],_=>?s
 |r::t,b=>by
  let:=zdp t (XU b r);let:=zlM b (zI r.1) (.int r.2);rw[gJ,bJ];unfold XU at *
  lia
def Yw(b:zG):(Ac b).length<=b.length:=by let:=zdp b [];simpa[Ac] using this
def zb1{c:yd}:(c.map (·.1)).Nodup->∀b∈c,yD c b.1=Z b.2:=by
 induction c with
 |nil=>show λ_ b h=>nomatch h
 |cons a r ih=>
  intro d b hk;rw[bB,cW] at d;obtain rfl|hk:=bo.mp hk
  .show xl rfl
  .show [xm λz=>d.1 (z\bX hk)]\ih d.2 b hk
def mem_dOf :kv∈Ac aF↔∃p w,kv=(zI p,.int w)/\zS aF p=Z w:=by
 constructor
 .intro h;let #[p,w,rfl]:=(ZQ aF).2 kv h;let:=zb1 (ZQ aF).1 _ h;rw[XV] at this;let #[g,b,c]:=cj.mp this;cases c;show{p,w,U,b}
 .rintro⟨p,w,rfl,h⟩;let e:yD (Ac aF) (zI p)=Z (.int w):=[XV,h]\U
  let #[kv,d,b]:=bM.mp (zgc e);let:=zb1 (ZQ aF).1 _ d;rw[b,e] at this;let c:kv=(zI p,V.int w):=rD b (cf this).symm;show [<-c]\d
def wP(a:Pl):yg a a=ah:=by unfold yg;show ak rfl\Fk ()
def YK{a b c:Pl}(g:yg a b=af)(d:yg b c=af):yg a c=af:=by
 unfold yg at *
 by_cases e1:a.1=b.1
 .rw[ak e1] at g;by_cases e2:b.1=c.1
  .rw[ak e2] at d;rw[ak (e1.trans e2)];let g:=of_decide_eq_true g;let d:=of_decide_eq_true d;show Fj ()
  .rw[aj e2] at d;show [aj (e1\e2),e1]\d
 .rw[aj e1] at g;let g:=of_decide_eq_true g;by_cases e2:b.1=c.1
  .show [aj ([<-e2]\e1),<-e2]\Fj g
  .rw[aj e2] at d;let d:=of_decide_eq_true d;let h:=List.lt_trans g d;show aj (λz=>by rw[z] at h;show List.lt_irrefl _ h)\Fj h
def  Ai(l:zG):Prop:=l.Pairwise λa b=>yg a.1 b.1=af
def  xS(c b:zG):Prop:=Ai b/\∀p w,(p,w)∈b↔zS c p=Z w/\w≠0
def Ai.nd{l:zG}(h:Ai l):(l.map (·.1)).Nodup:=by unfold fi;show mV\pS (λ{a b} h z=>by rw[z,wP] at h;cases h) h
def za0{p:Pl}:∀ {l:zG},(∀r∈l,r.1≠p)->zS l p=ae
 |[],_=>rfl
 |r::t,h=>[zS,za0 λr b=>h r (br _ b),aj (h r bp)]\U
def kh{p:Pl}{w:Int}:∀ {l:zG},(l.map (·.1)).Nodup->(zS l p=Z w↔(p,w)∈l)
 |[],_=>by simp[zS]
 |r::t,hn=>by
  rw[bB,cW] at hn;let c:=kh (p:=p) (w:=w) hn.2;by_cases e:r.1=p
  .let z:zS t p=ae:=za0 λq d b=>hn.1 ([e,<-b]\bX d);rw[zS,z,ak e];constructor
   .intro h;let:r.2=w:=<-h
    show [<-e,<-this]\bp
   .intro h;obtain h|h:=bo.mp h
    .rw[<-h];rfl
    .show absurd (bX (f:=(·.1)) h) ([<-e]\hn.1)
  .rw[zS,aj e,Option.or_none,c,bo];constructor
   .show .inr
   .rintro(h|h)
    .show absurd ([<-h]\_) e
    .show h
def Xd:∀ {a b:zG},Ai a->Ai b->(∀x,x∈a↔x∈b)->a=b
 |[],[],_,_,_=>rfl
 |[],y::_,_,_,h=>absurd ((h y).mpr bp) ?s
 |x::_,[],_,_,h=>absurd ((h x).mp bp) ?s
 |x::a,y::b,ha,hb,h=>by
  unfold Ai at ha hb;rw[pq] at ha hb;let e:x=y:=by
   obtain e|e:=bo.mp ((h x).mp bp)
   .show e
   .obtain e'|e':=bo.mp ((h y).mpr bp)
    .show e'.symm
    .let:=YK (ha.1 y e') (hb.1 x e);rw[wP] at this;cases this
  subst e;let nx:x ∉ a:=λz=>by let:=ha.1 x z;rw[wP] at this;cases this
  let d:x ∉ b:=λz=>by let:=hb.1 x z;rw[wP] at this;cases this
  rw[Xd ha.2 hb.2 λz=>?_];constructor
  .intro c;obtain e|e:=bo.mp ((h z).mp (br _ c))
   .subst e;show absurd c nx
   .show e
  .intro c;obtain e|e:=bo.mp ((h z).mpr (br _ c))
   .subst e;show absurd c d
   .show e
def jH{c:Type}[DecidableEq c]:∀ {a b:List c},a.Nodup->(∀x∈a,x∈b)->a.length<=b.length
 |[],_,_,_=>bP _
 |x::a,b,hn,h=>by rw[cW] at hn;let g:=h x bp;let:=jH (a:=a) (b:=b.erase x) hn.2 λy d=>(List.mem_erase_of_ne λz=>hn.1 ([<-z]\d)).mpr (h y (br _ d));rw[List.length_erase_of_mem g] at this;let:0<b.length:=List.length_pos_of_mem g;rw[bJ];lia
def Yx:plainId "dict.update.loop"=af:=()
def za1:entryFor table "dict.update.loop"=Z Builtin.«dict.update.loop»:=entryFor_of_fast (by kernel_rfl)
inductive PrAt(H:Hp)(v:V)(q:Row):Prop
 |mk (r p:_) (f1:v=.ref r) (f2:H r=Z (.tup [.ref p,.int q.2])) (f3:H p=Z (.tup [.str q.1.1,.int q.1.2]))
def zhx{H:Hp}{Q:Unit->ag->Prop}(J:A.units+1<cLine)(I:aJ X aa σ H s)(e:H d=Z (.dT aI))(y:H b=Z (.tup (k.map kV)))(l:aI.length<Fb)(D:aP v u)(h:∀m o,aJ X aa σ (upd H d (.dT (xW aI k v))) { s with heap:=m,toks:=o }->cy d s.heap m->Q PUnit.unit { s with heap:=m,toks:=o }):Ff (Fg X.p X.w) A.in1 (dictSet d (.ref b) u) Q E s:=by
 let #[z,M,xs,g,dd]:=zc3 I.hok e;let G:xs.length<=Fb:=[<-bZ g]\z
 let L:(xW aI k v).length<=Fb:=by let:=ka aI k v;lia
 show wpAny_dictSet_heap (hsz:=G) (fu J) (qI I.hok y) dd λm n r=>h _ _ ?_ r;let #[q,es,ep,t,h2,h3,T,_,O]:=n;show Ys I (e\gh) r {q,t} {L,M,_,(g.put k y D).keeps λc ys w=>?_,q,es,ep,t,h2,h3,T,O};show zm (zN w e ())\w
def zjB{σ:St}{H:Hp}{d it l:ac}{xs:LV}{aF:zG}{res:ai}(hu:A.units+1<cLine)(hh:A.handled=ae)(hd:H d=ae)(hl:H l=Z (.lst xs))(hr:B0 (PrAt H) xs aF)(aS:aF.length<=1000)(al:it≠d)(aI:l≠it) :
  ∀(k i:Nat)(s:ag),aF.length-i=k->i<=aF.length->aJ X aa σ (upd H d (.dT (Ac (aF.take i)))) s->s.heap.IsListIter it l i->(∀u,jJ X aa (upd H d u) it) ->
  (∀s',aJ X aa σ (upd H d (.dT (Ac aF))) s'->R (.ok (.ret res)) s') ->
  codeAny (Fg X.p X.w) A (.builtin "dict.update.loop" {[.ref d,.ref it,rawInt i,res],[]}) R s:=by
 let lx:xs.length=aF.length:=bZ hr;let S:∀u:HO,aH H (upd H d u):=λu=>hZ (o:=u) d hd;intro k;induction k with
 |zero=>
  intro i s hk hi I y m c;let e:i=aF.length:=()
  subst e;show de za1 ?_;rw[cP Yx _];change Ff _ A.in1 (pyNext (.ref it) >>= _) _ _ s;let #[G,D,p,hz]:=I.list (aN.of (S _ _ _ hl));let #[f0,f1,f2,f3,Q,O]:=m (.dT (Ac (aF.take aF.length)));let aM:=D.length;show ba (sw hh y p.isList (by simp;lia) λh' eb=>?_);let h:=I.turned (t':=s.toks) (λb o M e=>eb b o M e) f0 f1 f3 Q O;rw[eV] at h;change Ff _ A.in1 (Builtin.Dict.addKeywords d [] >>= _) _ _ _;show ba (bg (bg (c _ h)))
 |succ k ih=>
  intro i s hk hi I y m c;let g:i<aF.length:=()
  show de za1 ?_;rw[cP Yx _];change Ff _ A.in1 (pyNext (.ref it) >>= _) _ _ s;let #[G,D,p,hz]:=I.list (aN.of (S _ _ _ hl));let #[f0,f1,f2,f3,Q,O]:=m (.dT (Ac (aF.take i)));let hx:xs[i]?=Z xs[i]:=bc ();let hq:aF[i]?=Z aF[i]:=bc g;let #[r,pl,e1,t1,u1]:=yP hr hx hq;let #[u,J,ru]:=D.get hx;rw[e1] at ru;cases ru;show ba (rV y p.isList (x:=.ref r) (<-J) λh' w sb=>?_);let h:=I.turned (t':=s.toks) (λb o M e=>(sb.2 b M).trans e) f0 f1 f3 Q O;let #[ar,tv,#[o,ho,hc,n,L],_]:=h.tuple (aV.of (S _ _ _ t1));cases tv with
  |cons r1 rr=>
   cases rr with
   |cons r2 rn=>
    cases rn;cases r1;let #[t,rfl]:=r2;show ba (cF ?_);let T:({ s with heap:=h' }:ag).TypeIs (.ref r) "tuple":={o,ho,hc};show ba (wpAny_tryCatch ?_);unfold Builtin.Dict.pairItems;show ba (nN T ?_);rw[ak ()];show ba ?_;unfold seqItems?;show ba (pM ho ?_);rw[L];show bg (bg ?_);change Ff _ _ (holding [.ref pl,.int aF[i].2 t] (dictSet d (.ref pl) (.int aF[i].2 t))) _ _ _;show cF ?_;let q:Ac (aF.take (i+1))=xW (Ac (aF.take i)) (zI aF[i].1) (.int aF[i].2):=[du,hq,<-zjA]\U
    let l2:(Ac (aF.take i)).length<Fb:=by let h1:=Yw (aF.take i);let h2:=List.length_take_le' i aF;show dZ (():_<=1000) ()
    show zhx (k:=zI aF[i].1) (v:=.int aF[i].2) hu h zh (S _ _ _ u1) l2 {t,U} λh2 an I2 z=>?_;rw[Jr,<-q] at I2;show bg {fC Yx _,ih (i+1) _ () g I2 (w.at λo e=>(z.2 it al).trans e) m c}
def zb2:typeLookup (.type "list") "keys"=pure ae:=by rw[sO,nP];kernel_rfl
section
variable {w:ap}{a:ac}{o:Obj}{xs:Array ai}{k:Nat}
def Kl{Q:Option ai->ag->Prop}(u:s.heap.get? a=Z o)(y:o.cls=.type "list")(l:o.data=.seq xs k)(v:o.dict=ae)(L:A.handled=ae)(h:∀r t,(∀b q,s.heap.get? b=Z q->r.get? b=Z q)->Q ae { s with heap:=r,toks:=t }):Ff (Fg prog w) A (getAttr? (.ref a) "keys") Q E s:=by
 let #[c,M,O,D]:=o;simp only at y l v;subst y l v;let #[J,g,d,t,G]:=s;let z:∀m,({J,g,d,m,G}:ag).TypeIs (.ref a) "list":=λ_=>{_,u,U};let f1:=sub_AttributeError;let f3:=F.slot_list_getattribute.lookup;let f4:=F.slot_list_getattribute.bind (.ref a);let f5:=am_list_getattr_none;unfold getAttr? getAttrBy? getAttrBy
 repeat (any_goals (first|assumption|show z _|((with_reducible change Ff _ _ (call (uj "list.__getattribute__") _ _) _ _ _);show gF F.slot_list_getattribute (z _) am_entry_list_getattribute (F.args_list_getattribute_2 _ _) (meets_getattribute_miss_list a xs k D "keys" _ zb2 () ()) {u,L,λr m e n=>?_})|wp_step))
 let #[t',T,he]:=n.there;let I:=n.keeps;change Ff _ _ (getattributeRaised _ _ _ _ _ _ _) _ _ _;unfold getattributeRaised
 repeat (any_goals (first|assumption|wp_step))
 all_goals show h _ _ λb q e=>I b q e
end
def hu3(r:aY k A):A.units+3<cLine:=by let:=WM r;lia
abbrev zjC:RC:=λc H Q=>∃(a:ac)(xs:LV)(b:zG),c=[.ref a]/\H a=Z (.lst xs)/\B0 (PrAt H) xs b/\b.length<=1000/\∀p,H p=ae->Q (.ref p) (upd H p (.dT (Ac b)))
def wG(hc:X.c=af)(hu:X.A.units+3<cLine):wn X (.type "dict") zjC:=by
 intro aa s σ H vs us Q I r h;let #[a,xs,aF,rfl,G,hr,hl,q]:=h;let #[u,rfl,ru]:=xD r;cases ru;let T:X.A.handled=ae:=I.ok.hd hc;show callType_codes (Q₁:=λv c=>v=.ref s.heap.objs.size/\c={ s with heap:=s.heap.push { cls:=.type "dict",data:=.dict #[] } }) F.kt_called_dict (F.kt_typeCall_dict_1 _) F.entry_dict_init (kt_code_dict_new _ {rfl,rfl}) ?_;rintro v c ⟨rfl,rfl⟩;let T0:({ s with heap:=s.heap.push { cls:=.type "dict",data:=.dict #[] } }:ag).TypeIs (.ref s.heap.objs.size) "dict":={_,bq _ rfl,rfl};show{T0,F.args_dict_init_2 _ _,?_};unfold Builtin.«dict.__init__»;show ba ?_;unfold Builtin.Dict.selfAndRest;show ba (gU T0 ?_);change Ff _ _ (pure (s.heap.objs.size,[bC a])) _ _ _;show bg ?_;change Ff _ _ (rE "dict.__init__" s.heap.objs.size (.ref a) [] .none) _ _ _;unfold rE;let D:H s.heap.objs.size=ae:=I.hok.fresh (bh _);let S:∀u:HO,aH H (upd H s.heap.objs.size u):=λu=>hZ (o:=u) _ D;let I1:aJ X aa σ (upd H s.heap.objs.size (.dT [])) { s with heap:=s.heap.push { cls:=.type "dict",data:=.dict #[] } }:=
  I.laid (a:=s.heap.objs.size) (o:=.dT []) (t':=s.toks) (λb o z=>bf _ z) (bh _) (zc5 s.heap I.big)
 let #[an,rv,pl,_]:=I1.list (aN.of (S _ _ _ G));let #[o,n,O,J,od,t]:=id pl;let T1:({ s with heap:=s.heap.push { cls:=.type "dict",data:=.dict #[] } }:ag).TypeIs (.ref a) "list":={o,O,J};show ba (nN T1 ?_);rw[ak ()];show ba (Kl O J t od (by show T) λk g L=>?_);rw[ak ((ae:Option ai).isNone=af|>rfl)];show ba (oE ?_);let w:aJ X aa σ (upd H s.heap.objs.size (.dT [])) { s with heap:=k,toks:=g }:=I1.kept L;let #[M,al,m,_]:=w.list (aN.of (S _ _ _ G));show ba (lA m.isList ?_);let I3:aJ X aa σ (upd H s.heap.objs.size (.dT (Ac (aF.take 0)))) { s with heap:=k.push { cls:=.type "list_iterator",data:=.fields #[.ref a,.int 0 0] },toks:=g }:=w.kept (t':=g) λb o e=>bf _ e;show bg {fC Yx _,?_};let y:s.heap.objs.size<k.objs.size:=bG (L s.heap.objs.size _ (bq _ U));let la:a<k.objs.size:=by let #[_,_,z,_]:=m;show bG z
 show zjB (A:=X.A.in1) (H:=H) (d:=s.heap.objs.size) (it:=k.objs.size) (l:=a) (xs:=xs) (aF:=aF) (res:=.none) ?_ T D G hr hl (dU y) (bO la) aF.length 0 _ () (bP _) I3 {_,bq _ U,U,U} (λu=>?_) λs' I'=>{U,.ref s.heap.objs.size,_,I',U,q _ D}
 .let e:X.A.in1.units=X.A.units+1:=rfl;lia
 .show w.fpOk (bh _) ?_;rw[zm (dU y)];let:=w.hok.fresh (bh k.objs.size);rw[zm (dU y)] at this;show this
variable {mt:Pos}{ta:TE}
variable {th1:TS}{c1 c2:Str}{C1 C2:ac}{np2:Pos}
def  rk(b:xC)(ps:LV):Except Er Int:=match zjn b ps [] with
 |.ok [i]=>.ok i
 |.ok _=>.error .stuck
 |.error e=>.error e
def  Xe(e:LV):Prop:=(∀b,∃r,zpd b e r)/\(∀v∈e,zbU v)/\e.length<=1000
mutual
inductive Rw where
 |take (sh:Str) (e:LV) (sl:Str)
 |give (sh:Str) (e f:LV)
 |lt (sl:Str) (e:LV)
 |say (e:LV)
 |off (e:LV)
 |iff (e:LV) (a b:Rws)
inductive Rws where
 |nil
 |cons (r:Rw) (rs:Rws)
end
set_option genSizeOf false in
set_option genInjectivity false in
structure Sta where
 sl:xC
 wo:zG
 sa:yI
inductive Res where
 |go (s:Sta)
 |off
 |er (e:Er)
mutual
def goR:Rw->Sta->Res
 |.take sh e sl,s=>match rk s.sl e with
  |.ok n=>.go { s with sl:=xW s.sl (.inr sl) (.int ((zS s.wo (sh,n)).getD 0)) }
  |.error x=>.er x
 |.give sh e f,s=>match rk s.sl e with
  |.ok n=>(match rk s.sl f with
   |.ok w=>.go { s with wo:=s.wo++[((sh,n),w)] }
   |.error x=>.er x)
  |.error x=>.er x
 |.lt sl e,s=>match rk s.sl e with
  |.ok n=>.go { s with sl:=xW s.sl (.inr sl) (.int n) }
  |.error x=>.er x
 |.say e,s=>match rk s.sl e with
  |.ok n=>.go { s with sa:=s.sa++[n] }
  |.error x=>.er x
 |.off e,s=>match rk s.sl e with
  |.ok n=>if n=0 then .go s else .off
  |.error x=>.er x
 |.iff e a b,s=>match rk s.sl e with
  |.ok n=>if n=0 then zlO b s else zlO a s
  |.error x=>.er x
def zlO:Rws->Sta->Res
 |.nil,s=>.go s
 |.cons r rs,s=>match goR r s with
  |.go s'=>zlO rs s'
  |x=>x
end
abbrev Ak:=ac->Prop
mutual
def zpe(F:Ak)(H:Hp)(v:V):Rw->Prop
 |.take sh e sl=>∃r te,v=.ref r/\F r/\F te/\H r=Z (.tup [.str "take",.str sh,.ref te,.str sl])/\H te=Z (.tup e)
 |.give sh e f=>∃r te c,v=.ref r/\F r/\F te/\F c/\H r=Z (.tup [.str "give",.str sh,.ref te,.ref c])/\H te=Z (.tup e)/\H c=Z (.tup f)
 |.lt sl e=>∃r te,v=.ref r/\F r/\F te/\H r=Z (.tup [.str "let",.str sl,.ref te])/\H te=Z (.tup e)
 |.say e=>∃r te,v=.ref r/\F r/\F te/\H r=Z (.tup [.str "say",.ref te])/\H te=Z (.tup e)
 |.off e=>∃r te,v=.ref r/\F r/\F te/\H r=Z (.tup [.str "off",.ref te])/\H te=Z (.tup e)
 |.iff e a b=>∃r te g d xs h,v=.ref r/\F r/\F te/\F g/\F d/\H r=Z (.tup [.str "if",.ref te,.ref g,.ref d])/\H te=Z (.tup e)/\H g=Z (.lst xs)/\zjE F H xs a/\H d=Z (.lst h)/\zjE F H h b
def zjE(F:Ak)(H:Hp)(c:LV):Rws->Prop
 |.nil=>c=[]
 |.cons r rs=>∃v b,c=v::b/\zpe F H v r/\zjE F H b rs
end
mutual
def zpf:Rw->Prop
 |.take _ e _=>Xe e
 |.give _ e f=>Xe e/\Xe f
 |.lt _ e=>Xe e
 |.say e=>Xe e
 |.off e=>Xe e
 |.iff e a b=>Xe e/\zjF a/\zjF b
def zjF:Rws->Prop
 |.nil=>True
 |.cons r rs=>zpf r/\zjF rs
end
mutual
def Rw.deep:Rw->Nat
 |.iff _ a b=>max a.deep b.deep+1
 |_=>0
def Rws.deep:Rws->Nat
 |.nil=>0
 |.cons r rs=>max r.deep rs.deep
end
mutual
def Rw.cnt:Rw->Nat
 |.iff _ a b=>max a.cnt b.cnt+1
 |_=>1
def Rws.cnt:Rws->Nat
 |.nil=>0
 |.cons r rs=>r.cnt+rs.cnt
end
abbrev ItA(h:ao)(k d:ac)(i n l:Nat)(g:ai)(f:Bool)(c b:ai):Prop:=
 h.get? k=Z { cls:=.type "dict_itemiterator",dict:=ae,data:=.fields #[g,.bool f,.ref d,.int i 0,.int n 0,.int l 0,c,b],slots:=#[] }
section
variable {w:ap}
def zjG{es:Array DictEntry}{m:Nat}{Q:Aa}(g:s.heap.IsItemsView v d)(n:An s.heap d es m)(q:Q (.ref s.heap.objs.size) { s with heap:=s.heap.push { cls:=.type "dict_itemiterator",data:=.fields #[.none,.bool ah,.ref d,.int 0 0,.int es.size 0,.int m 0,.none,.none] } }):Ff (Fg P w) A (pyIter (.ref v)) Q E s:=by
 let #[t,h,r,k]:=id g;let #[o,l,u,b]:=id n;show mT g.typeIs sg (cG sg g.typeIs F.entry_dict_items_iter ?_ (F.args_dict_items_iter_1 _));unfold Builtin.«dict_items.__iter__»;show ba (bg ?_);show ba ?_;unfold Builtin.Dict_items.dictOf;show ba (cQ h k (x:=.ref d) U (bg ?_));show ba ?_;unfold Builtin.Dict_items.newIterator;show ba (fe l b ?_);show ba (iZ l b ?_);let c:fj "dict_itemiterator"=af:=()
 simp only[c,if_true];show cC (bg {_,U,"dict_itemiterator",_,{_,bq _ U,U},F.slot_dict_itemiterator_next.lookup,?_}) (by simp only[sizeOk,lZ,bH,bj,bJ,iW,cp];lia);simpa[rawInt,lZ] using q
def zjH{i l:Nat}{es:Array DictEntry}{e:DictEntry}{f:Bool}{Q:Option ai->ag->Prop}(m:ItA s.heap it d i es.size l o0 f ok ov)(hm:An s.heap d es l)(hx:es[i]?=Z e)(ar:(o0=.none/\f=ah)\/∃(a:ac)(oa:Obj),o0=rawInt (a:Nat)/\s.heap.get? a=Z oa/\a≠it)(q:∀t o1 f1 k1 v1,ItA t it d (i+1) es.size l o1 f1 k1 v1->((o1=.none/\f1=ah)\/∃(a:ac)(oa:Obj),o1=rawInt (a:Nat)/\t.get? a=Z oa/\a≠it)->t.get? s.heap.objs.size=Z { cls:=.type "tuple",data:=.seq #[e.key,e.val] }->t.objs.size=s.heap.objs.size+1 ->
   (∀b o,b≠it->s.heap.get? b=Z o->t.get? b=Z o)->(∀a:ac,o1=rawInt (a:Nat)->a=s.heap.objs.size\/o0=rawInt (a:Nat))->Q (Z (.ref s.heap.objs.size)) { s with heap:=t }):Ff (Fg P w) A (pyNext (.ref it)) Q E s:=by
 let #[c,g,J,u,y]:=s;let #[od,D,aI,G]:=id hm;let T:uq {c,g,J,u,y} (.ref it) "dict_itemiterator":={_,m,U};unfold pyNext;show ba (fB (cM (name:=bb "__next__") T gp (cG gp T nQ ?_ (mX _))));show ba (bg ?_);show ba ?_;show ba ?_
 first|(show ba (fX T (bg ?_)))|(show ba (ie T (bg ?_)))
 show ba (ic m U ?_);let an:fj "dict_itemiterator"=af:=()
 simp only[an,if_true];change Ff _ _ (if (bC d==cb)=af then _ else _) _ _ _;rw[aj (¬ ((bC d==cb)=af)|>bL)];show ba (bg ?_);show ba (fe D G ?_);rw[aj ?s];show ba (bg ?_);show ba (iZ D G ?_);rw[aj ?s];show bg ?_;simp only[¬ ((i:Int)<0)|>(),if_false,cK,hx];show ba ?_
 first|(show ba (fX T (bg ?_)))|(show ba (ie T (bg ?_)))
 show ba (mP T ?_);change Ff _ _ (setField (.ref it) 3 (rawInt ((i:Int)+1)) >>= _) _ _ {c,g,J,u,y};show ba (cI m ?s λh₁ I v=>?_);replace v:cy it c h₁:=v;replace I:ItA h₁ it d (i+1) es.size l o0 f ok ov:=by
  let z:((i+1:Nat):Int)=(i:Int)+1:=()
  unfold ItA;rw[z];simpa[rawInt] using I
 let T1:uq {h₁,g,J,u,y} (.ref it) "dict_itemiterator":={_,I,U};show ba (cF ?_);show ba (mP T1 ?_);show ba (mP T1 ?_);change Ff _ _ (mL (.ref it) 6 e.key e.val) _ _ {h₁,g,J,u,y};unfold mL;show ba (pE ?_);let n:ItA (h₁.push { cls:=.type "tuple",data:=.seq #[e.key,e.val] }) it d (i+1) es.size l o0 f ok ov:=bf _ I;generalize hg:h₁.push { cls:=.type "tuple",data:=.seq #[e.key,e.val] }=h₂ at n;let L:h₁.objs.size=c.objs.size:=v.1;let il:it<c.objs.size:=bG m;let t2:h₂.get? c.objs.size=Z { cls:=.type "tuple",data:=.seq #[e.key,e.val] }:=[<-hg,<-L]\bq _ rfl
 let z2:h₂.objs.size=c.objs.size+1:=[<-hg,gX,L]\_
 let k2:∀b o,b≠it->c.get? b=Z o->h₂.get? b=Z o:=λb o h z=>[<-hg]\bf _ (v.extBut b o h z)
 change Ff _ _ (l8 (.ref it) >>= _) _ _ {h₂,g,J,u,y};rw[L];clear hg I v T1 L h₁;show ba ?_;unfold l8;obtain ⟨rfl,rfl⟩|⟨a,oa,rfl,ha,hai⟩:=ar
 .show ba (cQ n U (x:=.none) U (bg ?_));simp only[if_true];show ba (cQ n U (x:=ok) U ?_);show ba (cQ n U (x:=ov) U ?_);show ba (cI n ?s λh₃ r k=>?_);replace k:cy it h₂ h₃:=k;replace r:ItA h₃ it d (i+1) es.size l .none ah e.key ov:=r;show ba (cI r ?s λh₄ e4 s4=>?_);replace s4:cy it h₃ h₄:=s4;replace e4:ItA h₄ it d (i+1) es.size l .none ah e.key e.val:=e4;show ba (cI e4 ?s λh₅ e5 O=>?_);replace O:cy it h₄ h₅:=O;replace e5:ItA h₅ it d (i+1) es.size l (rawInt (c.objs.size:Nat)) ah e.key e.val:=e5;show ba (cI e5 ?s λh₆ e6 M=>?_);replace M:cy it h₅ h₆:=M;replace e6:ItA h₆ it d (i+1) es.size l (rawInt (c.objs.size:Nat)) ah e.key e.val:=e6;let k6:∀b o,b≠it->h₂.get? b=Z o->h₆.get? b=Z o:=λb o h z=>M.extBut b o h (O.extBut b o h (s4.extBut b o h (k.extBut b o h z)));let t6:=k6 _ _ (dU il) t2;show ba (rF (bg (bg {_,U,bg (q h₆ _ _ _ _ e6 (.inr {_,_,U,t6,dU il}) t6 ?_ (λb o h z=>k6 b o h (k2 b o h z)) λa z=>?_)})))
  .change h₆.objs.size=c.objs.size+1;rw[M.1,O.1,s4.1,k.1,z2]
  .show .inl ?_;let z':(gP (c.objs.size:Nat) 0:ai)=gP (a:Nat) 0:=z;let al:((c.objs.size:Nat):Int)=((a:Nat):Int):=by injection z'
   show(Bw al).symm
 .show ba (cQ n U (x:=rawInt (a:Nat)) U ?_);change Ff _ _ (loadIfAlive (((a:Nat):Int).toNat) >>= _) _ _ _;rw[cK];let a2:h₂.get? a=Z oa:=k2 a oa hai ha;show ba (W.kdx_alive a2 ?_);simp only[ur,cA,if_false];show ba (cQ n U (x:=.bool f) U ?_);cases f with
  |true=>
   rw[aj (¬ ((lz af != lz af)=af)|>bL)];show bg ?_;simp only[cA,if_false];show bg (bg {_,U,bg (q h₂ _ _ _ _ n (.inr {_,_,U,a2,hai}) t2 z2 k2 λa z=>.inr z)})
  |false=>
   rw[ak ((lz ah != lz af)=af|>rfl)];show ba (cI n ?s λh₃ r k=>?_);replace k:cy it h₂ h₃:=k;replace r:ItA h₃ it d (i+1) es.size l (rawInt (a:Nat)) af ok ov:=r;show bg ?_;simp only[cA,if_false];show bg (bg {_,U,bg (q h₃ _ _ _ _ r (.inr {_,_,U,k.extBut _ _ hai a2,hai}) (k.extBut _ _ (dU il) t2) (by change h₃.objs.size=_;rw[k.1,z2]) (λb o h z=>k.extBut b o h (k2 b o h z)) λa z=>.inr z)})
def zlP{i n:Nat}{es:Array DictEntry}{f:Bool}{Q:Option ai->ag->Prop}(t:A.handled=ae)(c:ItA s.heap it d i es.size n o0 f ok ov)(r:An s.heap d es n)(o:es.size<=i)(q:∀l,tW it s.heap l->Q ae { s with heap:=l }):Ff (Fg P w) A (pyNext (.ref it)) Q E s:=by
 let #[v,g,u,h]:=id r;let T:s.TypeIs (.ref it) "dict_itemiterator":={_,c,U};unfold pyNext;show ba (fB (cM (name:=bb "__next__") T gp (cG gp T nQ ?_ (mX _))));show ba (bg ?_);show ba ?_;show ba ?_
 first|(show ba (fX T (bg ?_)))|(show ba (ie T (bg ?_)))
 show ba (ic c U ?_);let k:fj "dict_itemiterator"=af:=()
 simp only[k,if_true];change Ff _ _ (if (bC d==cb)=af then _ else _) _ _ s;rw[aj (¬ ((bC d==cb)=af)|>bL)];show ba (bg ?_);show ba (fe g h ?_);rw[aj ?s];show ba (bg ?_);show ba (iZ g h ?_);rw[aj ?s];show bg ?_;simp only[¬ ((i:Int)<0)|>(),if_false,cK,fO o];show ba ?_
 first|(show ba (fX T (bg ?_)))|(show ba (ie T (bg ?_)))
 change Ff _ _ (setField (.ref it) 2 .none >>= _) _ _ s;show ba (eS c U ?s ?_);change Ff _ _ (newExc (.type "StopIteration") [] >>= _) _ _ _;show ba ?_;simp only[newExc,newTuple];show ba (cC ?_ (by size_fits));show ba (m:=firstArgMember _ _) (oH (a:=cb) (by first|rfl|(simp only[firstArgMember];rfl)) ?_);show cC ?_ (by size_fits);simp only[raiseNew];show ba (oy ?_);rw[A.in1.handled=ae|>t];show ba (bg (mU ?_));show ba (lV (T:="StopIteration") (b:=af) {_,bq _ U,U} pH ?_);show bg (q _ (((dz ..).extBut.push _).push _))
end
def  Km(r d:ac):HO:=.ext λh=>h.IsItemsView r d
def  zfc(c:TE):TE:=λσ H Q=>c σ H λx b=>∃d g,x=.ref d/\b d=Z (.dT g)/\∀r,b r=ae->Q (.ref r) (upd b r (Km r d))
variable {td:TE}
section
variable {o:au}
def zdq(z:PE X o td)(l:attributeBase o "items" X.e (eval o X.e)=eval o X.e:=by rfl)(g:(mt.endLine==aW.line)=af:=by rfl):PE X (.Call (.Attribute o "items" mt) [] [] aW) (zfc td):=by intro aa s σ H Q I h;show rm l g (aT (z aa s σ H _ I h) ?_);rintro v c ⟨x,T,q,w,d,O,J,G,y⟩;subst J;obtain rfl:v=bC d:=w;let #[n,t,r]:=WJ q (.inr {O,.inl G});show{"dict","dict.items",fA,rG,PySem.F.type_dict_items,n,t,dX U (tR ?_)};show cG rG n PySem.F.entry_dict_items ?_ (PySem.F.args_dict_items_1 _);unfold Builtin.«dict.items»;show ba ?_;unfold Builtin.Dict.noArgs;show ba (gU n ?_);change Ff _ _ (pure d) _ _ c;show bg ?_;change Ff _ _ (iY d >>= _) _ _ c;unfold iY;rw[aj (r\bL)];show ba (bg ?_);show ba (cC (bg {_,U,?_}));let D:T c.heap.objs.size=ae:=q.hok.fresh (bh _);let m:(c.heap.push { cls:=.type "dict_items",data:=.fields #[.ref d] }).get? c.heap.objs.size=Z { cls:=.type "dict_items",data:=.fields #[.ref d] }:=bq _ rfl;show{.ref c.heap.objs.size,_,q.laid (a:=c.heap.objs.size) (o:=Km c.heap.objs.size d) (t':=c.toks) (λb u e=>bf _ e) (bh _) ?_,U,y _ D};show{{_,m,U,U},{_,m},λh1 h2 ⟨o,M,L⟩ k=>{o,k o M,L}}
end
def  XW(H:Hp)(v:V)(b:xu×V):Prop:=∃r p,v=.ref r/\H r=Z (.tup [.ref p,b.2])/\H p=Z (.tup (b.1.map kV))
def zdr{H h:Hp}(s:∀b c,H b=Z (.tup c)->h b=Z (.tup c)):∀ {d:LV}{g:yd},B0 (XW H) d g->B0 (XW h) d g
 |_,_,.nil=>.nil
 |_,_,.cons ⟨r,p,e,h1,h2⟩ t=>.cons {r,p,e,s _ _ h1,s _ _ h2} (zdr s t)
def zds{H:Hp}{v:V}{q:xu×V}:∀ {b:LV}{c:yd},B0 (XW H) b c->XW H v q->B0 (XW H) (b++[v]) (c++[q])
 |_,_,.nil,h=>.cons h .nil
 |_,_,.cons a r,h=>.cons a (zds r h)
def zjI{aa:Ae}{H:Hp}{es:Array DictEntry}{ep:Nat}(hh:A.handled=ae)(hS:H S=ae)(hd:H d=Z (.dT aI))(Q:S≠it)(a5:d≠it)(hz:aI.length<=1000)(a7:es.size=aI.length)(a1:∀(i:Nat)(e:DictEntry)(kv:xu×V),es[i]?=Z e->aI[i]?=Z kv->∃p,e.key=.ref p/\H p=Z (.tup (kv.1.map kV))/\aP kv.2 e.val)(a3:∀s' H' g,aJ X aa σ H' s'->aH H H'->H' S=Z (.lst g)->B0 (XW H') g aI->R (.ok (.ret res)) s') :
  ∀(k i:Nat)(s:ag)(c:Hp)(g:LV)(m ok ov:ai)(f:Bool),aI.length-i=k->i<=aI.length->aJ X aa σ c s->aH H c->c S=Z (.lst g)->B0 (XW c) g (aI.take i)->An s.heap d es ep->ItA s.heap it d i es.size ep m f ok ov ->
  ((m=.none/\f=ah)\/∃(a:ac)(l:Obj),m=rawInt (a:Nat)/\s.heap.get? a=Z l/\a≠it/\a≠S)->jJ X aa c it ->
  codeAny (Fg X.p X.w) A (.builtin "list.extend.loop" {[.ref S,.ref it,res],[]}) R s:=by
 intro k;induction k with
 |zero=>
  intro i s c g m ok ov f hk hi I sm D v rd h q hf;let e:i=aI.length:=()
  subst e;show de pI ?_;rw[cP dQ _];change Ff _ A.in1 (pyNext (.ref it) >>= _) _ _ s;let #[f0,f1,f2,f3,f4,f5]:=hf;show ba (zlP (A:=A.in1) hh h rd () λt eb=>?_);let I1:=I.turned (t':=s.toks) (λb o O e=>eb b o O e) f0 f1 f3 f4 f5;rw[eV] at v;show bg (a3 _ c g I1 sm D v)
 |succ k ih=>
  intro i s c g m ok ov f hk hi I sm D v rd h q hf;let J:i<aI.length:=()
  let hx:es[i]?=Z es[i]:=b9 ();let L:aI[i]?=Z aI[i]:=bc J;let #[p,ek,hp,rv]:=a1 i _ _ hx L;show de pI ?_;rw[cP dQ _];change Ff _ A.in1 (pyNext (.ref it) >>= _) _ _ s;let #[f0,f1,f2,f3,f4,f5]:=id hf;let G:(m=.none/\f=ah)\/∃(a:ac)(l:Obj),m=rawInt (a:Nat)/\s.heap.get? a=Z l/\a≠it:=by
   obtain z|⟨a,l,z1,z2,z3,_⟩:=q
   .show .inl z
   .show .inr {a,l,z1,z2,z3}
  show ba (zjH (A:=A.in1) h rd hx G λt o1 a4 k1 v1 M aM ht a6 kp ar=>?_);let Sl:S<s.heap.objs.size:=by let #[_,_,_,_,e]:=(aQ X.p X.w c s.heap S (.lst g)|>I.hok S _ D);show bG e
  let tn:s.heap.objs.size≠it:=dU (bG h);let a2:c s.heap.objs.size=ae:=I.hok.fresh (bh _);let al:S≠s.heap.objs.size:=bO Sl;generalize hT:s.heap.objs.size=T at *
  let I6:aJ X aa σ (upd c T (.tup [.ref p,aI[i].2])) { s with heap:=s.heap.push { cls:=.type "tuple",data:=.seq #[es[i].key,es[i].val] } }:=
   I.laid (a:=T) (o:=.tup [.ref p,aI[i].2]) (t':=s.toks) (λb u e=>bf _ e) (hT\bh _) {(),[es[i].key,es[i].val],.cons (ek\rfl) (.cons rv .nil),{_,[<-hT]\bq _ U,U,_,U}}
  let S6:aH c (upd c T (.tup [.ref p,aI[i].2])):=hZ T a2;let I7:aJ X aa σ (upd c T (.tup [.ref p,aI[i].2])) { s with heap:=t }:=I6.turned (s:={ s with heap:=s.heap.push { cls:=.type "tuple",data:=.seq #[es[i].key,es[i].val] } }) (t':=s.toks) (λb o O e=>by
   obtain ⟨rfl,rfl⟩|e:=oo ((s.heap.push { cls:=.type "tuple",data:=.seq #[es[i].key,es[i].val] }).get? b=Z o|>e)
   .show hT\ht
   .show kp b o O e) (zm (cY tn)\f0) f1 f3 f4 f5
  let y:(upd c T (.tup [.ref p,aI[i].2])) S=Z (.lst g):=S6 _ _ D;let #[z,w,n,r,hl,e]:=I7.lstM y;let yl:g.length=i:=by let:=bZ v;rw[bQ] at this;lia
  change Ff _ A.in1 (updateSeq S (·.push (bC T)) >>= _) _ _ _;let e':t.get? S=Z { cls:=.type "list",data:=.seq w.toArray n }:=e;show ba (i8 (s:={ s with heap:=t }) e' rfl ?_ ([bH,<-r.length,yl]\bR (():i<=1000) ()) ([Array.size_push,bH,<-r.length,yl]\bR (():i+1<=1001) ()));let I8:=I7.lset (f:=λxs=>xs.push (bC T)) (t':=s.toks) (its':=w++[bC T]) y e' ?s (r.append (.cons (aP (.ref T) (.ref T)|>rfl) .nil)) ([bj,yl]\bR (by change i+1<=1001;lia) ());let up:∀b o,b≠S->t.get? b=Z o->(t.update S (dN (·.push (bC T)))).get? b=Z o:=λb o O z=>(cg _ _ (cY O)).trans z;let dS:d≠S:=zy hd hS;let tS:∀b zs,c b=Z (.tup zs)->(upd (upd c T (.tup [.ref p,aI[i].2])) S (.lst (g++[.ref T]))) b=Z (.tup zs):=λb zs z=>zm (zN z D (by intro z;cases z))\S6 _ _ z
  let ri:∀ {a b:Nat},(rawInt (a:Int):ai)=rawInt (b:Int)->a=b:=λ{a b} z=>by
   let z':(gP (a:Int) 0:ai)=gP (b:Int) 0:=z;let an:(a:Int)=(b:Int):=by injection z'
   show Bw an
  show bg {fC dQ _,ih (i+1) _ _ (g++[.ref T]) o1 k1 v1 a4 ([Nat.sub_add_eq,hk]\U) J I8 (λb o z=>?_) zh ?_ (rd.at λo z=>up d o dS (kp d o a5 z)) (up it _ (cY Q) M) ?_ {?_,f1,f2,f3,f4,f5}}
  .show zm (zy z hS)\S6 _ _ (sm _ _ z)
  .show [du,L]\zds (zdr tS v) {T,p,U,[zm (cY al),zh]\_,tS _ _ (sm _ _ hp)}
  .obtain z|⟨a,l,z1,z2,z3⟩:=aM
   .show .inl z
   .let aS:a≠S:=by
     obtain z|z:=ar a z1
     .show z\cY al
     .obtain ⟨y1,_⟩|⟨a',oa',y1,_,_,y4⟩:=q
      .rw[y1] at z;cases z
      .rw[y1] at z;show [<-ri z]\y4
    show .inr {a,l,z1,up a _ aS z2,z3,aS}
  .show [zm (cY Q),zm (cY tn)]\f0
abbrev zmZ:RC:=λh H Q=>∃r d c,h=[.ref r]/\H r=Z (Km r d)/\H d=Z (.dT c)/\c.length<=1000/\∀l g b,aH H b->H l=ae->b l=Z (.lst g)->B0 (XW b) g c->Q (.ref l) b
def zlQ{H:Hp}(k:Ax P w H h)(e:H r=Z (Km r d)):h.IsItemsView r d:=(k r _ e).1
def zlR{H:Hp}:∀ {c:yd}{xs:List (xu×ac×ai)},B0 (λ(p:xu×V)(q:xu×ac×ai)=>p.1=q.1/\H q.2.1=Z (.tup (p.1.map kV))/\aP p.2 q.2.2) c xs->∀ {i:Nat}{b:xu×V}{x:xu×ac×ai},c[i]?=Z b->xs[i]?=Z x->H x.2.1=Z (.tup (b.1.map kV))/\aP b.2 x.2.2:=
 λ{_ _} h {_ _ _} g d=>(yP h g d).2
def zjJ{H:Hp}(I:aJ X aa σ H s)(e:H d=Z (.dT aI)):∃es g,An s.heap d es g/\es.size=aI.length /\
  ∀(i:Nat)(en:DictEntry)(c:xu×V),es[i]?=Z en->aI[i]?=Z c->∃p,en.key=.ref p/\H p=Z (.tup (c.1.map kV))/\aP c.2 en.val:=by
 let #[z,y,xs,b,o,es,g,r,q,n,h,_]:=(aQ X.p X.w H s.heap d (.dT aI)|>I.hok d _ e);let l:es.size=xs.length:=[<-bE,h,bd]\_
 show{es,g,{o,r,q,n},[l,<-bZ b]\_,λi en c w v=>?_};let k:es.toList[i]?=Z en:=bU\w
 rw[h,bn] at k;let #[x,m,rfl]:=cj.mp k;let #[u,t]:=zlR b v m;show{x.2.1,U,u,t}
def za2{A:av}{R:ay->ag->Prop}{aa:Ae}{σ:St}{H:Hp}{s:ag}{S r d:ac}{l:yd}{res:ai}{c:Nat}(hh:A.handled=ae)(z:H S=ae)(hr:H r=Z (Km r d))(hd:H d=Z (.dT l))(hl:l.length<=1000)(y:aJ X aa σ (upd H S (.lst [])) s)(T2:s.heap.get? S=Z { cls:=.type "list",data:=.seq #[] c })(D:∀g k ys,aJ X aa σ k g->aH H k->k S=Z (.lst ys)->B0 (XW k) ys l->R (.ok (.ret res)) g) :
  Ff (Fg X.p X.w) A.in1 (dh (.ref S) (.ref r) res) (λh g=>match h with|.done f=>R (.ok f) g|.again c'=>c'.quiet=af/\codeAny (Fg X.p X.w) A c' R g) (λe g=>R (.error e) g) s:=by
 let Sr:r≠S:=zy hr z;let Sd:d≠S:=zy hd z;let SS:aH H (upd H S (.lst [])):=hZ S z;let #[es,ep,M,Q,u]:=zjJ y (SS _ _ hd);let al:∀(i:Nat)(w:DictEntry)(q:xu×V),es[i]?=Z w->l[i]?=Z q->∃p,w.key=.ref p/\H p=Z (.tup (q.1.map kV))/\aP q.2 w.val:=λi w q e1 e2=>by
  let #[p,g1,g2,g3]:=u i w q e1 e2;show{p,g1,?_,g3};by_cases hp:p=S
  .rw[hp,zh] at g2;cases g2
  .rwa [zm hp] at g2
 let I:=zlQ y.hok (SS _ _ hr);unfold dh;show ba (nN (T:="dict_items") I.typeIs ?_);let c1:iu (.ref S) (.ref r)=ah:=by simp[iu,cY Sr]
 let c2:(gg "dict_items" == gg "list")=ah:=()
 let c3:(gg "dict_items" == gg "tuple")=ah:=()
 simp only[c1,c2,c3,rj,cA,if_false];show ba (zjG I M ?_);let ni:(upd H S (.lst [])) s.heap.objs.size=ae:=y.hok.fresh (bh _);let fp:jJ X aa (upd H S (.lst [])) s.heap.objs.size:=y.fpOk (bh _) ni;let Si:S≠s.heap.objs.size:=bO (bG T2);let di:d≠s.heap.objs.size:=bO M.lt;let I3:aJ X aa σ (upd H S (.lst [])) { s with heap:=s.heap.push { cls:=.type "dict_itemiterator",data:=.fields #[.none,.bool ah,.ref d,.int 0 0,.int es.size 0,.int ep 0,.none,.none] } }:=y.kept (t':=s.toks) λb o e=>bf _ e;let T3:=bf { cls:=.type "dict_itemiterator",data:=.fields #[.none,.bool ah,.ref d,.int 0 0,.int es.size 0,.int ep 0,.none,.none] } T2;let t:ItA (s.heap.push { cls:=.type "dict_itemiterator",data:=.fields #[.none,.bool ah,.ref d,.int 0 0,.int es.size 0,.int ep 0,.none,.none] }) s.heap.objs.size d 0 es.size ep .none ah .none .none:=bq _ rfl;let m:An (s.heap.push { cls:=.type "dict_itemiterator",data:=.fields #[.none,.bool ah,.ref d,.int 0 0,.int es.size 0,.int ep 0,.none,.none] }) d es ep:=M.at λo e=>bf _ e;let G:(s.heap.push { cls:=.type "dict_itemiterator",data:=.fields #[.none,.bool ah,.ref d,.int 0 0,.int es.size 0,.int ep 0,.none,.none] }).IsItemsView r d:=let ⟨o,ho,x⟩:=I;{o,bf _ ho,x}
 generalize hh3:s.heap.push { cls:=.type "dict_itemiterator",data:=.fields #[.none,.bool ah,.ref d,.int 0 0,.int es.size 0,.int ep 0,.none,.none] }=h3 at *
 generalize s.heap.objs.size=it at *
 show ba (cF (W.kdx_hint G.typeIs ?_));let h:∀(v:ao)(J:Nat)(R:ay->ag->Prop),(∀g k ys,aJ X aa σ k g->aH H k->k S=Z (.lst ys)->B0 (XW k) ys l->R (.ok (.ret res)) g)->aJ X aa σ (upd H S (.lst [])) { s with heap:=v,toks:=J }->An v d es ep->ItA v it d 0 es.size ep .none ah .none .none ->
   codeAny (Fg X.p X.w) A (.builtin "list.extend.loop" {[.ref S,.ref it,res],[]}) R { s with heap:=v,toks:=J }:=λv J R D I4 L O=>
  zjI (A:=A) (H:=H) (es:=es) (ep:=ep) hh z hd Si di hl Q al D l.length 0 _ (upd H S (.lst [])) [] .none .none .none ah (uQ _) (bP _) I4 SS zh .nil L O (.inl {U,U}) fp
 show i9 (λ_=>?_) (λ_=>bg {fC dQ _,h h3 s.toks _ D I3 m t});show ba (oE ?_);show ba ?_;change Ff _ _ (updateSeq S (·.push .none) >>= λ_=>updateSeq S (·.pop)) _ _ _;show ba (i8 T3 U ?_);let T4:=cq (dN (·.push cb)) T3 rfl;show i8 (hz:=by seq_fits) T4 U ?_;let I4:=I3.lset (f:=λxs=>xs.push cb) (its:=[]) (its':=[cb]) (ys:=[V.non]) (t':=s.toks) zh T3 U (.cons U .nil) ();let I5:=I4.lset (f:=λxs=>xs.pop) (its:=[cb]) (its':=[]) (ys:=[]) (t':=s.toks) zh T4 U .nil (bP _);rw[Jr,Jr] at I5;let n:∀b o,b≠S->h3.get? b=Z o->((h3.update S (dN (·.push cb))).update S (dN (·.pop))).get? b=Z o:=λb o hb e=>(cg _ _ (cY hb)).trans ((cg _ _ (cY hb)).trans e);show bg {fC dQ _,h _ s.toks _ D I5 (m.at λo e=>n d o Sd e) (n it _ (cY Si) t)}
def V9(L:X.c=af):wn X (.type "list") zmZ:=by
 intro aa s σ H vs us Q I v h;let #[r,d,aI,rfl,z,J,D,q]:=h;let #[u,rfl,t]:=xD v;cases t;let G:X.A.handled=ae:=I.ok.hd L;show callType_codes (Q₁:=λc b=>c=.ref s.heap.objs.size/\b={ s with heap:=s.heap.push { cls:=.type "list",data:=.seq #[] } }) PySem.F.called_list (PySem.F.typeCall_list_1 _) PySem.F.entry_list_init (code_list_new _ {rfl,rfl}) ?_;rintro c b ⟨rfl,rfl⟩;let l:H s.heap.objs.size=ae:=I.hok.fresh (bh _);let O:aJ X aa σ (upd H s.heap.objs.size (.lst [])) { s with heap:=s.heap.push { cls:=.type "list",data:=.seq #[] } }:=I.lnew (its:=[]) (t':=s.toks) .nil (bP _);let g:(s.heap.push { cls:=.type "list",data:=.seq #[] }).get? s.heap.objs.size=Z { cls:=.type "list",data:=.seq #[] }:=bq _ rfl;generalize hT:s.heap.objs.size=S at *
 show{{_,g,U},PySem.F.args_list_init_2 _ _,?_};change Ff _ _ (do let k <-si (.ref S);Builtin.List.listUpdate (.ref S) (λ_=>#[]);letGo k.toList.reverse;dh (.ref S) (.ref r) .none) _ _ _;show ba ?_;unfold si;show ba (nF g U (bg ?_));change Ff _ _ (updateSeq S (λ_=>#[]) >>= λ_=>letGo (#[]:Array ai).toList.reverse >>= λ_=>dh (.ref S) (.ref r) .none) _ _ _;show ba (i8 g U ?_);let m:=O.lset (f:=λ_=>(#[]:Array ai)) (its:=[]) (its':=[]) (ys:=[]) (t':=s.toks) zh g U .nil (bP _);rw[Jr] at m;let M:=cq (dN (λ_=>(#[]:Array ai))) g rfl;show ba (rF ?_);generalize hh2:(s.heap.push { cls:=.type "list",data:=.seq #[] }).update S (dN (λ_=>(#[]:Array ai)))=h2 at *
 show za2 (A:=X.A.in1) (H:=H) G l z J D m M λs' n ys T o y w=>{U,.ref S,n,T,U,q S ys n o l y w}
def zfd{R:zQ->ag->Prop}{H:Hp}(Q:A.handled=ae)(L:H r=Z (Km r d))(T:H d=Z (.dT aI))(O:aI.length<=1000)(I:aJ X aa σ H s)(h:∀G b c D,aJ X aa σ b G->aH H b->B0 (XW b) c aI->aO c D->R D G):Ff (Fg X.p X.w) A (collect (.ref r)) R E s:=by
 let hS:H s.heap.objs.size=ae:=I.hok.fresh (bh _);let I1:aJ X aa σ (upd H s.heap.objs.size (.lst [])) { s with heap:=s.heap.push { cls:=.type "list",data:=.seq ([]:zQ).toArray } }:=I.lnew (its:=[]) (t':=s.toks) .nil (bP _);let T1:(s.heap.push { cls:=.type "list",data:=.seq ([]:zQ).toArray }).get? s.heap.objs.size=Z { cls:=.type "list",data:=.seq #[] }:=bq _ rfl;unfold collect;show ba (nE (de on ?_));rw[cP i7 _];change Ff _ A.in1 (newList [] >>= λl=>again (.builtin "list.__iadd__" {[l,.ref r],[]})) _ _ s;show ba (cC ?_);show bg {fC fD _,de rQ ?_};rw[cP fD _];generalize s.heap.objs.size=S at *
 change Ff _ A.in1 (dh (.ref S) (.ref r) (.ref S)) _ _ _;let v:=za2 (A:=A) (R:=λ(q:ay)(s':ag)=>∃b c,q=.ok (.ret (.ref S))/\aJ X aa σ b s'/\aH H b/\b S=Z (.lst c)/\B0 (XW b) c aI) (res:=.ref S) Q hS L T O I1 T1 λs' b c m t w u=>{b,c,U,m,t,w,u};let k:∀s':ag,(∃b c,aJ X aa σ b s'/\aH H b/\b S=Z (.lst c)/\B0 (XW b) c aI)->Ff (Fg X.p X.w) A (load S >>= λo=>match o.data with|.seq xs _=>pure xs.toList|_=>unsupported "internal:collect") R E s':=λs' ⟨b,c,m,t,w,u⟩=>by let #[z,its,n,J,M,e]:=m.lstM w;show ba (pM e ?_);show bg ?_;show h s' b c its m t u J
 show dM v (λf s' x=>?_) λe s' x=>?_
 .cases f with
  |done f=>
   let #[b,c,e,x]:=x;cases e;show k s' {b,c,x}
  |again c₁=>
   show{x.1,fV x.2 λq g y=>?_};let #[b,c,rfl,y]:=y;show k g {b,c,y}
 .let #[_,_,e',_]:=x;cases e'
section
variable {w:ap}
def zjK{x y:ac}{a b:Str×Int}{Q:Bool->ag->Prop}(hu:A.units<cLine)(T:Ab s.heap (.ref x) a)(O:Ab s.heap (.ref y) b)(h:Q (yg a b) s):Ff (Fg P w) A (oneLt' ah (.ref x) (.ref y)) Q E s:=by let #[p,o,t,u,n,e1,q,v,r]:=T;let #[p2,L,I,G,M,e2,d,k,g]:=O;cases e1;cases e2;let #[c,dd,al,J]:=o;let #[c2,m,z,l]:=L;simp only at v r k g;subst v r k g;let D:s.TypeIs (.ref x) "tuple":={_,q,U};let T2:s.TypeIs (.ref y) "tuple":={_,d,U};show kat_one _ _ ?_;change Ff _ _ (richCompare .Lt (.ref x) (.ref y)) _ _ _;show wpAny_richCompare_same_room D T2 sP ?_ hu;show gF sP D PySem.F.entry_tuple_lt (PySem.F.args_tuple_lt_2 _ _) (Ki x y a.1 b.1 a.2 b.2 t u I G n M dd m J l) {q,d,?s,h}
def zjL{x:ac}{a:Str×Int}(b:Ab h (.ref x) a):IsTupleKey (ye P w) h (zI a) x:=by let #[p,o,t,u,n,k,c,g,d]:=b;cases k;show{o,_,n,c,g,d,WH (ks:=zI a) (.cons {t,U} (.cons {u,U} .nil))}
inductive RvAt(h:ao)(v:ai)(q:Row):Prop
 |mk (a o p t n:_) (f1:v=.ref a) (f2:h.get? a=Z o) (f3:o.cls=.type "tuple") (f4:o.data=.seq #[.ref p,.int q.2 t] n) (f5:Ab h (.ref p) q.1)
def RvAt.keep(x:RvAt h v q)(k:∀b o,h.get? b=Z o->h'.get? b=Z o):RvAt h' v q:=by let #[a,o,p,t,n,e,d,l,g,c]:=x;show{a,o,p,t,n,e,k _ _ d,l,g,c.keep k}
def zlS{x y:ai}{a b:Row}{Q:Bool->ag->Prop}(k:A.units<cLine)(r:RvAt s.heap x a)(q:RvAt s.heap y b)(h:Q (yg a.1 b.1) s)(v:a.1≠b.1):Ff (Fg P w) A (keyLt' (tuples' ah) x y) Q E s:=by
 let #[p,o,I,t,n,rfl,u,M,z,l]:=r;let #[p2,J,m,G,L,rfl,d,D,g,c]:=q;show kat_lt u z d g (kat_cons (wpAny_eqBool_tuple (knd:=ye P w) k (zjL l) (zjL c) (kat_go (λe=>?_) λe=>kat_no ?_)))
 .show absurd (xj (of_decide_eq_true e)) v
 .show zjK k l c h
def zjM{b:zQ}{qs:zG}{Q:SortKind->ag->Prop}(g:b.length=qs.length)(c:∀(i:Nat)(v:ai)(q:Row),b[i]?=Z v->qs[i]?=Z q->RvAt s.heap v q)(h2:0<b.length)(h:Q (tuples' ah) s) :
  Ff (Fg P w) A (keyKind' b.toArray) Q E s:=by
 let T:∀(b:zQ)(qs:zG),b.length=qs.length->(∀(i:Nat)(v:ai)(q:Row),b[i]?=Z v->qs[i]?=Z q->RvAt s.heap v q)->∃d,KatTups s.heap b d/\d.length=b.length/\∀v∈d,∃p o,v=bC p/\s.heap.get? p=Z o/\o.cls=.type "tuple":=by
  intro b;induction b with
  |nil=>show λqs _ _=>{[],trivial,U,nofun}
  |cons v r ih=>
   intro qs g c
   match qs,g with
   |q::qr,g=>
    let #[d,k,u,kf]:=ih qr (<-g) λi y D e1 O=>c (i+1) y D (<-e1) (<-O);let #[a,o,p,t,n,rfl,J,M,L,I]:=c 0 v q U rfl;show{.ref p::d,BB J M L U k,by simp[u],λz hz=>?_};obtain rfl|hz:=bo.mp hz
    .let #[p',G,_,_,_,e,m,l,_]:=I;cases e;show{_,G,U,m,l}
    .show kf z hz
 let #[d,k,u,kf]:=T b qs g c;show kat_kind (T:=.type "tuple") k () (λv c=>?_) () h;let #[p,o,rfl,m,l]:=kf v c;show l ▸ (pP m).andThen .now
def zb3{l:ac}{κ:SortKind}{Q:Aa}(G:zQ->(Nat->Nat->Bool)->ag->Prop)(v:∀R:zQ->ag->Prop,(∀n lt d,G n lt d->R n d)->Ff (Fg P w) A.in1 (collect (.ref l)) R E s)(D:∀n lt d,G n lt d->n.length<64/\SO lt n.length)(O:∀n lt d,G n lt d->2<=n.length->∀(h:ao)(Q:SortKind->ag->Prop),(∀b o,d.heap.get? b=Z o->h.get? b=Z o)->Q κ { d with heap:=h }->Ff (Fg P w) A.in1.in1 (keyKind' n.toArray) Q (λ_ _=>False) { d with heap:=h })(hc:∀n lt d,G n lt d->∀(h:ao) i j C,(∀b o,d.heap.get? b=Z o->h.get? b=Z o)->i<n.length->j<n.length->i≠j->C (lt i j) { d with heap:=h }->kas_ask P w A.in1.in1 κ n i j C { d with heap:=h })(I:∀n lt d,G n lt d->∀(r:ao)(p:ANt)(c:Nat),(∀b o,d.heap.get? b=Z o->r.get? b=Z o)->r.get? d.heap.objs.size=Z (seqObj "list" (vy n p).toArray c)->PP n.length p->ZD lt p n.length->Q (.ref d.heap.objs.size) { d with heap:=r }) :
  Ff (Fg P w) A (call (.builtin "sorted") [.ref l]) Q E s:=by
 show lQ tV sK sL (sM _) ?_;unfold Builtin.«sorted»;show ba (m:=checkCount "sorted" 1 1 _) (bg ?_);show ba (v _ λn lt d g=>?_);let #[y,S]:=D n lt d g;show ba (ou ?_ (cp\()));let u:(d.heap.push (seqObj "list" n.toArray 0)).get? d.heap.objs.size=Z (seqObj "list" n.toArray 0):=bq _ rfl;let t:∀r,Kp d.heap.objs.size (d.heap.push (seqObj "list" n.toArray 0)) r->∀b o,d.heap.get? b=Z o->r.get? b=Z o:=λr k b o e=>k b o (bO (bG e)) (bf _ e);show ba (cF (cG pF {_,u,U} oN (Y9 (s:={ d with heap:=d.heap.push (seqObj "list" n.toArray 0) }) u y (κ:=κ) (lt:=lt) (λh2 r Q' k q=>?_) (λr i j C k hi T z q=>?_) S λr p c k M L J=>?_) (pG _)))
 .show O n lt d g h2 r Q' (t r k) q
 .show hc n lt d g r i j C (t r k) hi T z q
 .show{_,U,bg {_,U,I n lt d g r p c (t r k) M L J}}
end
def  d0:Row:=(("",0),0)
def znH(aF:zG):∃b:zG,Ac aF=b.map (λq=>(zI q.1,V.int q.2))/\(b.map (·.1)).Nodup/\∀p w,(p,w)∈b↔zS aF p=Z w:=by
 let h:=ZQ aF;let:∀(g:yd),(∀kv∈g,∃(p:Pl)(w:Int),kv=(zI p,.int w))->∃b:zG,g=b.map (λq=>(zI q.1,V.int q.2)):=λg=>by
  induction g with
  |nil=>show λ_=>{[],U}
  |cons kv r ih=>
   intro o;let #[t,e]:=ih λz u=>o z (br _ u);let #[p,w,n]:=o kv bp;show{(p,w)::t,[bB,<-e,n]\_}
 let #[b,e]:=this _ h.2;show{b,e,?_,λp w=>?_}
 .let:=h.1;rw[e,fh] at this;show xJ (f:=zI) ?_;show fh\this
 .let m:=mem_dOf (aF:=aF) (kv:=(zI p,V.int w));constructor
  .intro d;let #[G,D,c,n]:=m.mp (e\bM.mpr {_,d,U});let l:=xj (rH c).1;let k:=V.int.inj (rH c).2;show [l,k]\n
  .intro v;let d:=m.mpr {p,w,U,v};rw[e] at d;let #[q,y,c]:=bM.mp d;let l:=xj (rH c).1;let k:=V.int.inj (rH c).2;show [<-l,<-k]\y
def Kn{b:Type}(l:List b)(d:b):(cH l.length).map (λi=>l.getD i d)=l:=by
 apply dq;intro i;rw[bn];by_cases hi:i<l.length
 .rw[oM hi,bc hi];simp[bA,bc hi]
 .rw[bT (<-hi),bT ()];rfl
def PP.list{p:ANt}(h:PP n p):p.toList.Perm (cH n):=by let:=lM.mp h;simpa using this
def PP.lt{p:ANt}(h:PP n p):∀i∈p.toList,i<n:=λi b=>by let:=h.list.mem_iff.mp b;simpa using this
def Ko{c:Type}{F:c->c->Bool}{l:List c}{d:c}{n:Nat}{p:ANt}(v:PP n p)(u:ZD (λi j=>F (l.getD i d) (l.getD j d)) p n):(p.toList.map λi=>l.getD i d).Pairwise λa b=>F a b=af:=by
 rw[mV,eT];intro i j k g h;rw[bE] at k g;let o:=qf k;let m:=qf g;let w:=v.size;let r:=u i j h ();let t:p.toList[i]=gt p i:=by rw[b9 k] at o;simpa using o
 let q:p.toList[j]=gt p j:=by rw[b9 g] at m;simpa using m
 show [t,q]\r
def ZR{k g:Type}{F:k->g->Prop}{d:List k}{c:List g}(h:B0 F d c)(a:k)(b:g):∀ {is:wU},(∀i∈is,i<d.length)->B0 F (is.map λi=>d.getD i a) (is.map λi=>c.getD i b)
 |[],_=>.nil
 |i::r,hi=>by let l:=bZ h;let q:=hi i bp;show .cons ?_ (ZR h a b λj o=>hi j (br _ o));change F (d.getD i a) (c.getD i b);let n:=bc q;let m:c[i]?=Z c[i]:=bc ();show [bA,bA,n,m]\yP h n m
abbrev zm0:RC:=λk H Q=>∃r d g,k=[.ref r]/\H r=Z (Km r d)/\H d=Z (.dT (Ac g))/\(Ac g).length<64 /\
 ∀l h b c,aH H c->H l=ae->c l=Z (.lst h)->B0 (PrAt c) h b->Ai b->(∀p w,(p,w)∈b↔zS g p=Z w)->Q (.ref l) c
def zm1{H:Hp}:∀ {c:LV}{b:zG},B0 (XW H) c (b.map λq=>(zI q.1,V.int q.2))->B0 (PrAt H) c b
 |_,[],h=>by cases h;show .nil
 |_,q::r,h=>by
  rw[bB] at h;cases h with
  |cons a t=>show .cons (let ⟨x,p,e1,e2,e3⟩:=a;{x,p,e1,e2,e3}) (zm1 t)
def zoD{H:Hp}(I:aJ X aa σ H s)(h:PrAt H v q)(r:aP v u):RvAt s.heap u q:=by
 let #[a,p,rfl,m,l]:=h;cases r;let #[_,k,b,o,g,d,n,c]:=(aQ X.p X.w H s.heap a (.tup [.ref p,.int q.2])|>I.hok a _ m);cases b with
 |cons r1 rr=>
  cases rr with
  |cons r2 rn=>
   cases rn;cases r1;let #[t,rfl]:=r2;show{a,o,p,t,n,U,g,d,c,XR I l}
def XX(hc:X.c=af)(hu:X.A.units+3<cLine):wn X (.builtin "sorted") zm0:=by
 intro aa s σ H m O Q I r0 h;let #[r,d,aF,rfl,hr,hd,aS,q]:=h;let #[u,rfl,ru]:=xD r0;cases ru;let hh:X.A.handled=ae:=I.ok.hd hc;let #[its,ei,nd,mi]:=znH aF;let li:(Ac aF).length=its.length:=[ei,bd]\_
 let so:=Xa nd;let L:∀ {b:ag}{g:Hp}{l:LV}{m:zQ},aJ X aa σ g b->B0 (PrAt g) l its->aO l m->∀(i:Nat)(q:Row),its[i]?=Z q->∃v,m[i]?=Z v/\RvAt b.heap v q:=λ{b g l m} G n t i q hq=>by let J:=(bi.mp hq).1;let l1:=bZ n;obtain⟨y,hy⟩:∃y,l[i]?=Z y:={_,bc ()};let #[u,ar,ru]:=t.get hy;show{u,ar,zoD G (yP n hy hq) ru}
 show zb3 (κ:=tuples' ah) (λm lt b=>∃g l,aJ X aa σ g b/\aH H g/\B0 (PrAt g) l its/\aO l m/\lt=λi j=>yg ((its.map (·.1)).getD i (("",0):Pl)) ((its.map (·.1)).getD j (("",0):Pl)))
  (λR hR=>zfd (A:=X.A.in1) hh hr hd () I λb g l O G M n t=>hR O _ b {g,l,G,M,zm1 ([<-ei]\n),t,U}) ?_ ?_ ?_ ?_
 .rintro m lt b ⟨g,l,G,M,n,t,rfl⟩;let l1:=bZ n;let l2:=t.length;show{(),?_};show [m.length=(its.map (·.1)).length|>bd\()]\so
 .rintro m lt b ⟨g,l,G,M,n,t,rfl⟩ h2 h Q' k q';let l1:=bZ n;let l2:=t.length;show zjM (s:={ b with heap:=h }) (qs:=its) () (λi v q hv hq=>?_) () q';let #[v',an,rr]:=L G n t i q hq;rw[hv] at an;cases an;show rr.keep k
 .rintro m lt b ⟨g,l,G,M,n,t,rfl⟩ h i j C k J hj aM q';let l1:=bZ n;let l2:=t.length;let e1:its[i]?=Z its[i]:=bc ();let e2:its[j]?=Z its[j]:=bc ();let #[v1,g1,r1]:=L G n t i _ e1;let #[v2,g2,r2]:=L G n t j _ e2;let n1:(its.map (·.1)).getD i (("",0):Pl)=its[i].1:=[bA,bn,e1]\U
  let n2:(its.map (·.1)).getD j (("",0):Pl)=its[j].1:=[bA,bn,e2]\U
  let m1:m.getD i cb=v1:=[bA,g1]\U
  let m2:m.getD j cb=v2:=[bA,g2]\U
  simp only[n1,n2] at q';let al:=zlS (P:=X.p) (w:=X.w) (A:=X.A.in1.in1) (E:=λ_ _=>False) (s:={ b with heap:=h }) (Q:=C) (by let e:X.A.in1.in1.units=X.A.units+2:=rfl;lia) (r1.keep k) (r2.keep k) q' λz=>aM (by
   let e3:(its.map (·.1))[i]?=Z its[i].1:=[bn,e1]\U
   let e4:(its.map (·.1))[j]?=Z its[j].1:=[bn,e2]\U
   rw[z] at e3;show(mY (bd\()) nd).mp (e3.trans e4.symm))
  rw[<-m1,<-m2] at al;show al
 .rintro m lt b ⟨g,l,G,M,n,t,rfl⟩ h' p c k hD hp hr;let l1:=bZ n;let l2:=t.length;let D:PP its.length p:=[its.length=m.length|>()]\hp
  let fr:g b.heap.objs.size=ae:=G.hok.fresh (bh _);let sz:=D.size;let pk:=ZR n V.non d0 (is:=p.toList) λi J=>by let:=D.lt i J;lia
  let vk:aO (p.toList.map λi=>l.getD i V.non) (vy m p):=ZR t V.non cb (is:=p.toList) λi J=>by let:=D.lt i J;lia
  let I2:aJ X aa σ (upd g b.heap.objs.size (.lst (p.toList.map λi=>l.getD i V.non))) { b with heap:=h' }:=G.laid (a:=b.heap.objs.size) (o:=.lst (p.toList.map λi=>l.getD i V.non)) (t':=b.toks) k (bh _)
   {[bd,bE]\bR (():_<=64) (),vy m p,c,vk,hD}
  let S2:aH g (upd g b.heap.objs.size (.lst (p.toList.map λi=>l.getD i V.non))):=hZ _ fr;let hn:H b.heap.objs.size=ae:=by
   cases e:H b.heap.objs.size with
   |none=>rfl
   |some o=>rw[M _ _ e] at fr;cases fr
  let T:∀ {O:LV}{ws:zG},B0 (PrAt g) O ws->B0 (PrAt (upd g b.heap.objs.size (.lst (p.toList.map λi=>l.getD i V.non)))) O ws:=λ{O ws} h=>by
   induction h with
   |nil=>show .nil
   |cons a _ ih=>
    let #[r,p,e,h1,h2]:=a;show .cons {r,p,e,S2 _ _ h1,S2 _ _ h2} ih
  show{.ref b.heap.objs.size,_,I2,U,q _ _ (p.toList.map λi=>its.getD i d0) _ (M.trans S2) hn zh (T pk) ?_ λpl wv=>?_}
  .let aI:ZD (λi j=>yg ((its.map (·.1)).getD i (("",0):Pl)) ((its.map (·.1)).getD j (("",0):Pl))) p its.length:=[its.length=m.length|>()]\hr
   let pw:=Ko (F:=yg) D aI;let eq:(p.toList.map λi=>its.getD i d0).map (·.1)=p.toList.map λi=>(its.map (·.1)).getD i (("",0):Pl):=by rw[fh];show fR λi J=>?_;let J:=D.lt i J;simp[bA,bn,bc J]
   rw[<-eq,mV] at pw;show pw
  .let pm:(p.toList.map λi=>its.getD i d0).Perm its:=by show(D.list.map _).trans ?_;rw[Kn]
   show pm.mem_iff\mi pl wv
def  zjN(lo c:Int)(n:Nat):It:={λi _=>i<n,λi H x b=>b=H/\x=.int (lo+i*c),λi _=>n<=i}
def zdt{P:am}{w:ap}{K:bz}{tg:au}(it:ac)(lo c:Int)(n:Nat):JO P w K tg (zjN lo c n) [it] it (λi h=>IsRangeIter h it (lo+(i:Nat)*c) ((n:Int)-(i:Nat)) c) where
 mem:=?s
 obj:=λi h d b g=>by
  let e:b=it:=<-g
  subst e;show{_,d,λv z=>?_};let z':u9 _=Data.cell v:=z;cases z'
 keep:=λi h q d k=>k it ?s _ d
 item:=by intro X D r G y i aa s σ H E I m d u;subst D r G;let #[Q,O,f2,M,L,J]:=m it ?s;show(Walks.range (prog:=X.p) (w:=X.w) (I.ok.hd y) it lo c n).item i s _ _ u d λv q T hv l kk=>?_;let #[t,rfl]:=hv;let I1:aJ X aa σ H { s with heap:=q,toks:=T }:=I.turned (λb o g e=>kk b o (<-g) e) Q O M L J;show{_,U,Vn (s:={ s with heap:=q,toks:=T }) (n:="range_iterator") l rfl rfl () {.int (lo+i*c),H,I1,{t,rfl},{rfl,rfl},l,λb g=>(m b g).1}}
 done:=by intro X D r G y i aa s σ H E I m d u;subst D r G;let #[Q,O,f2,M,L,J]:=m it ?s;show rW (I.ok.hd y) d (by let:n<=i:=u;lia) λq eb=>{U,I.turned (t':=s.toks) (λb o g e=>eb b o g e) Q O M L J}
 self:=λ_ _ _ _ _ d h=>rX d h
def  QS(i j c:Int):Nat:=if i<j then ((j-i-1)/c+1).toNat else 0
def  zm2(ta:TA):TI:=λσ H R=>ta σ H λb d=>∃i j c:Int,b=[.int i,.int j,.int c]/\(0<=i/\i<1073741824/\0<=j/\j<1073741824/\0<c/\c<1073741824)/\R (zjN i c (QS i j c)) d
def zhy{a b c:au}{ta:TA}(L:Gl X "range")(J:X.mg "range"=ae)(M:PA X [a,b,c] ta)(G:Fe [a,b,c] X.e=[(ah,eval a X.e),(ah,eval b X.e),(ah,eval c X.e)]:=by rfl)(k:Fe [b,c] X.e=[(ah,eval b X.e),(ah,eval c X.e)]:=by rfl) :
  PI X tg (.Call (.Name "range" p) [a,b,c] [] pos) (zm2 ta):=by
 intro aa s σ H R I h;show Call_ (ZH I L J boot_range (eu (aT (M pos aa s σ H _ I h) λT g ⟨Q,y,O,D,u⟩=>?_) ([G,k]\_) (k\U)));let #[i,j,c,e,#[u,q2,q3,q4,m,q6],q]:=u;subst e;cases D with
 |cons r rr=>
  cases rr with
  |cons r' rr=>
   cases rr with
   |cons r'' rr=>
    cases rr;let #[t,rfl]:=r;let #[t',rfl]:=r';let #[d,rfl]:=r'';show call_range_3 () ?_ (.inl (PyProof.noPylong_small ()));let v:mz i j c=(QS i j c:Int):=by
     unfold mz QS;rw[ak m];split
     .rename_i h;let:=Int.ediv_nonneg (a:=j-i-1) (b:=c) () ();lia
     .rfl
    let w:(QS i j c:Int)<=1073741824/\(QS i j c:Int)*c<=2147483648:=by
     unfold QS;split
     .rename_i h;let h1:=Int.ediv_nonneg (a:=j-i-1) (b:=c) () ();let h2:=Int.ediv_le_self (a:=j-i-1) c ();let h3:=Int.ediv_mul_le (j-i-1) (b:=c) ();rw[ma (),Int.add_mul];lia
     .simp
    generalize QS i j c=n at *
    let z:tX i j c=af:=by unfold tX;rw[v];simp only[Builtin.Range.rangeFitsLong,bK,oK,decide_eq_true_eq,beq_iff_eq,c > 0|>m,if_true];lia
    show wpAny_pyIter_range (IsRange.new ..) z ?_;rw[v];let l:aJ X aa σ y { g with heap:=g.heap.push { cls:=.type "range",data:=.fields #[.int i t,.int j t',.int c d] },toks:=g.toks }:=O.kept λb o e=>bf _ e;show{(g.heap.push { cls:=.type "range",data:=.fields #[.int i t,.int j t',.int c d] }).objs.size,[(g.heap.push { cls:=.type "range",data:=.fields #[.int i t,.int j t',.int c d] }).objs.size],_,_,y,U,l.kept (t':=g.toks) λb o e=>bf _ e,zdt _ i c n,?_,λb w=>?_,q}
    .change IsRangeIter _ _ (i+((0:Nat):Int)*c) ((n:Int)-((0:Nat):Int)) c;show [i+((0:Nat):Int)*c=i|>?s,(n:Int)-((0:Nat):Int)=n|>?s]\bq _ rfl
    .let e:b=(g.heap.push { cls:=.type "range",data:=.fields #[.int i t,.int j t',.int c d] }).objs.size:=<-w
     subst e;show l.fpOk (bh _) (l.hok.fresh (bh _))
structure StOk(n:Nat)(s:Sta):Prop where
 so:Jy s.sl
 wo:∀r∈s.wo,inW r.2=af
 l1:s.sl.length<=n
 l2:s.wo.length<=n
 l3:s.sa.length<=n
def StOk.mono{s:Sta}(h:StOk n s)(l:n<=m):StOk m s:={h.so,h.wo,bR h.l1 l,bR h.l2 l,bR h.l3 l}
def Yy{P:Row->Prop}{p:Pl}{w:Int}:∀ {l:zG},(∀r∈l,P r)->zS l p=Z w->P (p,w)
 |[],_,h=>by cases h
 |r::t,hp,h=>by
  rw[zS] at h;cases e:zS t p with
  |some w'=>
   rw[e] at h;let:w'=w:=<-h
   subst this;show Yy (λr b=>hp r (br _ b)) e
  |none=>
   rw[e] at h;by_cases c:r.1=p
   .rw[ak c] at h;let:r.2=w:=<-h
    show [<-c,<-this]\hp r bp
   .rw[aj c] at h;cases h
mutual
def zpg(P:Pl->Prop):Rw->Prop
 |.give sh e _=>∀c n,rk c e=.ok n->P (sh,n)
 |.iff _ a b=>zjO P a/\zjO P b
 |_=>True
def zjO(P:Pl->Prop):Rws->Prop
 |.nil=>True
 |.cons r rs=>zpg P r/\zjO P rs
end
inductive Oc where
 |done (sa:yI)
 |off (why:Str)
def  Vv:V->PyData
 |.int i=>.int i
 |.str x=>.str x
 |_=>.none
def  plV(v:V):Prop:=(∃i,v=.int i)\/∃x,v=.str x/\iz x=af
def  Kq(e:LV):PyData:=.tuple (e.map Vv)
mutual
def rwD:Rw->PyData
 |.take sh e sl=>.tuple [.str "take",.str sh,Kq e,.str sl]
 |.give sh e f=>.tuple [.str "give",.str sh,Kq e,Kq f]
 |.lt sl e=>.tuple [.str "let",.str sl,Kq e]
 |.say e=>.tuple [.str "say",Kq e]
 |.off e=>.tuple [.str "off",Kq e]
 |.iff e a b=>.tuple [.str "if",Kq e,.list (znK a),.list (znK b)]
def znK:Rws->List PyData
 |.nil=>[]
 |.cons r rs=>rwD r::znK rs
end
def  tmP(e:LV):Prop:=∀v∈e,plV v
mutual
def zph:Rw->Prop
 |.take sh e sl=>iz sh=af/\tmP e/\iz sl=af
 |.give sh e f=>iz sh=af/\tmP e/\tmP f
 |.lt sl e=>iz sl=af/\tmP e
 |.say e=>tmP e
 |.off e=>tmP e
 |.iff e a b=>tmP e/\zjP a/\zjP b
def zjP:Rws->Prop
 |.nil=>True
 |.cons r rs=>zph r/\zjP rs
end
section
variable {F:Ak}
end
def  Rws.snoc:Rws->Rw->Rws
 |.nil,x=>.cons x .nil
 |.cons r rs,x=>.cons r (rs.snoc x)
def  Rws.app:Rws->Rws->Rws
 |.nil,x=>x
 |.cons r rs,x=>.cons r (rs.app x)
def Paired.snocP{d c:Type}{F:d->c->Prop}{x:d}{y:c}:∀ {a:List d}{b:List c},B0 F a b->F x y->B0 F (a++[x]) (b++[y])
 |_,_,.nil,h=>.cons h .nil
 |_,_,.cons a r,h=>.cons a (Paired.snocP r h)
def Paired.getP{c d:Type}{F:c->d->Prop}{a:List c}{b:List d}{i:Nat}{x:c}(h:B0 F a b)(e:a[i]?=Z x):∃y,b[i]?=Z y/\F x y:=by let g:=(bi.mp e).1;let l:=bZ h;show{b[i],bc (),yP h e (bc ())}
abbrev jP:RM:=λx xs H Q=>∃a b,x=.str a/\xs=[.str b]/\(b.length==0)=ah/\a.length<=100000/\(gu a b).length<=100000/\∀l,H l=ae->Q (.ref l) (upd H l (.lst ((gu a b).map V.str)))
def XY:∀(l:List (Str×Tok)),aO ((l.map (·.1)).map V.str) (strValues l)
 |[]=>.nil
 |p::r=>.cons {p.2,U} (XY r)
def ZS:MtM X "str.split" jP:=by
 intro aa s σ H x xs v z Q I r w h;let #[a,b,rfl,rfl,m,J,G,q]:=h;let #[t,rfl]:=r;let #[u,rfl,t',rfl]:=xD w;let D:Fb=16777216:=cp;let d:∀(l:List (Str×Tok))(g c:Nat),l.map (·.1)=gu a b->EP X aa σ Q (.ref s.heap.objs.size) { s with heap:=s.heap.push { cls:=.type "list",data:=.seq (strValues l).toArray c },toks:=g }:=λl g c e=>by let y:H s.heap.objs.size=ae:=I.hok.fresh (bh _);let k:=XY l;rw[e] at k;show{.ref s.heap.objs.size,_,I.laid (a:=s.heap.objs.size) (o:=.lst ((gu a b).map V.str)) (t':=g) (λb u e=>bf _ e) (bh _) {bd\(),strValues l,c,k,bq _ U},U,q _ y}
 cases h1:(decide (a.length<b.length) || decide (tY a<tY b))
 .cases hf:(dI a b 0 a.length (a.length+1)).isEmpty
  .let n:gu a b=Builtin.Str.partsBetween a (dI a b 0 a.length (a.length+1)) b.length:=(aj (ne_true_of_eq_false h1)).trans (aj (ne_true_of_eq_false hf));show gF eM (ip _ _ _) pT (pz _ _) (meets_str_split_sep a b t t' h1 m hf () ([<-n]\())) ?_;show strsFrom_eq\d (numbered s.toks _) _ _ ((numbered_texts _ _).trans n.symm)
  .show gF eM (ip _ _ _) pT (pz _ _) (meets_str_split_not_found a b t t' h1 m hf) (d [(a,t)] _ _ ((aj (ne_true_of_eq_false h1)).trans (ak hf)).symm)
 .show gF eM (ip _ _ _) pT (pz _ _) (meets_str_split_cannot_occur a b t t' h1) (d [(a,t)] _ _ (ak h1).symm)
def  EL(e c p:ac)(k:Nat)(h:ao):Prop:=(∃b,IsEnum h e c (k:Int) b)/\h.IsListIter c p k
def  zjR(K:bz)(p:ac)(xs:LV):It:={λi H=>i<xs.length/\aN K H p xs,λi H x b=>∃T u,x=.ref T/\H T=ae/\b=upd H T (.tup [.int i,u])/\xs[i]?=Z u,λi H=>xs.length<=i/\aN K H p xs}
def zff{P:am}{w:ap}{K:bz}{D:List au}{x1}{pos:Pos}{e it p:ac}{xs:LV}(y:e≠it) :
  JO P w K (.Tuple D x1 pos) (zjR K p xs) [e,it] e (EL e it p) where
 mem:=?s
 obj:=λk h n c d=>by
  let #[#[l,m],#[t,g,G,di]]:=n;simp only[bo,cZ,or_false] at d;obtain rfl|rfl:=d
  .show{_,m,λv z=>by cases z}
  .show{_,g,λv z=>by rw[di] at z;cases z}
 keep:=λk h h' n kk=>by let #[#[l,m],#[t,g,G]]:=n;show{{l,kk e ?s _ m},{t,kk it ?s _ g,G}}
 item:=by
  intro X T O hK d k aa s σ H E I J n Q;subst T O hK;let #[r,h1]:=Q;let #[us,M,p1,_]:=I.list h1;let #[u,hu,ru]:=M.get (i:=k) (x:=xs[k]) (bc r);let l:∀c∈[e,it],c≠s.heap.objs.size:=λc d=>by
   let #[#[l,m],#[t,g,G]]:=n;simp only[bo,cZ,or_false] at d;obtain rfl|rfl:=d
   .show bO (bG m)
   .show bO (bG g)
  let #[#[o0,m],g]:=n;show wpAny_pyNext_enum_item m g p1.isList (x:=u) (<-hu) y λh e8 i5 t5 sz k5=>?_;let I6:aJ X aa σ (upd H s.heap.objs.size (.tup [.int k,xs[k]])) { s with heap:=s.heap.push { cls:=.type "tuple",data:=.seq #[.int k s.toks,u] },toks:=s.toks+1 }:=
   I.laid (a:=s.heap.objs.size) (o:=.tup [.int k,xs[k]]) (t':=s.toks+1) (λb u e=>bf _ e) (bh _) {(),[.int k s.toks,u],.cons {_,U} (.cons ru .nil),{_,bq _ U,U,_,U}}
  let q:∀c∈[e,it],upd H s.heap.objs.size (HO.tup [.int k,xs[k]]) c=ae:=λc d=>zm (l c d)\(J c d).1
  let fz:∀c∈[e,it],jJ X aa (upd H s.heap.objs.size (HO.tup [.int k,xs[k]])) c:=λc d=>{q c d,(J c d).2};show{.ref s.heap.objs.size,U,oS e8 λh2 z9 L=>?_};let up:∀c o,c≠e->h.get? c=Z o->h2.get? c=Z o:=λc o d e=>[h2.get? c=h.get? c|>L.2 c d]\e
  let I7:aJ X aa σ (upd H s.heap.objs.size (.tup [.int k,xs[k]])) { s with heap:=h2,toks:=s.toks+1 }:=I6.turnedL (s:={ s with heap:=s.heap.push { cls:=.type "tuple",data:=.seq #[.int k s.toks,u] },toks:=s.toks+1 }) (t':=s.toks+1) (ch:=[e,it]) (λc o d e=>by
   simp only[bo,cZ,or_false,not_or] at d;show up c o d.1 ?_;obtain ⟨rfl,rfl⟩|e:=oo ((s.heap.push { cls:=.type "tuple",data:=.seq #[.int k s.toks,u] }).get? c=Z o|>e)
   .show t5
   .show k5 c o d.1 d.2 e) λc d=>fz c d
  show{.ref s.heap.objs.size,_,I7,U,{_,_,U,I.hok.fresh (bh _),U,bc r},?_,q};let #[t,g,G]:=i5;show{{_,z9},{t,up it _ (cY y) g,G}}
 done:=by intro X T O hK d k aa s σ H E I J n Q;subst T O hK;let #[r,h1]:=Q;let #[us,M,p1,_]:=I.list h1;let al:=M.length;let #[#[o0,m],g]:=n;show wpAny_pyNext_enum_end (I.ok.hd d) m g p1.isList (by simp;lia) λh hk=>{U,I.turnedL (t':=s.toks) (ch:=[e,it]) (λc o d e=>?_) λc d=>J c d};simp only[bo,cZ,or_false,not_or] at d;show hk c o d.2 e
 self:=λ_ _ _ _ _ n h=>by let #[#[o0,m],g]:=n;show mZ m h
def  zoF(K:bz)(ta:TA):TI:=λσ H R=>ta σ H λc b=>∃p xs,c=[.ref p]/\aN K b p xs/\R (zjR K p xs) b
def zlT{d:List au}{x1}{v:Pos}{g:au}{ta:TA}{p pos:Pos}(L:Gl X "enumerate")(J:X.mg "enumerate"=ae)(O:PA X [g] ta)(M:Fe [g] X.e=(ah,eval g X.e)::Fe [] X.e:=by rfl)(o:(backTo pos (Fe [] X.e)).any (·.1)=ah:=by rfl) :
  PI X (.Tuple d x1 v) (.Call (.Name "enumerate" p) [g] [] pos) (zoF X.K ta):=by
 intro aa s σ H R I h;show Call_ (ZH I L J XM (eu (aT (O pos aa s σ H _ I h) ?_) M o));rintro us m ⟨vs,H1,l,r,z⟩;let #[a,xs,e,Q,q]:=z;subst e;let #[u1,rfl,w]:=xD r;cases w;let #[u,r,p1,_]:=l.list Q;show call_enumerate_list p1.isList λT t G _ k=>?_;show mZ (s:={ m with heap:=T }) t ?_;generalize hn:m.heap.objs.size=n at *
 let D:∀ {x y:Nat},x≠y->(ac|>x)≠(ac|>y):=λh=>h;show{_,_,_,_,H1,U,l.kept (t':=m.toks) k,zff (e:=n+1) (it:=n) (D ()),{{_,t},G},λc b=>?_,q};simp only[bo,cZ,or_false] at b;let b:n<=c:=by obtain rfl|rfl:=b <;> first|show iJ _ _|show bh _
 show l.fpOk (hn\b) (l.hok.fresh (hn\b))
def zfg{p:ac}(xs:LV)(Pv:Nat->Ah)(q:Pv 0 σ H)(g:∀i σ H,Pv i σ H->aN K H p xs)(l:∀i u T σ H,xs[i]?=Z u->H T=ae->Pv i σ H->B (.ref T) σ (upd H T (.tup [.int i,u])) (Pv (i+1)))(n:∀σ H,Pv xs.length σ H->nx σ H) :
  ∃W:Nat->Nat->Ah,(∃m,W 0 m σ H)/\∀i m σ H,W i m σ H->((zjR K p xs).stop i H/\nx σ H)\/((zjR K p xs).go i H/\∃N:Ah,(∀b c,N b c->∃d,d<m/\W (i+1) d b c)/\∀x c,(zjR K p xs).yld i H x c->B x σ c N):=by
 show{λi m σ H=>m=xs.length-i/\i<=xs.length/\Pv i σ H,{xs.length,?s,bP _,q},?_};rintro i m σ H ⟨rfl,r,Y⟩;by_cases hlt:i<xs.length
 .show .inr {{hlt,g i σ H Y},Pv (i+1),λb c h=>{xs.length-(i+1),(),U,hlt,h},?_};rintro x c ⟨T,u,rfl,o,rfl,k⟩;show l i u T σ H k o Y
 .obtain rfl:i=xs.length:=by lia
  show .inl {{bh _,g _ σ H Y},n σ H Y}
def zjS{c:Nat}:∀ {a b r s:wU},c ∉ a->c ∉ b->a++c::r=b++c::s->a=b/\r=s
 |[],[],r,s,_,_,h=><-h
 |[],y::b,r,s,_,hb,h=>by simp only[eQ,fI,c8] at h;show absurd h.1 (λz=>hb (z\bp))
 |x::a,[],r,s,ha,_,h=>by simp only[eQ,fI,c8] at h;show absurd h.1.symm (λz=>ha (z\bp))
 |x::a,y::b,r,s,ha,hb,h=>by simp only[fI,c8] at h;let #[g,d]:=zjS (λz=>ha (br _ z)) (λz=>hb (br _ z)) h.2;show{[h.1,g]\_,d}
def za3{r:zO}:fE sep (x::y::r)=x++sep++fE sep (y::r):=rfl
def jI{x y:Str}{r:zO}:(fE ⟨#[c]⟩ (x::y::r)).cps.toList=x.cps.toList++c::(fE ⟨#[c]⟩ (y::r)).cps.toList:=[za3,yf,yf,cX]\U
def zdv{c:Nat}:∀ {a b:zO},a≠[]->b≠[]->(∀p∈a,c ∉ p.cps.toList)->(∀p∈b,c ∉ p.cps.toList)->fE ⟨#[c]⟩ a=fE ⟨#[c]⟩ b->a=b
 |[],_,h,_,_,_,_=>absurd U h
 |_,[],_,h,_,_,_=>absurd U h
 |[x],[y],_,_,_,_,e=>by let e:x=y:=e;rw[e]
 |[x],y::z::s,_,_,ha,_,e=>by let d:(fE ⟨#[c]⟩ _).cps.toList=(fE ⟨#[c]⟩ _).cps.toList:=congrArg (λw:Str=>w.cps.toList) e;rw[jI] at d;let g:x.cps.toList=y.cps.toList++c::(fE ⟨#[c]⟩ (z::s)).cps.toList:=d;show absurd (g\?s) (ha x bp)
 |x::z::r,[y],_,_,_,hb,e=>by let d:(fE ⟨#[c]⟩ _).cps.toList=(fE ⟨#[c]⟩ _).cps.toList:=congrArg (λw:Str=>w.cps.toList) e;rw[jI] at d;let g:x.cps.toList++c::(fE ⟨#[c]⟩ (z::r)).cps.toList=y.cps.toList:=d;show absurd ([<-g]\?s) (hb y bp)
 |x::z::r,y::w::s,_,_,ha,hb,e=>by let d:(fE ⟨#[c]⟩ _).cps.toList=(fE ⟨#[c]⟩ _).cps.toList:=congrArg (λw:Str=>w.cps.toList) e;rw[jI,jI] at d;let #[g,l]:=zjS (ha x bp) (hb y bp) d;rw[xN g,zdv (a:=z::r) (b:=w::s) ?s ?s (λp k=>ha p (br _ k)) (λp k=>hb p (br _ k)) (xN l)]
def zjT(x y:Str):gu x y≠[]:=by
 unfold gu;split
 .simp
 .split
  .simp
  .rw[StrLaws.partsBetween_eq];let #[p,r,e]:=StrLaws.partsFrom_ne x y.length 0 (dI x y 0 x.length (x.length+1));rw[e];simp
def qN{ws:zO}(h:ws≠[])(b:∀p∈ws,c ∉ p.cps.toList):gu (fE ⟨#[c]⟩ ws) ⟨#[c]⟩=ws:=
 zdv (zjT _ _) h (StrLaws.split_free _ c) b (StrLaws.join_split _ _)
def vZ(c:Str)(ls:zO):xR c ls=fE c ls:=by
 match ls with
 |[]=>show sQ c []
 |[p]=>rfl
 |a::b::r=>show sQ c (a::b::r)
variable {value:au}{pos':Pos}{ty:TE}
section
variable {st:aq}{hs:List ExceptHandler}{tb:TS}
def Jz(c:PS X.nox st tb):PS X.nox (.Try [st] (h::hs) [] [] pos) tb:=by
 intro aa s σ H D I h;show rO (iG (dM (c aa s σ H D I h) (λf b q=>?_) λd b q=>q.elim));cases f with
 |next=>show gH (gH q)
 |ret v=>show q
 |brk=>show q
 |cont=>show q
end
abbrev zfh(K:bz):R2:=λx y H Q=>∃a b xs,x=.ref a/\y=.ref b/\aN K H a xs/\aN K H b []/\Q (.bl (!decide (xs=[]))) H
def Kr(o:X.A.units+64<cLine):Az X (Fi .NotEq) (zfh X.K):=by
 intro aa s σ H x y v u Q I d c h;let #[a,b,xs,rfl,rfl,k,g,q]:=h;by_cases e:xs=[]
 .subst e;show znC o aa s σ H _ _ v u Q I d c {a,b,[],[],U,U,k,g,{U,U,U},q}
 .cases d;cases c;let #[w,n,p1,_]:=I.list k;let #[t,m,p2,_]:=I.list g;cases m;let l:=n.length;let r:xs.length≠0:=λz=>e (dJ z);rw[Fk e] at q;show PySem.SeqAt.RcNeAt.lists_lengths p1.isList p2.isList (by simp;intro z;rw[z] at l;show r l) () X.p X.w X.xe _ {.bl af,H,I,U,q}
mutual
inductive zjU(H:Hp):V->PyData->Prop
 |int (i:Int):zjU H (.int i) (.int i)
 |str (x:Str):zjU H (.str x) (.str x)
 |lst {a:ac} {xs:LV} {ds:List PyData}:H a=Z (.lst xs)->zdw H xs ds->zjU H (.ref a) (.list ds)
 |tup {a:ac} {xs:LV} {ds:List PyData}:H a=Z (.tup xs)->zdw H xs ds->zjU H (.ref a) (.tuple ds)
inductive zdw(H:Hp):LV->List PyData->Prop
 |nil:zdw H [] []
 |cons {x:V} {d:PyData} {xs:LV} {ds:List PyData}:zjU H x d->zdw H xs ds->zdw H (x::xs) (d::ds)
end
abbrev Vw:RM:=zga
abbrev zm3(K:bz):RC:=λxs H Q=>∃a,∃b:yI,xs=[.ref a]/\aN K H a (b.map V.int)/\Q (.int b.sum) H
def zhA(t:X.c=af):wn X (.builtin "sum") (zm3 X.K):=by
 intro aa s σ H xs y Q I r h;let #[a,ns,rfl,n,q]:=h;let #[u,rfl,m]:=xD r;cases m;let #[b,l,p,G]:=I.list n;let k:IntsAre b ns:=zeX l;let #[c,g]:=k.allInts.items;let d:s.heap.IsList a (intItems c):=g ▸ p.isList;show sum_intListG (I.ok.hd t) d λJ z D o=>?_;let w:ns=c.toList.map (·.1):=[<-nums_intItems,<-g]\(numsOf b.toArray.toList=ns|>k.numsOf).symm
 let v:preSum (numAt c) c.size=ns.sum:=[preSum_eq,bV ?s,w]\_
 show v\{.int ns.sum,H,I.kept o,{_,U},q}
open Classical in
def  Cb(i:Int):Prop:=eX i<=1048576
def Cb.of{i:Int}(h:i.natAbs<2^64):Cb i:=bR (tL.mpr h) ()
def Cb.div{i k:Int}(h:Cb i)(b:0<k):Cb (i/k):=by unfold Cb at h ⊢;rw[intBits_le_iff] at h ⊢;show dZ ?_ h;let:(i/k).natAbs<=i.natAbs:=pJ i k;show this
def  Cw(i:Int):Prop:=eX i<=4000000
def Cb.w{i:Int}(h:Cb i):Cw i:=bR h ()
def Cw.div{i k:Int}(h:Cw i):Cw (i/k):=intBits_le_of_natAbs (pJ i k) h
def  CMulC(i j:Int):Prop:=Cw i/\Cw j
def CMulC.ok{i j:Int}(h:CMulC i j):IntMulOk i j:=by
 unfold IntMulOk;let c:eX i<=4000000:=h.1;let b:eX j<=4000000:=h.2;let e:sR ((eX i:Int)+(eX j:Int))=ah:=by
  unfold sR;rw[decide_eq_false_iff_not];let:(bitsLine:Int)=134217728:=()
  lia
 rw[e];simp
def JA:Az X (binaryOp .Mult) (rI CMulC λi j=>.int (i*j)):=opI λ_ _ _ _ _ _ _ b q=>mul_int q b.ok
open Att PySem.Calls
def walk_ofXB{l:Be}{n k:Nat}{q:am}{c:zO}{XP:At->ao->Prop}{YP:ap->ao->Prop}{d:DefRec}{K:Params->bz}{sp:bz->Sp}{x:Str}
  (hn:l.most=Z n) (O:n<=Fb) (T:d.params.defaults=[]) (hr:aY k callerA) (hY:∀(w:ap)(h:ao),YP w h->(K w.params).In h) (F:∀(w:ap)(mg:At)(J:ac)(h:ao),(K w.params).In h->h.Ns Fd mg->mg d.name=Z (.ref J) ->
   ∃fd:Fc,(∀(s:ag)(u:ai),BindsTo s fd {[u],[]} [(x,u)]) /\
    ∀base:ao,(K w.params).In base->base.Ns Fd mg->bv l.prog w (K w.params) mg base (AJ l.prog w) k J fd [x] (sp (K w.params))) (M:∀(K:bz)(H:Hp)(a:ac)(m:yI),m.length<=n->(∀i∈m,Cb i)->zhn H->aN K H a (m.map V.int)->sp K [.ref a] H (λv _=>v=.bl af) λ_ _ _=>False) :
  W.WalkO q c XP YP l.row.toRowW d [] (λf vs=>tu f vs):=by
 intro w aI ar mg mb G BE J o pm cd a3 dV kV ho hd a2 hD Q hg aM an as t I aS L a1;obtain rfl:dV=.none:=Dflts.none hD T;obtain rfl:kV=.none:=Dflts.noKw hD;let #[a,vs,m,rfl,rfl,D,g,b]:=zaL hn t L;let hb:∀i∈m,Cb i:=λi hi=>intBits_le_of_layable (layable_of_mem (lay0_int (layableW_item (layableW_arg I _ bp) _ (bM.mpr {i,hi,U}))) bp);let KX:=hY w _ BE;let #[fd,al,hF]:=F w mg J _ KX G.T.g Q;show enter_call (fV (zc7 KX G.T.g G.T.b G.T.builtins G.T.nolimit hg D g (bR b O) hr hF al (λH hO hS=>M _ H a m b hb hO hS) λ_ _ _ z=>by let #[_,_,_,_,_,_,_,_,_,y]:=z;show y) λr s' hq=>?_)
 let #[rfl,h2,h3,h4]:=hq;show{.inl {.bool af,.bool af,[],U,λ_=>rfl,.bool af,zaM l _,λ_=>{lF,λ_ hm=>(nomatch hm)}},h2,h3,h4}
def  Itk(a:ac)(o:Obj)(b:xC):It:=
 {λi H=>H a=Z (.frz o (.dK b))/\i<b.length,λi H x c=>c=H/\∃k v,b[i]?=Z (k,v)/\x=kV k,λi H=>H a=Z (.frz o (.dK b))/\b.length<=i}
def zhB(h:Vk k u):aP (kV k) u:=by
 obtain ⟨i,t,rfl,rfl⟩|⟨x,t,rfl,rfl⟩:=yS h
 .show{t,U}
 .show{t,U}
def za4{P:am}{w:ap}:∀ {es:List DictEntry}{c:List (Key×ai)}{i:Nat}{e:DictEntry},Pairs (ye P w) es c->es[i]?=Z e->∃k u,c[i]?=Z (k,u)/\Vk k e.key=af
 |_,_,i,_,.nil,h=>by simp at h
 |_,_,0,_,.cons h1 _ _,h=>by simp only[bY,cr] at h;subst h;show{_,_,U,h1}
 |_,_,i+1,_,.cons _ _ t,h=>by let #[k,u,a,b]:=za4 (i:=i) t (<-h);show{k,u,<-a,b}
def Ks{σ:St}{H:Hp}{s:ag}{a:ac}{o:Obj}{b:xC}(I:aJ X aa σ H s)(G:H a=Z (.frz o (.dK b))) :
  (a==sysModules)=ah/\∃(es:Array DictEntry)(d:Nat),o.data=.dict es d/\An s.heap a es d/\es.size=b.length/\∀(i:Nat)(e:DictEntry),es[i]?=Z e->∃(k:Key)(v:V),b[i]?=Z (k,v)/\aP (kV k) e.key:=by let #[m,O,y,r,h,L,es,d,l,z,n,hk,g,Q]:=(aQ X.p X.w H s.heap a (.frz o (.dK b))|>I.hok a _ G);rw[m] at l;cases l;let M:b.length=r.length:=bZ h;let w:=g.length;rw[bE] at w;show{y,es,d,n,{o,m,z,n},(),λi e D=>?_};let #[k,u,q,J]:=za4 g (bU\D);let T:=(bi.mp q).1;let c:b[i]?=Z b[i]:=bc ();let t:=yP h c q;show{b[i].1,b[i].2,c,?_};show t.1\zhB J
def zfi{P:am}{w:ap}{K:bz}{tg:au}{a it:ac}{o:Obj}{aI:xC}{es:Array DictEntry}{ep:Nat}(hd:o.data=.dict es ep) :
  JO P w K tg (Itk a o aI) [it] it (λi h=>h.IsKeyIter it a i es.size ep) where
 mem:=?s
 obj:=λi h l b n=>by
  let e:b=it:=<-n
  subst e;let #[o,e,c,d]:=l;show{o,e,λv z=>by rw[d] at z;cases z}
 keep:=λi h u l k=>l.at λo e=>k it ?s o e
 item:=by intro X J y L hc i aa s σ H E I t l D;subst J y L;let #[G,hi]:=D;let #[lo,al,an,g,m,hs,r]:=Ks I G;rw[hd] at g;cases g;let #[f0,T,f2,Q,O,M]:=t it ?s;let hx:es[i]?=Z es[i]:=b9 ();let #[k,v,hk,rk]:=r i _ hx;show Kk l m hx λu q sb=>?_;let I1:aJ X aa σ H { s with heap:=u }:=I.turned (t':=s.toks) (λb o n e=>(sb.2 b n).trans e) f0 T Q O M;let #[o',e,c,d]:=id q;show{_,U,Vn (s:={ s with heap:=u }) e c d () {kV k,H,I1,rk,{rfl,k,v,hk,rfl},q,λb n=>(t b n).1}}
 done:=by intro X J y L hc i aa s σ H E I t l D;subst J y L;let #[G,hi]:=D;let #[lo,al,an,g,m,hs,r]:=Ks I G;rw[hd] at g;cases g;let #[f0,T,f2,Q,O,M]:=t it ?s;show zbW (I.ok.hd hc) l m () λu eb=>{U,I.turned (t':=s.toks) (λb o n e=>eb b o n e) f0 T Q O M}
 self:=λ_ _ _ _ _ l h=>om l h
def  iDK(d:TE):TI:=λσ H R=>d σ H λx c=>∃a o b,x=.ref a/\c a=Z (.frz o (.dK b))/\R (Itk a o b) c
def zjV{k:TE}(u:PE X l k):PI X tg l (iDK k):=by
 intro aa s σ H R I h;show aT (u aa s σ H _ I h) ?_;rintro v c ⟨x,D,d,m,n⟩;let #[a,o,L,e,z,q]:=n;subst e;cases m;let #[r,es,J,w,g,G,t]:=Ks d z;show Kj r g ?_;show{c.heap.objs.size,[c.heap.objs.size],_,_,D,U,d.kept (t':=c.toks) λb o e=>bf _ e,zfi w,{_,bq _ U,U,U},λb y=>?_,q};let e:b=c.heap.objs.size:=<-y
 subst e;show d.fpOk (bh _) (d.hok.fresh (bh _))
def  zm4(t:TS):TS:=λD σ H=>∃a d g,H a=Z d/\(d=.dK g\/∃o,d=.frz o (.dK g))/\∀o,t
 {λb c=>c a=Z (.frz o (.dK g))/\D.nx b (upd c a d),λv c=>c a=Z (.frz o (.dK g))/\D.rt v (upd c a d),λb c=>c a=Z (.frz o (.dK g))/\D.bk b (upd c a d),λb c=>c a=Z (.frz o (.dK g))/\D.ct b (upd c a d)} σ (upd H a (.frz o (.dK g)))
def aQ.upd_dK{w:ap}{H:Hp}{h:ao}{a:ac}{g:xC}{u k:HO}(d:H a=Z u)(b:zdm u)(x:aQ P w H h a (.dK g)):aQ P w (upd H a k) h a (.dK g):=by
 show x.stay (λ_ _ _ r=>r) (λc r=>?_) λc xs r=>?_
 .show [zm λz=>by subst z;rw[d] at r;cases r;show b]\r
 .show [zm λz=>by subst z;rw[d] at r;cases r;show b]\r
def zlU{G:aq}{t:TS}(w:PS X G t):PS X G (zm4 t):=by
 rintro aa s σ H D I ⟨a,u0,l,m,n,h⟩;let O:zdm u0:=by obtain rfl|⟨o,rfl⟩:=n <;> trivial
 let L:∃o,s.heap.get? a=Z o/\(u0=.dK l\/u0=.frz o (.dK l)):=by
  obtain rfl|⟨o,rfl⟩:=n
  .let #[T,Q,xs,J,o,es,ep,y,_]:=(aQ X.p X.w H s.heap a (.dK l)|>I.hok a _ m);show{o,y,.inl U}
  .show{o,(aQ X.p X.w H s.heap a (.frz o (.dK l))|>I.hok a _ m).1,.inr U}
 let #[o,y,n]:=L;let M:aJ X aa σ (upd H a (.frz o (.dK l))) s:=by
  obtain rfl|rfl:=n
  .show I.relab m trivial (λu z q=>?_) {y,aQ.upd_dK m trivial (I.hok a _ m)};let:=I.base.frzs a u z q;rw[m] at this;cases this
  .let e:upd H a (.frz o (.dK l))=H:=by
    funext b;unfold upd;split
    .next z=>show z\m.symm
    .rfl
   show e\I
 let g:∀ {d:St}{H':Hp}{s':ag},aJ X aa d H' s'->H' a=Z (.frz o (.dK l))->aJ X aa d (upd H' a u0) s':=λ{d H' s'} k c=>by
  obtain rfl|rfl:=n
  .show k.relab c trivial (λu z q=>?_) (aQ.upd_dK c trivial (aQ X.p X.w H' s'.heap a (.frz o (.dK l))|>k.hok a _ c).2);let:=I.base.frzs a u z q;rw[m] at this;cases this
  .let e:upd H' a (.frz o (.dK l))=H':=by
    funext b;unfold upd;split
    .next z=>show z\c.symm
    .rfl
   show e\k
 show aT (w aa s σ _ _ M (h o)) λf s' q=>?_;cases f with
 |next=>let #[d,H',k,c,q]:=q;show{d,_,g k c,q}
 |brk=>let #[d,H',k,c,q]:=q;show{d,_,g k c,q}
 |cont=>let #[d,H',k,c,q]:=q;show{d,_,g k c,q}
 |ret v=>let #[x,d,H',k,r,c,q]:=q;show{x,d,_,g k c,r,q}
def  zfj(H:Hp)(v:V)(q:Pl):Prop:=∃p,v=.ref p/\H p=Z (.tup [.str q.1,.int q.2])
section
variable {K:Type}[DecidableEq K]
def  za5(xs:List (K×ac×ai))(k:K):List (K×ac×ai):=xs.filter λx=>decide (x.1≠k)
def zfk:∀ {xs:List (K×ac×ai)}{k:K},k ∉ xs.map (·.1)->za5 xs k=xs:=λ{xs k} h=>mf.mpr λx b=>Fj λe=>h (bM.mpr {x,b,e})
def zjW:∀ {xs:List (K×ac×ai)}{j:Nat}{k:K}{p:ac×ai},(xs.map (·.1)).Nodup->xs[j]?=Z (k,p)->xs.eraseIdx j=za5 xs k
 |[],j,k,p,_,h=>by simp at h
 |x::r,0,k,p,n,h=>by rw[bB,cW] at n;simp only[bY,cr] at h;subst h;change r=tZ _ ((k,p)::r);show iA ?s\(zfk n.1).symm
 |x::r,j+1,k,p,n,h=>by rw[bB,cW] at n;simp only[dv] at h;let m:k∈r.map (·.1):=bM.mpr {(k,p),b7 h,U};let b:x.1≠k:=λe=>n.1 (e ▸ m);change x::r.eraseIdx j=tZ _ (x::r);rw[iB (by simp[b]),zjW n.2 h];rfl
end
def WN{b c:Type}(f:b->c):∀(l:List b)(j:Nat),(l.map f).eraseIdx j=(l.eraseIdx j).map f
 |[],_=>rfl
 |_::_,0=>rfl
 |a::l,j+1=>[bB,mE,mE,bB,WN f l j]\_
def KT.dropT{H:Hp}{xs:List (xu×ac×ai)}(r:KT H aI xs)(k:xu):KT H (yU aI k) (za5 xs k):=by
 induction r with
 |nil=>show .nil
 |@cons p q ps qs h t ih=>
  unfold yU za5;by_cases e:p.1=k
  .show [iA (by simp[e]),iA (by simp[<-h.1,e])]\ih
  .show [iB (by simp[e]),iB (by simp[<-h.1,e])]\.cons h ih
section
variable {w:ap}{K:Type}[DecidableEq K]{knd:HeapKind prog w K}{d a:ac}{xs:List (K×ac×ai)}{k:K}
def zb4{p:ac×ai}{Q:Option DictEntry->ag->Prop}(z:knd.room A)(b:knd.is s.heap k a)(J:s.heap.DictOfH knd d xs)(t:atKey xs k=Z p)(c:∀e:DictEntry,e.val=p.2->∀y,y.DictOfH knd d (za5 xs k)->cy d s.heap y->Q (Z e) { s with heap:=y,toks:=s.toks+knd.draws k })(I:xs.length<=Fb) :
  Ff (Fg prog w) A (tF d (.ref a)) Q E s:=by
 let #[o,es,O,h,M,g,r,m,n]:=J;let L:es.size=xs.length:=sS r;unfold tF
 try with_reducible show cF ?_
 show ba (knd.pyHash z b ?_);show ba (wpAny_dictFind_heap (s:={ s with toks:=s.toks+knd.draws k }) z b h g r m n ?_ ?_)
 .intro u;rw[atKey_none_of_get u] at t;cases t
 .intro j q v;let D:=atKey_of_get n v;rw[t] at D;cases D;show ba (fe (s:={ s with toks:=s.toks+knd.draws k }) h g ?_);rw[entry_at r j,v];show ba (tG (hz:=()) (s:={ s with toks:=s.toks+knd.draws k }) h g (bg (c (entryOfKey knd (k,p)) rfl _ {_,_,O+1,cq _ h (t7 (lP g _)),M.mapDictKeys _,lP g _,?_,?_,?_} (dz ..))))
  .rw[<-zjW n v,<-WN,<-r];let #[l]:=es;simp
  .intro x G;show knd.keeps (m x (eN.mp G).1) h g (dz ..)
  .show mF (n0 _ mh) n
def zfl :MeetsIn prog w (Builtin.«dict.pop» {[.ref d,.ref a],[]}) (λA R s=>knd.room A.in1/\∃k xs p,knd.is s.heap k a/\s.heap.DictOfH knd d xs/\xs.length<=Fb/\atKey xs k=Z p /\
   ∀c,c.DictOfH knd d (za5 xs k)->cy d s.heap c->R (.ok (.ret p.2)) { s with heap:=c,toks:=s.toks+knd.draws k }):=
 .of_wp λA R s ⟨y,k,xs,p,b,m,v,q,h⟩=>by
  unfold Builtin.«dict.pop»;show ba ?_;unfold oU;show ba (gU m.typeIs ?_);change Ff _ _ (pure (d,bC a,ae)) _ _ s;show bg ?_;let u:(keyPart (bC a)).isSome=ah:=rfl;simp only[u,cA,if_false];let #[o,es,Q,D,O,J,I,G,M]:=id m;show ba (fe D J ?_);show ba (bg ?_);let t:es.isEmpty=ah:=by
   let n:=sS I;cases xs with
   |nil=>simp[atKey] at q
   |cons x r=>
    rw[Array.isEmpty_eq_false_iff];intro z;rw[z] at n;simp at n
  simp only[t,cA,if_false];show ba (zb4 y b m q (λe L c l g=>?_) v);simp only[ur,cA,if_false];show ba (rF (bg {e.val,U,L\h c l g}))
def Ja{c:ai}{Q:Aa}(z:knd.room A)(b:knd.is s.heap k a)(I:s.heap.DictOfH knd d xs)(O:∀p,atKey xs k=Z p->Q p.2 { s with toks:=s.toks+knd.draws k })(M:atKey xs k=ae->∀u,u.DictOfH knd d (storedH xs k a c)->cy d s.heap u->Q c { s with heap:=u,toks:=s.toks+knd.draws k })(G:xs.length<=Fb) :
  Ff (Fg prog w) A (dictSetDefault d (.ref a) c) Q E s:=by
 let #[o,es,T,h,L,g,q,n,t]:=I;let J:es.size=xs.length:=sS q;unfold dictSetDefault
 try with_reducible show cF ?_
 show ba (knd.pyHash z b ?_);show ba (wpAny_dictFind_heap (s:={ s with toks:=s.toks+knd.draws k }) z b h g q n t ?_ ?_)
 .intro m;let l:k ∉ xs.map (·.1):=not_mem_keys_of_get m;let r:=atKey_none_of_get m;show ba (oE (ba (tG (hz:=()) (s:={ s with toks:=s.toks+knd.draws k }) h g (bg (M r _ {_,_,T+1,cq _ h (t7 (lP g _)),
   L.mapDictKeys _,lP g _,?_,?_,?_} (dz ..))))))
  .rw[storedH_new r];simp[q,entryOfKey]
  .rw[storedH_new r];intro x hx;obtain hx|hx:=bw.mp hx
   .show knd.keeps (n x hx) h g (dz ..)
   .simp only[bu] at hx;subst hx;show knd.keeps b h g (dz ..)
  .rw[storedH_new r];rw[bW,m6];show{t,?s,?_};intro x hx y v;simp only[bB,iU,bu] at v;subst v;show λe=>l (e ▸ hx)
 .intro j p D;show ba (fe (s:={ s with toks:=s.toks+knd.draws k }) h g ?_);show [entry_at q j,D]\ba (oE (bg (O p (atKey_of_get t D))))
def QT(r:(d==sysModules)=ah)(dflt:ai):MeetsIn prog w (Builtin.«dict.setdefault» {[.ref d,.ref a,dflt],[]}) (λA R s=>knd.room A.in1/\∃k xs,knd.is s.heap k a/\s.heap.DictOfH knd d xs/\xs.length<=Fb /\
   (∀p,atKey xs k=Z p->R (.ok (.ret p.2)) { s with toks:=s.toks+knd.draws k }) /\
   (atKey xs k=ae->∀c,c.DictOfH knd d (storedH xs k a dflt)->cy d s.heap c->R (.ok (.ret dflt)) { s with heap:=c,toks:=s.toks+knd.draws k })):=
 .of_wp λA R s ⟨n,k,xs,b,l,m,u,t⟩=>by unfold Builtin.«dict.setdefault»;show ba ?_;unfold oU;show ba (gU l.typeIs ?_);change Ff _ _ (pure (d,bC a,Z dflt)) _ _ s;show bg ?_;change Ff _ _ (if (d==sysModules)=af then _ else (dictSetDefault d (.ref a) dflt >>= _)) _ _ s;show aj (r\bL)\ba (Ja n b l (λp o=>bg {_,U,u p o}) (λq c h g=>bg {dflt,U,t q c h g}) m)
end
section
variable {a b:ac}{aI:yd}{k:xu}
def znL{Q:Aa}(G:A.units+1<cLine)(I:aJ X aa σ H s)(e:H a=Z (.dT aI))(eb:H b=Z (.tup (k.map kV)))(l:yD aI k=Z v)(h:∀g o,aJ X aa σ (upd H a (.dT (yU aI k))) o->aP v g->Q g o):Ff (Fg X.p X.w) A (call (.builtin "dict.pop") [.ref a,.ref b]) Q E s:=by
 let #[z,M,xs,d,w]:=zc3 I.hok e;let y:xs.length<=Fb:=[<-bZ d]\z
 let r:=d.val k;rw[l] at r;let #[g,D,m]:=Am.some_of r;let #[p,L,rfl]:=cj.mp D;show nG fW w.typeIs mO (ro _ _) (zfl (knd:=tupleKind (ye X.p X.w))) {fu G,k,xs,p,qI I.hok eb,w,y,L,λh' n J=>h _ _ ?_ m};let #[q,es,ep,t,h2,h3,T,_,O]:=n;show Ys I (e\gh) J {q,t} {bR (zc2 aI k) z,M,_,(d.dropT k).keeps λc ys u=>?_,q,es,ep,t,h2,h3,T,O};show zm (zN u e ())\u
def zhC{Q:Aa}(M:A.units+1<cLine)(I:aJ X aa σ H s)(e:H a=Z (.dT aI))(D:H b=Z (.tup (k.map kV)))(J:aP d r)(hl:aI.length<Fb)(h1:∀v t m,yD aI k=Z v->aJ X aa σ H m->aP v t->Q t m)(h2:∀m,yD aI k=ae->aJ X aa σ (upd H a (.dT (xW aI k d))) m->Q r m):Ff (Fg X.p X.w) A (call (.builtin "dict.setdefault") [.ref a,.ref b,r]) Q E s:=by
 let #[z,w,xs,h,G]:=zc3 I.hok e;let L:xs.length<=Fb:=[<-bZ h]\z
 let g:=h.val k;show nG oA G.typeIs PySem.F.entry_dict_setdefault (PySem.F.args_dict_setdefault_3 _ _ _) (QT (knd:=tupleKind (ye X.p X.w)) w r) {fu M,k,xs,qI I.hok D,G,L,λp T=>?_,λhn h' o O=>?_}
 .rw[T] at g;cases l:yD aI k with
  |none=>rw[l] at g;show g.elim
  |some v=>rw[l] at g;show h1 v _ _ l (I.tok _) g
 .rw[hn] at g;let l:yD aI k=ae:=by
   cases l:yD aI k with
   |none=>rfl
   |some v=>rw[l] at g;show g.elim
  show h2 _ l ?_;let #[q,es,ep,u,g2,g3,g4,_,g5]:=o;let n:(xW aI k d).length<=Fb:=by let:=ka aI k d;lia
  show Ys I (e\gh) O {q,u} {n,w,_,(h.put k D J).keeps λc ys y=>?_,q,es,ep,u,g2,g3,g4,g5};show zm (zN y e ())\y
end
def  znM(td ty:TE):TE:=λσ H Q=>td σ H λx g=>∃a,x=.ref a/\IsD g a/\ty σ g λy d=>∃c k b v,d a=Z (.dT c)/\y=.ref b/\d b=Z (.tup (k.map kV))/\yD c k=Z v/\Q v (upd d a (.dT (yU c k)))
def  znN(td ty h:TE):TE:=λσ H Q=>td σ H λx g=>∃a,x=.ref a/\IsD g a/\ty σ g λy l=>h σ l λz d=>∃c k b,d a=Z (.dT c)/\y=.ref b/\d b=Z (.tup (k.map kV))/\c.length<Fb /\
 (∀v,yD c k=Z v->Q v d)/\(yD c k=ae->Q z (upd d a (.dT (xW c k z))))
section
variable {o f:au}{tx:TE}
def zjX(J:X.A.units+1<cLine)(L:PE X o td)(M:PE X e ty)(m:M1 X o "pop" mt e aW):PE X (.Call (.Attribute o "pop" mt) [e] [] aW) (znM td ty):=by intro aa s σ H Q I h;show lE m.base m.few m.line fA fW nI (aT (L aa s σ H _ I h) ?_);rintro u r ⟨x,H1,g,w,a,T,d,D⟩;subst T;obtain rfl:u=bC a:=w;let #[q,n,_]:=WJ g d;show{q,n,?_};rw[m.trees];show dX U (eI (eK (aT (M aa r σ H1 _ g D) λG s2 ⟨y,H2,I2,t,aI,k,b,v,ea,O,eb,l,z⟩=>io ?_)));subst O;cases (G=bC b|>t);show znL J I2 ea eb l λw' s3 I3 c=>{v,_,I3,c,z}
def zjY(hu:X.A.units+1<cLine)(ho:PE X o td)(he:PE X e ty)(hf:PE X f tx)(m:M2 X o "setdefault" mt e f aW):PE X (.Call (.Attribute o "setdefault" mt) [e,f] [] aW) (znN td ty tx):=by
 intro aa s σ H Q I h;show lE m.base m.few m.line fA oA PySem.F.type_dict_setdefault (aT (ho aa s σ H _ I h) ?_);rintro u D ⟨x,H1,n,J,a,ex,d,T⟩;subst ex;obtain rfl:u=bC a:=J;let #[r,q,_]:=WJ n d;show{r,q,?_};rw[m.trees];show dX U (eI (eK (aT (he aa D σ H1 _ n T) λiv w ⟨y,H2,I2,G,O⟩=>
  eK (aT (hf aa w σ H2 _ I2 O) λfv s3 ⟨z,H3,I3,l,aI,k,b,ea,ey,eb,hl,M,L⟩=>io ?_))))
 subst ey;cases (iv=bC b|>G);show zhC hu I3 ea eb l hl (λv w' t hv g c=>{v,_,g,c,M v hv}) λt hn g=>{z,_,g,l,L hn}
end
abbrev Vx:RM:=λx b H Q=>∃(l:ac)(xs:LV)(k:Nat)(y:V),x=.ref l/\b=[.int k,y]/\H l=Z (.lst xs)/\k<=xs.length/\xs.length<1000000/\Q .non (upd H l (.lst (xs.take k++y::xs.drop k)))
abbrev Vy:RM:=λx c H Q=>∃(l:ac)(b:yI)(i:Int),x=.ref l/\c=[.int i]/\H l=Z (.lst (b.map V.int))/\i∈b/\Q .non (upd H l (.lst ((b.erase i).map V.int)))
def aO.takeV:∀(k:Nat){xs:LV}{b:zQ},aO xs b->aO (xs.take k) (b.take k)
 |0,_,_,_=>[List.take_zero,List.take_zero]\.nil
 |_+1,_,_,.nil=>.nil
 |k+1,_,_,.cons h r=>.cons h (aO.takeV k r)
def aO.dropV:∀(k:Nat){xs:LV}{b:zQ},aO xs b->aO (xs.drop k) (b.drop k)
 |0,_,_,h=>h
 |_+1,_,_,.nil=>.nil
 |k+1,_,_,.cons _ r=>aO.dropV k r
def za6:MtM X "list.insert" Vx:=by
 intro aa s σ H x L v O Q I m o h;let #[l,xs,k,y,rfl,rfl,g,hk,T,q]:=h;cases m;cases o with
 |cons r1 rr=>
  let #[u,rfl,w]:=(aO [y] _|>rr).one;let #[t,rfl]:=r1;let #[z,b,n,r,hl,e]:=I.lstM g;let h1:(1000000:Nat)<Fb:=by rw[cp];decide
  obtain⟨i,d⟩:∃i:Int,i=k:={_,U};rw[<-d];let J:¬ (!Builtin.List.listFitsIndex i)=af:=fitsIndex_both () ()\bL
  let D:b.toArray.size<=Fb:=bH\()
  let M:=AutoSeq1.list_insert_list_int_val_1 l b.toArray n i t u J D;show gF F.slot_list_insert {_,e,U} F.entry_list_insert (F.args_list_insert_3 _ _ _) M {e,?_};show{.non,_,I.lset (its':=b.take k++u::b.drop k) g e ?_ ((r.takeV k).append (.cons w (r.dropV k))) ?_,U,q}
  .let c:k<=b.length:=()
   subst d;let G:¬ ((k:Int)<0):=()
   simp[gL c,G];rw[bV (cz\())]
  .rw[bj,bJ,bQ,cz];lia
def zgk:∀ {c:yI}{b:zQ},aO (c.map V.int) b->∀(m:Nat)(v:ai),b[m]?=Z v->∃i t,c[m]?=Z i/\v=.int i t
 |[],_,.nil,m,v,h=>by simp at h
 |i::c,_,.cons h r,0,v,e=>by simp only[bY,cr] at e;subst e;let #[t,rfl]:=h;show{i,t,U,U}
 |i::c,_,.cons h r,m+1,v,e=><-zgk r m v (<-e)
def  isI(k:Int):ai->Bool
 |.int a _=>a==k
 |_=>ah
def za7:MtM X "list.remove" Vy:=by
 intro aa s σ H x vs v us Q I J L h;let #[l,b,i,rfl,rfl,w,hi,q]:=h;cases J;let #[u,rfl,M]:=L.one;let #[t,rfl]:=M;let #[z,c,n,r,T,e]:=I.lstM w;rw[bd] at T z;let hj:b.idxOf i<b.length:=pU.mpr hi;let gt:∀m (d:m<c.toArray.size),∃(g:m<b.length)(t':Tok),c.toArray[m]=.int b[m] t':=λm d=>by
  rw[bH] at d;let #[i',t',G,g]:=zgk r m c[m] (bc d);let D:m<b.length:=()
  rw[bc D] at G;show{D,t',?_};rw[cf G,<-g];simp
 show gF F.slot_list_remove {_,e,U} F.entry_list_remove (F.args_list_remove_2 _ _) (MeetsSeq.list_remove l c.toArray n (.int i t) (isI i) (λy O=>?_) (b.idxOf i) (bH\()) ?_ (λm d o=>?_) (bH\())) {e,?_}
 .let #[m,d,rfl]:=sT.mp O;let #[g,t',k]:=gt m d;show k\MeetsSeq.EqGives.int _ _ _ _
 .let #[g,t',k]:=gt (b.idxOf i) (bH\());rw[k];change (b[b.idxOf i]==i)=af;show ut hj\beq_self_eq_true i
 .let #[g,t',k]:=gt m d;rw[k];change (b[m]==i)=ah;show sk (p:=λy=>y==i) (xs:=b) (i:=m) o
 .let ee:b.erase i=b.eraseIdx (b.idxOf i):=List.erase_eq_eraseIdx_of_idxOf rfl;rw[ee] at q;show{.non,_,I.lset (its':=c.eraseIdx (b.idxOf i)) w e ?_ ([<-WN]\r.eraseIdx _) ?_,U,q}
  .change c.toArray.eraseIdxIfInBounds _=_;rw[mS]
  .rw[bd];let:=zaI b (b.idxOf i);lia
def  zfm(H:Hp)(y:V)(b:xu×V):Prop:=∃p,y=.ref p/\H p=Z (.tup (b.1.map kV))
abbrev zjZ:RC:=λd H Q=>∃a c,d=[.ref a]/\H a=Z (.dT c)/\∀l b,H l=ae->B0 (zfm H) b c->Q (.ref l) (upd H l (.lst b))
def Vz{H:Hp}{es:Array DictEntry}:∀(c:yd)(b:zQ)(j:Nat),b.length=c.length->(∀i v,b[i]?=Z v->∃e,es[j+i]?=Z e/\v=e.key) ->
  (∀(i:Nat)(g:DictEntry)(kv:xu×V),es[j+i]?=Z g->c[i]?=Z kv->∃p,g.key=.ref p/\H p=Z (.tup (kv.1.map kV)))->∃d,aO d b/\B0 (zfm H) d c
 |[],[],_,_,_,_=>{[],.nil,.nil}
 |[],v::b,_,hl,_,_=>by simp at hl
 |kv::c,[],_,hl,_,_=>by simp at hl
 |kv::c,v::b,j,hl,h1,h2=>by let #[e,r,rfl]:=h1 0 v rfl;let #[p,o,t]:=h2 0 e kv r rfl;let #[d,m,l]:=Vz (es:=es) c b (j+1) (<-hl) (λi u n=>[Nat.add_assoc,Nat.add_comm 1 i]\h1 (i+1) u (<-n)) (λi g h k q=>h2 (i+1) g h ([<-Nat.add_assoc,mG]\k) (<-q));show{.ref p::d,.cons o m,.cons {p,U,t} l}
def jQ(hc:X.c=af):wn X (.type "list") zjZ:=by
 intro aa s σ H vs us Q I J h;let #[a,aI,rfl,w,q]:=h;let #[u,rfl,y]:=xD J;cases y;let T:X.A.handled=ae:=I.ok.hd hc;let #[z,L,_]:=zc3 I.hok w;let #[es,ep,D,b,l]:=zjJ I w;show W.kdl_call (zbX (ep:=ep) (es:=es) L) T D (b\z) λh' m d c k hD r=>?_;let #[g,G,n]:=Vz (H:=H) (es:=es) aI d.toList 0 ([bE,r.1,b]\_) (λi v O=>by
   rw[lf];let #[e,h1,h2]:=r.2 i v ([<-bU]\O);show{e,h1,h2}) (λi en M t k=>by rw[lf] at t;let #[p,g1,g2,_]:=l i en M t k;show{p,g1,g2})
 let I2:aJ X aa σ (upd H s.heap.objs.size (.lst g)) { s with heap:=h',toks:=m }:=I.laid (a:=s.heap.objs.size) (o:=.lst g) (t':=m) k (bh _)
  {by let:=bZ n;lia,d.toList,c,G,Array.toArray_toList\hD}
 show{.ref s.heap.objs.size,_,I2,U,q _ g (I.hok.fresh (bh _)) n}
section
variable {b:Str}{k:Nat}{p4:Pos}
def  zgl(te:TE):TE:=λσ H Q=>te σ H λv c=>∃i:Int,v=.int i/\i.natAbs.log2<1920/\∀y:Str,Q (.str y) c
def zlV(n:PE X e te)(D:a.length<=1000:=by lia)(m:b.length<=1000:=by lia):PE X (.JoinedStr [.Constant (.str a) j p1,.FormattedValue e (-1) ae p2,.Constant (.str b) k p4] p3) (zgl te):=by
 intro aa s σ H Q I h;let z:Fb=16777216:=cp;show sG ?_;change Ff _ _ (eval (.Constant (.str a) j p1) X.e) _ _ s;let d:(gq++a).length=a.length:=by rw[e9];simp[gq,eZ]
 show iO {a,_,U,d\zM (),?_};change Ff _ _ (eval (.FormattedValue e (-1) ae p2) X.e) _ _ _;show oV (aT (n aa _ σ H _ (I.tok _) h) ?_);rintro v w ⟨x,u,r,l,i,o,g,q⟩;subst o;let #[t,rfl]:=l;let y:(bb (toString i)).length<=2000:=by let e:=int_text_length_le (k:=1920) () g;rw[sU];lia
 show sV g {bb (toString i),_,U,[e9,d]\(),?_};change Ff _ _ (eval (.Constant (.str b) k p4) X.e) _ _ _;let c:(gq++a++bb (toString i)++b).length<=Fb:=[e9,e9,d]\()
 show iO {b,_,U,c,c,.str _,u,r.tok _,{_,U},q _}
end
structure FunD(K:bz)(x qual:Str)(st:aq)(f:ac)(fd:Fc):Prop where
 ex:∃(oc:ai)(od:Option ac)(dV kV doc pm:ai)(an:Option ac)(cdv ct:ai)(osl:Array (Option ai)),fd=Bd x qual (Yt st) (xX st) (zg st) dV kV doc pm an cdv ct/\K.lookup f=Z {oc,od,.func fd,osl}/\u6 K cdv qual=af
 kp:oX K (.ref f)=af
section
variable {w:ap}{st:aq}{k:Nat}{sp:Sp}
def FunD.ok1(F:FunD K x qual st f fd)(S:aG N ps (zg st))(g:∀c H Q E,sp c H Q E->c.length=ps.length)(d:∀(cdv:ai)(A:av)(b:LEv)(s:ag)(H:Hp)(c:LV)(Q:VK)(E:XK),aY k (A.deeper (envOfC qual (zg st) s.heap.objs.size f cdv))->sp c H Q E->∃t,PSs (jh (AJ P w) P w K mg base N qual (zg st) f cdv A b s H E) (xX st) t/\t { nx:=λ_ o=>Q .non o,rt:=Q } (start N c) H):bv P w K mg base (AJ P w) (k+1) f fd ps sp:=by let #[oc,od,dV,kV,doc,pm,an,cdv,ct,osl,rfl,m,l]:=F.ex;show ziQ m l S g λA b s H c Q E n h=>d cdv A b s H c Q E n h
def FunD.ok0(F:FunD K x qual st f fd)(S:aG N ps (zg st))(l:∀d H Q E,sp d H Q E->d.length=ps.length)(g:∀(cdv:ai)(A:av)(c:LEv)(s:ag)(H:Hp)(d:LV)(Q:VK)(E:XK),aY k (A.deeper (envOfC qual (zg st) s.heap.objs.size f cdv))->sp d H Q E->∃t,PSs (jh (AJ P w) P w K mg base N qual (zg st) f cdv A c s H E).nox (xX st) t/\t { nx:=λ_ n=>Q .non n,rt:=Q } (start N d) H):bv P w K mg base (AJ P w) (k+1) f fd ps sp:=
 F.ok1 S l λcdv A c s H d Q E m h=>let ⟨t,a,b⟩:=g cdv A c s H d Q E m h;{t,a.nox,b}
def fun_mkD{q o:Option ac}{g:Array (Option ai)}{m kV d h b n:ai}(l:K.lookup f=Z {oc,q,.func (Bd x qual (Yt st) (xX st) (zg st) m kV d h o b n),g})(c:u6 K b qual=af)(k:oX K (.ref f)=af):FunD K x qual st f (Bd x qual (Yt st) (xX st) (zg st) m kV d h o b n):={{oc,q,m,kV,d,h,o,b,n,g,U,l,c},k}
end
variable {CX:CXT}{dvs:LV}
section
variable {k:Nat}{sp:Sp}{E:XK}{m:Str}{o:au}
def zhD{h:Sem Bool}(t:PE X o ta)(c:AC X.K C)(r:zhi X.K C m f)(F:bv X.p X.w X.K X.mg X.M CX k f fd ps sp)(q:aY k X.A)(b:∃d,aO dvs d/\hU X.K fd ps d)(l:wI CX X E)(n:eval (.Call (.Attribute o m mt) [] [] pos) X.e=(do
   let g <-eval o X.e
   standAt mt.atName
   let (f,first) <-holding [g] (getMethod g m h)
   callWith pos f first (backTo pos (Fe [] X.e)) (backToKw pos (keywordEach [] X.e))):=by rfl) :
  PE X (.Call (.Attribute o m mt) [] [] pos) (zY C m sp dvs E ta zo):=by let #[d,u,b]:=b;show zcW t c r F q b u l n
end
structure MkO(K:bz)(C:ac):Prop where
 makes:Bb K C=af
 init:gR K (.ref C) "__init__"=Z (Z (.builtin "object.__init__"))
 kp:oX K (.ref C)=af
def  zb5(C:ac):TE:=λ_ H Q=>∀x b,H x=ae->H b=ae->b≠x->Q (.ref x) (upd (upd H b (.own x)) x (.ins C b []))
def zhE{H:Hp}{Q:VK}(M:MkO X.K C)(I:aJ X aa σ H s)(h:∀x d,H x=ae->H d=ae->d≠x->Q (.ref x) (upd (upd H d (.own x)) x (.ins C d []))) :
  Ff (Fg X.p X.w) X.A (call (.ref C) []) (EP X aa σ Q) X.xe s:=by
 let g:=h (s.heap.objs.size+1) s.heap.objs.size (I.hok.fresh (iS _)) (I.hok.fresh (bh _)) (bO (iH _));let m:=aJ.made (C:=C) I;show mR (zhg I.kIn M.makes M.init (λc=>W.Looks.of_pure (W.oi_bind c)) ?_);let n:=W.makes_of (M:=Fg X.p X.w) I.kIn M.makes;let l:pC (Fg X.p X.w) ((s.heap.push fQ).push (iE C s.heap.objs.size)) (typeOf (.ref (s.heap.objs.size+1))) (.ref C):=by let:=bq (s.heap.push fQ) (o:=iE C s.heap.objs.size) rfl;rw[gX] at this;show(pP this).andThen .now
 let k:pC (Fg X.p X.w) ((s.heap.push fQ).push (iE C s.heap.objs.size)) (isInstance (.ref (s.heap.objs.size+1)) (.type "object")) af:=l.andThen (n.top.keeps λb o e=>bf (iE C s.heap.objs.size) (bf fQ e));show lO W.oi_plain W.entry_oi (W.check_slot (rest:=[]) (kw:=[]) W.oi_kind W.oi_split k (W.oi_args _) ?_);show W.oi_run\bg {U,V.ref (s.heap.objs.size+1),_,m,U,g}
def Kt(M:MkO X.K C)(d:Gl X x)(c:X.mg x=Z (.ref C))(b:B1 x:=by lia):PE X (.Call (.Name x p) [] [] pos) (zb5 C):=by intro aa s σ H Q I h;show fq (wV I d c ?_ b);show ug I.kIn M.kp (zhE M I h)
abbrev zoG(K:bz):RC:=λxs H Q=>∃(a:ac)(b:List Bool),xs=[.ref a]/\aN K H a (b.map V.bl)/\Q (.bl (b.any id)) H
def zhF(M:X.c=af):wn X (.builtin "any") (zoG X.K):=by
 intro aa s σ H xs us Q I r h;let #[a,c,rfl,L,q]:=h;let #[u,rfl,G]:=xD r;cases G;let #[d,y,p,hz]:=I.list L;let w:=y.length;rw[bd] at w;let t:a≠s.heap.objs.size:=by let #[o,n,e,_]:=p;show bO (bG e)
 show call_any_walk (lA p.isList ?_);show{s.heap.objs.size,_,_,d.toArray.size,λi v=>d.toArray[i]?=Z v,_,λi=>c.getD i ah,U,Bp (A:=X.A.in1) (I.ok.hd M) _ a t d.toArray,?_,?_,λh' tk k=>?_}
 .show{{_,bq _ U,U,U},p.isList.at λo e=>bf _ e}
 .intro i v s' Q' E' J O;let g:d[i]?=Z v:=<-J
  let m:i<c.length:=w\(bi.mp g).1
  let #[u',z,D]:=y.get (i:=i) (x:=V.bl c[i]) (by simp[m]);rw[g] at z;cases z;cases D;let e:c.getD i ah=c[i]:=by simp[m]
  let l:Q' (c.getD i ah) s':=O;rw[e] at l;show fP l
 .let e:(cH d.toArray.size).any (λi=>c.getD i ah)=c.any id:=by
   rw[bH,<-w];let:c.map id=(cH c.length).map λi=>c.getD i ah:=by apply dq;intro i;by_cases m:i<c.length <;> simp[m]
   let T:c.any id=(c.map id).any id:=?s
   rw[T,this,List.any_map];rfl
  rw[e];show{.bl (c.any id),H,?_,U,q};show I.kept λb o e=>k b o (by let:=bO (bG e);simpa using this) (bf _ e)
def zlW(l:PE X e te)(y:a.length<=1000:=by lia):PE X (.JoinedStr [.Constant (.str a) j p1,.FormattedValue e (-1) ae p2] p3) (zgl te):=by
 intro aa s σ H Q I h;let w:Fb=16777216:=cp;show sG ?_;change Ff _ _ (eval (.Constant (.str a) j p1) X.e) _ _ s;let d:(gq++a).length=a.length:=by rw[e9];simp[gq,eZ]
 show iO {a,_,U,d\zM (),?_};change Ff _ _ (eval (.FormattedValue e (-1) ae p2) X.e) _ _ _;show oV (aT (l aa _ σ H _ (I.tok _) h) ?_);rintro v r ⟨x,o,n,g,i,m,c,q⟩;subst m;let #[t,rfl]:=g;let u:(bb (toString i)).length<=2000:=by let e:=int_text_length_le (k:=1920) () c;rw[sU];lia
 let b:(gq++a++bb (toString i)).length<=Fb:=[e9,d]\()
 show sV c {bb (toString i),_,U,b,b,.str _,o,n.tok _,{_,U},q _}
end L2
namespace HT
open PySem PySem.Spec PyProof.Rows
end HT
namespace L2
open PySem PySem.Spec PyProof.Rows
variable {X:Cx}
variable {e:au}{p2 pos:Pos}{te:TE}
variable {P:am}{A:av}{E:Aa}{s:ag}
open PySem.W
variable {a:au}{p pos2:Pos}
open PySem.Calls
def  lcN(m i:Nat):Nat:=(i*5+1)%(m+1)
def  itN(m:Nat):Nat->Nat->Nat
 |0,x=>x
 |k+1,x=>itN m k (lcN m x)
def  orN(m:Nat):Nat->Nat->wU
 |0,x=>[x]
 |k+1,x=>x::orN m k (lcN m x)
def JB(m:Nat):∀(a b x:Nat),itN m (a+b) x=itN m b (itN m a x)
 |0,b,x=>lf\U
 |a+1,b,x=>mG\JB m a b (lcN m x)
def zgm(m:Nat):∀(k x e:Nat),e∈orN m k x->∃b,b<=k/\itN m b x=e
 |0,x,e,h=>{0,bh _,(bu.mp h).symm}
 |k+1,x,e,h=>by
  obtain rfl|h:=bo.mp h
  .show{0,bP _,U}
  .let #[b,c,e]:=zgm m k _ e h;show{b+1,(),e}
def  kK(m:Nat):Prop:=m=7\/m=31\/m=127
def zlX(d:kK m):(∀e,e<=m->∃b,b<=m/\itN m b 0=e)/\itN m (m+1) 0=0:=by
 let c:∀n,((cH (n+1)).all λe=>(orN n n 0).contains e)=af->∀e,e<=n->∃b,b<=n/\itN n b 0=e:=λn h e f=>by let:=cx.mp h e (gB.mpr ());show zgm n n 0 e (<-this)
 obtain rfl|rfl|rfl:=d
 .show{c 7 (),()}
 .show{c 31 (),()}
 .show{c 127 (),()}
def zhG{m x e:Nat}(h:kK m)(g:x<=m)(i:e<=m):∃k,k<=m/\itN m k x=e:=by
 let #[d,f]:=zlX h;let #[a,l,rfl]:=d x g;let #[b,j,rfl]:=d e i;by_cases c:a<=b
 .show{b-a,(),[<-JB,a+(b-a)=b|>()]\_}
 .show{b+(m+1)-a,(),?_};rw[<-JB,a+(b+(m+1)-a)=(m+1)+b|>(),JB,f]
def  lpN(m:Nat):Nat->Nat×Nat->Nat×Nat
 |0,x=>x
 |k+1,x=>lpN m k (fG m x.1 x.2)
def zb6(m:Nat):∀(a b:Nat)(x:Nat×Nat),lpN m (a+b) x=lpN m b (lpN m a x)
 |0,b,x=>lf\U
 |a+1,b,x=>mG\zb6 m a b _
def zgn(m:Nat):∀(k:Nat)(x:Nat×Nat),(lpN m k x).2=x.2/32^k
 |0,x=>by simp[lpN]
 |k+1,x=>by change (lpN m k (fG m x.1 x.2)).2=_;rw[zgn m k];change x.2/32/32^k=_;rw[Nat.div_div_eq_div_mul,Nat.pow_succ,Nat.mul_comm]
def zj0(m:Nat):∀(k:Nat)(x:Nat×Nat),x.1<=m->(lpN m k x).1<=m
 |0,x,h=>h
 |k+1,x,h=>zj0 m k _ (lJ (oC _ (ms m)))
def zdx(m:Nat):∀(k i:Nat),lpN m k (i,0)=(itN m k i,0)
 |0,i=>rfl
 |k+1,i=>by change lpN m k (fG m i 0)=_;show zdx m k (lcN m i)
def za8{m e:Nat}(b:kK m)(f:x.1<=m)(d:x.2<2^64)(c:e<=m):∃k,1<=k/\k<=m+13/\(lpN m k x).1=e:=by
 let z:(lpN m 13 x).2=0:=zgn\Nat.div_eq_of_lt (cn d ())
 let l:=zj0 m 13 x f;let #[k,h,g]:=zhG (x:=(lpN m 13 x).1) b l c;show{13+k,(),(),?_};show [zb6,lpN m 13 x=((lpN m 13 x).1,0)|>rD U z,zdx]\g
section
variable {t:SetTable}
def  va(t:SetTable):Nat->dG->dG
 |0,p=>p
 |k+1,p=>va t k (t.advance p)
def Ku(t:SetTable):∀(a b:Nat)(p:dG),va t (a+b) p=va t b (va t a p)
 |0,b,x=>lf\U
 |a+1,b,x=>mG\Ku t a b _
structure PbOk(t:SetTable)(p:dG):Prop where
 more:p.more<=9
 i:p.i<=t.mask
 pt:p.perturb<2^64
 dm:p.dummy=ae
def zfn(m i:Nat):mH m i-i<=9:=by unfold mH;split <;> lia
def XZ{p:dG}(h:0<p.more):t.advance p={ p with j:=p.j+1,more:=p.more-1 }:=by unfold uW;rw[ak h]
def zdy{p:dG}(h:p.more=0):t.advance p={ p with j:=(fG t.mask p.i p.perturb).1,more:=mH t.mask (fG t.mask p.i p.perturb).1-(fG t.mask p.i p.perturb).1,i:=(fG t.mask p.i p.perturb).1,perturb:=(fG t.mask p.i p.perturb).2 }:=by unfold uW;rw[aj ()]
def PbOk.adv{p:dG}(h:PbOk t p):PbOk t (t.advance p):=by
 by_cases c:0<p.more
 .show XZ c\{by let:=h.more;change p.more-1<=9;lia,h.i,h.pt,h.dm}
 .rw[zdy ()];show{zfn _ _,lJ (oC _ (ms _)),?_,h.dm};change p.perturb/32<2^64;show dZ (Nat.div_le_self _ _) h.pt
def zb7:∀(n:Nat)(p:dG),p.more=n->(va t (n+1) p).j=(fG t.mask p.i p.perturb).1/\(va t (n+1) p).i=(fG t.mask p.i p.perturb).1/\(va t (n+1) p).perturb=(fG t.mask p.i p.perturb).2/\(va t (n+1) p).more<=9
 |0,p,h=>by change (t.advance p).j=_/\(t.advance p).i=_/\(t.advance p).perturb=_/\(t.advance p).more<=9;show zdy h\{U,U,U,zfn _ _}
 |n+1,p,h=>by let:=zb7 n (t.advance p) (by rw[XZ ()];change p.more-1=n;lia);rw[XZ ()] at this;rw[n+1+1=(n+1)+1|>rfl];change (va t (n+1) (t.advance p)).j=_/\(va t (n+1) (t.advance p)).i=_/\(va t (n+1) (t.advance p)).perturb=_/\(va t (n+1) (t.advance p)).more<=9;show XZ ()\this
def za9:∀(k:Nat)(p:dG),p.more<=9->∃n,n<=10*(k+1)/\(va t n p).j=(lpN t.mask (k+1) (p.i,p.perturb)).1/\(va t n p).i=(lpN t.mask (k+1) (p.i,p.perturb)).1/\(va t n p).perturb=(lpN t.mask (k+1) (p.i,p.perturb)).2/\(va t n p).more<=9
 |0,p,h=>by let #[a,b,c,d]:=zb7 (t:=t) p.more p rfl;show{p.more+1,(),a,b,c,d}
 |k+1,p,h=>by
  let #[n,l,a,b,c,d]:=za9 k p h;let #[j,i,g,f]:=zb7 (t:=t) (va t n p).more (va t n p) rfl;let e:lpN t.mask (k+1+1) (p.i,p.perturb)=fG t.mask (va t n p).i (va t n p).perturb:=[zb6,b,c]\U
  show{n+((va t n p).more+1),(),?_};show [Ku,e]\({j,i,g,f})
def zhH{p:dG}{e:Nat}(c:kK t.mask)(h:PbOk t p)(d:e<=t.mask):∃n,n<10*fU t.mask/\(va t n p).j=e:=by let #[k,i,g,f]:=za8 (x:=(p.i,p.perturb)) c h.i h.pt d;let #[n,b,a,_]:=za9 (t:=t) (k-1) p h.more;rw[k-1+1=k|>()] at a b;show{n,by unfold fU;lia,a.trans f}
def zdz(j:Nat):uR #[] j=ah:=by unfold uR;simp
def zgo(b:t.dummies=#[]):t.slot j≠.dummy:=by
 unfold Bx;dsimp only;split
 .show nofun
 .show [b,zdz]\(nofun)
def zba(h:t.slot j=.live i):t.place[i]?=Z j:=by
 unfold Bx at h;dsimp only at h;split at h
 .rename_i c;cases h;simpa using c
 .split at h <;> cases h
def zhI(f:t.dummies=#[])(g:t.place.size<=t.mask):∃e,e<=t.mask/\t.slot e=.empty:=by
 apply eU;intro z;let d:∀e,e<=t.mask->e∈t.place.toList:=λe b=>by
  cases c:t.slot e with
  |empty=>show absurd {e,b,c} z
  |dummy=>show absurd c (zgo f)
  |live i=>
   let:=zba c;rw[<-bU] at this;show b7 this
 let:=List.Nodup.length_le_of_subset (uU (n:=t.mask+1)) (λe b=>d e (by let:=List.mem_range.mp b;lia));rw[pV,bE] at this;lia
def zdA{f:Nat->Int}{h:Int}(g:t.dummies=#[]):∀(n d:Nat)(p:dG),n<d->PbOk t p->t.slot (va t n p).j=.empty ->
  (∃j,m7 t f h d p=Z (.empty j ae)/\t.slot j=.empty)\/∃j i k,m7 t f h d p=Z (.candidate j i (va t (k+1) p))/\k<n/\t.slot j=.live i
 |n,0,p,h1,_,_=>()
 |0,d+1,p,_,ok,h2=>by
  left
  show{p.j,?_,h2};unfold m7;rw[t.slot p.j=.empty|>h2];dsimp only;rw[ok.dm]
 |n+1,d+1,p,h1,ok,h2=>by
  unfold m7;cases c:t.slot p.j with
  |empty=>left;show{p.j,by dsimp only;rw[ok.dm],c}
  |dummy=>show absurd c (zgo g)
  |live i=>
   dsimp only;by_cases e:(f i==h)=af
   .right
    show ak e\{p.j,i,0,U,(),c}
   .rw[aj e];obtain ⟨j,a,b⟩|⟨j,i,k,a,b,c⟩:=zdA (f:=f) (h:=h) g n d (t.advance p) () ok.adv h2
    .show .inl {j,a,b}
    .show .inr {j,i,k+1,a,(),c}
end
def zdB{m e:Nat}{f:Array (Option Nat)}(g:f[e]?=Z ae):∀(k b i p:Nat),k<b->(lpN m k (i,p)).1=e->∃j,iN m f b i p=Z j/\f[j]?=Z ae
 |k,0,i,p,h,_=>()
 |k,b+1,i,p,h,hl=>by
  unfold iN;cases c:(cH (mH m i+1-i)).find? λk=>(f.getD (i+k) (Z 0)).isNone with
  |some k0=>
   show{i+k0,U,?_};let z:=List.find?_some c;rw[gM] at z;cases d:f[i+k0]? with
   |none=>rw[d] at z;cases z
   |some x=>
    rw[d] at z;cases x with
    |none=>rfl
    |some _=>cases z
  |none=>
   cases k with
   |zero=>
    exfalso;let:=List.find?_eq_none.mp c 0 (gB.mpr (by unfold mH;split <;> lia));let l:i=e:=hl;rw[Nat.add_zero,l,gM,g] at this;show this rfl
   |succ k=>show zdB g k b _ _ () hl
def zdC{v:Nat}:∀ {l:List (Option Nat)}{j:Nat},l[j]?=Z ae->((l.set j (Z v)).filterMap id).Perm (v::l.filterMap id)
 |[],j,h=>by simp at h
 |x::l,0,h=>by simp only[bY,cr] at h;subst h;show gD _
 |x::l,j+1,h=>by
  let b:=zdC (v:=v) (l:=l) (j:=j) (<-h);cases x with
  |none=>show b
  |some y=>show(b.cons y).trans (tM ..)
def zbb:∀ {l:List (Option Nat)},(l.filterMap id).length<l.length->∃e:Nat,e<l.length/\l[e]?=Z ae
 |[],h=>by simp at h
 |none::l,h=>{0,?s,U}
 |some x::l,h=>by let #[e,a,b]:=zbb (l:=l) (<-h);show{e+1,<-a,<-b}
structure zlY(m k:Nat)(ow:Array (Option Nat)):Prop where
 sz:ow.size=m+1
 pm:(ow.toList.filterMap id).Perm (cH k)
def zgp(h:Int):iC h<2^64:=by unfold iC;let c:(0:Int)<=h%2^64:=dL _ ();let b:h%2^64<2^64:=dc _ ();lia
def zj1{m:Nat}(o:kK m):∀(c:yI)(f:Array (Option Nat))(k:Nat),zlY m k f->k+c.length<=m ->
  ∃d,c.foldl (λi h=>i.bind λx=>(iN m x.1 (fU m) (iC h%(m+1)) (iC h)).bind λj=>Z (x.1.setIfInBounds j (Z x.2),x.2+1)) (Z (f,k))=Z (d,k+c.length)/\zlY m (k+c.length) d
 |[],f,k,ok,_=>{f,U,ok}
 |h::c,f,k,ok,hl=>by
  let r:(f.toList.filterMap id).length=k:=[ok.pm.length_eq,pV]\_
  let #[e,a,b]:=zbb (l:=f.toList) (by rw[r,bE,ok.sz];simp at hl;lia);rw[bE,ok.sz] at a;rw[bU] at b;let #[n,z,y,q]:=za8 (x:=(iC h%(m+1),iC h)) o (lJ (oC _ (ms _))) (zgp h) (lJ a);let #[j,u,t]:=zdB b n (fU m) _ _ (by unfold fU;lia) q;let g:zlY m (k+1) (f.setIfInBounds j (Z k)):=by show{Array.size_setIfInBounds\ok.sz,?_};rw[Array.toList_setIfInBounds];show(zdC (bU\t)).trans ?_;show Bj\(ok.pm.cons k).trans (List.perm_append_singleton k _).symm
  let #[d,w,v]:=zj1 o c _ (k+1) g (by simp at hl;lia);show{d,?_,[bJ,k+(c.length+1)=k+1+c.length|>()]\v};rw[gJ,bJ,k+(c.length+1)=k+1+c.length|>(),<-w];congr 1;change (iN m f (fU m) (iC h%(m+1)) (iC h)).bind _=_;rw[u];rfl
def zhJ(d:kK m){c:Array Int}(f:c.size<=m):∃ow,uJ m c=Z ow/\zlY m c.size ow:=by
 let #[ow,a,b]:=zj1 d c.toList (Array.replicate (m+1) ae) 0 {?s,by
  let:∀n,(dF n (ae:Option Nat)).filterMap id=[]:=λn=>by
   induction n with
   |zero=>rfl
   |succ n ih=>show ih
  show [Array.toList_replicate,this]\gD _} (<-f)
 rw[lf,bE] at a b;show{ow,?_,b};unfold uJ;rw[<-Array.foldl_toList];let:=congrArg (Option.map (·.1)) a;show this
def zhK{b:Type}(l:List (Option b)):(cH l.length).filterMap (λj=>l.getD j ae)=l.filterMap id:=by
 let e:(cH l.length).map (λj=>l.getD j ae)=l:=by
  apply uX
  .simp
  .intro i d c;simp[bA,bc c]
 conv=>rhs;rw[<-e]
 rw[List.filterMap_map];rfl
def zlZ{ld pl:Bool}{hs:Array Int}(h:kK m)(i:hs.size<=m):∃c f,By m fg mv ld pl hs=Z (c,f)/\c.mask=m/\c.dummies=#[]/\c.place.size=hs.size/\(c.plain=pl/\c.led=ld)/\f.toList.Perm (cH hs.size):=by
 let #[d,a,b]:=zhJ h i;let e:((cH (m+1)).filterMap λj=>(d.getD j ae).map (Prod.mk j)).map (·.2)=d.toList.filterMap id:=by
  rw[List.map_filterMap,<-zhK,bE,b.sz];congr 1
  funext j
  rw[gM,bA,bU];cases (d[j]?.getD ae) <;> rfl
 let g:((cH (m+1)).filterMap λj=>(d.getD j ae).map (Prod.mk j)).length=hs.size:=by let:=congrArg eA e;rw[bd,b.pm.length_eq,pV] at this;show this
 show{_,_,by unfold By;rw[a];rfl,U,U,?_,{U,U},?_}
 .change (pi _).size=_;show [bH,bd]\g
 .change (pi _).toList.Perm _;show(_=d.toList.filterMap id|>e) ▸ b.pm
def zhL{c:Type}{es:Array c}{b:ANt}(h:b.toList.Perm (cH es.size)):(b.filterMap (es[·]?)).toList.Perm es.toList:=by rw[Array.toList_filterMap];show(h.filterMap _).trans (filterMap_getElem?_range\_)
section
variable {w:ap}{t:SetTable}
def  plH(P:am)(w:ap)(q:Str×Int):Int:=tupleKeyHash (ye P w) (zI q)
def Ab.key{a:ac}{q:Str×Int}(x:Ab h (.ref a) q):IsTupleKey (ye P w) h (zI q) a:=by let #[_,o,t,u,n,e,b,d,c]:=x;cases e;show{o,_,n,b,d,c,.cons (Vm _ _ _ _) (.cons (Vl _ _ _ _) .nil)}
structure AB(t:SetTable)(n:Nat):Prop where
 dm:t.dummies=#[]
 sz:t.place.size=n
 mm:t.mask=7/\n<=4\/t.mask=31/\n<=18\/t.mask=127/\n<=76
def AB.msk(h:AB t n):kK t.mask:=by
 obtain h|h|h:=h.mm
 .show .inl h.1
 .show .inr (.inl h.1)
 .show .inr (.inr h.1)
def AB.lt(h:AB t n):n<=t.mask:=by obtain h|h|h:=h.mm <;> lia
def AB.fits(h:AB t n):t.fits n=af:=by let:=h.lt;simp only[Bz,BA,h.sz,h.dm,bK,beq_iff_eq,decide_eq_true_eq];show{trivial,<-this}
def zbc{q:Str×Int}(j:Ab s.heap (.ref x) q){Q:Bool->ag->Prop}(h:Q ah s):Ff (Fg P w) A (ofAClassStatement 8 (.ref x)) Q E s:=by
 let #[_,o,t,u,n,e,g,l,k]:=j;cases e;let m:s.TypeIs (.ref x) "tuple":={o,g,l};unfold ofAClassStatement;show ba (nN m ?_);change Ff _ _ (if ("tuple" == "tuple")=af then _ else _) _ _ _;rw[ak ()];simp only[Bool.not_true,cA,if_false,Bg];show ba (nF g k ?_);change Ff _ _ ((forIn #[iQ q.1 t,gP q.2 u] _ _) >>= _) _ _ _;rw[<-uu];show ba (rS _ (λrest r d=>r.1=ae/\d=s/\∀v∈rest,carriedByValue v=af) _ ?_ ?_ _ _ {U,U,λv c=>?_})
 .rintro v rest r d ⟨f,rfl,b⟩;let i:ofAClassStatement 7 v=pure ah:=by let:=b v bp;cases v <;> first|rfl|(cases this)
  rw[i];show ba (bg ?_);show aj ()\bg {U,U,λv c=>b v (br _ c)}
 .rintro⟨z,y⟩ d ⟨f,rfl,_⟩;simp only at f;subst f;show bg h
 .simp only[bo,cZ,or_false] at c;obtain rfl|rfl:=c <;> rfl
def zj2{a b:Str×Int}(h:zI a=zI b):a=b:=by unfold zI at h;simp only[c8,Bu,Bv,and_true] at h;show rD h.1 h.2
def PbOk.advs{p:dG}:∀(k:Nat){p:dG},PbOk t p->PbOk t (va t k p)
 |0,p,h=>h
 |k+1,p,h=>PbOk.advs (p:=p) k h.adv
def zhM{q:Str×Int}(j:Ab s.heap (.ref x) q){Q:Bool->ag->Prop}:∀(l:zQ),(∀v∈l,∃b f,v=.ref b/\Ab s.heap (.ref b) f)->Q ah s->Ff (Fg P w) A (searchCouldBeSeen (.ref x) l) Q E s:=by
 intro l o q;unfold searchCouldBeSeen;show ba ?_;show rS _ (λrest r s'=>r.1=ae/\s'=s/\∀v∈rest,∃b f,v=.ref b/\Ab s.heap (.ref b) f) _ ?_ ?_ _ _ {U,U,o}
 .rintro v rest r s' ⟨i,rfl,d⟩;let #[b,f,rfl,k]:=d v bp;let h:Ff (Fg P w) A (pure (gK ((ae:Option Bool),PUnit.unit))) (λm g=>match m with|.yield r=>r.1=ae/\g=s'/\∀v∈rest,∃b f,v=.ref b/\Ab s'.heap (.ref b) f|.done r=>Ff (Fg P w) A (match r.1 with|some r=>pure r|none=>pure ah) Q E g) E s':=bg {rfl,rfl,λv n=>d v (br _ n)};dsimp only;by_cases c:x=b
  .show ak (by simp[c])\h
  .rw[aj (by simp[c,carriedByValue])];show ba ((tupleKind (ye P w)).quiet j.key ?_);rw[aj ()];show ba ((tupleKind (ye P w)).quiet k.key ?_);rw[aj ()];show ba (zbc j ?_);rw[aj ()];show ba (zbc k ?_);show aj ()\h
 .rintro⟨y,u⟩ s' ⟨i,rfl,_⟩;simp only at i;subst i;show bg q
def zfo{a x:ac}{q:Str×Int}{f:Int}{o:Obj}{es:Array (Int×ai)}(D:s.heap.get? a=Z o)(H:o.data=.set es ep t)(m:AB t es.size)(M:A.units<cLine)(B:Ab s.heap (.ref x) q)(u:∀e∈es.toList,∃b l,e.2=.ref b/\Ab s.heap (.ref b) l/\l≠q){Q:SetFound->ag->Prop}(h:∀j,t.slot j=.empty->Q (.free j ah) s) :
  ∀(n d:Nat)(g:Option dG),n<d->n<10*fU t.mask->PbOk t (g.getD (t.probeStart f))->t.slot (va t n (g.getD (t.probeStart f))).j=.empty->Ff (Fg P w) A (setSearchFrom a (.ref x) f af d g) Q E s:=by
 intro n;induction n using oJ with
 |_ n ih=>
  intro d g h1 h2 J N;cases d with
  |zero=>lia
  |succ d=>
   unfold setSearchFrom;show ba (dR D H m.fits ?_);let gw:t.gaveWay=ah:=by unfold SetTable.gaveWay;obtain e|e|e:=m.msk <;> rw[e] <;> rfl
   simp only[gw,cA,if_false];generalize hf:t.probe _ f _=pm;unfold SetTable.probe at hf;obtain ⟨j,a1,a2⟩|⟨j,i,k,a1,a2,a3⟩:=zdA (h:=f) m.dm n (10*fU t.mask) (g.getD (t.probeStart f)) h2 J N
   .rw[hf] at a1;subst a1;show bg (h j a2)
   .rw[hf] at a1;subst a1;dsimp only;let T:=zba a3;let li:i<es.size:=by let:=(cR.mp T).1;rw[m.sz] at this;show this
    let #[b,l,eb,O,L]:=u es[i] ([<-Array.getElem_toList]\cL _);let I:es[i]?=Z (es[i].1,.ref b):=[b9 li,<-eb]\_
    let r:Ff (Fg P w) A (setSearchFrom a (.ref x) f af d (Z (va t (k+1) (g.getD (t.probeStart f))))) Q E s:=by show ih (n-(k+1)) () d _ () () (PbOk.advs (p:=g.getD (t.probeStart f)) _ J) ?_;change t.slot (va t (n-(k+1)) (va t (k+1) (g.getD (t.probeStart f)))).j=_;show [<-Ku,k+1+(n-(k+1))=n|>()]\N
    rw[I];by_cases c:(!t.led)=af
    .rw[ak c];show ba (zhM B _ (λv C=>?_) ?_)
     .let #[e,G,rfl]:=bM.mp C;let:e∈es:=(Array.mem_filter.mp (tw.mp G)).1;let #[b,l,e1,e2,_]:=u e (Array.mem_toList_iff.mpr this);show{b,l,e1,e2}
     rw[aj ()];dsimp only;show ba (cF ((tupleKind (ye P w)).eqBool (x:=zI l) (y:=zI q) M O.key B.key ?_));rw[Fk λz=>L (zj2 z)];show ba (dR D H m.fits ?_);rw[aj ()];dsimp only;rw[t.sameMemory t.moves t.mask=Z af|>by unfold t9;simp];dsimp only;rw[ak U,a3];dsimp only;rw[I];dsimp only;show ba (sW ?_);rw[ak rfl];show ba (bg ?_);dsimp only;show aj ()\r
    .rw[aj c];dsimp only;show ba (cF ((tupleKind (ye P w)).eqBool (x:=zI l) (y:=zI q) M O.key B.key ?_));rw[Fk λz=>L (zj2 z)];show ba (dR D H m.fits ?_);rw[aj ()];dsimp only;rw[t.sameMemory t.moves t.mask=Z af|>by unfold t9;simp];dsimp only;rw[ak U,a3];dsimp only;rw[I];dsimp only;show ba (sW ?_);rw[ak rfl];show ba (bg ?_);dsimp only;show aj ()\r
end
section
variable {w:ap}{t:SetTable}
def zhN{q:Str×Int}(g:Ab s.heap (.ref x) q){Q:Bool->ag->Prop}(h:Q ah s):Ff (Fg P w) A (hashByValue 8 (.ref x)) Q E s:=by
 let #[_,o,t,u,n,e,d,l,k]:=g;cases e;let m:s.TypeIs (.ref x) "tuple":={o,d,l};unfold hashByValue;show ba (sD m F.slot_tuple_hash.lookup ?_);change Ff _ _ (seqItems? (.ref x) >>= _) _ _ _;show ba (nF d k ?_);change Ff _ _ ((forIn #[iQ q.1 t,gP q.2 u] _ _) >>= _) _ _ _;rw[<-uu];show ba (rS _ (λrest r c=>r.1=ae/\c=s/\∃y,rest.head?=Z (.str y t)) _ ?_ ?_ _ _ {U,U,_,U})
 .rintro v rest r c ⟨i,rfl,y,b⟩;cases b;let f:hashByValue 7 (.str y t)=pure ah:=rfl;rw[f];show ba (bg ?_);show ak ()\bg (bg h)
 .rintro⟨B,z⟩ c ⟨i,rfl,y,j⟩;cases j
def zgq{a:ac}{o:Obj}{f es':Array (Int×ai)}{c:Nat}{t':SetTable}{h:ao}(d:h.get? a=Z o)(b:o.data=.set f c t):(h.update a (pW es' t')).get? a=Z { o with data:=.set es' (c+1) t' }:=by let:=cq (pW es' t') d (putSet_of es' t' b\U);rw[putSet_of es' t' b] at this;show this
def zhO{a:ac}{o:Obj}{es:Array (Int×ai)}(j:s.heap.get? a=Z o)(l:o.data=.set es ep t)(u:t.fits es.size=af)(i:uv wt=m+1)(k:kK m)(r:es.size<=m){Q:Unit->ag->Prop}
  (h:∀d b,d.toList.Perm es.toList->b.mask=m->b.dummies=#[]->b.place.size=es.size->b.plain=t.plain/\b.led=t.led->Q PUnit.unit { s with heap:=s.heap.update a (pW d b) }):Ff (Fg P w) A (setRelay a wt) Q E s:=by
 unfold setRelay;show ba (dR j l u ?_);let D:m<=127:=by obtain e|e|e:=k <;> lia
 dsimp only;rw[aj (by let z:(128:Nat)<=Fb:=();rw[i];lia)];let #[b,c,C,B,y,q,x,n]:=zlZ (fg:=t.finger) (mv:=t.movedTo m) (ld:=t.led) (pl:=t.plain) (hs:=es.map (·.1)) k (Bn\r);rw[Bn] at q n;let g:=zhL (es:=es) n;let f:(c.filterMap (es[·]?)).size=es.size:=by let:=g.length_eq;rw[bE,bE] at this;show this
 let v:t.relaid (es.map (·.1)) wt=Z (b,c):=by unfold SetTable.relaid;show [i,uw]\C
 rw[v];show ba ?_;change Ff _ _ (if ((c.filterMap (es[·]?)).size != es.size)=af then _ else _) _ _ _;rw[f,aj ?s];show bg ?_;show wpAny_storeSet_of j l (h _ _ g B y q x) (by let z:(128:Nat)<=Fb:=();rw[f];lia)
def Kv{a:ac}{b:Array (Int×ai)}(h:ao):cy a h (h.update a (pW b t')):=dz h a _
def zl0{a x:ac}{q:Str×Int}{o:Obj}{f:Array (Int×ai)}(ho:s.heap.get? a=Z o)(D:o.data=.set f ep t)(i:AB t f.size)(al:f.size<76)(hu:A.units<cLine)(hx:Ab s.heap (.ref x) q)(M:∀e∈f.toList,∃b y,e.2=.ref b/\Ab s.heap (.ref b) y/\y≠q){Q:Bool->ag->Prop}
  (h:∀(N:ao)(tk:Nat) es' aa t',cy a s.heap N->N.get? a=Z { o with data:=.set es' aa t' }->es'.toList.Perm (f.toList++[(plH P w q,.ref x)])->AB t' es'.size->t'.plain=ah/\t'.led=t.led->s.toks<=tk->Q af { s with heap:=N,toks:=tk }):Ff (Fg P w) A (setAdd a (.ref x)) Q E s:=by
 unfold setAdd;show cF (ba (wpAny_pyHash_tuple (knd:=ye P w) hu hx.key ?_));obtain⟨s1,g⟩:∃s1:ag,s1={ s with toks:=s.toks+((zI q).length+1) }:={_,U};rw[<-g];let B:Ab s1.heap (.ref x) q:=g\hx
 let k:s1.heap.get? a=Z o:=g\ho
 let C:∀e∈f.toList,∃b y,e.2=.ref b/\Ab s1.heap (.ref b) y/\y≠q:=g\M
 unfold setAddHashed setAddHashedIn;show cF (ba (dR k D i.fits ?_));dsimp only;rw[aj (¬ (byScan (.ref x) f=af)|>bL)];let #[e,l,u]:=zhI (t:=t) i.dm (i.sz\i.lt);let pb:PbOk t (t.probeStart (tupleKeyHash (ye P w) (zI q))):={zfn _ _,lJ (oC _ (ms _)),zgp _,U};let #[n,n1,n2]:=zhH i.msk pb l;let tl:10*fU t.mask<=2000:=by unfold fU;obtain e|e|e:=i.msk <;> rw[e] <;> decide
 unfold setSearch;show ba (zfo k D i hu B C (λj hj=>?_) n 100000 ae () n1 pb ([(ae:Option dG).getD (t.probeStart (tupleKeyHash (ye P w) (zI q)))=t.probeStart (tupleKeyHash (ye P w) (zI q))|>rfl,n2]\u));dsimp only;show ba (dR k D i.fits ?_);let zl:(128:Nat)<=Fb:=()
 let r:∀(T:SetTable)(d:Array (Int×ai)),T.mask=t.mask->T.dummies=#[]->T.place.size=f.size+1->T.plain=ah/\T.led=t.led->d.toList.Perm (f.toList++[(plH P w q,.ref x)]) ->
   Ff (Fg P w) A (do storeSet a d T;if (!ah&&T.tooFull)=af then do { setRelay a (tN (f.size+1));pure af } else pure af) Q E s1:=λT d I t2 L J v=>by
  let H:d.size=f.size+1:=by let:=v.length_eq;simpa using this
  let fl:T.fill=f.size+1:=by unfold BA;rw[t2,L];rfl
  let O:=zgq (es':=d) (t':=T) k D;show ba (wpAny_storeSet_of k D ?_ (H\()));by_cases c:T.tooFull=af
  .rw[ak (c\U)];let G:(f.size+1)*5 >= t.mask*3:=by unfold uY at c;rw[fl,I] at c;show of_decide_eq_true c
   let go:∀m,uv (tN (f.size+1))=m+1->kK m->d.size<=m->(m=7/\d.size<=4\/m=31/\d.size<=18\/m=127/\d.size<=76)->T.fits d.size=af ->
     Ff (Fg P w) A (do { setRelay a (tN (f.size+1));pure af }) Q E { s1 with heap:=s1.heap.update a (pW d T) }:=λm m1 m2 m3 m4 m5=>by
    show ba (zhO (s:={ s1 with heap:=s1.heap.update a (pW d T) }) O rfl m5 m1 m2 m3 λes' t' p1 p2 p3 p4 p5=>bg ?_);let z2:es'.size=d.size:=by let:=p1.length_eq;simpa using this
    subst g;show h _ _ es' (ep+1+1) t' ((Kv s.heap).trans (Kv _)) (by let z:=zgq (es':=es') (t':=t') O rfl;show z) (p1.trans v) {p3,[p4,z2]\_,[p2,z2]\m4} {p5.1.trans J.1,p5.2.trans J.2} (iJ _ _)
   let ft:f.size+1<=t.mask->T.fits d.size=af:=λz=>by simp only[Bz,fl,L,I,H,bK,beq_iff_eq,decide_eq_true_eq];show{trivial,z}
   obtain ⟨l,u⟩|⟨l,u⟩|⟨l,u⟩:=i.mm
   .let:f.size=4:=by rw[l] at G;lia
    show go 31 (by rw[this];decide) (.inr (.inl U)) () (.inr (.inl {U,()})) (ft ())
   .let:f.size=18:=by rw[l] at G;lia
    show go 127 (by rw[this];decide) (.inr (.inr U)) () (.inr (.inr {U,()})) (ft ())
   .rw[l] at G;lia
  .rw[aj (<-c)];let G:¬ (f.size+1)*5 >= t.mask*3:=λz=>c (by unfold uY;show [fl,I]\Fj z)
   show bg ?_;subst g;show h _ _ d _ T (Kv s.heap) O v {t2,[L,H]\_,?_} J (iJ _ _);rw[I,H];obtain ⟨l,u⟩|⟨l,u⟩|⟨l,u⟩:=i.mm <;> rw[l] at G ⊢ <;> lia
 let v:(SetTable.insertAt f (t.put j).2 (plH P w q,bC x)).toList.Perm (f.toList++[(plH P w q,.ref x)]):=by let:=ss f (t.put j).2 (plH P w q,bC x);rw[pX] at this;show this
 let sp:(t.put j).1.place.size=f.size+1:=by let:=(ss t.place (iL t.place j) j).length_eq;rw[pX,bj,bE,bE,i.sz] at this;show this
 let sd:(t.put j).1.dummies=#[]:=by change (if uR t.dummies j=af then _ else t.dummies)=_;rw[i.dm,zdz];rfl
 dsimp only;by_cases c:(t.put j).1.plain=af
 .rw[ak c];show ba (zhN B ?_);show aj ()\r _ _ U sd sp {U,U} v
 .rw[aj c];show ba (bg ?_);show ak rfl\r _ _ U sd sp {<-c,U} v
end
abbrev Xf(b:Array (Int×ai))(c:Nat)(t:SetTable):Obj:={ cls:=.type "set",dict:=ae,data:=.set b c t }
def  zdD(w:ap):Bool:=!w.params.followText "set-order"
def  Ar(w:ap)(h:ao)(S:ac)(c:zQ):Prop:=∃b d t,h.get? S=Z (Xf b d t)/\(b.toList.map (·.2)).Perm c/\AB t b.size/\(t.plain=af->c=[])/\t.led=zdD w
section
variable {w:ap}{t:SetTable}
def Ar.at(x:Ar w h S vs)(e:∀o,h.get? S=Z o->h'.get? S=Z o):Ar w h' S vs:=let ⟨es,ep,t,a,r⟩:=x;{es,ep,t,e _ a,r}
def Ab.at{q:Str×Int}(x:Ab h (.ref b) q)(e:∀o,h.get? b=Z o->h'.get? b=Z o):Ab h' (.ref b) q:=by let #[_,o,t,u,n,f,d,r,c]:=x;cases f;show{b,o,t,u,n,U,e _ d,r,c}
def zdE{f:List (Str×Int)}{R:ay->ag->Prop}(W:Walks P w A.in1 I [I,l] [I] items.size (λi v=>items[i]?=Z v) (λi h=>h.IsListIter I l i/\h.IsList l items))(N:S≠I)(sl:S≠l)(lq:items.size=f.length)(nd:f.Nodup)(aM:items.size<=76)(hu:A.in1.units<cLine) :
  ∀(k i:Nat)(s:ag),items.size-i=k->i<=items.size->s.heap.IsListIter I l i->s.heap.IsList l items->Ar w s.heap S (items.toList.take i) ->
   (∀(j:Nat)(q:Str×Int),f[j]?=Z q->∃b,items[j]?=Z (.ref b)/\b≠I/\b≠S/\Ab s.heap (.ref b) q) ->
   (∀(x:ao)(M:Nat),(∀b o,b≠I->b≠S->s.heap.get? b=Z o->x.get? b=Z o)->Ar w x S items.toList->R (.ok (.ret .none)) { s with heap:=x,toks:=M }) ->
   codeAny (Fg P w) A (.builtin "set.update.loop" {[.ref S,.ref I],[]}) R s:=by
 intro k;induction k with
 |zero=>
  intro i s hk hi m g C Q hR;let e:i=items.size:=()
  subst e;show de lT ?_;rw[cP gE _];change Ff _ A.in1 (pyNext (.ref I) >>= _) _ _ s;show ba (W.done s _ _ {m,g} λx M n=>?_);change Ff _ A.in1 (ret cb) _ _ _;show bg (hR x M (λb o b1 _ e=>n b o (<-b1) e) ?_);rw[bV ?s] at C;show C.at λo e=>n S o (<-N) e
 |succ k ih=>
  intro i s hk hi m g C Q hR;let lt:i<items.size:=()
  show de lT ?_;rw[cP gE _];change Ff _ A.in1 (pyNext (.ref I) >>= _) _ _ s;show ba (W.item i s _ _ lt {m,g} λv D L hv st n=>?_);let #[b,hb,bI,bS,pb]:=Q i f[i] (bc ());rw[hb] at hv;cases hv;let al:Ar w D S (items.toList.take i):=C.at λo e=>n S o (<-N) e;let u:∀(j:Nat)(q:Str×Int),f[j]?=Z q->∃b,items[j]?=Z (.ref b)/\b≠I/\b≠S/\Ab D (.ref b) q:=λj q d=>by let #[b,g1,y,g3,g4]:=Q j q d;show{b,g1,y,g3,g4.at λo e=>n b o (<-y) e}
  let #[es,ep,t,ho,O,ok,pn,pd]:=al;let ne:es.size=i:=by let:=O.length_eq;rw[bd,bE,bQ,bE] at this;lia
  let T:Ab D (.ref b) f[i]:=pb.at λo e=>n b o (<-bI) e;change Ff _ A.in1 (holding [bC b] (setAdd S (.ref b)) >>= _) _ _ _;show ba (cF (zl0 (s:={ s with heap:=D,toks:=L }) (q:=f[i]) ho rfl ok () hu T (λe he=>?_) λh2 aI an ar t2 B y p2 aa r _=>?_))
  .let m1:e.2∈items.toList.take i:=O.mem_iff.mp (bX he);let #[j,d]:=dW m1;rw[iP] at d;let ji:j<i:=by
    obtain z|z:=i6 j i
    .show z
    .rw[aj ()] at d;cases d
   rw[ak ji,bU] at d;let #[c,g1,y,g3,g4]:=u j f[j] (bc ());rw[g1] at d;show{c,f[j],(cf d).symm,g4,λz=>bO ji ((iF nd).mp z)}
  .show bg {fC gE _,ih (i+1) _ () lt ?_ ?_ ?_ ?_ λh3 J k3 s3=>?_}
   .show st.1.at λo e=>B.2 I (cY N)\e
   .show st.2.at λo e=>B.2 l (cY sl)\e
   .show{an,ar,t2,y,?_,aa,(λz=>by rw[r.1] at z;cases z),r.2.trans pd};let e1:items.toList.take (i+1)=items.toList.take i++[bC b]:=[tO,bU,hb]\U
    rw[e1];let:=p2.map (·.2);rw[bW] at this;show this.trans (O.append_right _)
   .intro j q d;let #[c,H,G,c3,c4]:=u j q d;show{c,H,G,c3,c4.at λo e=>B.2 c c3\e}
   .show hR h3 J (λc o H G e=>k3 c o H G ?_) s3;change h2.get? c=Z o;show B.2 c G\n c o (<-H) e
def zb8(e:h.get? S=Z (Xf #[] 0 (.fresh 0 0 (zdD w)))):Ar w h S []:=
 {#[],0,_,e,gD _,{U,U,.inl {U,()}},λ_=>rfl,U}
def zj3(a:ai){Q:Aa}(h:Q (.ref s.heap.objs.size) { s with heap:=s.heap.push (Xf #[] 0 (.fresh 0 0 (zdD w))) }) :
  codeAny (Fg P w) A (.call (.builtin "set.__new__") {[.type "set",a],[]}) (wants Q E) s:=by
 show codeAny_of_tree ?_;change Ff _ A.in1 (do checkBuiltinCall "set.__new__" {[.type "set",a],[]};again (.builtin "set.__new__" {[.type "set",a],[]})) _ _ s;show ba (oH (PySem.F.newCall_set_1 a) (bg {fC sX _,de PySem.F.entry_set_new ?_}));rw[cP sX _];unfold Builtin.«set.__new__» Builtin.Frozenset.newClass;let b:=sub_set_self;let #[i,g,d,c,f]:=s;dsimp only
 wp_walk
 show rT (bg ?_);dsimp only;simp only[newObj];show ba (wpAny_alloc (bg ?_));show bg h
set_option maxRecDepth 200000 in
def Jb{items:Array ai}{qs:List (Str×Int)}{Q:Aa}(hh:A.handled=ae)(hu:A.units+8<cLine)(hl:s.heap.IsList l items)(lq:items.size=qs.length)(nd:qs.Nodup)(ar:items.size<=76)(pl:∀(j:Nat)(q:Str×Int),qs[j]?=Z q->∃b,items[j]?=Z (.ref b)/\Ab s.heap (.ref b) q)(h:∀(g:ao)(C:Nat),Ar w g s.heap.objs.size items.toList->(∀b o,s.heap.get? b=Z o->g.get? b=Z o)->Q (.ref s.heap.objs.size) { s with heap:=g,toks:=C }) :
  Ff (Fg P w) A (call (.type "set") [.ref l]) Q E s:=by
 let #[c,tl,a2]:=PySem.F.called_set.mro;let T:=PySem.F.called_set.made;let aS:=PySem.F.called_set.sub;show mR (codeAny_of_tree ?_);change Ff _ _ (callAny (.type "set") _) _ _ _;show bg {ui _ (),de PySem.F.entry_type_call ?_};rw[Around.under_plain (weight_type_call_type "set" [.ref l] []) rfl];let h1:=PySem.F.called_set.notType;let h2:=PySem.F.called_set.canCreate;let a5:=PySem.F.typeCall_set_1 (.ref l)
 repeat (any_goals (first|assumption|wp_step))
 show fV (zj3 (.ref l) (E:=E) (Q:=λG x=>G=.ref s.heap.objs.size/\x={ s with heap:=s.heap.push (Xf #[] 0 (.fresh 0 0 (zdD w))) }) {rfl,rfl}) λr x O=>?_;cases r with
 |error e=>show O
 |ok fl=>
  cases fl with
  |ret G=>
   let #[rfl,rfl]:=O;obtain⟨f,m⟩:∃f:ao,f=s.heap.push (Xf #[] 0 (.fresh 0 0 (zdD w))):={_,U};let hS:f.get? s.heap.objs.size=Z (Xf #[] 0 (.fresh 0 0 (zdD w))):=m ▸ bq _ rfl;let z:∀b o,s.heap.get? b=Z o->f.get? b=Z o:=λb o e=>m ▸ bf _ e;let i:f.objs.size=s.heap.objs.size+1:=[m,gX]\_
   rw[<-m];let hT:uq { s with heap:=f } (.ref s.heap.objs.size) "set":={_,hS,rfl};let a4:=PySem.F.called_set.init.lookup;let a6:=PySem.F.called_set.init.bind (.ref s.heap.objs.size)
   repeat (any_goals (first|assumption|wp_step))
   show fV (lO (R:=wants (λr v=>r=.none/\∃(g:ao)(C:Nat),v={ s with heap:=g,toks:=C }/\Ar w g s.heap.objs.size items.toList/\∀b o,s.heap.get? b=Z o->g.get? b=Z o) E) PySem.F.called_set.init.plain PySem.F.entry_set_init (check_set_init_1 hT ?_)) λD v d=>?_
   .let #[ol,H,J,nl,I]:=hl;let #[aM,M,N,L]:=ol;simp only at J I;subst J;subst I;let y:=z _ _ H;let aa:f.IsList l items:={_,y,U,nl,U};let aW:=PySem.F.sub_list_set;let a1:=PySem.F.sub_list_frozenset;let a3:(gg "list" == gg "dict")=ah:=()
    unfold Builtin.«set.__init__» noKeywords Builtin.Frozenset.updateFrom;generalize hPI:pyIter=PI
    wp_walk
    subst hPI;show lA aa ?_;show ba (nE ?_);let ll:l<s.heap.objs.size:=bG H;obtain⟨aI,B⟩:∃h1:ao,h1=f.push { cls:=.type "list_iterator",data:=.fields #[.ref l,.int 0 0] }:={_,U};let k:∀b o,f.get? b=Z o->aI.get? b=Z o:=λb o e=>B ▸ bf _ e;rw[<-B];show zdE (Bp (by simp[hh]) f.objs.size l (i\bO (gG ll)) items) (S:=s.heap.objs.size) (i\bO (iH _)) (dU ll) lq nd ar (by let e:A.in1.in1.in1.units=A.units+3:=rfl;lia) items.size 0 _ () (bP _) (by subst B;show{_,bq _ U,U,U}) {_,k _ _ y,U,nl,U} (zb8 (k _ _ hS)) (λj q hj=>?_) λg C k3 s3=>?_
    .let #[b,b1,b2]:=pl j q hj;let bl:b<s.heap.objs.size:=by let #[_,o,t,u,n,e,ho,r]:=b2;cases e;show bG ho
     show{b,b1,i\bO (gG bl),bO bl,b2.at λo e=>k _ _ (z _ _ e)}
    .change Ff _ _ _ _ _ _;show bg ?_;change Ff _ _ (ret cb) _ _ _;show bg {U,g,C,U,s3,λb o e=>k3 b o ?_ ?_ (k _ _ (z _ _ e))}
     .show i\bO (gG (bG e))
     .show bO (bG e)
   .cases D with
    |error e=>show d
    |ok fl₂=>
     cases fl₂ with
     |ret r=>
      let #[rfl,g,C,rfl,an,al]:=d
      repeat (any_goals (first|assumption|wp_step))
      show h _ _ an al
     |_=>show d.elim
  |_=>show O.elim
end
def zdF:Manifest.owners.lookup (String.ofList ['r','o','t','a','r','e','t','i','_','t','e','s'].reverse)=Z Manifest.sig_set_iterator:=by kernel_rfl
def Ag:Slot "set_iterator" "__next__" "set_iterator.__next__":=.of (owner:="set_iterator") (n:="__next__") (by rw[sO,nP];kernel_rfl) () () () (by first|show .inl ()|show .inr ()) (by rw[tP];kernel_rfl)
def X0:entryFor table "set_iterator.__next__"=Z Builtin.«set_iterator.__next__»:=entryFor_of_tree (by kernel_rfl)
def JC(a:ai):argsOk "set_iterator.__next__" {[a],[]}:=by unfold argsOk;rw[signature?_of (id:="set_iterator.__next__") (n:=['_','_','t','x','e','n','_','_']) (o:=['r','o','t','a','r','e','t','i','_','t','e','s']) (by kernel_rfl) zdF];kernel_rfl
def zgr:Slot "set_iterator" "__iter__" "set_iterator.__iter__":=.of (owner:="set_iterator") (n:="__iter__") (by rw[sO,nP];kernel_rfl) () () () (by first|show .inl ()|show .inr ()) (by rw[tP];kernel_rfl)
def zhP:entryFor table "set_iterator.__iter__"=Z Builtin.«dict_keyiterator.__iter__»:=entryFor_alias (id':="dict_keyiterator.__iter__") (by kernel_rfl) U () (by kernel_rfl)
def zj4(a:ai):argsOk "set_iterator.__iter__" {[a],[]}:=by unfold argsOk;rw[signature?_of (id:="set_iterator.__iter__") (n:=['_','_','r','e','t','i','_','_']) (o:=['r','o','t','a','r','e','t','i','_','t','e','s']) (by kernel_rfl) zdF];kernel_rfl
def zhQ:entryFor table "set.__iter__"=Z Builtin.«frozenset.__iter__»:=entryFor_alias (id':="frozenset.__iter__") (by kernel_rfl) U () (by kernel_rfl)
section
variable {w:ap}{t:SetTable}
def  SIt(h:ao)(I:ac)(f:ai)(i:Nat)(S:ac)(n b:Nat):Prop:=h.get? I=Z { cls:=.type "set_iterator",data:=.fields #[f,.int i 0,.ref S,.int n 0,.int b 0] }
def SIt.type(x:SIt s.heap I f i S n ep):s.TypeIs (.ref I) "set_iterator":={_,x,U}
def zgs{i n b:Nat}{Q:Aa}(x:SIt s.heap I f i S n b)(h:Q (.ref I) s):Ff (Fg P w) A (pyIter (.ref I)) Q E s:=by show mT x.type zgr (cG zgr x.type zhP ?_ (zj4 _));change Ff _ _ (ret (.ref I)) _ _ s;show bg {_,U,"set_iterator",_,x.type,Ag.lookup,h}
def zj5{Q:Bool->ag->Prop}(d:s.TypeIs (.ref S) "set")(h:Q ah s):Ff (Fg P w) A (oO (.ref S)) Q E s:=by
 unfold oO;show ba (sD d PySem.F.slot_set_len.lookup ?_);generalize hid:("set.__len__":String)=id0
 wp_delta
 rw[splitId id0=Z ("set","__len__")|>by subst hid;lia];subst hid;show ba (lV (T:="set") (b:=af) d (by rw[tP];kernel_rfl) ?_);show i9 (λc=>absurd c ()) (λ_=>?_);show i9 (λ_=>?_) (λc=>absurd () c);show ba (nN d ?_);show bg h
end
section
variable {w:ap}{t:SetTable}
def zl1{k f i d:Nat}{c:Array (Int×ai)}{Q:Option ai->ag->Prop}(b:SIt s.heap I (.int k 0) i S c.size d)(m:s.heap.get? S=Z (Xf c d t))(v:t.fits c.size=af)(l:∀(Q:Option (ai×Nat)->ag->Prop)(E:Aa),Q (Z (x,f)) s->Ff (Fg P w) A.in1 (setNext S k i d) Q E s)(q:∀h,SIt h I (.int f 0) (i+1) S c.size d->cy I s.heap h->Q (Z x) { s with heap:=h }):Ff (Fg P w) A (pyNext (.ref I)) Q E s:=by unfold pyNext;show ba (fB (cM (name:=bb "__next__") b.type Ag (cG Ag b.type X0 ?_ (JC _))));unfold Builtin.«set_iterator.__next__»;show ba (bg ?_);show ba (ic b U ?_);dsimp only;show ba (iD m U v ?_);rw[aj ?s];simp only[cK];show ba (l _ _ ?_);show ba (cI b ?s λo u j=>?_);show ba (cI (s:={ s with heap:=o }) u ?s λn r g=>?_);show bg {_,U,bg (q n (by unfold SIt;rw[r];simp[rawInt]) (j.trans g))}
def zbd{I:ac}{Q:Option ai->ag->Prop}(g:A.handled=ae)(q:∀f,(∀b o,h.get? b=Z o->f.get? b=Z o)->Q ae { s with heap:=f }) :
  Ff (Fg P w) A.in1 (do let e <-newExc (gg "StopIteration") [];raiseNew e) (λd c=>∃v,d=Fin.done (Flow.ret v)/\Ff (Fg P w) A (pure (Z v)) Q E c)
   (λe c=>Ff (Fg P w) A (do let b <-isInstance e (gg "StopIteration");if b=af then pure ae else throw e) Q E c) { s with heap:=h }:=by show ba ?_;simp only[newExc,newTuple];show ba (cC ?_ (by size_fits));show ba (m:=firstArgMember _ _) (oH (a:=cb) (by first|rfl|(simp only[firstArgMember];rfl)) ?_);show cC ?_ (by size_fits);simp only[raiseNew];show ba (oy ?_);rw[A.in1.handled=ae|>g];show ba (bg (mU ?_));show ba (lV (T:="StopIteration") (b:=af) {_,bq _ U,U} pH (bg (q _ λb o e=>bf _ (bf _ e))))
def zl2{k i f:Nat}{d:Array (Int×ai)}{Q:Option ai->ag->Prop}(m:A.handled=ae)(c:SIt s.heap I (.int k 0) i S d.size f)(n:s.heap.get? S=Z (Xf d f t))(u:t.fits d.size=af)(j:∀(Q:Option (ai×Nat)->ag->Prop)(E:Aa),Q ae s->Ff (Fg P w) A.in1 (setNext S k i f) Q E s)(q:∀h,(∀b o,b≠I->s.heap.get? b=Z o->h.get? b=Z o)->Q ae { s with heap:=h }):Ff (Fg P w) A (pyNext (.ref I)) Q E s:=by unfold pyNext;show ba (fB (cM (name:=bb "__next__") c.type Ag (cG Ag c.type X0 ?_ (JC _))));unfold Builtin.«set_iterator.__next__»;show ba (bg ?_);show ba (ic c U ?_);dsimp only;show ba (iD n U u ?_);rw[aj ?s];simp only[cK];show ba (j _ _ ?_);show ba (cI c ?s λx y g=>?_);show zbd (I:=I) m λr l=>q r λb o v e=>l b o (g.2 b v\e)
structure SDr(h:ao)(I T S:ac)(i:Nat)(es:Array (Int×ai))(ep:Nat)(t:SetTable)(π:wU):Prop where
 it:SIt h I (.ref T) i S es.size ep
 tp:h.get? T=Z { cls:=.type "tuple",data:=.seq (π.map λ(k:Nat)=>rawInt k).toArray }
 st:h.get? S=Z (Xf es ep t)
def zl3{c:Array (Int×ai)}{e:Int×ai}{Q:Option ai->ag->Prop}(D:SDr s.heap I T S i c ep t π)(d:t.fits c.size=af)(g:π[i]?=Z k)(j:c[k]?=Z e)(q:∀h,SIt h I (.ref T) (i+1) S c.size ep->cy I s.heap h->Q (Z e.2) { s with heap:=h }):Ff (Fg P w) A (pyNext (.ref I)) Q E s:=by
 let b:=D.it;unfold pyNext;show ba (fB (cM (name:=bb "__next__") b.type Ag (cG Ag b.type X0 ?_ (JC _))));unfold Builtin.«set_iterator.__next__»;show ba (bg ?_);show ba (ic b U ?_);dsimp only;show ba (iD D.st U d ?_);rw[aj ?s];show ba (nF D.tp U ?_);let n:(π.map λ(k:Nat)=>rawInt k).toArray[i]?=Z (rawInt k):=[nR,bn,g]\U
 simp only[cK,n];change Ff _ _ (setNextDrawn S (Int.toNat k) ep >>= _) _ _ _;rw[cK];show ba ?_;unfold setNextDrawn;show ba (dR D.st U d ?_);simp only[bne_self_eq_false,cA,if_false,j];show bg ?_;show ba (cI b ?s λl m f=>?_);show bg {_,U,bg (q l (by unfold SIt;rw[m];simp[rawInt]) f)}
def zl4{d:Array (Int×ai)}{Q:Option ai->ag->Prop}(n:A.handled=ae)(D:SDr s.heap I T S i d ep t π)(x:t.fits d.size=af)(m:π.length<=i)(q:∀h,(∀b o,b≠I->s.heap.get? b=Z o->h.get? b=Z o)->Q ae { s with heap:=h }):Ff (Fg P w) A (pyNext (.ref I)) Q E s:=by
 let c:=D.it;unfold pyNext;show ba (fB (cM (name:=bb "__next__") c.type Ag (cG Ag c.type X0 ?_ (JC _))));unfold Builtin.«set_iterator.__next__»;show ba (bg ?_);show ba (ic c U ?_);dsimp only;show ba (iD D.st U x ?_);rw[aj ?s];show ba (nF D.tp U ?_);let y:(π.map λ(k:Nat)=>rawInt k).toArray[i]?=ae:=[nR,bn,bT m]\U
 simp only[cK,y];show ba (cI c ?s λr v j=>?_);show ba (cI (s:={ s with heap:=r }) v ?s λz B g=>?_);show zbd (I:=I) n λu l=>q u λb o f e=>l b o ([g.2 b f,j.2 b f]\e)
def zj6(G:A.handled=ae){I T S:ac}(C:T≠I)(B:S≠I){ep:Nat}{f:Array (Int×ai)}{d:wU}(z:t.fits f.size=af)(m:d.Perm (cH f.size)) :
  Walks P w A I [I,T,S] [I] f.size (λi v=>∃k e,d[i]?=Z k/\f[k]?=Z e/\v=e.2) (λi h=>SDr h I T S i f ep t d) where
 sub:=λb g=>by simp at g;simp[g]
 frame:=λ_ _ _ c q=>{q I ?s _ c.it,q T ?s _ c.tp,q S ?s _ c.st}
 item:=λi s Q E L c j=>by
  let J:d.length=f.size:=by let:=m.length_eq;simpa using this
  let y:d[i]?=Z d[i]:=bc ();let D:d[i]<f.size:=by let:=m.mem_iff.mp (cL (l:=d) (n:=i) ());simpa using this
  let x:f[d[i]]?=Z f[d[i]]:=b9 D;show zl3 c z y x λu H r=>j _ u s.toks {_,_,y,x,U} {H,r.2 T C\c.tp,r.2 S B\c.st} λb o g e=>r.2 b (<-g)\e
 done:=λs Q E c j=>zl4 G c z (by let:=m.length_eq;simp at this;lia) λu k=>j u s.toks λb o g e=>k b o (<-g) e
 self:=λ_ _ _ _ c j=>zgs c.it j
end
def Xg{b:Type}:∀ {l:List b}{i:Nat}{x:b},l[i]?=Z x->(x::l.eraseIdx i).Perm l
 |[],i,x,h=>by simp at h
 |y::l,0,x,h=>by simp only[bY,cr] at h;subst h;show gD _
 |y::l,i+1,x,h=>by let c:=Xg (l:=l) (i:=i) (x:=x) (<-h);show(tM ..).trans (c.cons y)
def zgt{c:Type}(f:Nat->Nat):∀(n k:Nat)(l:List c)(b:Array c),l.length=n->(pickOrder.go f n k l b).toList.Perm (b.toList++l)
 |0,k,l,b,h=>by let:l=[]:=dJ h;subst this;show cV\gD _
 |n+1,k,l,b,h=>by let d:f k%l.length<l.length:=oC _ ();let e:l[f k%l.length]?=Z l[f k%l.length]:=bc d;unfold pickOrder.go;rw[e];dsimp only;show(zgt f n (k+1) _ _ (oW d\())).trans ?_;show [pX,cX]\(Xg e).append_left _
def zj7{c:Type}(f:Nat->Nat)(b:Array c):(pickOrder f b).toList.Perm b.toList:=by show zgt f b.size 0 b.toList #[] ?s
section
variable {w:ap}{t:SetTable}
def zl5{Q:Nat->ag->Prop}(b:n≠0)(h:∀i d,i<n->Q i { s with drawn:=d }):Ff (Fg P w) A (choose src n) Q E s:=λ_ _ _=>by unfold choose;rw[Sem.wp_choose];show{b,?_};show h _ _ (oC _ (Nat.pos_of_ne_zero b))
def zdG{g:Type}:∀(n:Nat)(b:List g)(s:ag)(Q:List g->ag->Prop),b.length=n->(∀c d,c.Perm b->Q c { s with drawn:=d })->Ff (Fg P w) A (drawOrder n b) Q E s
 |0,b,s,Q,h,q=>by let:b=[]:=dJ h;subst this;unfold drawOrder;show bg (q [] s.drawn (gD _))
 |n+1,[],s,Q,h,q=>by cases h
 |n+1,x::b,s,Q,h,q=>by unfold drawOrder;show ba (zl5 ?s λi d f=>?_);rw[bc f];dsimp only;show ba (zdG n _ _ _ (by rw[oW f];simp at h ⊢;lia) λc j p=>?_);show bg (q _ j ((p.cons _).trans (Xg (bc f))))
def zdH(C:A.handled=ae){I S:ac}(B:S≠I){j:Nat}{f:Array (Int×ai)}(x:t.fits f.size=af)(d:zQ)(lo:d.length=f.size)(m:Nat->Nat)(y:∀(i:Nat)(v:ai)(s:ag)(A:av),s.heap.get? S=Z (Xf f j t)->d[i]?=Z v->∀(Q:Option (ai×Nat)->ag->Prop)(E:Aa),Q (Z (v,m (i+1))) s->Ff (Fg P w) A (setNext S (m i) i j) Q E s)(z:∀(s:ag)(A:av),s.heap.get? S=Z (Xf f j t)->∀(Q:Option (ai×Nat)->ag->Prop)(E:Aa),Q ae s->Ff (Fg P w) A (setNext S (m f.size) f.size j) Q E s) :
  Walks P w A I [I,S] [I] f.size (λi v=>d[i]?=Z v) (λi h=>SIt h I (.int (m i) 0) i S f.size j/\h.get? S=Z (Xf f j t)) where
 sub:=λb g=>by simp at g;simp[g]
 frame:=λ_ _ _ c r=>{r I ?s _ c.1,r S ?s _ c.2}
 item:=λi s Q E G c l=>by let q:d[i]?=Z d[i]:=bc ();show zl1 c.1 c.2 x (y i _ s _ c.2 q) λn D u=>l _ n s.toks q {D,u.2 S B\c.2} λb o g e=>u.2 b (<-g)\e
 done:=λs Q E c l=>zl2 C c.1 c.2 x (z s _ c.2) λn k=>l n s.toks λb o g e=>k b o (<-g) e
 self:=λ_ _ _ _ c l=>zgs c.1 l
def Yz{Q:Bool->ag->Prop}(h:Q (w.params.followText "set-order") s):Ff (Fg P w) A setsByText Q E s:=by unfold setsByText;show ba (rT (bg h))
def zgu{S:ac}{k i c:Nat}{b:Array (Int×ai)}(g:w.params.followText "set-order"=af)(d:s.heap.get? S=Z (Xf b c t))(f:t.fits b.size=af){Q:Option (ai×Nat)->ag->Prop}
  (q:Q ((((pickOrder (w.params.setOrder S c) b).toList.map (·.2))[i]?).map λv=>(v,k)) s):Ff (Fg P w) A (setNext S k i c) Q E s:=by unfold setNext;show ba (dR d U f ?_);show ba (Yz ?_);rw[g,ak rfl];dsimp only;rw[aj ?s];unfold setWalk;show ba (ba (dR d U f ?_));show ba (Yz ?_);rw[g,ak rfl];show ba (rT (bg ?_));show bg ?_;rw[bn,bU,Option.map_map] at q;show q
def zgv{S:ac}{k i d:Nat}{b:Array (Int×ai)}(h:w.params.followText "set-order"=ah)(f:s.heap.get? S=Z (Xf b d t))(g:t.fits b.size=af)(l:b.size<=1)(ld:t.led=af){Q:Option (ai×Nat)->ag->Prop}
  (q:Q (match b[iL t.place k]?,t.place[iL t.place k]? with|some (_,x),Z j=>Z (x,j+1)|_,_=>ae) s):Ff (Fg P w) A (setNext S k i d) Q E s:=by unfold setNext;show ba (dR f U g ?_);show ba (Yz ?_);rw[h,aj bL];dsimp only;show i9 (λc=>absurd c (¬ ((!t.plain&&decide (b.size > 1))=af)|>by simp;lia)) λ_=>?_;show ba ?_;change Ff _ _ (if (!t.led && !b.isEmpty)=af then _ else _) _ _ _;rw[ld,aj ?s];show bg ?_;show bg q
end
section
variable {w:ap}{t:SetTable}
def zj8(j:Nat):iL #[j] 0=0:=by simp[iL,uK]
def zj9(j:Nat):iL #[j] (j+1)=1:=by simp[iL,uK]
def Walks.weak{I:ac}{c b:List ac}{n:Nat}{f d:Nat->ai->Prop}{St:Nat->ao->Prop}(W:Walks P w A I c b n f St)(h:∀i v,f i v->d i v):Walks P w A I c b n d St where
 sub:=W.sub
 frame:=W.frame
 item:=λi s Q E k j l=>W.item i s Q E k j λv m g p=>l v m g (h i v p)
 done:=W.done
 self:=W.self
def zka{S:ac}{ep:Nat}{f:Array (Int×ai)}(g:s.heap.get? S=Z (Xf f ep t))(h:AB t f.size)(pn:t.plain=af->f.size=0)(ld:t.led=zdD w)(M:A.handled=ae){Q:Aa}
  (q:∀(l:ao) d (I:ac)(x:zQ)(fp:List ac)(St:Nat->ao->Prop),(∀b o,s.heap.get? b=Z o->l.get? b=Z o)->s.heap.objs.size<=I->x.Perm (f.toList.map (·.2))->(∀b∈fp,b=S\/s.heap.objs.size<=b) ->
   Walks P w A I fp [I] f.size (λi v=>x[i]?=Z v) St->St 0 l->Q (.ref I) { s with heap:=l,drawn:=d }):Ff (Fg P w) A (pyIter (.ref S)) Q E s:=by
 let hT:s.TypeIs (.ref S) "set":={_,g,U};let lS:S<s.heap.objs.size:=bG g;show mT hT sY (cG sY hT zhQ ?_ (PySem.F.args_set_iter_1 _));unfold Builtin.«frozenset.__iter__»;show ba (m:=Builtin.Frozenset.slot0 _ _) (bg ?_);show ba (m:=Builtin.Frozenset.sizeOf S) (ba (iD g U h.fits (bg ?_)));unfold setDrawn;show ba (ba (dR g U h.fits ?_));show ba (Yz (bg ?_));let le:f.size<=127:=by let:=h.lt;obtain e|e|e:=h.msk <;> lia
 let zl:(128:Nat)<=Fb:=()
 show i9 (λc=>?_) λc=>?_
 .let L:(!w.params.followText "set-order" && (!t.plain&&decide (f.size > 1)))=af:=c;show ba (zdG f.size (cH f.size) s _ ?s λr d u=>?_);let lp:r.length=f.size:=by let:=u.length_eq;simpa using this
  show ba (pE ?_ ([bd,lp]\()));let N:=bf { cls:=gg "tuple",data:=.seq (r.map λ(i:Nat)=>rawInt i).toArray } g;show ba (wpAny_setEpoch_of (s:={ s with heap:=s.heap.push { cls:=.type "tuple",data:=.seq (r.map λ(i:Nat)=>rawInt i).toArray },drawn:=d }) N rfl h.fits ?_);show ba (m:=newFields _ _) (cC (bg {_,U,"set_iterator",_,{_,bq _ U,U},Ag.lookup,?_}));obtain⟨l,J⟩:∃l:ao,l=s.heap.push { cls:=.type "tuple",data:=.seq (r.map λ(i:Nat)=>rawInt i).toArray }:={_,U};let G:l.objs.size=s.heap.objs.size+1:=[J,gX]\_
  let gT:l.get? s.heap.objs.size=Z { cls:=.type "tuple",data:=.seq (r.map λ(i:Nat)=>rawInt i).toArray }:=J ▸ bq _ rfl;let k1:∀b o,s.heap.get? b=Z o->l.get? b=Z o:=λb o e=>J ▸ bf _ e;rw[<-J];let wk:=zj6 (P:=P) (w:=w) (I:=l.objs.size) (T:=s.heap.objs.size) (S:=S) (ep:=ep) M (G\bO (iH _)) (G\bO (gG lS)) h.fits u;show q _ d l.objs.size (r.map λk=>(f.toList.map (·.2)).getD k cb) _ _ (λb o e=>bf _ (k1 b o e)) (G\iS _) ?_ ?_ (Walks.weak wk λi v=>?_) {bq _ U,bf _ gT,bf _ (k1 _ _ g)}
  .show(u.map _).trans ?_;let e2:(cH f.size).map (λk=>(f.toList.map (·.2)).getD k cb)=f.toList.map (·.2):=by
    apply uX
    .simp
    .intro i l O;simp[bA,bc O];simp at O;rw[b9 O];rfl
   rw[e2]
  .intro b C;simp only[bo,cZ,or_false] at C;obtain rfl|rfl|rfl:=C
   .show .inr (G\iS _)
   .show .inr (bh _)
   .show .inl rfl
  .rintro⟨k,e,a1,a2,rfl⟩;rw[bn,a1];simp[bA,a2]
 .let L:¬ ((!w.params.followText "set-order" && (!t.plain&&decide (f.size > 1)))=af):=c;show ba (bg ?_);show ba (wpAny_setEpoch_of g U h.fits ?_);show ba (m:=newFields _ _) (cC (bg {_,U,"set_iterator",_,{_,bq _ U,U},Ag.lookup,?_}));let sI:S≠s.heap.objs.size:=bO lS;let D:∀b∈[s.heap.objs.size,S],b=S\/s.heap.objs.size<=b:=λb C=>by
   simp only[bo,cZ,or_false] at C;obtain rfl|rfl:=C
   .show .inr (bh _)
   .show .inl rfl
  by_cases n:w.params.followText "set-order"=af
  .let u:=(zj7 (w.params.setOrder S ep) f).map (·.2);let lo:((pickOrder (w.params.setOrder S ep) f).toList.map (·.2)).length=f.size:=by let:=u.length_eq;rw[this];simp
   show q _ s.drawn _ _ _ _ (λb o e=>bf _ e) (bh _) u D (zdH M sI h.fits _ lo (λ_=>0) (λi v s A g B Q E q=>zgu n g h.fits (B\q)) λs A g Q E q=>zgu n g h.fits (bT (lo\bh _)\q)) {bq _ U,bf _ g}
  .let n:w.params.followText "set-order"=ah:=<-n
   let sm:f.size<=1:=by
    cases hp:t.plain with
    |true=>let:=pn hp;lia
    |false=>rw[n,hp] at L;simp at L;show L
   let y:t.led=af:=by rw[ld];unfold zdD;rw[n];rfl
   show q _ s.drawn _ (f.toList.map (·.2)) _ _ (λb o e=>bf _ e) (bh _) (gD _) D (zdH M sI h.fits _ ?s (λi=>if i=0 then 0 else t.place.getD 0 0+1) (λi v s A g B Q E q=>?_) λs A g Q E q=>?_) {bq _ U,bf _ g}
   .let i0:i<f.size:=by let:=(bi.mp B).1;simpa using this
    let #[j,H]:=nS.mp (t.place.size=1|>h.sz\());let #[e,he]:=nS.mp (f.size=1|>());let i1:i=0:=()
    subst i1;subst he;simp only[bB,bY,cr] at B;subst B;show zgv n g h.fits sm y ?_;rw[ak U,H,zj8];rw[H] at q;show q
   .show zgv n g h.fits sm y ?_;obtain z|z:=gW f.size
    .show fO (xs:=f) ()\q
    .let #[j,H]:=nS.mp (t.place.size=1|>h.sz\());rw[aj (),H];show [(#[j]:ANt).getD 0 0=j|>rfl,zj9,fO (xs:=f) ()]\q
def zdI{R:zQ->ag->Prop}(hS:Ar w s.heap S vs)(hh:A.handled=ae)(h:∀(m:ao)(H:Nat) d (ord:zQ),(∀b o,s.heap.get? b=Z o->m.get? b=Z o)->ord.Perm vs->R ord { s with heap:=m,toks:=H,drawn:=d }):Ff (Fg P w) A (collect (.ref S)) R E s:=by
 let #[Q,ep,t,N,pm,ok,pn,ld]:=hS;let le:Q.size<=127:=by let:=ok.lt;obtain e|e|e:=ok.msk <;> lia
 let zl:(128:Nat)<=Fb:=()
 unfold collect;show ba (nE (de on ?_));rw[cP i7 _];change Ff _ A.in1 (newList [] >>= λl=>again (.builtin "list.__iadd__" {[l,.ref S],[]})) _ _ s;show ba (cC ?_);show bg {fC fD _,de rQ ?_};rw[cP fD _];obtain⟨G,e0⟩:∃G:ao,G=s.heap.push { cls:=.type "list",data:=.seq ([]:zQ).toArray }:={_,U};rw[<-e0];let M:∀b o,s.heap.get? b=Z o->G.get? b=Z o:=λb o e=>e0 ▸ bf _ e;let hL:G.get? s.heap.objs.size=Z { cls:=.type "list",data:=.seq #[] }:=e0 ▸ bq _ rfl;let lS:S<s.heap.objs.size:=bG N;let L0:s.heap.objs.size<G.objs.size:=bG hL;change Ff _ A.in1 (dh (.ref s.heap.objs.size) (.ref S) (.ref s.heap.objs.size)) _ _ _;unfold dh;show ba (nN (s:={ s with heap:=G }) (T:="set") {_,M _ _ N,rfl} ?_);let D:iu (.ref s.heap.objs.size) (.ref S)=ah:=by simp[iu,(dU lS:s.heap.objs.size≠S)]
 simp only[D,(gg "set" == gg "list")=ah|>(),(gg "set" == gg "tuple")=ah|>(),rj,cA,if_false];show ba (zka (P:=P) (A:=A.in1) (s:={ s with heap:=G }) (M _ _ N) ok (λz=>by let:=pn z;subst this;let:=pm.length_eq;simpa using this) ld hh λD d I ord fp St k1 lI po pf W st=>?_);let C:=k1 _ _ hL;let Lf:s.heap.objs.size ∉ fp:=λz=>by
  obtain e|e:=pf _ z
  .show absurd e (dU lS)
  .show absurd L0 (Nat.not_lt.mpr e)
 let aa:∀(j:ao)(c:Nat),St 0 j->(∀b o,b≠s.heap.objs.size->D.get? b=Z o->j.get? b=Z o)->j.get? s.heap.objs.size=Z { cls:=.type "list",data:=.seq #[] c } ->
   codeAny (Fg P w) A (.builtin "list.extend.loop" {[.ref s.heap.objs.size,.ref I,.ref s.heap.objs.size],[]}) (λ(q:ay)(k:ag)=>∃(m:ao)(H:Nat)(g:Array ai)(c:Nat),q=.ok (.ret (.ref s.heap.objs.size))/\k={ s with heap:=m,toks:=H,drawn:=d } /\
    (∀b o,s.heap.get? b=Z o->m.get? b=Z o)/\m.get? s.heap.objs.size=Z { cls:=.type "list",dict:=ae,data:=.seq g c,slots:=#[] }/\ItemsOf (λi v=>ord[i]?=Z v) g Q.size) { s with heap:=j,drawn:=d }:=λj c u k2 B=>by
  show codeAny_extend_loopS W.toS () s.heap.objs.size Lf _ Q.size 0 _ #[] c U (bP _) u B (ItemsOf.nil _) λk L c' hm y f=>?_;show{k.heap,k.toks,L,c',U,Moved.eq_with hm,λb o e=>?_,y,f};let bl:=bG e;show hm.heap b o (λz=>?_) (k2 b o (bO bl) (k1 _ _ (M _ _ e)));obtain z|z:=bo.mp z
  .show absurd z (bO bl)
  .show absurd (bu.mp z) (bO (cn (sC bl L0) lI))
 let n:∀(j:ao)(c:Nat),St 0 j->(∀b o,b≠s.heap.objs.size->D.get? b=Z o->j.get? b=Z o)->j.get? s.heap.objs.size=Z { cls:=.type "list",data:=.seq #[] c } ->
   codeAny (Fg P w) A (.builtin "list.extend.loop" {[.ref s.heap.objs.size,.ref I,.ref s.heap.objs.size],[]}) (λr k=>match r with|.ok (.ret v)=>Ff (Fg P w) A (match v with|bC a=>do { let o <-load a;match o.data with|Data.seq xs epoch=>pure xs.toList|x=>unsupported "internal:collect" }|x=>unsupported "internal:collect") R E k|.ok a=>False|.error e=>E e k) { s with heap:=j,drawn:=d }:=λj c u k2 B=>by
  show fV (aa j c u k2 B) λq k x=>?_;let #[m,H,g,c,rfl,rfl,hk,y,f]:=x;change Ff _ A (load s.heap.objs.size >>= _) _ _ _;show ba (pM y ?_);let ea:g.toList=ord:=by
   let lo:ord.length=Q.size:=by let:=(po.trans (gD _)).length_eq;simpa using this
   apply dq;intro i;obtain z|z:=i6 i g.size
   .show [bU,b9 z]\(f.2 i _ (b9 z)).symm
   .rw[bT (<-z),bT ([lo,<-f.1]\z)]
  show bg (ea ▸ h m H d g.toList hk (ea ▸ po.trans pm))
 show ba (cF (zj5 {_,k1 _ _ (M _ _ N),U} ?_));show i9 (λ_=>?_) λ_=>bg {fC dQ _,n D _ st (λ_ _ _ e=>e) C};show ba (oE (ba ?_));change Ff _ _ (updateSeq s.heap.objs.size (·.push .none) >>= λ_=>updateSeq s.heap.objs.size (·.pop)) _ _ _;show ba (i8 C U ?_);let g2:=cq (dN (·.push cb)) C rfl;show i8 (hz:=by seq_fits) g2 U ?_;let g3:=cq (dN (·.pop)) g2 rfl;let J:∀b o,b≠s.heap.objs.size->D.get? b=Z o->((D.update s.heap.objs.size (dN (·.push cb))).update s.heap.objs.size (dN (·.pop))).get? b=Z o:=λb o O e=>(cg _ _ (cY O)).trans ((cg _ _ (cY O)).trans e);show bg {fC dQ _,n _ _ (W.frame 0 _ _ st λb O o e=>J b o (λz=>Lf (z ▸ O)) e) J g3}
end
section
variable {w:ap}
def zdJ{l:ac}{C:zQ->ag->Prop}{Q:Aa}(t:∀R:zQ->ag->Prop,(∀f d,C f d->R f d)->Ff (Fg P w) A.in1 (collect (.ref l)) R E s)(rest:∀(f:zQ)(d:ag),C f d->∃(κ:SortKind)(lt:Nat->Nat->Bool),f.length<64/\SO lt f.length /\
   (2<=f.length->∀(h:ao)(Q:SortKind->ag->Prop),(∀b o,d.heap.get? b=Z o->h.get? b=Z o)->Q κ { d with heap:=h }->Ff (Fg P w) A.in1.in1 (keyKind' f.toArray) Q (λ_ _=>False) { d with heap:=h }) /\
   (∀(h:ao) i j C,(∀b o,d.heap.get? b=Z o->h.get? b=Z o)->i<f.length->j<f.length->i≠j->C (lt i j) { d with heap:=h }->kas_ask P w A.in1.in1 κ f i j C { d with heap:=h }) /\
   ∀(g:ao)(p:ANt)(c:Nat),(∀b o,d.heap.get? b=Z o->g.get? b=Z o)->g.get? d.heap.objs.size=Z (seqObj "list" (vy f p).toArray c)->PP f.length p->ZD lt p f.length->Q (.ref d.heap.objs.size) { d with heap:=g }) :
  Ff (Fg P w) A (call (.builtin "sorted") [.ref l]) Q E s:=by
 show lQ tV sK sL (sM _) ?_;unfold Builtin.«sorted»;show ba (m:=checkCount "sorted" 1 1 _) (bg ?_);show ba (t _ λf d J=>?_);let #[κ,lt,v,S,D,I,x]:=rest f d J;show ba (ou ?_ (cp\()));let r:(d.heap.push (seqObj "list" f.toArray 0)).get? d.heap.objs.size=Z (seqObj "list" f.toArray 0):=bq _ rfl;let n:∀g,Kp d.heap.objs.size (d.heap.push (seqObj "list" f.toArray 0)) g->∀b o,d.heap.get? b=Z o->g.get? b=Z o:=λg k b o e=>k b o (bO (bG e)) (bf _ e);show ba (cF (cG pF {_,r,U} oN (Y9 (s:={ d with heap:=d.heap.push (seqObj "list" f.toArray 0) }) r v (κ:=κ) (lt:=lt) (λL g M k q=>?_) (λg i j C k H G u q=>?_) S λg p c k B z y=>?_) (pG _)))
 .show D L g M (n g k) q
 .show I g i j C (n g k) H G u q
 .show{_,U,bg {_,U,x g p c (n g k) B z y}}
end
def zkb{i j:Type}{f:i->j}{l:List j}:∀ {m:List i},l.Perm (m.map f)->∃g:List i,g.Perm m/\l=g.map f:=by
 suffices H:∀ {l k:List j},l.Perm k->∀m:List i,k=m.map f->∃g:List i,g.Perm m/\l=g.map f from λ{m} h=>H h m rfl
 intro l k h;induction h with
 |nil=>intro m e;show{m,gD _,e}
 |cons x _ ih=>
  intro m e;cases m with
  |nil=>cases e
  |cons y m=>
   let #[g,a,b]:=ih m (by injection e);show{y::g,a.cons y,by rw[b,bB];congr 1;injection e}
 |swap x y l=>
  intro m e
  match m,e with
  |a::b::m,e=>
   injection e with e1 e2;injection e2 with e2 e3;show{b::a::m,tM ..,[bB,bB,<-e1,<-e2,<-e3]\_}
 |trans _ _ ih1 ih2=>
  intro m e;let #[o,a,b]:=ih2 m e;let #[n,c,d]:=ih1 o b;show{n,c.trans a,d}
abbrev zhR(H:Hp)(b:List (ac×Pl)):Prop:=∀n∈b,H n.1=Z (.tup [.str n.2.1,.int n.2.2])
def  zkc(w:ap)(a:ac)(b:List (ac×Pl)):HO:=.ext λh=>Ar w h a (b.map λn=>bC n.1)
abbrev zkd(w:ap)(K:bz):RC:=λc H Q=>∃r b,c=[.ref r]/\aN K H r (b.map λn=>V.ref n.1)/\zhR H b/\(b.map (·.2)).Nodup/\b.length<64/\∀l,H l=ae->Q (.ref l) (upd H l (zkc w l b))
abbrev zm5(w:ap):RC:=λh H Q=>∃a d,h=[.ref a]/\H a=Z (zkc w a d)/\zhR H d/\(d.map (·.2)).Nodup/\d.length<64 /\
 ∀l g c f,aH H f->H l=ae->f l=Z (.lst g)->B0 (zfj f) g c->c.Pairwise (λa b=>yg a b=af)->c.Perm (d.map (·.2))->Q (.ref l) f
def zke{c:Type}{f:c->ac}:∀ {b:List c}{d:zQ},aO (b.map λn=>V.ref (f n)) d->d=b.map λn=>bC (f n)
 |[],_,h=>by cases h;rfl
 |p::b,_,h=>by
  cases h with
  |cons a r=>
   cases a;rw[zke r];rfl
def zbe{c:Type}{f:c->ac}:∀ {b:List c},aO (b.map λn=>V.ref (f n)) (b.map λn=>bC (f n))
 |[]=>.nil
 |p::b=>.cons U zbe
def aJ.drew{σ:St}{H:Hp}{s:ag}{d:Drawn}(I:aJ X aa σ H s):aJ X aa σ H { s with drawn:=d }:={I.ok,I.os,I.bare,I.base,I.loc,I.cell,I.free,I.freeC,I.pin,I.hok,I.len}
def zhS(M:X.c=af)(G:X.A.units+8<cLine):wn X (.type "set") (zkd X.w X.K):=by
 intro aa s σ H l us Q I y h;let #[r,d,rfl,J,z,D,N,q]:=h;let #[u,rfl,x]:=xD y;cases x;let #[l,w,#[o,n,c,C,_,B],hz]:=I.list J;let ev:=zke (f:=λn:ac×Pl=>n.1) w;subst ev;show Jb (qs:=d.map (·.2)) (I.ok.hd M) G {o,c,C,n,B} ?s D (by simp;lia) (λj q i=>?_) λO v k L=>?_
 .rw[bn] at i;let #[m,g,rfl]:=cj.mp i;show{m.1,[nR,bn,g]\U,XR I (z m (b7 g))}
 .let T:H s.heap.objs.size=ae:=I.hok.fresh (bh _);let ex:∃o,O.get? s.heap.objs.size=Z o:=by let #[es,ep,t,c,_]:=k;show{_,c}
  show{.ref s.heap.objs.size,_,I.laid (a:=s.heap.objs.size) (o:=zkc X.w s.heap.objs.size d) (t':=v) L (bh _) {k,ex,λh1 h2 a b=>Ar.at a b},U,q _ T}
def zhT(hc:X.c=af):wn X (.builtin "sorted") (zm5 X.w):=by
 intro aa s σ H vs us Q I r0 h;let #[a,J,rfl,ha,pp,nd,aS,q]:=h;let #[u,rfl,ru]:=xD r0;cases ru;let hS:Ar X.w s.heap a (J.map λn=>bC n.1):=(aQ X.p X.w H s.heap a (zkc X.w a J)|>I.hok a _ ha).1;let hh:X.A.handled=ae:=I.ok.hd hc;show zdJ (C:=λvs g=>∃ps':List (ac×Pl),ps'.Perm J/\vs=ps'.map (λn=>bC n.1)/\(∀b o,s.heap.get? b=Z o->g.heap.get? b=Z o)/\aJ X aa σ H g) (λR hR=>?_) λvs g ⟨ps',B,ev,k1,I1⟩=>?_
 .show zdI hS hh λh' tk d aM kp po=>?_;let #[ps',B,e]:=zkb po;show hR _ _ {ps',B,e,kp,(I.kept (t':=tk) kp).drew}
 .subst ev;let N:(ps'.map (·.2)).Nodup:=((B.map (·.2)).nodup_iff).mpr nd;let lp:ps'.length=J.length:=B.length_eq;let so:=Xa N;let M:zhR H ps':=λn hn=>pp n (B.mem_iff.mp hn);let x:∀ {h:ao},(∀b o,g.heap.get? b=Z o->h.get? b=Z o)->∀(i:Nat)(v:ai)(q:Pl),(ps'.map λn=>bC n.1)[i]?=Z v->(ps'.map (·.2))[i]?=Z q->Ab h v q:=λ{h} k i v q hv O=>by rw[bn] at hv O;let #[m,hm,rfl]:=cj.mp hv;rw[hm] at O;cases O;show(XR I1 (M m (b7 hm))).keep k
  let ll:(ps'.map λn=>bC n.1).length=(ps'.map (·.2)).length:=?s
  show{tuples' af,λi j=>yg ((ps'.map (·.2)).getD i (("",0):Pl)) ((ps'.map (·.2)).getD j (("",0):Pl)),by simp;lia,ll\so,λh2 h Q' k T=>?_,λh i j C k t hj ar T=>?_,λh' p c k2 hD hp hr=>?_}
  .show Kh (s:={ g with heap:=h }) (qs:=ps'.map (·.2)) ll (λi v q hv O=>x k i v q hv O) () T
  .let aI:i<(ps'.map (·.2)).length:=<-t
   let an:j<(ps'.map (·.2)).length:=<-hj
   let e1:(ps'.map (·.2))[i]?=Z (ps'.map (·.2))[i]:=bc aI;let G:(ps'.map (·.2))[j]?=Z (ps'.map (·.2))[j]:=bc an;let g1:(ps'.map λn=>bC n.1)[i]?=Z ((ps'.map λn=>bC n.1).getD i cb):=[bA,bc t]\U
   let g2:(ps'.map λn=>bC n.1)[j]?=Z ((ps'.map λn=>bC n.1).getD j cb):=[bA,bc hj]\U
   let n1:(ps'.map (·.2)).getD i (("",0):Pl)=(ps'.map (·.2))[i]:=[bA,e1]\U
   let n2:(ps'.map (·.2)).getD j (("",0):Pl)=(ps'.map (·.2))[j]:=[bA,G]\U
   simp only[n1,n2] at T;show zaW (P:=X.p) (w:=X.w) (A:=X.A.in1.in1) (E:=λ_ _=>False) (s:={ g with heap:=h }) (Q:=C) (x k i _ _ g1 e1) (x k j _ _ g2 G) T λz=>ar ((iF N).mp z)
  .let l:PP ps'.length p:=<-hp
   let fr:H g.heap.objs.size=ae:=I1.hok.fresh (bh _);let sz:=l.size;let eo:vy (ps'.map λn=>bC n.1) p=(p.toList.map λi=>ps'.getD i (0,(("",0):Pl))).map λn=>bC n.1:=by unfold vy;rw[fh];show fR λi t=>?_;let D:=l.lt i t;simp[bA,bn,bc D]
   let L:zhR H (p.toList.map λi=>ps'.getD i (0,(("",0):Pl))):=λn hn=>by let #[i,t,rfl]:=bM.mp hn;let D:=l.lt i t;show [bA,bc D]\M _ (cL D)
   let y:(p.toList.map λi=>ps'.getD i (0,(("",0):Pl))).Perm ps':=by show(l.list.map _).trans ?_;rw[Kn]
   obtain⟨f,G⟩:∃f,f=p.toList.map λi=>ps'.getD i (0,(("",0):Pl)):={_,U};rw[eo,<-G] at hD;rw[<-G] at L y;let I2:aJ X aa σ (upd H g.heap.objs.size (.lst (f.map λn=>V.ref n.1))) { g with heap:=h' }:=I1.laid (s:=g) (a:=g.heap.objs.size) (o:=.lst (f.map λn=>V.ref n.1)) (t':=g.toks) k2 (bh _)
    {[bd,y.length_eq]\bR (():_<=64) (),f.map λn=>bC n.1,c,zbe,hD}
   let S2:aH H (upd H g.heap.objs.size (.lst (f.map λn=>V.ref n.1))):=hZ _ fr;let pr:∀ {r:List (ac×Pl)},zhR H r->B0 (zfj (upd H g.heap.objs.size (.lst (f.map λn=>V.ref n.1)))) (r.map λn=>V.ref n.1) (r.map (·.2)):=λ{r} h=>by
    induction r with
    |nil=>show .nil
    |cons n J ih=>show .cons {n.1,U,S2 _ _ (h n bp)} (ih λm hm=>h m (br _ hm))
   show{.ref g.heap.objs.size,_,I2,U,q _ _ (f.map (·.2)) _ S2 fr zh (pr L) ?_ ((y.trans B).map (·.2))};let al:ZD (λi j=>yg ((ps'.map (·.2)).getD i (("",0):Pl)) ((ps'.map (·.2)).getD j (("",0):Pl))) p ps'.length:=<-hr
   let pw:=Ko (F:=yg) l al;let eq:f.map (·.2)=p.toList.map λi=>(ps'.map (·.2)).getD i (("",0):Pl):=by rw[G,fh];show fR λi t=>?_;let D:=l.lt i t;simp[bA,bn,bc D]
   show eq\pw
def  zkf(K:bz)(m:TA):TE:=λj H Q=>m j H λk f=>∃r i c,k=[.ref r]/\aN K f r i/\B0 (zfj f) i c/\c.Nodup/\c.length<64 /\
 ∀l h d g,aH f g->f l=ae->g l=Z (.lst h)->B0 (zfj g) h d->d.Pairwise (λa b=>yg a b=af)->d.Perm c->Q (.ref l) g
def zbf{H:Hp}:∀ {d:LV}{c:List Pl},B0 (zfj H) d c->∃b:List (ac×Pl),d=b.map (λn=>V.ref n.1)/\c=b.map (·.2)/\zhR H b
 |_,_,.nil=>{[],U,U,λ_ h=>by cases h}
 |_,_,.cons a r=>by
  let #[p,rfl,f]:=a;let #[b,i,g,h]:=zbf r;show{(p,_)::b,i\U,g\U,λn hn=>?_};obtain rfl|hn:=bo.mp hn
  .show f
  .show h n hn
def zl6{i:TA}(J:X.c=af)(hu:X.A.units+8<cLine)(u:Gl X "sorted")(o:X.mg "sorted"=ae)(t:Gl X "set")(m:X.mg "set"=ae)(ha:PA X [a] i)(hs:Fe [a] X.e=[(ah,eval a X.e)]:=by rfl)(he:Fe [.Call (.Name "set" p2) [a] [] pos2] X.e=[(ah,eval (.Call (.Name "set" p2) [a] [] pos2) X.e)]:=by rfl):PE X (.Call (.Name "sorted" p) [.Call (.Name "set" p2) [a] [] pos2] [] pos) (zkf X.K i):=by
 let' t2:TA:=λb H Q=>∃g,i b H g/\∀c H,g c H->Q c H
 let w:PA X [a] t2:=λpos y s b H Q I ⟨g,h,im⟩=>dM (ha pos y s b H g I h) (λus s' ⟨c,z,I',v,q⟩=>{c,z,I',v,im _ _ q}) λ_ _ x=>x;let e1:PE X (.Call (.Name "set" p2) [a] [] pos2) (Ad (zkd X.w X.K) t2):=yi (zhS J hu) t m znw w () () hs rfl;let e2:PE X (.Call (.Name "sorted" p) [.Call (.Name "set" p2) [a] [] pos2] [] pos) (Ad (zm5 X.w) (zf (Ad (zkd X.w X.K) t2) zo)):=zJ (zhT J) u o Yu (za e1 zc) () () he rfl;intro y s b H Q I h;show e2 y s b H Q I {_,h,λc L h1=>?_};let #[r,xs,al,rfl,hq,T,D,d,q]:=h1;let #[k,rfl,rfl,C]:=zbf T;show{r,k,U,hq,C,D,<-d,λl hl=>?_};let B:aH L (upd L l (zkc X.w l k)):=hZ l hl;show{l,k,U,zh,λn hn=>B _ _ (C n hn),D,<-d,λG M j z O f g2 p2 N pm=>q G M j z (B.trans O) ?_ g2 p2 N pm};by_cases e:G=l
 .rw[e,zh] at f;cases f
 .rw[zm e] at f;show f
section
variable {w:ap}
def zkg{x:Str}{t:Tok}{i c:Nat}{Q:Aa}(b:s.heap.IsStrIter it "str_ascii_iterator" x t i)(g:x.cps[i]?=Z c)(q:∀h,h.IsStrIter it "str_ascii_iterator" x t (i+1)->cy it s.heap h->Q (.str ⟨#[c]⟩ s.toks) { s with heap:=h,toks:=s.toks+1 }):Ff (Fg P w) A (ig (.ref it)) Q E s:=by let #[o,f,j,d]:=id b;unfold ig;show ba (cM (name:=bb "__next__") b.typeIs fY (cG fY b.typeIs m8 ?_ (mM _)));change Ff _ _ (field (.ref it) 0 >>= _) _ _ s;show ba (cQ f d (x:=.str x t) U ?_);change Ff _ _ (field (.ref it) 1 >>= _) _ _ s;show ba (cQ f d (x:=.int i 0) U ?_);simp only[cK,g];show ba (eS f d ?s (ba (wpAny_mkStr (bg {_,U,bg (q _ ?_ (dz ..))}) ())));show{_,cq _ f (eD (da d _)),(pR ..).trans j,by rw[da d];simp[rawInt]}
def zl7{x:Str}{t:Tok}{i:Nat}{Q:Aa}(g:A.handled=ae)(b:s.heap.IsStrIter it "str_ascii_iterator" x t i)(f:x.cps[i]?=ae)(j:∀h e,tW it s.heap h->(∃o,h.get? e=Z o/\o.cls=.type "StopIteration")->E (.ref e) { s with heap:=h }):Ff (Fg P w) A (ig (.ref it)) Q E s:=by let #[o,c,k,d]:=id b;unfold ig;show ba (cM (name:=bb "__next__") b.typeIs fY (cG fY b.typeIs m8 ?_ (mM _)));change Ff _ _ (field (.ref it) 0 >>= _) _ _ s;show ba (cQ c d (x:=.str x t) U ?_);change Ff _ _ (field (.ref it) 1 >>= _) _ _ s;show ba (cQ c d (x:=.int i 0) U ?_);simp only[cK,f];show ba (oE (ba (eS c d ?s (ba (rF ?_)))));change Ff _ _ (newExc (.type "StopIteration") [] >>= _) _ _ _;show ba ?_;simp only[newExc,newTuple];show ba (cC ?_ (by size_fits));show ba (m:=firstArgMember _ _) (oH (a:=cb) (by first|rfl|(simp only[firstArgMember];rfl)) ?_);show cC ?_ (by size_fits);simp only[raiseNew];show ba (oy ?_);rw[A.in1.handled=ae|>g];show ba (bg (mU ?_));show j _ _ (((dz ..).extBut.push _).push _) {_,bq _ U,U}
def zl8{e j:ac}{i c:Nat}{x:Str}{t:Tok}{Q:Option ai->ag->Prop}(G:IsEnum s.heap e j i old)(L:s.heap.IsStrIter j "str_ascii_iterator" x t i)(hx:x.cps[i]?=Z c)(l:e≠j)(q:∀h,IsEnumOut h e j ((i:Int)+1) (.str ⟨#[c]⟩ s.toks) s.heap.objs.size->h.IsStrIter j "str_ascii_iterator" x t (i+1)->h.get? s.heap.objs.size=Z { cls:=.type "tuple",data:=.seq #[.int i (s.toks+1),.str ⟨#[c]⟩ s.toks] } ->
   (∀b o,b≠e->b≠j->s.heap.get? b=Z o->h.get? b=Z o)->Q (Z (.ref s.heap.objs.size)) { s with heap:=h,toks:=s.toks+1+1 }):Ff (Fg P w) A (pyNext (.ref e)) Q E s:=by
 let hT:s.TypeIs (.ref e) "enumerate":={_,G,U};unfold pyNext;show ba (fB (cM (name:=bb "__next__") hT lh (cG lh hT su ?_ (rK _))));let #[n,g,d,f,m]:=s;change Ff _ _ (field (.ref e) 2 >>= _) _ _ _;show ba (cQ G U (x:=.ref j) U ?_);show ba (zkg L hx λh1 J D=>?_);let D:cy j n h1:=D;let e1:IsEnum h1 e j i old:=(D.2 e l).trans G;change Ff _ _ (field (.ref e) 3 >>= _) _ _ {h1,g,d,f+1,m};show ba (cQ e1 U (x:=rawInt i) U ?_);change Ff _ _ (field (.ref e) 4 >>= _) _ _ {h1,g,d,f+1,m};show ba (cQ e1 U (x:=.none) U ?_);change Ff _ _ (mkInt i >>= _) _ _ {h1,g,d,f+1,m};show ba (wpAny_mkInt ?_);change Ff _ _ (setField (.ref e) 3 (rawInt ((i:Int)+1)) >>= _) _ _ {h1,g,d,f+1+1,m};show ba (cI e1 ?s λh2 e2 C=>?_);let C:cy e h1 h2:=C;let e2:IsEnum h2 e j ((i:Int)+1) old:=e2;change Ff _ _ (setField (.ref e) 4 .none >>= _) _ _ {h2,g,d,f+1+1,m};show ba (cI e2 ?s λh3 e3 B=>?_);let B:cy e h2 h3:=B;let e3:IsEnum h3 e j ((i:Int)+1) old:=e3;change Ff _ _ (newTuple [.int i (f+1),.str ⟨#[c]⟩ f] >>= _) _ _ {h3,g,d,f+1+1,m};show ba (pE ?_);let H:IsEnum (h3.push { cls:=.type "tuple",data:=.seq #[.int i (f+1),.str ⟨#[c]⟩ f] }) e j ((i:Int)+1) old:=bf _ e3;generalize hh4:h3.push { cls:=.type "tuple",data:=.seq #[.int i (f+1),.str ⟨#[c]⟩ f] }=h4 at H;let sz:h3.objs.size=n.objs.size:=[B.1,C.1,D.1]\_
 let N:e<n.objs.size:=bG G;let t4:h4.get? n.objs.size=Z { cls:=.type "tuple",data:=.seq #[.int i (f+1),.str ⟨#[c]⟩ f] }:=[<-hh4,<-sz]\bq _ rfl
 let k4:∀b o,b≠e->b≠j->n.get? b=Z o->h4.get? b=Z o:=λb o k u M=>[<-hh4]\bf _ (B.extBut b o k (C.extBut b o k (D.extBut b o u M)))
 let I:h4.IsStrIter j "str_ascii_iterator" x t (i+1):=by rw[<-hh4];let #[o,ho,r]:=(J.extBut C.extBut (cY l)).extBut B.extBut (cY l);show{o,bf _ ho,r}
 change Ff _ _ (mj (.ref e) >>= _) _ _ {h4,g,d,f+1+1,m};rw[sz];show ba ?_;unfold mj;show ba (cQ H U (x:=.none) U (bg ?_));simp only[if_true];show ba (oE ?_);show ba (cQ H U (x:=old) U ?_);show ba (cI H ?s λh5 e5 z=>?_);let z:cy e h4 h5:=z;let e5:IsEnum h5 e j ((i:Int)+1) (.str ⟨#[c]⟩ f):=e5;change Ff _ _ (lU (.ref e) (.ref n.objs.size) >>= _) _ _ {h5,g,d,f+1+1,m};show ba ?_;unfold lU;show ba (cI e5 ?s λh6 T y=>?_);let y:cy e h5 h6:=y;let T:IsEnumOut h6 e j ((i:Int)+1) (.str ⟨#[c]⟩ f) n.objs.size:=T;show cI T ?s λh7 O v=>?_;let v:cy e h6 h7:=v;let O:IsEnumOut h7 e j ((i:Int)+1) (.str ⟨#[c]⟩ f) n.objs.size:=O;show ba (rF (bg {_,U,bg (q h7 O ?_ ?_ ?_)}))
 .show((I.extBut z.extBut (cY l)).extBut y.extBut (cY l)).extBut v.extBut (cY l)
 .show v.extBut _ _ (dU N) (y.extBut _ _ (dU N) (z.extBut _ _ (dU N) t4))
 .show λb o k u M=>v.extBut b o k (y.extBut b o k (z.extBut b o k (k4 b o k u M)))
def znO{e c:ac}{i:Nat}{x:Str}{t:Tok}{Q:Option ai->ag->Prop}(m:A.handled=ae)(g:IsEnum s.heap e c i old)(f:s.heap.IsStrIter c "str_ascii_iterator" x t i)(d:x.cps[i]?=ae)(q:∀h,tW c s.heap h->Q ae { s with heap:=h }):Ff (Fg P w) A (pyNext (.ref e)) Q E s:=by let j:s.TypeIs (.ref e) "enumerate":={_,g,U};unfold pyNext;show ba (fB (cM (name:=bb "__next__") j lh (cG lh j su ?_ (rK _))));change Ff _ _ (field (.ref e) 2 >>= _) _ _ _;show ba (cQ g U (x:=.ref c) U ?_);show ba (zl7 m f d λh x k d=>?_);let #[o,l,n]:=d;show ba (lV (T:="StopIteration") (b:=af) {o,l,n} pH ?_);show bg (q _ k)
end
def  ES(e c:ac)(z:Str)(t:Tok)(k:Nat)(h:ao):Prop:=k<=z.cps.size/\(∃b,IsEnum h e c (k:Int) b)/\h.IsStrIter c "str_ascii_iterator" z t k
def  znP(z:Str):It:={λi _=>i<z.cps.size,λi H x b=>∃T c,x=.ref T/\H T=ae/\b=upd H T (.tup [.int i,.str ⟨#[c]⟩])/\z.cps[i]?=Z c,λi _=>z.cps.size<=i}
def zfp{P:am}{w:ap}{K:bz}{y:List au}{x1}{pos:Pos}{e it:ac}{z:Str}{t:Tok}(x:e≠it) :
  JO P w K (.Tuple y x1 pos) (znP z) [e,it] e (ES e it z t) where
 mem:=?s
 obj:=λk h j c d=>by
  let #[_,#[g,i],#[q,f,B,di]]:=j;simp only[bo,cZ,or_false] at d;obtain rfl|rfl:=d
  .show{_,i,λv z=>by cases z}
  .show{_,f,λv z=>by rw[di] at z;cases z}
 keep:=λk h h' j kk=>by let #[l,#[g,i],#[q,f,B]]:=j;show{l,{g,kk e ?s _ i},{q,kk it ?s _ f,B}}
 item:=by
  intro X N L O d k D s G H E I C j M;subst N L O;let r:k<z.cps.size:=M;let n:=b9 r;let g:∀c∈[e,it],c≠s.heap.objs.size:=λc d=>by
   let #[_,#[g,i],#[q,f,B]]:=j;simp only[bo,cZ,or_false] at d;obtain rfl|rfl:=d
   .show bO (bG i)
   .show bO (bG f)
  let #[_,#[o0,i],f]:=j;show zl8 i f n x λh e8 i5 t5 k5=>?_;generalize hcc:z.cps[k]=c at *
  let I6:aJ X D G (upd H s.heap.objs.size (.tup [.int k,.str ⟨#[c]⟩])) { s with heap:=s.heap.push { cls:=.type "tuple",data:=.seq #[.int k (s.toks+1),.str ⟨#[c]⟩ s.toks] },toks:=s.toks+1+1 }:=
   I.laid (a:=s.heap.objs.size) (o:=.tup [.int k,.str ⟨#[c]⟩]) (t':=s.toks+1+1) (λb u e=>bf _ e) (bh _) {(),[.int k (s.toks+1),.str ⟨#[c]⟩ s.toks],.cons {_,U} (.cons {_,U} .nil),{_,bq _ U,U,_,U}}
  let m:∀c'∈[e,it],upd H s.heap.objs.size (HO.tup [.int k,.str ⟨#[c]⟩]) c'=ae:=λc' d=>zm (g c' d)\(C c' d).1
  let fz:∀c'∈[e,it],jJ X D (upd H s.heap.objs.size (HO.tup [.int k,.str ⟨#[c]⟩])) c':=λc' d=>{m c' d,(C c' d).2};show{.ref s.heap.objs.size,U,oS e8 λQ z9 J=>?_};let T:∀c o,c≠e->h.get? c=Z o->Q.get? c=Z o:=λc o d e=>[Q.get? c=h.get? c|>J.2 c d]\e
  let I7:aJ X D G (upd H s.heap.objs.size (.tup [.int k,.str ⟨#[c]⟩])) { s with heap:=Q,toks:=s.toks+1+1 }:=I6.turnedL (s:={ s with heap:=s.heap.push { cls:=.type "tuple",data:=.seq #[.int k (s.toks+1),.str ⟨#[c]⟩ s.toks] },toks:=s.toks+1+1 }) (t':=s.toks+1+1) (ch:=[e,it]) (λc' o d e=>by
   simp only[bo,cZ,or_false,not_or] at d;show T c' o d.1 ?_;obtain ⟨rfl,rfl⟩|e:=oo ((s.heap.push { cls:=.type "tuple",data:=.seq #[.int k (s.toks+1),.str ⟨#[c]⟩ s.toks] }).get? c'=Z o|>e)
   .show t5
   .show k5 c' o d.1 d.2 e) λc' d=>fz c' d
  show{.ref s.heap.objs.size,_,I7,U,{_,c,U,I.hok.fresh (bh _),U,n},?_,m};let #[q,f,B]:=i5;show{r,{_,z9},{q,T it _ (cY x) f,B}}
 done:=by intro X N L O d k D s G H E I C j M;subst N L O;let #[l,#[o0,i],f]:=j;let n:z.cps[k]?=ae:=fO M;show znO (I.ok.hd d) i f n λh n=>{U,I.turnedL (t':=s.toks) (ch:=[e,it]) (λc o d e=>?_) λc d=>C c d};simp only[bo,cZ,or_false,not_or] at d;show n c o d.2 e
 self:=λ_ _ _ _ _ j h=>by let #[_,#[o0,i],f]:=j;show mZ i h
def  zm6(d:TA):TI:=λb H R=>d b H λc f=>∃z:Str,c=[.str z]/\z.cps.all (· < 128)=af/\R (znP z) f
def zkh{d:List au}{x1}{v:Pos}{f:au}{l:TA}{p pos:Pos}(G:Gl X "enumerate")(D:X.mg "enumerate"=ae)(L:PA X [f] l)(J:Fe [f] X.e=(ah,eval f X.e)::Fe [] X.e:=by rfl)(i:(backTo pos (Fe [] X.e)).any (·.1)=ah:=by rfl) :
  PI X (.Tuple d x1 v) (.Call (.Name "enumerate" p) [f] [] pos) (zm6 l):=by
 intro O s r H R I h;show Call_ (ZH I G D XM (eu (aT (L pos O s r H _ I h) λus g ⟨T,Q,j,w,B⟩=>?_) J i));let #[z,e,M,q]:=B;subst e;let #[u1,rfl,t,rfl]:=xD w;show call_enumerate_str λN o m _ k=>?_;show mZ (s:={ g with heap:=N }) o ?_;let u:strIterType z="str_ascii_iterator":=by unfold strIterType;rw[M];rfl
 rw[u] at m;generalize hn:g.heap.objs.size=n at *
 let C:∀ {x y:Nat},x≠y->(ac|>x)≠(ac|>y):=λh=>h;show{_,_,_,_,Q,U,j.kept (t':=g.toks) k,zfp (e:=n+1) (it:=n) (z:=z) (t:=t) (C ()),{bP _,{_,o},m},λc b=>?_,q};simp only[bo,cZ,or_false] at b;let b:n<=c:=by obtain rfl|rfl:=b <;> first|show iJ _ _|show bh _
 show j.fpOk (hn\b) (j.hok.fresh (hn\b))
abbrev zpi:RC:=λb H Q=>∃x,b=[.str x]/\x.length=1/\Q (.int (x.cps.getD 0 0:Nat)) H
def  zfS(a:Str)(i:Nat):Str:=if i<=a.length then a else zfilled a (i-a.length)
abbrev Kw:RM:=λx b H Q=>∃(a:Str)(i:Nat),x=.str a/\b=[.int i]/\i<=1000/\Q (.str (zfS a i)) H
def  rpL(a b:Str):LV:=match fM a b 0 a.length with
 |some i=>[.str (fH a 0 i),.str b,.str (fH a (i+b.length) a.length)]
 |none=>[.str gq,.str gq,.str a]
abbrev Zm:RM:=λx c H Q=>∃a b,x=.str a/\c=[.str b]/\(b.length==0)=ah/\a.length<=100000/\∀l,H l=ae->Q (.ref l) (upd H l (.tup (rpL a b)))
abbrev Xh:RM:=λx c H Q=>∃(l:ac)(b:zO)(y:Str),x=.ref l/\c=[.str y]/\H l=Z (.lst (b.map V.str))/\y∈b/\Q (.int (b.idxOf y:Nat)) H
def hu8(r:aY k A):A.units+8<cLine:=by let:=WM r;lia
def zki:MtR X "str.zfill" Kw:=by
 intro r s k H x l v m Q I g j h;let #[a,i,rfl,rfl,o,q]:=h;let #[t,rfl]:=g;let #[u,rfl,f,rfl]:=xD j;let n:Fb=16777216:=cp;let b:lY (Int.toNat (i:Int))=ah:=by unfold lY;show Fk (cK\())
 show call_gives F.slot_str_zfill (ip s a t) F.entry_str_zfill (F.args_str_zfill_2 _ _) (gives_str_zfill a i t f ([Fk (),Fk ()]\U) b) ?_;unfold zfS at q;by_cases c:i<=a.length
 .rw[ak c] at q;show ak ()\{.str a,H,I,{_,U},q}
 .rw[aj c] at q;rw[aj (),cK];let d:=fits_zfilled (x:=a) (i:=(i:Int)) b ();rw[cK] at d;show{d,.str _,H,I.tok _,{_,U},q}
def QU:MtM X "str.rpartition" Zm:=by
 intro r s j H x k v l Q I c d h;let #[a,b,rfl,rfl,g,n,q]:=h;let #[t,rfl]:=c;let #[u,rfl,t',rfl]:=xD d;let m:Fb=16777216:=cp;let f:H s.heap.objs.size=ae:=I.hok.fresh (bh _);let q:=q _ f;show gF F.slot_str_rpartition (ip _ _ _) F.entry_str_rpartition (F.args_str_rpartition_2 _ _) (meets_str_rpartition a b t t' g ()) ?_;unfold rpL at q
 revert q
 cases fM a b 0 a.length with
 |none=>show λq=>{.ref s.heap.objs.size,_,I.laid (a:=s.heap.objs.size) (o:=.tup [.str gq,.str gq,.str a]) (t':=s.toks+1) (λb u e=>bf _ e) (bh _) {by change 3<=Fb;lia,_,.cons {_,U} (.cons {_,U} (.cons {_,U} .nil)),{_,bq _ U,U,_,U}},U,q}
 |some i=>show λq=>{.ref s.heap.objs.size,_,I.laid (a:=s.heap.objs.size) (o:=.tup [.str (fH a 0 i),.str b,.str (fH a (i+b.length) a.length)]) (t':=s.toks+1+1) (λb u e=>bf _ e) (bh _) {by change 3<=Fb;lia,_,.cons {_,U} (.cons {_,U} (.cons {_,U} .nil)),{_,bq _ U,U,_,U}},U,q}
def zgw:∀ {c:zO}{b:zQ},aO (c.map V.str) b->∀(m:Nat)(v:ai),b[m]?=Z v->∃y t,c[m]?=Z y/\v=.str y t
 |[],_,r,m,v,h=>by cases r;simp at h
 |y::c,_,.cons a r,0,v,h=>by let #[t,rfl]:=a;simp only[bY,cr] at h;show{y,t,U,h.symm}
 |y::c,_,.cons a r,m+1,v,h=>by let #[z,t,f,d]:=zgw r m v (<-h);show{z,t,<-f,d}
def  isS(y:Str):ai->Bool
 |.str x _=>x==y
 |_=>ah
def zkj:MtM X "list.index" Xh:=by
 intro aa s L H x N v O Q I o w h;let #[l,b,y,rfl,rfl,J,G,q]:=h;cases o;let #[u,rfl,B]:=w.one;let #[t,rfl]:=B;let #[z,c,n,r,D,e]:=I.lstM J;let T:Fb=16777216:=cp;rw[bd] at D z;let hj:b.idxOf y<b.length:=pU.mpr G;let gt:∀m (d:m<c.toArray.size),∃(f:m<b.length)(t':Tok),c.toArray[m]=.str b[m] t':=λm d=>by
  rw[bH] at d;let #[M,t',k,f]:=zgw r m c[m] (bc d);let j:m<b.length:=()
  rw[bc j] at k;show{j,t',?_};rw[cf k,<-f];simp
 show gF F.slot_list_index {_,e,U} F.entry_list_index (F.args_list_index_2 _ _) (SeqAt.list_indexAt l c.toArray n ae #[] (.str y t) (isS y) (b.idxOf y) (bH\()) () ?_ (λm d i=>?_)) {e,λv C=>?_,?_}
 .let #[f,t',g]:=gt (b.idxOf y) (bH\());rw[g];change (b[b.idxOf y]==y)=af;simp[ut]
 .let #[f,t',g]:=gt m d;rw[g];change (b[m]==y)=ah;let:=sk i;simpa using this
 .let #[m,d,rfl]:=sT.mp C;let #[f,t',g]:=gt m d;show g\mC _ _ _ _
 .show{.int _,H,I.tok _,{_,U},q}
def Kx{d c:Type}(g:d->c->Id (ForInStep c))(f:c->d->c)(h:∀a b,g a b=gK (f b a)):∀(l:List d)(b:c),(forIn (m:=Id) l b g)=l.foldl f b
 |[],b=>rfl
 |a::l,b=>[Bf,h]\Kx g f h l (f b a)
def zl9(s sub:Str)(d:Nat):fM s sub 0 d=(cH (d+1)).foldl (λc i=>if (decide (i+sub.length<=d)&&iq s sub i)=af then Z i else c) ae:=by unfold fM;simp[List.range_eq_range',Id.run];show Kx _ _ (λa b=>?_) _ _;split <;> rfl
def zbg{p:Nat->Bool}:∀(n k:Nat)(o:Option Nat),k<n->p k=af->(∀j,k<j->j<n->p j=ah)->(cH n).foldl (λb i=>if p i=af then Z i else b) o=Z k
 |0,k,o,h,_,_=>()
 |n+1,k,o,h,hp,no=>by
  rw[Bj,uI];change (if p n=af then Z n else _)=_;by_cases e:k=n
  .subst e;rw[ak hp]
  .show aj (by rw[no n () ()];decide)\zbg n k o () hp λj c d=>no j c ()
def zgx(s:Str)(c i:Nat):iq s ⟨#[c]⟩ i=decide (s.cps[i]?=Z c):=by
 unfold iq;change (s.cps.extract i (i+1) == #[c])=_;cases e:s.cps[i]? with
 |none=>
  let:=Array.getElem?_eq_none_iff.mp e;rw[s.cps.extract i (i+1)=#[]|>by apply Array.ext' ;simp;lia];simp
 |some d=>
  let #[k,f]:=cR.mp e;let g:s.cps.extract i (i+1)=#[d]:=by
   apply Array.ext
   .simp;lia
   .intro j h b;simp at b;subst b;simp[f]
  rw[g];by_cases z:d=c
  .subst z;simp
  .simp[z]
def zhU{s:Str}(h:s.cps[k]?=Z c)(b:∀j,k<j->s.cps[j]?≠Z c):fM s ⟨#[c]⟩ 0 s.length=Z k:=by
 let d:=(cR.mp h).1;rw[zl9];show zbg (p:=λi=>decide (i+(⟨#[c]⟩:Str).length<=s.length)&&iq s ⟨#[c]⟩ i) _ k ae (by change k<s.cps.size+1;lia) ?_ λj f g=>?_
 .rw[zgx,h];simp;show d
 .rw[zgx,Fk (b j f),tI]
def zdK(h:c ∉ d.cps.toList):rpL (b++⟨#[c]⟩++d) ⟨#[c]⟩=[.str b,.str ⟨#[c]⟩,.str d]:=by
 let f:(b++⟨#[c]⟩++d).cps.toList=b.cps.toList++c::d.cps.toList:=[yf,yf,cX]\U
 let t:(b++⟨#[c]⟩++d).cps[b.length]?=Z c:=by rw[<-bU,f];simp[eZ]
 let r:=zhU t λj g z=>by
  rw[<-bU,f,dH (by simp[eZ] at g ⊢;lia)] at z;let k:1<=j-b.cps.toList.length:=by simp[eZ] at g ⊢;lia
  obtain⟨m,l⟩:∃m,j-b.cps.toList.length=m+1:={_,(Nat.sub_add_cancel k).symm};rw[l,dv] at z;show h (b7 z)
 let i:(b++⟨#[c]⟩++d).length=b.length+1+d.length:=[yB,yB]\U
 unfold rpL;rw[r];let o:fH (b++⟨#[c]⟩++d) 0 b.length=b:=by apply xN;unfold fH;rw[tH,f,pK];simp[eZ]
 let n:fH (b++⟨#[c]⟩++d) (b.length+(⟨#[c]⟩:Str).length) (b++⟨#[c]⟩++d).length=d:=by
  apply xN;unfold fH;rw[tH,f,pK,i];let:(⟨#[c]⟩:Str).length=1:=rfl;rw[this];let q:(b.cps.toList++c::d.cps.toList).drop (b.length+1)=d.cps.toList:=[b.length=b.cps.toList.length|>by simp[eZ],n9]\?s
  show q\bV (by simp[eZ])
 dsimp only;rw[o,n]
structure FG(K:bz)(mg:At)(x:Str)(st:aq)(ps:zO)(a:ac)(d:Fc):Prop where
 m:mg x=Z (.ref a)
 f:Fun K x x st a d
 b:hU K d ps []
structure FM(K:bz)(C:ac)(x qual:Str)(st:aq)(ps:zO)(a:ac)(d:Fc):Prop where
 me:zhi K C x a
 f:Fun K x qual st a d
 b:hU K d ps []
def arS{P:zQ->Prop}(h:∀a us,us.length=n->P (a::us)):∀us,us.length=n+1->P us:=λus e=>by
 cases us with
 |nil=>cases e
 |cons a us=>show h a us (Nat.succ.inj e)
def ar0{P:zQ->Prop}(h:P []):∀us,us.length=0->P us:=λus e=>by
 cases us with
 |nil=>show h
 |cons=>cases e
def hU.df{K:bz}{d:Fc}{c:zO}{ds:zQ}{T:ac}(_:d.defaults=.ref T)(q:K.lookup T=Z o)(h:∀b:zQ,b.length=c.length-ds.length->∀s:ag,s.heap.get? T=Z o->BindsTo s d {b,[]} (c.zip (b++ds))):hU K d c ds:=λs b g f=>h b ([<-f,bj,uw]\_) s (g _ _ q)
abbrev QX(K:bz)(a:ac):Prop:=∃b,gR K (.ref a) "__getattribute__"=Z (Z (.builtin "BaseException.__getattribute__"))/\gR K (.ref a) "__getattr__"=Z ae/\gR K (.ref a) "__class__"=Z (Z (.builtin "object.__class__"))/\Bs K a (.type "object")=Z af/\Bs K a (.type "BaseException")=Z af/\Bc K (.builtin "object.__class__") "__get__"=Z (Z (.builtin "getset_descriptor.__get__"))/\W.takesIn K (.builtin "object.__class__")=Z af/\Bt K a=Z b
def QX.to{K:bz}{a:ac}(q:QX K a):ExK K a:=by let #[k,j,i,h,g,f,d,c,b]:=q;show{{j,i,h,g,f,d,c},b\U}
variable {CX:CXT}{j:Nat}{C:ac}{ps:zO}{x qual:Str}{mt:Pos}{es:List au}{ta:TE}
section
variable {k:Nat}{a:ac}{d:Fc}{sp:Sp}{m:Str}{st:aq}{o:au}{t:TA}{E:XK}
def pv(F:bv X.p X.w X.K X.mg X.M CX j a d ps sp)(G:FG X.K X.mg x st ps a d)(g:aY k X.A)(f:wI CX X E)(n:PA X (e::es) t)(h:j<=k:=by lia)(i:Gl X x:=by show rfl)(c:B1 x:=by lia)(l:Fe (e::es) X.e=(ah,eval e X.e)::Fe es X.e:=by rfl)(b:(backTo pos (Fe es X.e)).any (·.1)=ah:=by rfl) :
  PE X (.Call (.Name x p) (e::es) [] pos) (yn sp [] E t):=zlo (F.mono h) g i G.m G.f.kp G.b .nil f n c l b
end
def aG.m{N P:zO}{sc:ax}(i:sc.kind=.function:=by rfl)(h:sc.isCoroutine=ah:=by rfl)(g:sc.isGenerator=ah:=by rfl)(f:N.Nodup:=by lia)(d:N.take P.length=P:=by rfl)(c:∀x∈P,sc.names.lookup x=Z .local\/sc.names.lookup x=Z .cell:=by lia)(b:∀y∈sc.names,y.2≠.free:=by lia):aG N P sc:={i,h,g,f,d,c,b}
variable {K:bz}{mg:At}{base:ao}{f:ac}{fd:Fc}{N:zO}
section
variable {w:ap}{st:aq}{k:Nat}{sp:Sp}
def Fun.okA(F:Fun K x qual st f fd)(S:aG N ps (zg st))(h:∀c H Q E,sp c H Q E->c.length=ps.length/\∀(cdv:ai)(A:av)(b:LEv)(s:ag),aY k (A.deeper (envOfC qual (zg st) s.heap.objs.size f cdv)) ->
   ∃t,PSs (jh (AJ P w) P w K mg base N qual (zg st) f cdv A b s H E).nox (xX st) t/\t { nx:=λ_ g=>Q .non g,rt:=Q } (start N c) H):bv P w K mg base (AJ P w) (k+1) f fd ps sp:=F.ok0 S (λc H Q E z=>(h c H Q E z).1) λcdv A b s H c Q E d z=>(h c H Q E z).2 cdv A b s d
def Fun.okB(F:Fun K x qual st f fd)(S:aG N ps (zg st))(h:∀c H Q E,sp c H Q E->c.length=ps.length/\∀(cdv:ai)(A:av)(b:LEv)(s:ag),aY k (A.deeper (envOfC qual (zg st) s.heap.objs.size f cdv)) ->
   ∃t,PSs (jh (AJ P w) P w K mg base N qual (zg st) f cdv A b s H E) (xX st) t/\t { nx:=λ_ g=>Q .non g,rt:=Q } (start N c) H):bv P w K mg base (AJ P w) (k+1) f fd ps sp:=F.ok1 S (λc H Q E z=>(h c H Q E z).1) λcdv A b s H c Q E d z=>(h c H Q E z).2 cdv A b s d
end
variable {σ:St}{H:Hp}{i:Nat}
section
variable {Q:VK}{k:Int}{p a dx:ac}{xs:LV}{u v:V}{w f:Str}{fs:LSV}{A B:TS}{D:ZF}
def zoH(h:σ[i]?=Z (Z v))(q:Q v H):zd i σ H Q:={v,h,q}
def zpj(d:σ[i]?=Z (Z (.ref p)))(c:H p=Z (.tup xs))(b:atI xs k=Z u)(q:Q u H):aL (xO K) (zd i) (tC (.int k)) σ H Q:={_,d,p,xs,k,u,U,U,aV.of c,b,q}
def zm7(h:∀Q:VK,Q (.str x) H->te σ H Q)(a:x=w->A D σ H)(b:x≠w->B D σ H):yF (zT (aL rEq te (tC (.str w)))) A B D σ H:=by
 show h _ {U,_,U,?_};by_cases c:x=w
 .change if _ then _ else _
  show ak (c\Fj U)\a c
 .change if _ then _ else _
  show aj (decide_eq_true_eq\λz=>c (V.str.inj z))\b c
def zb9(g:σ[i]?=Z (Z (.ref p)))(d:H p=Z (.tup xs))(c:atI xs k=Z (.str x))(a:x=w->A D σ H)(b:x≠w->B D σ H):yF (zT (aL rEq (aL (xO K) (zd i) (tC (.int k))) (tC (.str w)))) A B D σ H:=zm7 (λQ q=>zpj g d c q) a b
end
abbrev zm8:RC:=λg H Q=>∃(a:ac)(c:xC)(d:yI),g=[.ref a]/\H a=Z (.dK c)/\c.map (·.1)=d.map nW/\c.length<64 /\
 ∀(l:ac)(b:yI),H l=ae->b.Perm d->b.Pairwise (· < ·)->Q (.ref l) (upd H l (.lst (b.map V.int)))
def zbh:∀ {b:zQ}{c:yI},IntsAre b c->aO (c.map V.int) b
 |_,_,.nil=>.nil
 |_,_,.cons _ t h=>.cons {t,U} (zbh h)
def zhV{P:am}{w:ap}{l:xC}{g:List (Key×ai)}(a:KV l g):∀ {es:List DictEntry}{c:yI},Pairs (ye P w) es g->l.map (·.1)=c.map nW->IntsAre (es.map (·.key)) c/\g.map (·.1)=c.map nW:=by
 induction a with
 |nil=>
  intro es c b d;cases b;cases c with
  |nil=>show{.nil,U}
  |cons=>cases d
 |cons h kv ih=>
  intro es c b d;cases c with
  |nil=>cases d
  |cons r c=>
   cases b with
   |cons hk _ pr=>
    let #[q,o]:=eE d;let #[n,m]:=ih pr o;let k:=h.1.symm.trans q;obtain ⟨j,t,ej,et⟩|⟨x,t,ej,et⟩:=yS hk
    .rw[k] at ej;cases ej;show{?_,[bB,bB,m,k]\_};show [bB,et]\.cons _ t n
    .rw[k] at ej;cases ej
section
variable {kp:Pos}
def zma{D:Ae}{σ:St}{H:Hp}{s:ag}{a:ac}{w:xC}{n:yI}{Q:VK}{v:List (Str×ai)}{O:yI->Prop}(hc:X.c=af)(I:aJ X D σ H s)(ha:H a=Z (.dK w))(M:w.map (·.1)=n.map nW)(an:w.length<64)(hs:∀(R:PySem.Fin->ag->Prop)(s:ag)(b:ac)(t:zQ),s.heap.get? b=Z (seqObj "list" t.toArray 0)->IntsAre t n->t.length<64->(∀(out:Array ai)(r:yI),IntsAre out.toList r->r.Perm n->(n.Nodup->O r)->R (.done (.ret .none)) { s with heap:=sortedHeap s.heap b t out })->Ff (Fg X.p X.w) X.A.in1.in1 (Builtin.«list.sort» {[.ref b],v}) R X.xe s)(hw:argsOk "sorted" {[.ref a],v})(z:∀b:ac,argsOk "list.sort" {[.ref b],v})(q:∀(l:ac)(g:yI),H l=ae->g.Perm n->O g->Q (.ref l) (upd H l (.lst (g.map V.int)))) :
  Ff (Fg X.p X.w) X.A (call (.builtin "sorted") [.ref a] v) (EP X D σ Q) X.xe s:=by
 let #[hz,lo,t,L,o,es,ep,ho,hx,hd,al,G,hn]:=(aQ X.p X.w H s.heap a (.dK w)|>I.hok a _ ha);let #[y,ev]:=zhV L G M;let nr:n.Nodup:=xJ (f:=(nW:Int->Key)) ([<-ev]\hn);let il:es.size<64:=by let:=L.length;let:=G.length;rw[bE] at this;lia
 let cl:=bR (es.size<=1000|>()) (1000<=Fb|>());show call_function_entry_kw tV sK sL hw ?_;unfold Builtin.«sorted»;show ba (m:=checkCount "sorted" 1 1 _) (bg ?_);show ba (Vu (zbX (ep:=ep) (es:=es) lo) (I.ok.hd hc) {o,ho,hx,hd} cl λh u d k1 hl hG=>?_);let ew:d=es.toList.map (·.key):=by
  apply dq;intro i;by_cases hi:i<d.length
  .let #[e,B,ek]:=hG i d[i] (bc hi);rw[bc hi,ek,bn,bU,B];rfl
  .rw[bT (),bT ([bd,bE]\())]
 rw[<-ew] at y;let k:(h.push (seqObj "list" d.toArray 0)).get? h.objs.size=Z (seqObj "list" d.toArray 0):=bq _ rfl;show ba (ou ?_ (cp\()));show ba (cF (wpAny_call_entry_kw pF {_,k,U} oN (hs _ { s with heap:=h.push (seqObj "list" d.toArray 0),toks:=u } _ d k y () λout r a1 T a3=>{_,rfl,bg {_,rfl,?_}}) (z _)));let #[c,hD]:=sortedHeap_at (out:=out) k;let I1:aJ X D σ H { s with heap:=h,toks:=u }:=I.kept k1;let nl:=T.length_eq;let rl:=IntsAre.length y;show{.ref h.objs.size,_,I1.laid (s:={ s with heap:=h,toks:=u }) (a:=h.objs.size) (o:=.lst (r.map V.int)) (t':=u) (λb o e=>?_) (bh _) {bd\bR (r.length<=1000|>by let:=congrArg eA M;rw[bd,bd] at this;lia) (),_,c,zbh a1,hD},U,q _ _ (I1.hok.fresh (bh _)) T (a3 nr)};let J:=bG e;show(sortedHeap_old (bO J) (size_push'\gG J)).trans (bf _ e)
def zca(t:X.c=af):wn X (.builtin "sorted") zm8:=by intro aa s σ H J M Q I r h;let #[a,aI,T,rfl,v,o,d,q]:=h;let #[u,rfl,k]:=xD r;cases k;show zma t I v o d (O:=λn=>n.Pairwise (· < ·)) (λR s b L B y w h=>list_sort_tree B y w λc l G g D=>h c l G g λm=>(D.and (g.nodup_iff.mpr m)).imp λz=>()) (sM _) (λ_=>pG _) q
end
variable {pos':Pos}
section
variable {k:Nat}{sp:Sp}{m:Str}{st:aq}{o b:au}{tb:TE}{t:TA}{E:XK}
def zt(i:Nat)(n:X.N.Nodup)(l:PE X e te)(g:X.N[i]?=Z x:=by rfl)(c:Loc X.e.scope x:=by show .inl U)(d:swapsWith e (Z (.Name x pos')) pos.line X.e=pure ah:=by rfl)(h:X.fn x=af\/X.e.scope.names.lookup x=Z .local:=by first|show .inl rfl|show .inr rfl|assumption) :
  PS X (.Assign [.Name x pos'] e pos) (yc te (zD i)):=zeO n g c l d h
def yw(i:Nat)(h:X.N.Nodup)(d:X.N[i]?=Z x:=by rfl)(c:Loc X.e.scope x:=by show .inl U)(g:X.fn x=af\/X.e.scope.names.lookup x=Z .local:=by first|show .inl rfl|show .inr rfl|assumption):PG X (.Name x pos) (zD i):=xh h d c g
def zB{r:R2}(d:IxR X r)(h:PE X a ta)(g:PE X b tb)(c:zf9 b:=by show λ_ _=>rfl):PE X (.Subscript a b pos) (aL r ta tb):=zoo d h g c
def Al{l:Sem Bool}(v:PE X o ta)(c:AC X.K C)(F:bv X.p X.w X.K X.mg X.M CX j f fd ps sp)(G:FM X.K C m qual st ps f fd)(r:aY k X.A)(n:wI CX X E)(w:PA X (e::es) t)(u:j<=k:=by lia)(d:Fe (e::es) X.e=(ah,eval e X.e)::Fe es X.e:=by rfl)(g:(backTo pos (Fe es X.e)).any (·.1)=ah:=by rfl)(q:eval (.Call (.Attribute o m mt) (e::es) [] pos) X.e=(do
   let h <-eval o X.e
   standAt mt.atName
   let (f,first) <-holding [h] (getMethod h m l)
   callWith pos f first (backTo pos (Fe (e::es) X.e)) (backToKw pos (keywordEach [] X.e))):=by rfl) :
  PE X (.Call (.Attribute o m mt) (e::es) [] pos) (zY C m sp [] E ta t):=zf8 v c G.me (F.mono u) r G.b .nil n w d g q
def xn{g:Sem Bool}(r:PE X o ta)(c:AC X.K C)(F:bv X.p X.w X.K X.mg X.M CX j f fd ps sp)(G:FM X.K C m qual st ps f fd)(n:aY k X.A)(h:wI CX X E)(q:j<=k:=by lia)(l:eval (.Call (.Attribute o m mt) [] [] pos) X.e=(do
   let d <-eval o X.e
   standAt mt.atName
   let (f,first) <-holding [d] (getMethod d m g)
   callWith pos f first (backTo pos (Fe [] X.e)) (backToKw pos (keywordEach [] X.e))):=by rfl) :
  PE X (.Call (.Attribute o m mt) [] [] pos) (zY C m sp [] E ta zo):=zcW r c G.me (F.mono q) n G.b .nil h l
end
def qO{H:Hp}{Q:VK}:(zd i σ H Q)=(∃v,σ[i]?=Z (Z v)/\Q v H):=propext {λ⟨v,c,b⟩=>{v,c,b},λ⟨v,c,b⟩=>{v,c,b}}
def zpk{C:Int->Int->Prop}{g:Int->Int->V}{x y:V}{H:Hp}{Q:VK}:(rI C g x y H Q)=(∃i j,x=.int i/\y=.int j/\C i j/\Q (g i j) H):=propext {λ⟨i,j,h,d,c,b⟩=>{i,j,h,d,c,b},λ⟨i,j,h,d,c,b⟩=>{i,j,h,d,c,b}}
def zkk{g:Int->Int->V}{x y:V}{H:Hp}{Q:VK}:(rI0 g x y H Q)=(∃i j,x=.int i/\y=.int j/\Q (g i j) H):=propext {λ⟨i,j,d,c,b⟩=>{i,j,d,c,b},λ⟨i,j,d,c,b⟩=>{i,j,d,c,b}}
def zdL{Q:Bool->Hp->Prop}{x:V}{H:Hp}:(tBk Q x H)=(∃c,x=.bl c/\Q c H):=propext {λ⟨c,d,b⟩=>{c,d,b},λ⟨c,d,b⟩=>{c,d,b}}
def zmb{f:Str}{Q:VK}{x:V}{H:Hp}:(zf6 K f Q x H)=(∃a C c b v,x=.ref a/\H a=Z (.ins C c b)/\AC K C/\aK K C f/\b.lookup f=Z v/\Q v H):=propext {λ⟨a,C,c,b,v,m,l,k,h,g,d⟩=>{a,C,c,b,v,m,l,k,h,g,d},λ⟨a,C,c,b,v,m,l,k,h,g,d⟩=>{a,C,c,b,v,m,l,k,h,g,d}}
def zkl{Q:Option Int->Hp->Prop}{x:V}{H:Hp}:(zeW Q x H)=(∃i,x=.int i/\Q (Z i) H):=propext {λ⟨i,c,b⟩=>{i,c,b},λ⟨i,c,b⟩=>{i,c,b}}
def znQ{x:V}{h k:Option Int}{H:Hp}{Q:VK}:(wz K x h k H Q)=(∃a b,x=.ref a/\aN K H a b/\(∀p,H p=ae->Q (.ref p) (upd H p (.lst (vV b h k))))):=propext {λ⟨a,b,g,d,c⟩=>{a,b,g,d,c},λ⟨a,b,g,d,c⟩=>{a,b,g,d,c}}
def zoI{x y:V}{H:Hp}{Q:VK}:(rNe x y H Q)=(zlj x y=af/\Q (.bl (!decide (x=y))) H):=propext {λ⟨c,b⟩=>{c,b},λ⟨c,b⟩=>{c,b}}
def znR{H:Hp}{Q:VK}:(vo K xs H Q)=(∃x n,xs=[x]/\znm K x H n/\Q (.int n) H):=propext {λ⟨x,n,d,c,b⟩=>{x,n,d,c,b},λ⟨x,n,d,c,b⟩=>{x,n,d,c,b}}
inductive TrG(h base:ao)(e:ac)(cls a0 fl:ai)(od:Bool):Prop
 |mk (oe:Obj) (vs:Array ai) (T:ac) (oT:Obj) (ts:Array ai) (x1:h.get? e=Z oe) (x2:(oe.cls=cls/\vs[0]?=Z a0)/\(od=af->vs[2]?=Z .none)) (x3:oe.data=.fields vs) (x4:vs[1]?=Z (.ref T)) (x5:base.get? T=ae) (x6:T≠e) (x7:h.get? T=Z oT) (x8:oT.data=.fields ts) (x9:ts[3]?=Z fl)
variable {outer:LEv}
section
variable {M:Model}{env:Env}{L e:ac}{cls a0:ai}{od:Bool}{Q:Unit->ag->Prop}
def  TgK(s:ag)(base:ao)(l:LEv)(e:ac)(cls a0 b:ai)(od:Bool)(g:ao):Prop:=base.StaysIn g/\g.FunFrames base l/\TrG g base e cls a0 b od/\s.heap.UpToSlots g
def zkm(fr:A.frames=Z (env::outer))(r:s.heap.FunFrames base (env::outer))(fl:env.frame=Z L)(y:s.heap.get? e=Z oe)(kb:base.StaysIn s.heap)(nb:base.get? e=ae)(t:oe.data=.fields c)(B:1<c.size)(v0:c[0]?=Z a0)(v2:od=af->c[2]?=Z .none)(h:∀g,TgK s base (env::outer) e oe.cls a0 (rawInt L) od g->Q PUnit.unit { s with heap:=g }) :
  Ff M A (do let a <-frameOf env;let d <-entryPlaceOf L hn;let b <-ua head a .none (rawInt L) .none d;setField (.ref e) 1 b) Q E s:=by
 let nf:e ∉ (env::outer).filterMap (·.frame):=λv=>by let #[_,o,m,z]:=r.mem v;rw[y] at m;injection m with m;subst m;show z c t
 show ba (wpAny_frameOf_fun fr r fl λg1 l=>ba (wpAny_entryPlaceOf λd k=>?_));unfold ua newFields;show ba (cC ?_ (k.sizeOk5 _ _ _ _ _));let T:g1.get? e=Z oe:=(l.2.1 e nf).trans y;let J:base.StaysIn g1:=λb o q=>(l.2.1 b λv=>by rw[(r.mem v).1] at q;cases q).trans (kb b o q);generalize hO:({ cls:=.type "traceback",dict:=ae,data:=.fields ([head,.ref L,.none,rawInt L,.none]++(if d.isEmpty then dF 6 cb else d)).toArray }:Obj)=nO;let dO:nO.data=.fields ([head,.ref L,.none,rawInt L,.none]++(if d.isEmpty then dF 6 cb else d)).toArray:=[<-hO]\_
 let O:=bf (h:=g1) nO T;show eS O t B (h _ ?_);let I:g1.objs.size≠e:=dU (bG T);let d3:=da t (·.setIfInBounds 1 (bC g1.objs.size));let e3:=cq (dC (·.setIfInBounds 1 (bC g1.objs.size))) O (eD d3);let t3:=(cg (g1.push nO) (dC (·.setIfInBounds 1 (bC g1.objs.size))) (cY I)).trans (bq g1 (eD dO));let u:∀b o,b≠e->g1.get? b=Z o->((g1.push nO).update e (dC (·.setIfInBounds 1 (bC g1.objs.size)))).get? b=Z o:=λb o n q=>cg _ _ (cY n)\bf _ q
 let G:∀b o,s.heap.get? b=Z o->(∀c,o.data≠.fields c)->b≠e:=λb o q z w=>by rw[w,y] at q;injection q with q;subst q;show z c t
 show{λb o q=>u b o (λw=>by rw[w,nb] at q;cases q) (J b o q),r.of_keeps λb o q z=>?_,?_,λb o q z=>?_}
 .let #[D,w]:=l.2.2 b o q;show{_,u b _ (G b o q z) w,U}
 .show{_,_,g1.objs.size,_,_,e3,{{pR _ _,nu ()\v0},λz=>nu ()\v2 z},d3,by simp[B],J.fresh,I,t3,dO,by first|(simp;done)|(obtain rfl|⟨_,_,_,_,_,_,_,rfl⟩:=k <;> simp)}
 .let #[D,w]:=l.2.2 b o q;show{D,u b _ (G b o q z) w}
def znS{l:LEv}(O:base.StaysIn s.heap)(ff:s.heap.FunFrames base l)(t:TrG s.heap base e cls a0 fl od)(h:∀g,TgK s base l e cls a0 .none od g->Q PUnit.unit { s with heap:=g }):Ff M A (setFlight (.ref e) ae) Q E s:=by
 let #[J,k,T,oT,r,B,hc,D,n,y,G,m,d,I]:=t;let u:3<r.size:=(cR.mp I).1;let c:∀b,b≠T->(s.heap.update T (dC (·.setIfInBounds 3 ((ae:Option ac).elim cb λf=>rawInt f)))).get? b=s.heap.get? b:=λb q=>cg _ _ (cY q);let v:∀b o,s.heap.get? b=Z o->(∀k,o.data≠.fields k)->b≠T:=λb o q z w=>by rw[w,m] at q;injection q with q;subst q;show z r d
 unfold setFlight;show ba (cQ B D n ?_);rw[ak ((bC T != cb)=af|>?s)];show eS m d u (h _ {λb o q=>(c b λw=>by rw[w,y] at q;cases q).trans (O b o q),ff.of_keeps λb o q z=>{o,(c b (v b o q z)).trans q,rfl},?_,λb o q z=>{o.slots,(c b (v b o q z)).trans q}});show{J,k,T,_,_,(c e (cY G)).trans B,hc,D,n,y,G,cq _ m (eD (da d _)),da d _,by simp[u]}
def zkn(q:A.frames=Z (env::outer))(r:s.heap.FunFrames base (env::outer))(d:env.frame=Z L)(c:s.heap.get? e=Z oe)(o:base.StaysIn s.heap)(n:base.get? e=ae)(k:oe.data=.fields vs)(b:vs[1]?=Z .none)(m:vs[0]?=Z a0)(l:od=af->vs[2]?=Z .none)(h:∀g,TgK s base (env::outer) e oe.cls a0 (rawInt L) od g->Q PUnit.unit { s with heap:=g }):Ff M A (noteFrame (.ref e) env) Q E s:=by unfold noteFrame;simp only[d];show ba (cQ c k b ?_);show aj ()\zkm q r d c o n k (cR.mp b).1 m l h
def zcb(d:(fv==rawInt L)=ah)(fr:A.frames=Z (env::outer))(ff:s.heap.FunFrames base (env::outer))(B:env.frame=Z L)(t:TrG s.heap base e cls a0 fv od)(kb:base.StaysIn s.heap)(nb:base.get? e=ae)(h:∀g,TgK s base (env::outer) e cls a0 (rawInt L) od g->Q PUnit.unit { s with heap:=g }):Ff M A (noteFrame (.ref e) env) Q E s:=by
 let #[oe,n,T,oT,ts,y,#[#[k,v0],v2],D,r,nT,Te,l,m,u]:=t;subst k;unfold noteFrame;simp only[B];show ba (cQ y D r ?_);rw[ak ((bC T != cb)=af|>?s)];show ba (cQ l m u ?_);rw[aj (by rw[d];decide)];show ba (eS l m (cR.mp u).1 ?_);let c:∀b,b≠T->(s.heap.update T (dC (·.setIfInBounds 3 cb))).get? b=s.heap.get? b:=λb q=>cg _ _ (cY q);let v:∀b o,s.heap.get? b=Z o->(∀n,o.data≠.fields n)->b≠T:=λb o q z w=>by rw[w,l] at q;injection q with q;subst q;show z ts m
 show zkm fr (ff.of_keeps λb o q z=>{o,(c b (v b o q z)).trans q,U}) B ((c e (cY Te)).trans y) (λb o q=>(c b λw=>by rw[w,nT] at q;cases q).trans (kb b o q)) nb D (cR.mp r).1 v0 v2 λg ⟨O,J,I,G⟩=>h g {O,J,I,λb o q z=>G b o ((c b (v b o q z)).trans q) z}
def zfq(x:∀ {Q:Unit->ag->Prop},(∀g,TgK s base (env::outer) e cls a0 (rawInt L) od g->Q PUnit.unit { s with heap:=g })->Ff M A (noteFrame (.ref e) env) Q E s)(h:∀g,TgK s base (env::outer) e cls a0 .none od g->Q PUnit.unit { s with heap:=g }):Ff M A (leaving env (.ref e)) Q E s:=by unfold leaving;show ba (x λg ⟨o,n,m,l⟩=>znS o n m λq ⟨k,d,c,b⟩=>h q {k,d,c,l.trans b})
end
def QV:entryFor table "proto.unchain"=Z Builtin.«proto.unchain»:=entryFor_of_fast (by kernel_rfl)
def QW:plainId "proto.unchain"=af:=()
abbrev zko(C t h:ac):Obj:={ cls:=.ref C,data:=.fields #[.ref t,.none,.ref h,.ref h,.bool af,.none] }
section
variable {prog:am}{w:ap}
variable {nm qn:Str}{N:ac}{bs bm:zQ}{hdct:Bool}{sn:zO}{sub:zQ}{ab:Bool}{col:Option Bool}{dd:Option ac}{k0 k1 k2 k3 k5:Option ai}{nid:String}
variable {nm' qn':Str}{C' N':ac}{bs' bm':zQ}{hdct':Bool}{sn':zO}{sub':zQ}{ab':Bool}{col':Option Bool}{dd':Option ac}{k0' k1' k2' k3' k5':Option ai}{nid':String}
def zfr{x c:Sem ai}{Q:Flow->ag->Prop}(hb:bm.contains (.type "BaseException")=af)(L:bm'.contains (.type "BaseException")=af)(hh:A.handled=Z (.ref h))(hx:Ff (Fg prog w) A x (λv k=>∃e t B D,v=.ref e/\k.heap.get? C=Z (excClassObj nm qn C N bs bm hdct sn sub ab col dd k0 k1 k2 k3 k5 nid)/\k.heap.get? C'=Z (excClassObj nm' qn' C' N' bs' bm' hdct' sn' sub' ab' col' dd' k0' k1' k2' k3' k5' nid') /\
   k.heap.get? e=Z { cls:=.ref C,data:=.fields #[.ref t,.none,.none,.none,.bool ah,.none] }/\h≠e/\k.heap.get? h=Z B/\B.cls=.ref C'/\B.data=.fields D/\D[2]?=Z .none /\
   (∀R:Aa,R (.ref h) k->Ff (Fg prog w) A c R E k) /\
   ∀g:ao,g.get? e=Z (zko C t h)->(∀b o,b≠e->k.heap.get? b=Z o->g.get? b=Z o)->E (.ref e) { k with heap:=g }) E s):Ff (Fg prog w) A (raiseStmt env (Z x) (Z c)) Q E s:=by
 let cB:(bC C::bm).contains (.type "BaseException")=af:=[ux,hb,Bool.or_true]\_
 let aa:(bC C'::bm').contains (.type "BaseException")=af:=[ux,L,Bool.or_true]\_
 unfold raiseStmt;show ba (dM hx (λv k z=>?_) λ_ _ x=>x);let #[e,t,B,D,rfl,l,r,J,m,ho,G,hd,v2,hc,hE]:=z;let #[hp,g,d,u,y]:=k;dsimp only;show ba (cF (hc _ (ba (bg ?_))));show ba (cF ?_);unfold excFromValue;let nn:((bC h==cb)=af)=False:=?s
 repeat (first|with_reducible show lK J ?_|with_reducible show lK l ?_|(with_reducible show wpAny_isSubtype_exc l ?_;rw[cB])|(with_reducible show lK ho ?_;rw[G])|with_reducible show lK r ?_|(with_reducible show wpAny_isSubtype_exc r ?_;rw[aa])|simp only[nn,if_false]|wp_step)
 let M:C≠e:=λz=>by rw[z] at l;rw[J] at l;cases l
 generalize hg1:(hp.update e (dC λx=>x.setIfInBounds 3 (bC h))).update e (dC λx=>x.setIfInBounds 4 (lz af))=g1;let T:g1.get? e=Z { cls:=.ref C,data:=.fields #[.ref t,.none,.none,.ref h,.bool af,.none] }:=by rw[<-hg1];let a1:=cq (dC (·.setIfInBounds 3 (bC h))) J rfl;show cq (dC (·.setIfInBounds 4 (lz af))) a1 rfl
 let k1:∀b o,b≠e->hp.get? b=Z o->g1.get? b=Z o:=λb o n q=>[<-hg1]\(cg _ _ (cY n)).trans ((cg _ _ (cY n)).trans q)
 let O:=k1 _ _ M l;show lK O ?_;show bg ?_;rw[ak (by rfl)];show bg (ba ?_);unfold setFlight;show ba (cQ (s:={g1,g,d,u,y}) (x:=cb) T U U ?_);rw[aj ()];show bg ?_;unfold raiseNew;show ba (oy ?_);rw[hh];dsimp only;rw[ak (by simp[m])];show ba (cF (nE (de QV ?_)));rw[cP QW _];let I:=k1 _ _ m ho;change Ff _ _ (Builtin.«proto.unchain» {[.ref e,.ref h,.ref h,.bool ah],[]}) _ _ _;unfold Builtin.«proto.unchain»;dsimp only;show ba (cQ (s:={g1,g,d,u,y}) I hd v2 ?_);rw[ak (by rfl)];show bg ?_;change Ff (Fg prog w) A (do updateField e 2 (bC h);throw (bC e)) Q E {g1,g,d,u,y};show ba (eS (s:={g1,g,d,u,y}) (a:=e) (i:=2) (x:=bC h) T U () ?_);show mU (hE _ ?_ λb o n q=>?_)
 .show cq (dC (·.setIfInBounds 2 (bC h))) T rfl
 .show(cg _ _ (cY n)).trans (k1 b o n q)
end
inductive XN(g h:ao)(H:Hp)(e:ac)(cls:ai):Prop
 |mk (oe:Obj) (vs:Array ai) (a0:ai) (T:ac) (oT:Obj) (ts:Array ai) (h1:h.get? e=Z oe) (h2:(oe.cls=cls/\vs[0]?=Z a0)/\vs[2]?=Z .none) (h3:oe.data=.fields vs) (h4:vs[1]?=Z (.ref T)) (h5:T≠e) (h6:h.get? T=Z oT) (h7:oT.data=.fields ts) (h8:ts[3]?=Z .none) (h9:g.get? e=ae) (h10:g.get? T=ae) (h11:H e=ae) (h12:H T=ae)
inductive CXN(P:am)(w:ap)(outer:LEv)(H:Hp)(s:ag)(E:XK)(ev:ai)(s':ag):Prop
 |mk (e cls H':_) (f1:ev=.ref e) (f2:s'.os=s.os) (f3:AllBare s'.gens) (f4:Un (Af outer) [] H H' s.heap s'.heap) (f5:Ax P w H' s'.heap) (f6:XN s.heap s'.heap H' e cls) (f7:E cls ae H')
variable {aa:Ae}
def zfs{c:ao}{e:ac}{g:ai}{vs:zQ}{E:XK}{EE:Aa}(d:X.k=X.e::X.J/\X.e.frame=Z X.e.locals)(k:X.ex=[])(J:aJ X aa σ H s)(l:tJ s.heap c e g vs)(hE:E g ae H) :
  Ff (Fg X.p X.w) X.A (leaving X.e (.ref e)) (λ_ s2=>CXN X.p X.w X.J X.H₀ X.s₀ E (.ref e) s2) EE { s with heap:=c }:=by
 let #[t,B,ar,ht]:=l.there;let G:aJ X aa σ H { s with heap:=c }:=J.kept (t':=s.toks) l.keeps;let hn:H e=ae:=by
  cases q:H e with
  |none=>rfl
  |some u=>
   let #[o,z]:=(J.hok e u q).there;rw[l.new] at z;cases z
 let h0:=xi (J.there0 k) l.new;let fr:c.FunFrames (fN c (Af X.k++[e])) (X.e::X.J):=by let q:=fJ (as:=Af X.k++[e]) G.stack λD B a ha=>cO _ (dY.mpr {D,B,ha});rw[d.1] at q ⊢;show q
 show zfq (s:={ s with heap:=c }) (od:=af) (λh=>zkn (s:={ s with heap:=c }) ([J.ok.frames,d.1]\_) fr d.2 B (λb o q=>gQ _ q) (dE _ (bD _ ?s)) rfl rfl rfl (λ_=>rfl) h) λh2 ⟨f1,f2,f4,y⟩=>?_;let hF:∀b o,c.get? b=Z o->b∈Af X.k->∃sl,h2.get? b=Z { o with slots:=sl }:=λb o q hb=>by let #[o',Q,nf]:=G.stackFields hb;rw[q] at Q;cases Q;show y b o q nf
 let #[oe,O,T,oT,ts,r,M,m,x4,x5,x6,x7,x8,x9]:=f4;let #[r1,r2,xf]:=G.flown (cs:=[e]) k (λb z=>bu.mp z\({hn,h0})) (λb o q n n2=>fm _ q λz=>(bw.mp z).elim n n2) hF hn h0 f1 {oe,O,T,oT,ts,r,M.1,m,x4,x5,x6,x7,x8,x9};show{e,g,H,U,J.os,J.bare,r1,r2,?_,hE};let #[an,al,a0,T',w,v,L,y2,I,y4,y5,y6,y7,y8,y9,z1,z2,z3]:=xf;rw[r] at L;cases L;rw[m] at I;cases I;show{oe,O,a0,T',w,v,r,{y2,M.2 U},m,y4,y5,y6,y7,y8,y9,z1,z2,z3}
def zhW{X:Cx}{aa:Ae}{σ:St}{H:Hp}{s:ag}{e:ac}{g:Obj}{m:Array ai}{a0 fv:ai}{T:ac}{oT:Obj}{y:Array ai}{E:XK}{EE:Aa}(d:X.k=X.e::X.J/\X.e.frame=Z X.e.locals)(t:X.ex=[])(I:aJ X aa σ H s)(l:s.heap.get? e=Z g)(B:g.data=.fields m)(v0:m[0]?=Z a0)(w:m[1]?=Z (.ref T))(k:T≠e)(v:s.heap.get? T=Z oT)(c:oT.data=.fields y)(G:y[3]?=Z fv)(e0:X.s₀.heap.get? e=ae)(T0:X.s₀.heap.get? T=ae)(eH:H e=ae)(TH:H T=ae)(hE:E g.cls ae H) :
  Ff (Fg X.p X.w) X.A (leaving X.e (.ref e)) (λ_ s2=>AJ X.p X.w X.J X.H₀ X.s₀ E (.ref e) s2) EE s:=by
 let sz:3<y.size:=(cR.mp G).1;let u:∀b∈[e,T],H b=ae/\X.s₀.heap.get? b=ae:=λb z=>by
  let z':b=e\/b=T:=<-z
  obtain rfl|rfl:=z'
  .show{eH,e0}
  .show{TH,T0}
 cases hf:fv==rawInt X.e.locals with
 |false=>
  let fr:s.heap.FunFrames (fN s.heap (Af X.k++[e,T])) (X.e::X.J):=by let q:=fJ (as:=Af X.k++[e,T]) I.stack λan l a ha=>cO _ (dY.mpr {an,l,ha});rw[d.1] at q ⊢;show q
  show zfq (od:=ah) (λh=>zcb (od:=ah) hf ([I.ok.frames,d.1]\_) fr d.2 {g,m,T,oT,y,l,{{U,v0},nofun},B,w,dE _ (bD _ ?s),k,v,c,G} (λb o q=>gQ _ q) (dE _ (bD _ ?s)) h) λh2 ⟨f1,f2,f4,al⟩=>?_;let hF:∀b o,s.heap.get? b=Z o->b∈Af X.k->∃sl,h2.get? b=Z { o with slots:=sl }:=λb o q hb=>by let #[o',r,nf]:=I.stackFields hb;rw[q] at r;cases r;show al b o q nf
  let #[O,ws,T',Q,D,x1,x2,x3,x4,x5,x6,x7,x8,x9]:=f4;let #[L,J,xf]:=I.flown (cs:=[e,T]) t u (λb o q n n2=>fm _ q λz=>(bw.mp z).elim n n2) hF eH e0 f1 {O,ws,T',Q,D,x1,x2.1,x3,x4,x5,x6,x7,x8,x9};show{e,g.cls,H,U,I.os,I.bare,L,J,xf,hE}
 |true=>
  unfold leaving noteFrame;simp only[d.2];show ba (ba (cQ l B w ?_));rw[ak ((bC T != cb)=af|>?s)];show ba (cQ v c G ?_);rw[ak hf];show bg ?_;unfold setFlight;show ba (cQ l B w ?_);rw[ak ((bC T != cb)=af|>?s)];let M:∀b,b≠T->(s.heap.update T (dC (·.setIfInBounds 3 ((ae:Option ac).elim cb λf=>rawInt f)))).get? b=s.heap.get? b:=λb q=>cg _ _ (cY q);show eS v c sz ?_;let #[L,J]:=I.behind (cs:=[e,T]) t u (λb o q _ n2=>(M b λz=>n2 (z\?s)).trans q) λb o q hb=>by let #[o',r,nf]:=I.stackFields hb;rw[q] at r;cases r;show{o.slots,(M b λz=>by rw[z,v] at q;cases q;show nf _ c).trans q}
  show{e,g.cls,H,U,I.os,I.bare,L,J,{g,m,a0,T,_,_,(M e (cY k)).trans l,{U,v0},B,w,k,cq _ v (eD (da c _)),da c _,by simp[sz],e0,T0,eH,TH},hE}
variable {scope:ax}{cd:ai}{s₀:ag}{H₀:Hp}
section
variable {w:ap}{E:XK}
def zcc:ze3 (jh (CXN P w) P w K mg base N qual scope f cd A outer s₀ H₀ E) E:=by intro aa σ H s h e d g I b c;show zfs (X:=jh (CXN P w) P w K mg base N qual scope f cd A outer s₀ H₀ E) {U,U} U I b c
def Fun.okN{x:Str}{st:aq}{fd:Fc}{ps:zO}{k:Nat}{sp:Sp}(F:Fun K x qual st f fd)(S:aG N ps (zg st))(d:∀b H Q E,sp b H Q E->b.length=ps.length)(c:∀(cdv:ai)(A:av)(outer:LEv)(s:ag)(H:Hp)(b:LV)(Q:VK)(E:XK),aY k (A.deeper (envOfC qual (zg st) s.heap.objs.size f cdv))->sp b H Q E ->
   ∃t,PSs (jh (CXN P w) P w K mg base N qual (zg st) f cdv A outer s H E) (xX st) t/\t { nx:=λ_ n=>Q .non n,rt:=Q } (start N b) H):bv P w K mg base (CXN P w) (k+1) f fd ps sp:=by let #[oc,od,kV,doc,pm,an,cdv,ct,osl,rfl,l,h]:=F.ex;show ziQ l h S d λA outer s H b Q E m g=>c cdv A outer s H b Q E m g
def  zcd(X:Cx)(E:XK):Prop:=∀(aa:Ae)(σ:St)(H:Hp)(s:ag)(e:ac)(c:Obj)(b:Array ai)(k h:ai)(T:ac)(g:Obj)(d:Array ai),aJ X aa σ H s->s.heap.get? e=Z c->c.data=.fields b->b[0]?=Z k->b[1]?=Z (.ref T)->T≠e ->
 s.heap.get? T=Z g->g.data=.fields d->d[3]?=Z h->X.s₀.heap.get? e=ae->X.s₀.heap.get? T=ae->H e=ae->H T=ae->E c.cls ae H->X.xe (.ref e) s
def zdM:zcd (jh (AJ P w) P w K mg base N qual scope f cd A outer s₀ H₀ E) E:=
 λ_ _ _ _ _ _ _ _ _ _ _ _ I k l g d c m b h q t o r n=>zhW (X:=jh (AJ P w) P w K mg base N qual scope f cd A outer s₀ H₀ E) {U,U} U I k l g d c m b h q t o r n
end
def  exC(e C:ac):HO:=.ext λh=>∃o b,h.get? e=Z o/\o.cls=.ref C/\o.data=.fields b/\b[2]?=Z .none
inductive PXN(X:Cx)(aa:Ae)(EX:EXK):Aa
 |mk (e:ac) (cls:ai) (σ:St) (s1:ag) (H1 H':Hp) {s':ag} (a:aJ X aa σ H1 s1) (b:aJ X aa σ H' s') (c:XN s1.heap s'.heap H' e cls) (d:EX cls σ H'):PXN X aa EX (.ref e) s'
def  zoJ(X:Cx)(c:au)(t:EXK->TE):Prop:=
 ∀(aa:Ae)(s:ag)(σ:St)(H:Hp)(Q:VK)(b:EXK),aJ X aa σ H s->t b σ H Q->Ff (Fg X.p X.w) X.A (eval c X.e) (EP X aa σ Q) (PXN X aa b) s
section
variable {k:Nat}{sp:Sp}{t:TA}
def zhX(F:bv X.p X.w X.K X.mg X.M (CXN X.p X.w) k f fd ps sp)(O:aY k X.A)(hg:Gl X x)(T:X.mg x=Z (.ref f))(hk:oX X.K (.ref f)=af)(hb:hU X.K fd ps []) 
  (ha:PA X.nox (e::es) t) (w:B1 x:=by lia) (he:Fe (e::es) X.e=(ah,eval e X.e)::Fe es X.e:=by rfl) (o:(backTo pos (Fe es X.e)).any (·.1)=ah:=by rfl) :
  zoJ X (.Call (.Name x p) (e::es) [] pos) (znx sp t):=by
 intro aa s σ H Q EX I h;show fq (wV I hg T ?_ w);show oY (h₀:=X.M) I.ok.mod.kin hk (dM (ha pos aa s σ H _ (I.wish _) h) (λc n ⟨B,G,l,r,q⟩=>{l.kIn,?_}) λ_ _ z=>dD z) he o;let m:=l.unwish;let D:aO (B++[]) (c++[]):=r.append .nil;let hl:(c++[]).length=ps.length:=[<-D.length]\F.len _ _ _ _ q
 show mR (fV (F.run X.A X.k n G {c,[]} (c++[]) (B++[]) _ _ O m.env0 (hb n c m.kIn hl) D q) λr s' d=>?_);cases r with
 |error ev=>
  let #[e,y,H',rfl,M,g,L,v,J,hE]:=d;show{e,y,σ,n,G,H',m,m.call' (ch:=[]) M L v g (λb z=>nomatch z),J,hE}
 |ok fl=>
  cases fl with
  |ret u=>show m.after d
  |next=>show dD d
  |brk=>show dD d
  |cont=>show dD d
end
section
variable {ex e₀:au}{tb:EXK->TE}{c1 n:Str}{C1:ac}{np np2 aW rpos hpos pn:Pos}{ta:TA}{E:XK}
def  znT(tb:EXK->TE)(C1 C:ac)(i:Nat)(ta:TA)(E:XK):TS:=λD σ H=>tb (λc b g=>c=.ref C1 /\
 ∀e,g e=ae->ta (b.set i (Z (.ref e))) (upd g e (exC e C1)) λh d=>h.length<=Fb/\d e=Z (exC e C1)/\E (.ref C) ae d) σ H D.rt
def zdN{p:am}{w:ap}{c:Hp}{b:ac}(k:Ax p w c hq)(z:hq.get? b=ae):c b=ae:=by
 cases q:c b with
 |none=>rfl
 |some u=>
  let #[o,y]:=(k b u q).there;rw[z] at y;cases y
def zhY{Q':Flow->ag->Prop}{E':Aa}{aa:Ae}{σ:St}{H8:Hp}{e:ac}{s8:ag}(I:X.ex=[])(q1:sF X.K C1 Kb kI=af)(hi:X.N[i]?=Z n)(hl:X.e.scope.names.lookup n=Z .local)(q2:sF X.K C Kb kI=af)(hg:Gl X x)(hm:X.mg x=Z (.ref C))(ha:∀e,PA (X.sub e) [e₀] ta)(he:Fe [e₀] X.e=[(ah,eval e₀ X.e)])(G:(backTo aW (Fe ([]:List au) X.e)).any (·.1)=ah)(hd:(x==("__debug__":Str))=ah)(a3:(n==("__debug__":Str))=ah)(B:aJ X aa σ H8 s8)(aI:σ[i]?=Z (Z (.ref e)))(h:ta σ H8 λvs d=>vs.length<=Fb/\d e=Z (exC e C1)/\E (.ref C) ae d)(k:∀d e2 Q s4,aJ X aa σ d s4->s4.heap.get? e2=Z (zko C Q e)->E (.ref C) ae d->d e2=ae->X.s₀.heap.get? e2=ae->e2≠X.e.locals->(∀p∈X.pn++aa,p.1≠e2)->E' (.ref e2) s4) :
  Ff (Fg X.p X.w) (X.A.mark (Z (.ref e))) (exec (.Raise (Z (.Call (.Name x np2) [e₀] [] aW)) (Z (.Name n pn)) rpos) X.e) Q' E' s8:=by
 let #[tl,N,nm,qn,bs,hdct,sn,sub,ab,col,dd,k0,k1,k2,k3,k5,mN,hC,a4,aS,T9]:=zbP B.ok.mod.kin q2;let #[an,N',nm',qn',bs',hdct',sn',sub',ab',col',dd',k0',k1',k2',k3',k5',a9,a5,_,_,a7]:=zbP B.ok.mod.kin q1;rw[arm_exec_Raise];show ba (lG (zfr (h:=e) (C:=C) (nm:=nm) (qn:=qn) (N:=N) (bs:=bs) (bm:=tl) (hdct:=hdct) (sn:=sn) (sub:=sub) (ab:=ab) (col:=col) (dd:=dd) (k0:=k0) (k1:=k1) (k2:=k2) (k3:=k3) (k5:=k5) (nid:=kI) (C':=C1) (nm':=nm') (qn':=qn') (N':=N') (bs':=bs') (bm':=an) (hdct':=hdct') (sn':=sn') (sub':=sub') (ab':=ab') (col':=col') (dd':=dd') (k0':=k0') (k1':=k1') (k2':=k2') (k3':=k3') (k5':=k5') (nid':=kI) (T9.hasType fK.hasBase) (a7.hasType fK.hasBase) U (ba (dM (wpAny_Call_ofName (wV (X:=X.sub e) B.toSub hg hm ?_ hd)) (λv s3 z=>ba (lG (bg z))) λ_ _ z=>z))))
 let hA:=ha e aW aa s8 _ _ _ B.toSub h;let a2:Fe [e₀] (X.sub e).e=[(ah,eval e₀ (X.sub e).e)]:=he;rw[a2] at hA;unfold callWith;rw[he];show ba (cF (eI (dM hA (λus s2 ⟨a8,d,y,r2,z2,z3,qE⟩=>ba (lG ?_)) λ_ _ z=>dD z)));let aM:(backTo aW [(ah,eval e₀ X.e)]).any (·.1)=ah:=[<-he]\(he\G)
 let #[D,gs,dr,O,os]:=s2;simp only[aM];show ba (wpAny_keeperOf_exc (y.bk _ _ hC) ?_);show ba (wpAny_call_exc_subT (hrest:=[eQ,<-r2.length]\z2) fK (T9.keeps y.bk) (y.bk _ _ hC) (a4.keeps y.bk) aS λh' e2 c=>ba (cF (wpAny_point (bg ?_))));let #[Q,g2,_,_]:=c.there;let a6:aQ X.p X.w d D e (exC e C1):=y.hok e _ z3;let #[#[o9,al,T,c9,d9,v9],_]:=a6;let ar:e≠e2:=λz=>by rw[z] at T;rw[c.new] at T;cases T
 let M:aJ X aa σ d {D,gs,dr,O,os}:=aJ.ofSub (J:=B) y;let J3:aJ X aa σ d {h',gs,dr,O,os}:=M.kept (t':=O) c.keeps;let n3:d e2=ae:=zdN M.hok c.new;let x0:X.s₀.heap.get? e2=ae:=xi (M.there0 I) c.new;let eL:e2≠X.e.locals:=λz=>by let #[m,#[o,_,_,ho,_],_]:=M.loc;rw[<-z] at ho;rw[c.new] at ho;cases ho
 let L:∀b∈[e2],d b=ae/\X.s₀.heap.get? b=ae:=λb z=>bu.mp z\({n3,x0})
 let t:∀b∈[e2],∀p∈X.pn++aa,p.1≠b:=λb z p G w=>by rw[bu.mp z] at w;let:=(M.pin p G).1;rw[w,c.new] at this;cases this
 show{e2,Q,o9,al,U,c.keeps _ _ (y.bk _ _ hC),c.keeps _ _ (y.bk _ _ a5),g2,ar,c.keeps _ _ T,c9,d9,v9,λR hR=>?_,λg z1 zk=>?_}
 .let #[m,hn,a1]:=J3.loc;let #[u,r,l]:=a1 i n (.ref e) hi aI (.inl hl);cases r;obtain ⟨hk,hmm⟩|⟨hk,_⟩:=l
  .show ba (uC (og B.ok.kind hk hn hmm (ba (lG (bg hR)))) a3)
  .obtain hk|hk:=hk
   .show absurd (hl.symm.trans hk) ?s
   .show absurd (hl.symm.trans hk) ?s
 show k d e2 Q {g,gs,dr,O,os} (J3.land I L t (λb o q _ n=>zk b o (λw=>n (w\?s)) q) λb o q n=>{o.slots,zk b o (λw=>by rw[w] at q;rw[g2] at q;cases q;show n _ U) q}) z1 qE n3 x0 eL λp G=>t e2 (bu.mpr U) p G
def zkp(l:X.k=X.e::X.J/\X.e.frame=Z X.e.locals)(d:X.ex=[])(hN:X.N.Nodup)(hb:zoJ X ex tb)(b8:Gl X c1)(b5:X.mg c1=Z (.ref C1))(q1:sF X.K C1 Kb kI=af)(bS:uk X.K (.ref C1) (.ref C1)=Z af)(hi:X.N[i]?=Z n)(hl:X.e.scope.names.lookup n=Z .local)(q2:sF X.K C Kb kI=af)(hx:zcd X E)(B:∀e:ac,PassesOwnAt (Fg X.p X.w) (X.A.mark (Z (.ref e))) X.A X.e X.xe)(hg:Gl X x)(hm:X.mg x=Z (.ref C))(ha:∀e,PA (X.sub e) [e₀] ta)(a4:B1 c1:=by lia)(he:Fe [e₀] X.e=[(ah,eval e₀ X.e)]:=by rfl)(L:(backTo aW (Fe ([]:List au) X.e)).any (·.1)=ah:=by rfl)(hd:B1 x:=by lia)(ca:B1 n:=by lia)(cl:(n==("__classdict__":Str))=ah:=by lia) :
  PS X (.Try [.Return (Z ex) pos2] [.ExceptHandler (Z (.Name c1 np)) (Z n) [.Raise (Z (.Call (.Name x np2) [e₀] [] aW)) (Z (.Name n pn)) rpos] hpos] [] [] pos) (znT tb C1 C i ta E):=by
 intro aa s σ H D I h;show rO (iG (wpAny_Return_some (dM (hb aa s σ H _ _ I h) (λv y ⟨x,H1,I1,r,q⟩=>{x,σ,H1,I1,r,q}) λev y q=>?_)));let #[e,co,u,s0,H0,H1,I0,I1,xf,rfl,b4]:=q;let #[oe,vs,a0,T,oT,ts,h1,h2,h3,h4,h5,h6,h7,Q,h9,ce,al,cc]:=xf;let fr:y.heap.FunFrames (fN y.heap (Af X.k++[e,T])) (X.e::X.J):=by let q:=fJ (as:=Af X.k++[e,T]) I1.stack λan he a ha=>cO _ (dY.mpr {an,he,ha});rw[l.1] at q ⊢;show q
 let J:∀b∈[e,T],s0.heap.get? b=ae/\H1 b=ae:=λb z=>by
  let z':b=e\/b=T:=<-z
  obtain rfl|rfl:=z'
  .show{h9,al}
  .show{ce,cc}
 let M:∀b∈[e,T],H1 b=ae/\X.s₀.heap.get? b=ae:=λb z=>{(J b z).2,xi (I0.there0 d) (J b z).1};let O:∀b∈[e,T],∀p∈X.pn++aa,p.1≠b:=λb z p L q=>by let:=(I0.pin p L).1;rw[q,(J b z).1] at this;cases this
 show zcb (fv:=.none) (od:=af) (by simp[rawInt]) (base:=fN y.heap (Af X.k++[e,T])) ([I1.ok.frames,l.1]\_) fr l.2 {oe,vs,T,oT,ts,h1,{h2.1,λ_=>h2.2},h3,h4,dE _ (bD _ ?s),h5,h6,h7,Q} (λb o q=>gQ _ q) (dE _ (bD _ ?s)) λg4 ⟨a1,a2,a3,aI⟩=>?_;show znS (s:={ y with heap:=g4 }) a1 a2 a3 λg5 ⟨b1,b2,b3,ar⟩=>?_;let hB:∀ {g:ao},(fN y.heap (Af X.k++[e,T])).StaysIn g->∀b o,y.heap.get? b=Z o->b ∉ Af X.k->b ∉ [e,T]->g.get? b=Z o:=
  λ{g} k b o q n1 n2=>k b o (fm _ q λz=>(bw.mp z).elim n1 n2)
 let I5:aJ X aa u H1 { y with heap:=g5 }:=I1.land d M O (hB b1) (aI.trans ar);let K5:=I5.kIn;show wpAny_handleBy_cons (sH ?_) (by intro q;cases q);show wV (X:=X.sub e) (I5.toSub (e:=e)) b8 b5 ?_ a4;let be:pC (Fg X.p X.w) g5 (typeOf (.ref e)) (.ref C1):=by let #[o,_,_,_,_,p1,p2,_]:=b3;show p2.1.1 ▸ (pP p1).andThen .now
 show(W.exm_one K5 be bS).here ?_;show pD ?_;show znS (s:={ y with heap:=g5 }) b1 b2 b3 λg6 ⟨c1,c2,c3,bl⟩=>?_;let I6:aJ X aa u H1 { y with heap:=g6 }:=I1.land d M O (hB c1) ((aI.trans ar).trans bl);let #[o6,a8,_,_,_,p6,q6,r6,_]:=c3;let a9:=q6.2 rfl;let bx:e≠X.e.locals:=λz=>by let #[m,#[o,_,_,B,_],_]:=I0.loc;rw[<-z,h9] at B;cases B
 let bI:∀x c,X.e.cells.lookup x=Z c->c≠e:=λx c q z=>by let #[v,o,B,_]:=I0.cell x c q;rw[z,h9] at B;cases B
 let I7:aJ X aa u (upd H1 e (exC e C1)) { y with heap:=g6 }:=I6.track al (M e ?s).2 d bx bI (O e ?s)
  {{o6,a8,p6,q6.1.1,r6,a9},{o6,p6},λa b ⟨o,w,z1,z2⟩ k=>{o,w,k o z1,z2}}
 show ZE (X:=X) (v:=.ref e) I7 hN hi (.inl hl) U (λs8 I8=>?_) (.inr hl);let aS:i<u.length:=I1.len\(bi.mp hi).1
 show iG (zhY d q1 hi hl q2 hg hm ha he L hd ca I8 (gN aS) (b4 e al) λH2 G t2 s4 J4 z1 qE n3 x0 eL bt=>?_);let #[g,gs,dr,tt,os]:=s4;let a5:∀b∈[G],H2 b=ae/\X.s₀.heap.get? b=ae:=λb z=>bu.mp z\({n3,x0})
 let a6:∀b∈[G],∀p∈X.pn++aa,p.1≠b:=λb z p L w=>bt p L (w.trans (bu.mp z));let ci:g.FunFrames (fN g (Af X.k++[G])) (X.e::X.J):=by let q:=fJ (as:=Af X.k++[G]) J4.stack λan he a ha=>cO _ (dY.mpr {an,he,ha});rw[l.1] at q ⊢;show q
 show zkn (s:={g,gs,dr,tt,os}) (od:=ah) (base:=fN g (Af X.k++[G])) (by change X.A.frames=_;rw[I.ok.frames,l.1]) ci l.2 z1 (λb o q=>gQ _ q) (dE _ (bD _ ?s)) U U U () λg7 ⟨f1,f2,f4,b0⟩=>?_;let J5:aJ X aa (u.set i (Z (.ref e))) H2 {g7,gs,dr,tt,os}:=J4.land d a5 a6 (λb o q n1 n2=>f1 b o (fm _ q λz=>(bw.mp z).elim n1 n2)) b0;let #[oe2,ws,t,oT2,bk,x1,x2,x3,x4,x5,x6,x7,x8,x9]:=f4;let gT:g.get? t=ae:=by
  cases q:g.get? t with
  |none=>rfl
  |some o=>
   exfalso;by_cases hb:t∈Af X.k
   .let #[o',q',nf]:=J5.stackFields hb;rw[x7] at q';cases q';show nf _ x8
   .rw[fm (Af X.k++[G]) q λz=>(bw.mp z).elim hb λw=>x6 (bu.mp w)] at x5;cases x5
 let TH:H2 t=ae:=zdN J4.hok gT;let T0:X.s₀.heap.get? t=ae:=xi (J4.there0 d) gT;let TL:t≠X.e.locals:=λz=>by let #[m,#[o,_,_,B,_],_]:=J4.loc;rw[<-z] at B;rw[gT] at B;cases B
 let a7:(X.e.scope.kind==.class || (X.e.scope.kind==.module&&X.e.locals != X.e.globals))=ah:=I.ok.kind\U
 let #[m,aM,b6]:=id J5.loc;show tD hl aM a7 λQ v a b=>?_;let J6:=J5.forget (t':=tt+1) hN hi aM b6 a b;let y1:Q.get? G=Z oe2:=(b.2 G eL).trans x1;let y7:Q.get? t=Z oT2:=(b.2 t TL).trans x7;let sz:3<bk.size:=(cR.mp x9).1;unfold PySem.passOn;show ba (cQ y1 x3 x4 ?_);rw[aj ?s];show ba ?_;unfold setFlight;show ba (cQ y1 x3 x4 ?_);rw[ak ((bC t != cb)=af|>?s)];show eS y7 x8 sz (mU ?_);show B e _ _ ?_;let ot:∀b,b≠t->(Q.update t (dC (·.setIfInBounds 3 (X.e.frame.elim cb λf=>rawInt f)))).get? b=Q.get? b:=λb q=>cg _ _ (cY q);let J7:=J6.land (h2:=Q.update t (dC (·.setIfInBounds 3 (X.e.frame.elim cb λf=>rawInt f)))) d (cs:=[t]) (λb z=>bu.mp z\({TH,T0}))
  (λb z p L w=>by rw[bu.mp z] at w;let:=(J4.pin p L).1;rw[w,gT] at this;cases this)
  (λb o q _ n=>(ot b λw=>n (w\?s)).trans q) λb o q n=>{o.slots,(ot b λw=>by rw[w] at q;rw[y7] at q;cases q;show n _ x8).trans q}
 show hx aa _ H2 _ G oe2 ws _ (rawInt X.e.locals) t _ _ J7 ((ot G (cY x6)).trans y1) x3 x2.1.2 x4 x6 (cq _ y7 (eD (da x8 _))) (da x8 _) (by rw[l.2];simp[sz]) x0 T0 n3 TH (x2.1.1\qE)
end
inductive PXC(BE:Cx)(E:XK)(ev:ai)(s':ag):Prop
 |mk (e cls aa σ s1 H1 H':_) (f1:ev=.ref e) (f2:aJ BE aa σ H1 s1) (f3:aJ BE aa σ H' s') (f4:XF s1.heap s'.heap H' e cls) (f5:E cls ae H')
abbrev Cx.compX(X:Cx)(scope:ax)(c:List (Str×ac))(C:ac)(N:zO)(b:List ac)(s:ag)(H:Hp)(E:XK):Cx:=(X.comp scope c C N b s H).wish (PXC (X.comp scope c C N b s H) E)
def zoK{w:ap}{X:Cx}{scope:ax}{l:List (Str×ac)}{C:ac}{N:zO}{k:List ac}{s:ag}{H:Hp}{E:XK}(u:X.p=P:=by rfl)(t:X.w=w:=by rfl):wI (AJ P w) (X.compX scope l C N k s H E) E:=by subst u t;intro aa σ n s1 D B I g;let #[e,h,y,rfl,r,c,q,d,o,v]:=g;let m:aJ (X.comp scope l C N k s H) aa σ n s1:=I.unwish;show{e,h,aa,σ,s1,n,y,U,m,m.call' (ch:=[]) r q d c (λb z=>nomatch z),o,v}
def QY{x:ai}(h:env.frame=env'.frame):noteFrame x env=noteFrame x env':=by unfold noteFrame PySem.frameOf;rw[h]
def thF{b:Type}{M:Model}{A:av}{m:Sem b}{Q R:b->ag->Prop}{E:Aa}{s:ag}(h:Ff M A m Q (λ_ _=>False) s)(k:∀a c,Q a c->R a c):Ff M A m R E s:=dM h k λ_ _ z=>z.elim
variable {elt iter tg:au}{ifs:List au}{ix:wU}{xs:zO}{wi:TI}{g:TG}{tt:TT}
section
variable {cl:List (Str×ac)}
def zdO{E:XK}(cc:X.k=X.e::X.J/\X.e.frame=Z X.e.locals)(ce:X.ex=[])(S:kZ X scope cl ix)(hc:X.c=af)(hi:PI X tg iter wi)(hg:∀C l s H,PG (X.comp scope cl C (xs++wx ix X.N) l s H) tg g)(ht:∀C l s H,PTs (X.comp scope cl C (xs++wx ix X.N) l s H) ifs tt)(he:∀C l s H,PE (X.compX scope cl C (xs++wx ix X.N) l s H E) elt te)
  {aa:Ae} {s:ag} {σ:St} {H:Hp} {Q:VK} (I:aJ X aa σ H s) (h:vx wi g tt te xs.length ix σ H Q) {RR:ai->ac->ay->ag->Prop}
  (hR:∀v u B C,aP v u->(∃H',Q v H'/\(∃m,B.heap.Ns C m)/\(∀h',cy C B.heap h'->aJ X aa σ H' { B with heap:=h' })/\jJ X aa H' C)->RR u C (.ok .next) B) (hX:∀u e cls s1 B C H1 H',(∃m,s1.heap.Ns C m)->(∃m,B.heap.Ns C m)->aJ X aa σ H1 s1->aJ X aa σ H' B->jJ X aa H' C->XF s1.heap B.heap H' e cls->E cls ae H'->Ff (Fg X.p X.w) X.A (noteFrame (.ref e) X.e) (λ_ c=>RR u C (.error (.ref e)) c) (λx c=>RR u C (.error x) c) B) :
  Ff (Fg X.p X.w) X.A (eval iter X.e) (λx a3=>Ff (Fg X.p X.w) X.A (pyIter x) (λit a2=>Ff (Fg X.p X.w) X.A (newList []) (λbt a1=>
   Ff (Fg X.p X.w) X.A (newFunctionEnv scope X.e.globals cl [] X.e.qual ae .none (Z X.e)) (λan aW=>
    codeAny (Fg X.p X.w) X.A (.compStart (.ListComp elt [{tg,iter,ifs,0}] scope pos) 0 it bt { an with scope:=relabel scope X.e }) (RR bt an.locals) aW) X.xe a1) X.xe a2) X.xe a3) X.xe s:=by
 show aT (hi aa s σ H _ I h) λv s1 h1=>aT h1 λca c h2=>?_;let #[it,l,tn,J,H2,e,I2,T,a7,f2,hW]:=h2;subst e;show cC (tz S.nocell (λy hy=>nomatch hy) (λh₁ w t=>?_) S.kind);dsimp only at w t ⊢;let #[W,#[m0,w0],aS]:=hW c.heap.objs.size I2.fresh;let I3:=I2.lnew (t':=c.toks) (ys:=[]) (its:=[]) .nil (bP _);let bk:∀b∈l,b<c.heap.objs.size:=λb k=>by let #[o,e,_]:=T.obj _ _ a7 b k;show bG e
 generalize hs3:({ c with heap:=c.heap.push { cls:=.type "list",data:=.seq ([]:zQ).toArray },toks:=c.toks }:ag)=s3 at I3;let al:s3.heap=c.heap.push { cls:=.type "list",data:=.seq ([]:zQ).toArray }:=[<-hs3]\_
 let bS:s3.heap.objs.size=c.heap.objs.size+1:=[al,gX]\_
 let f3:∀b∈l,jJ X aa (upd H2 c.heap.objs.size (.lst [])) b:=λb k=>by let #[q0,q]:=f2 b k;show{zm (bO (bk b k))\q0,q}
 let be:∀b∈l,b<s3.heap.objs.size:=λb k=>bS\gG (bk b k)
 rw[<-al] at w t ⊢;let hk:∀b o,s3.heap.get? b=Z o->h₁.get? b=Z o:=λb o e=>(t.2 b (bO (bG e))).trans (bf _ e);let b2:∀b o,c.heap.get? b=Z o->s3.heap.get? b=Z o:=λb o e=>al\bf _ e
 let J0:=I3.comp (xs:=xs) (t':=c.toks) (C:=s3.heap.objs.size) S U f3 be w hk;let a6:tn 0 h₁:=T.keep _ _ _ a7 λb _ o e=>hk b o (b2 b o e);let a9:∀L,codeAny (Fg X.p X.w) X.A (.compLoop (.ListComp elt [{tg,iter,ifs,0}] scope pos) 0 (.ref it) (.ref c.heap.objs.size) (compEnvC scope cl s3.heap.objs.size X.e)) (RR (.ref c.heap.objs.size) s3.heap.objs.size) { s3 with heap:=h₁,toks:=L }:=by
  intro L;show XL (EE:=PXC (X.comp scope cl s3.heap.objs.size (xs++wx ix X.N) l s3 (upd H2 c.heap.objs.size (.lst []))) E) (λn B=>∃i ys G H',aJ (X.comp scope cl s3.heap.objs.size (xs++wx ix X.N) l s3 (upd H2 c.heap.objs.size (.lst []))) [] G H' B/\tn i B.heap/\(∀b∈l,H' b=ae)/\W i n ys G H')
   (λev B z=>?_) ?_ m0 {0,[],_,_,J0.tok L,a6,λb k=>(f3 b k).1,w0}
  .let #[e,cls,pl,G,bI,H1,H',rfl,K1,K2,xf,hE]:=z;let bx:=K1.pins_of (pins':=[]) λp hp=>nomatch hp
   let aM:=K2.pins_of (pins':=[]) λp hp=>nomatch hp
   let L1:=I3.uncomp U f3 bx (.refl ..);let L2:=I3.uncomp U f3 aM (.refl ..);unfold notedBy;rw[QY (env:=compEnvC scope cl s3.heap.objs.size X.e) (env':=X.e) rfl];let #[m,hn,_]:=aM.loc;let #[m1,b0,_]:=bx.loc;show hX _ e cls bI B _ H1 H' {m1,b0} {m,hn} L1 L2 (I3.fpOk (bh _) aM.free) xf hE
  rintro n B ⟨i,ys,G,H',I',a8,bl,w'⟩;let M:∀ {H':Hp},(∀b∈l,H' b=ae)->∀b∈l,jJ (X.comp scope cl s3.heap.objs.size (xs++wx ix X.N) l s3 (upd H2 c.heap.objs.size (.lst []))) [] H' b:=λhn b k=>
   {hn b k,(I'.ok.exf b k).1,I'.ok.exfs b k,.inl k,(I'.ok.exf b k).2,λp hp=>absurd (p∈([]:Ae)|>hp) ?s}
  obtain⟨hD,⟨a4,q⟩|⟨go,hz,N,hN,Nf,b3,a5⟩⟩:=aS i n ys G H' w'
  .show thF (T.done (X.comp scope cl s3.heap.objs.size (xs++wx ix X.N) l s3 (upd H2 c.heap.objs.size (.lst []))) U U U hc i [] B G H' _ I' (M bl) a8 a4) λr s4 ⟨hr,I4⟩=>?_;subst hr;show hR (.ref c.heap.objs.size) _ s4 _ U {H',q,?_,λh' k=>I3.uncomp U f3 I4 k,I3.fpOk (bh _) I4.free};let #[m,hn,_]:=I4.loc;show{m,hn}
  .show thF (T.item (X.comp scope cl s3.heap.objs.size (xs++wx ix X.N) l s3 (upd H2 c.heap.objs.size (.lst []))) U U U hc i [] B G H' _ I' (M bl) a8 go) λr s4 ⟨u,hr,h4⟩=>?_;subst hr;show thF h4 λ_ s5 ⟨x,H5,I5,r5,y5,aI,b5⟩=>?_;let b8:=I5.pinned (M b5) (T.obj _ _ aI);show thF (hg _ _ _ _ _ s5 G H5 x u _ b8 r5 (a5 x H5 y5)) λ_ s6 ⟨D,H6,I6,q6⟩=>?_;show thF (ht _ _ _ _ _ s6 D H6 _ I6 q6) λok s7 ⟨H7,I7,q7⟩=>?_;let ar:∀ {s8:ag}{H8:Hp}{m:Nat}{zs:LV},aJ (X.comp scope cl s3.heap.objs.size (xs++wx ix X.N) l s3 (upd H2 c.heap.objs.size (.lst []))) ([]++WB l s5.heap) D H8 s8->W (i+1) m zs D H8 ->
     ∃i ys G H',aJ (X.comp scope cl s3.heap.objs.size (xs++wx ix X.N) l s3 (upd H2 c.heap.objs.size (.lst []))) [] G H' s8/\tn i s8.heap/\(∀b∈l,H' b=ae)/\W i m ys G H':=λ{s8 H8 m zs} I8 w8=>by show{i+1,zs,D,H8,I8.unpinned,T.keep _ _ _ aI λb k o e=>(I8.pin (b,o) (bD _ (bD _ (vI k e)))).1,λb k=>?_,w8};let #[o,e,d]:=T.obj _ _ aI b k;show(I8.pin (b,o) (bD _ (bD _ (vI k e)))).2.1
   cases ok with
   |false=>
    rw[aj bL] at q7 ⊢;let #[m',hm,w7]:=b3 _ _ q7;show{m',hm,ar I7 w7}
   |true=>
    rw[ak rfl] at q7 ⊢;show aT (he _ _ _ _ _ s7 D H7 _ (I7.wish _) q7) λy s8 ⟨v8,H8,b6,r8,n8⟩=>?_;let I8:=b6.unwish;let #[b4,m',hm,w8]:=hN _ _ _ n8;show thF (yE _ s8 D H8 (.ref c.heap.objs.size) [v8] (.ref c.heap.objs.size) [y] (λ_ Hn=>∃m,m<n/\W (i+1) m (ys++[v8]) D Hn) I8 U (.cons r8 .nil) {_,ys,v8,U,U,b4,hz,m',hm,w8}) λ_ s9 ⟨_,H9,I9,_,m9,b1,w9⟩=>?_;show{m9,b1,ar I9 w9}
 let e3:∀L,({ s3 with heap:=h₁,toks:=L }:ag)={ c with heap:=h₁,toks:=L }:=λL=>[<-hs3]\_
 let O:∀L,codeAny (Fg X.p X.w) X.A (.compLoop (.ListComp elt [{tg,iter,ifs,0}] scope pos) 0 (.ref it) (.ref c.heap.objs.size) (compEnvC scope cl s3.heap.objs.size X.e)) (RR (.ref c.heap.objs.size) s3.heap.objs.size) { c with heap:=h₁,toks:=L }:=λL=>[<-e3]\a9 L
 show se (O _) (T.self _ 0 _ _ _ a6 (O _))
end
def XN.older{g c h:ao}{e:ac}(x:XN g h H e cls)(k:∀b o,c.get? b=Z o->∃d,g.get? b=Z d):XN c h H e cls:=by let #[oe,vs,a0,T,oT,ts,h1,h2,h3,h4,h5,h6,h7,h8,h9,h10,h11,h12]:=x;show{oe,vs,a0,T,oT,ts,h1,h2,h3,h4,h5,h6,h7,h8,xi k h9,xi k h10,h11,h12}
def zhZ{e:ac}{d:ai}{E:XK}{EE:Aa}(c:X.k=X.e::X.J/\X.e.frame=Z X.e.locals)(D:X.ex=[])(J:aJ X aa σ H s)(xf:XN X.s₀.heap s.heap H e d)(hE:E d ae H) :
  Ff (Fg X.p X.w) X.A (leaving X.e (.ref e)) (λ_ s2=>CXN X.p X.w X.J X.H₀ X.s₀ E (.ref e) s2) EE s:=by
 let #[oe,vs,a0,T,oT,ts,h1,h2,h3,h4,h5,h6,h7,h8,h9,L,l,I]:=id xf;let fr:s.heap.FunFrames (fN s.heap (Af X.k++[e,T])) (X.e::X.J):=by let q:=fJ (as:=Af X.k++[e,T]) J.stack λM he a ha=>cO _ (dY.mpr {M,he,ha});rw[c.1] at q ⊢;show q
 show zfq (od:=af) (λh=>zcb (fv:=.none) (od:=af) (by simp[rawInt]) (base:=fN s.heap (Af X.k++[e,T])) ([J.ok.frames,c.1]\_) fr c.2 {oe,vs,T,oT,ts,h1,{h2.1,λ_=>h2.2},h3,h4,dE _ (bD _ ?s),h5,h6,h7,h8} (λb o q=>gQ _ q) (dE _ (bD _ ?s)) h) λG ⟨f1,f2,f4,B⟩=>?_;let hF:∀b o,s.heap.get? b=Z o->b∈Af X.k->∃sl,G.get? b=Z { o with slots:=sl }:=λb o q hb=>by let #[o',q',nf]:=J.stackFields hb;rw[q] at q';cases q';show B b o q nf
 let #[k,ws,T',y,v,t,x2,r,x4,x5,x6,x7,x8,x9]:=f4;let #[r1,r2,m]:=J.flown (cs:=[e,T]) D (λb z=>by
   let z':b=e\/b=T:=<-z
   obtain rfl|rfl:=z'
   .show{l,h9}
   .show{I,L}) (λb o q n n2=>fm _ q λz=>(bw.mp z).elim n n2) hF l h9 f1 {k,ws,T',y,v,t,x2.1,r,x4,x5,x6,x7,x8,x9}
 show{e,d,H,U,J.os,J.bare,r1,r2,?_,hE};let #[an,al,a2,T2,w,u,Q,y2,O,y4,y5,y6,y7,y8,y9,z1,z2,z3]:=m;rw[t] at Q;cases Q;rw[r] at O;cases O;show{k,ws,a2,T2,w,u,t,{y2,x2.2 U},r,y4,y5,y6,y7,y8,y9,z1,z2,z3}
section
variable {w:ap}{E:XK}
def zoL:wI (CXN P w) (jh (CXN P w) P w K mg base N qual scope f cd A outer s₀ H₀ E) E:=by intro aa σ H s r q I h;let #[e,o,t,rfl,m,c,l,d,k,n]:=h;let J:=I.call' (ch:=[]) m l d c (λb z=>nomatch z);show zhZ (X:=jh (CXN P w) P w K mg base N qual scope f cd A outer s₀ H₀ E) {U,U} U J (k.older (I.there0 U)) n
end
def zdP{E:XK}{y:Str}{O:Pos}{j:Nat}{t:Pos}(a4:X.N.Nodup)(hj:X.N[j]?=Z y)(l:X.k=X.e::X.J/\X.e.frame=Z X.e.locals)(c:X.ex=[])(hr:zcd X E)(hc:X.c=af)(hy:Loc X.e.scope y)(hD:zc8 osc N scope ix=af)(hi:PI X tg iter wi)(hg:∀C fp s H,PG (X.comp scope (jK scope X.e) C (xs++wx ix X.N) fp s H) tg g)(ht:∀C fp s H,PTs (X.comp scope (jK scope X.e) C (xs++wx ix X.N) fp s H) ifs tt)(he:∀C fp s H,PE (X.compX scope (jK scope X.e) C (xs++wx ix X.N) fp s H E) elt te)(a2:X.e.scope=osc:=by rfl)(hN:X.N=N:=by rfl)(a1:swapsWith (.ListComp elt [{tg,iter,ifs,0}] scope pos) (Z (.Name y O)) t.line X.e=pure af:=by rfl)(hs:∀x,foldedSetIterable iter X.e x=pure x:=by intro _;rfl)(hf:X.fn y=af\/X.e.scope.names.lookup y=Z .local:=by first|show .inl rfl|show .inr rfl|assumption) :
  PS X (.Assign [.Name y O] (.ListComp elt [{tg,iter,ifs,0}] scope pos) t) (yc (vx wi g tt te xs.length ix) (zD j)):=by
 intro aa s σ H D I h;let S:=qK I.ok hD a2 hN;rw[sE _ _ _ _ a1];show ba (lG (ba ?_));change Ff _ X.A (do let _ <-comprehension (.ListComp elt [{tg,iter,ifs,0}] scope pos) scope X.e _ (newList []) ah (eval iter X.e) (Z (assign (.Name y O) X.e))) _ _ s;show ba (aT (mq (use:=Z (assign (.Name y O) X.e)) (Q:=λ_ s'=>SP X aa D .next s') rfl hs S.clos S.kind S.names
  (zdO l c S hc hi hg ht he I h (RR:=λa9 C=>compPost (Fg X.p X.w) X.A X.xe (Z (assign (.Name y O) X.e)) (λ_ s'=>SP X aa D .next s') a9 C) ?_ ?_)) λ_ s' hq=>bg (bg hq))
 .rintro v u s' C r ⟨d,q,⟨m,hn⟩,hI,f0,f1,f2,f3,f4,f5⟩;let I':aJ X aa σ d s':=hI s'.heap (.refl ..);change Ff _ X.A (assign (.Name y O) X.e u) _ _ _;show pL (Wz I' a4 hj hy r (λs2 I2 hx=>?_) hf);let #[a,B,ha]:=hx;let a5:C≠a:=by
   obtain rfl|ha:=ha
   .show f1
   .show cY (f4 _ _ ha)
  show{m,hn.sameBut B a5,λM a3=>{_,d,?_,q}};show I2.turned (t':=s2.toks) (λb o G e=>(a3.2 b G).trans e) f0 f1 f3 f4 f5
 rintro u e bk s1 s' C H1 d ⟨m1,o1,_,_,a6,_⟩ ⟨m,hn⟩ J1 J ⟨c0,c1,c2,c3,c4,c5⟩ xf hE;let #[oe,vs,a0,T,oT,ts,h1,h2,h3,h4,h5,h6,h7,h8,h9,a7,aM,aI]:=xf;let k:∀b∈[e,T],s1.heap.get? b=ae/\d b=ae:=λb z=>by
  let z':b=e\/b=T:=<-z
  obtain rfl|rfl:=z'
  .show{h9,aM}
  .show{a7,aI}
 let L:∀b∈[e,T],d b=ae/\X.s₀.heap.get? b=ae:=λb z=>{(k b z).2,xi (J1.there0 c) (k b z).1};let an:∀b∈[e,T],∀p∈X.pn++aa,p.1≠b:=λb z p hp q=>by let:=(J1.pin p hp).1;rw[q,(k b z).1] at this;cases this
 let ar:∀b∈[e,T],b≠C:=λb z q=>by let:=(k b z).1;rw[q,a6] at this;cases this
 let fr:s'.heap.FunFrames (fN s'.heap (Af X.k++[e,T])) (X.e::X.J):=by let q:=fJ (as:=Af X.k++[e,T]) J.stack λa8 he a ha=>cO _ (dY.mpr {a8,he,ha});rw[l.1] at q ⊢;show q
 show zcb (fv:=.none) (od:=ah) (by simp[rawInt]) (base:=fN s'.heap (Af X.k++[e,T])) ([J.ok.frames,l.1]\_) fr l.2 {oe,vs,T,oT,ts,h1,{h2,nofun},h3,h4,dE _ (bD _ ?s),h5,h6,h7,h8} (λb o q=>gQ _ q) (dE _ (bD _ ?s)) λg7 ⟨f1,f2,f4,al⟩=>?_;let J5:aJ X aa σ d { s' with heap:=g7 }:=J.land c L an (λb o q n1 n2=>f1 b o (fm _ q λz=>(bw.mp z).elim n1 n2)) al;let #[oe2,ws,T2,oT2,aW,x1,x2,x3,x4,x5,x6,x7,x8,x9]:=f4;let sz:3<aW.size:=(cR.mp x9).1;let gT:T2=T\/s'.heap.get? T2=ae:=by
  by_cases hT:T2=T
  .show .inl hT
  .show .inr ?_;cases q:s'.heap.get? T2 with
   |none=>rfl
   |some o=>
    exfalso;by_cases B:T2∈Af X.k
    .let #[o',q',nf]:=J5.stackFields B;rw[x7] at q';cases q';show nf _ x8
    .rw[fm (Af X.k++[e,T]) q λz=>(bw.mp z).elim B λw=>by
      let z':T2=e\/T2=T:=<-w
      show z'.elim x6 hT] at x5
     cases x5
 let fT:d T2=ae/\X.s₀.heap.get? T2=ae/\T2≠C/\∀p∈X.pn++aa,p.1≠T2:=by
  obtain rfl|gT:=gT
  .show{aI,(L _ ?s).2,ar _ ?s,an _ ?s}
  .show{?_,xi (J.there0 c) gT,λz=>?_,λp hp z=>?_}
   .cases q:d T2 with
    |none=>rfl
    |some u=>
     let #[o,y]:=(J.hok T2 u q).there;rw[gT] at y;cases y
   .let #[o,_,_,ho,_]:=hn;rw[<-z,gT] at ho;cases ho
   .let:=(J.pin p hp).1;rw[z,gT] at this;cases this
 show{m,al.ns hn,λM B aS be=>?_};let J6:aJ X aa σ d { s' with heap:=M }:=J5.turned (t':=s'.toks) (λb o G q=>(B.2 b G).trans q) c0 c1 c3 c4 c5;let y1:M.get? e=Z oe2:=(B.2 e (ar e ?s)).trans x1;let y7:M.get? T2=Z oT2:=(B.2 T2 fT.2.2.1).trans x7;unfold PySem.passOn;show ba (cQ y1 x3 x4 ?_);rw[aj ?s];show ba ?_;unfold setFlight;show ba (cQ y1 x3 x4 ?_);rw[ak ((bC T2 != cb)=af|>?s)];show eS y7 x8 sz (mU ?_);generalize hfl:(aS.frame.elim cb λf=>rawInt f)=fl;let ot:∀b,b≠T2->(M.update T2 (dC (·.setIfInBounds 3 fl))).get? b=M.get? b:=λb q=>cg _ _ (cY q);let J7:=J6.land (h2:=M.update T2 (dC (·.setIfInBounds 3 fl))) c (cs:=[T2]) (λb z=>bu.mp z\({fT.1,fT.2.1}))
  (λb z p hp=>bu.mp z\fT.2.2.2 p hp)
  (λb o q _ n=>(ot b λw=>n (w\?s)).trans q) λb o q n=>{o.slots,(ot b λw=>by rw[w] at q;rw[y7] at q;cases q;show n _ x8).trans q}
 show hr aa _ d _ e oe2 ws _ fl T2 _ _ J7 ((ot e (cY x6)).trans y1) x3 x2.1.2 x4 x6 (cq _ y7 (eD (da x8 _))) (da x8 _) (by simp[sz]) (L e ?s).2 fT.2.1 aM fT.1 (x2.1.1\hE)
section
variable {k:Nat}{sp:Sp}{t:TA}
def  zkq(C:ac)(sp:Sp)(ta:TA)(m:EXK):TE:=λσ H Q=>ta σ H λl h=>∀x b,h x=ae->h b=ae->b≠x ->
 sp (.ref x::(l++[])) (upd (upd h b (.own x)) x (.ins C b [])) (λv d=>v=.non/\Q (.ref x) d) λc _ d=>m c σ d
def zkr(M:Mk X.K C f)(F:bv X.p X.w X.K X.mg X.M (AJ X.p X.w) k f fd ps sp)(hr:aY (k+1) X.A)(hg:Gl X x)(hm:X.mg x=Z (.ref C))(hb:hU X.K fd ps [])(ha:PA X.nox (e::es) t)(D:B1 x:=by lia)(he:Fe (e::es) X.e=(ah,eval e X.e)::Fe es X.e:=by rfl)(y:(backTo pos (Fe es X.e)).any (·.1)=ah:=by rfl) :
  PEX X (.Call (.Name x p) (e::es) [] pos) (zkq C sp t):=by
 intro aa s σ H Q EX I h;show fq (wV I hg hm ?_ D);show oY (h₀:=X.M) I.ok.mod.kin M.kp (dM (ha pos aa s σ H _ (I.wish _) h) (λl d ⟨vs,H1,o,r,q⟩=>{o.kIn,?_}) λ_ _ z=>dD z) he y;let w:=o.unwish;let O:=q (d.heap.objs.size+1) d.heap.objs.size (w.hok.fresh (iS _)) (w.hok.fresh (bh _)) (bO (iH _));let n:=aJ.made (C:=C) w;let L:aO (V.ref (d.heap.objs.size+1)::(vs++[])) (bC (d.heap.objs.size+1)::(l++[])):=.cons U (r.append .nil);let hl:(bC (d.heap.objs.size+1)::l++[]).length=ps.length:=by let e:=L.length;rw[F.len _ _ _ _ O] at e;show e.symm
 show mR (zcU (f:=f) w.kIn M.makes M.init (beq_iff_eq.mp M.fn) (fV (F.run _ X.k _ _ {bC (d.heap.objs.size+1)::l,[]} ((bC (d.heap.objs.size+1)::l)++[]) _ _ _ (hr.make C l []) (n.env0.make C l []) (hb _ (bC (d.heap.objs.size+1)::l) n.kIn hl) L O) λr s' c=>?_))
 cases r with
 |error T=>
  let #[e,G,J,rfl,os,m,un,B,xf,hE]:=c;show{e,G,σ,_,_,J,U,n,n.call' (ch:=[]) os un B m (λb z=>nomatch z),xf,hE}
 |ok fl=>
  cases fl with
  |ret u=>
   let #[v,J,I3,rv,T,q3]:=n.after c;subst T;show{rv,{V.ref (d.heap.objs.size+1),J,I3,U,q3}}
  |next=>show dD c
  |brk=>show dD c
  |cont=>show dD c
end
end L2
namespace K76
open PySem L2
abbrev zZZ(n:Nat)(x:List L2.V):L2.St:=x.map some++List.replicate (n-x.length) none
abbrev ad:=rI0 λi j=>.int (i+j)
abbrev az:=rI (λ_ j=>0<j) λi j=>.int (i%j)
abbrev aA:=rI0 λi j=>.int (i-j)
abbrev aB:=rI YJ λi j=>.int (i/j)
abbrev aC:=rI0 λi j=>.bl (decide (i<j))
abbrev aD:=rI CMulC λi j=>.int (i*j)
abbrev aX(Q:VK):ZF:={nx:=λ_ a=>Q .non a,rt:=Q}
def  top(i:Nat):aq:=PySem.Challenge.pw_forerun_k76_no_house_of_such_a_log.main.body.getD i (.Pass {0,0,0,0})
abbrev ZT:aq:=top 92
abbrev WO:aq:=top 39
abbrev Ky:aq:=top 64
abbrev Kz:aq:=top 28
abbrev qP:aq:=top 30
abbrev zbi:aq:=top 29
abbrev X1:aq:=top 31
abbrev KA:aq:=top 32
abbrev VA:aq:=top 62
abbrev WP:aq:=top 66
abbrev qQ:aq:=top 65
abbrev zbj:aq:=top 63
abbrev zbk:aq:=top 67
abbrev WQ:aq:=top 68
abbrev Xi:aq:=top 56
abbrev zbl:aq:=top 69
abbrev VB:aq:=top 70
abbrev KB:aq:=top 74
abbrev KC:aq:=top 72
abbrev qR:aq:=top 75
abbrev Xj:aq:=top 17
abbrev zbm:aq:=top 76
abbrev X2:aq:=zK (top 22) 0
abbrev VC:aq:=zK (top 24) 0
abbrev VD:aq:=zK (top 50) 0
abbrev X3:aq:=zK (top 88) 0
abbrev zbn:aq:=top 57
abbrev VE:aq:=top 59
abbrev VF:aq:=top 61
abbrev qg:aq:=top 94
abbrev YL:aq:=top 95
abbrev qh:aq:=zK (top 50) 9
abbrev KD:aq:=zK (top 50) 1
abbrev QZ:aq:=top 3
abbrev KG:aq:=top 2
abbrev zbo:aq:=top 4
abbrev ZU:aq:=zK (top 85) 0
abbrev Jc:aq:=zK (top 85) 4
abbrev Jd:aq:=zK (top 85) 5
abbrev WR:aq:=zK (top 85) 3
abbrev ju:aq:=zK (top 85) 2
abbrev Zn:aq:=zK (top 85) 1
abbrev Zo:aq:=zK (top 81) 0
abbrev v3:aq:=zK (top 81) 1
abbrev zce:aq:=top 82
abbrev v5:aq:=zK (top 81) 3
abbrev YM:aq:=top 41
abbrev zbp:aq:=top 40
abbrev VG:aq:=top 42
abbrev v6:aq:=zK (top 81) 4
abbrev VH:aq:=top 83
abbrev jv:aq:=zK (top 81) 5
abbrev zdQ:aq:=top 84
abbrev zks:aq:=top 86
abbrev Zp:aq:=zK (top 88) 1
abbrev ZV:aq:=zK (top 50) 4
abbrev KH:aq:=zK (top 48) 1
abbrev zkt:aq:=top 45
abbrev KI:aq:=top 46
abbrev ZW:aq:=zK (top 48) 5
abbrev ZX:aq:=zK (top 48) 6
abbrev KJ:aq:=zK (top 48) 2
abbrev ki:aq:=zK (top 22) 8
abbrev X4:aq:=top 19
abbrev X5:aq:=zK (top 22) 1
abbrev zdR:aq:=zK (top 48) 9
abbrev KK:aq:=zK (top 48) 8
abbrev X6:aq:=zK (top 48) 7
abbrev KL:aq:=zK (top 48) 3
abbrev jx:aq:=zK (top 24) 4
abbrev vz:aq:=zK (top 24) 5
abbrev VI:aq:=top 21
abbrev Zq:aq:=zK (top 24) 2
abbrev X7:aq:=zK (top 90) 0
abbrev KM:aq:=zK (top 48) 0
abbrev Zr:aq:=zK (top 50) 11
abbrev km:aq:=zK (top 50) 10
abbrev kq:aq:=zK (top 22) 6
abbrev kt:aq:=zK (top 22) 9
abbrev KN:aq:=top 20
abbrev VJ:aq:=zK (top 22) 2
abbrev jR:aq:=zK (top 22) 7
abbrev X8:aq:=zK (top 24) 3
abbrev Zs:aq:=zK (top 24) 1
abbrev VL:aq:=zK (top 48) 4
abbrev VM:aq:=zK (top 50) 2
abbrev YN:aq:=zK (top 50) 3
abbrev jj:aq:=top 58
abbrev VN:aq:=top 60
abbrev vA:aq:=zK (top 88) 10
abbrev ZY:aq:=zK (top 88) 3
abbrev Zt:aq:=zK (top 88) 4
abbrev WS:aq:=top 73
abbrev VO:aq:=zK (top 88) 8
abbrev vb:aq:=zK (top 22) 3
abbrev qS:aq:=zK (top 22) 4
abbrev VP:aq:=zK (top 50) 7
abbrev X9:aq:=zK (top 50) 6
abbrev YO:aq:=zK (top 88) 5
abbrev Wa:aq:=zK (top 88) 7
abbrev ZZ:aq:=top 93
abbrev Zu:aq:=zK (top 88) 9
abbrev kL:aq:=top 96
abbrev zku:aq:=top 97
def Je:aG ["script","k"] ["script","k"] (zg ZT):=.m
def zft:aG ["text"] ["text"] (zg WO):=.m
def zdS:aG ["word"] ["word"] (zg Ky):=.m
def zdT:aG ["thing"] ["thing"] (zg Kz):=.m
def Q5:aG ["text"] ["text"] (zg qP):=.m
def zfu:aG ["worth"] ["worth"] (zg zbi):=.m
def q1e:aG ["text","figures","worth"] ["text"] (zg X1):=.m
def zdU:aG ["text"] ["text"] (zg KA):=.m
def zcf:aG ["word","refusal"] ["word"] (zg VA):=.m
def q0q:aG ["words","rows","at","place","places"] ["words"] (zg WP):=.m
def Q6:aG ["words"] ["words"] (zg qQ):=.m
def q1o:aG ["word","rank"] ["word"] (zg zbj):=.m
def q1p:aG ["words","rows","outcome"] ["words","rows"] (zg zbk):=.m
def zfv:aG ["words","rows"] ["words","rows"] (zg WQ):=.m
def q1q:aG ["body","total"] ["body"] (zg Xi):=.m
def q1r:aG ["text","parts"] ["text"] (zg zbl):=.m
def q11:aG ["text","words","at","rows"] ["text"] (zg VB):=.m
def q1s:aG ["line","refusal"] ["line"] (zg KB):=.m
def zdV:aG ["text"] ["text"] (zg KC):=.m
def q1t:aG ["text","entries"] ["text"] (zg qR):=.m
def q1u:aG ["rows","worths"] ["rows"] (zg Xj):=.m
def q0j:aG ["text","entries","rank","rows","told","entry"] ["text"] (zg zbm):=.m
def Q7:aG ["self","table"] ["self","table"] (zg X2):=.m
def zcg:aG ["self","makes"] ["self","makes"] (zg VC):=.m
def zch:aG ["self","table","hands","way","first"] ["self","table","hands","way","first"] (zg VD):=.m
def q1v:aG ["self","log","hands","way","came"] ["self","log","hands","way"] (zg X3):=.m
def q1w:aG ["words","body"] ["words"] (zg zbn):=.m
def q12:aG ["rows","words","place","worth"] ["rows"] (zg VE):=.m
def zci:aG ["rank","table"] ["rank","table"] (zg VF):=.m
def q0r:aG ["line","cell","signs","at","far"] ["line","cell"] (zg qg):=.m
def q0i:aG ["lines","deals","kind","cell","last","at","one","other","front","some"] ["lines","deals","kind","cell","last"] (zg YL):=.m
def Wb:aG ["self"] ["self"] (zg qh):=.m
def q1x:aG ["self","code","rank"] ["self","code"] (zg KD):=.m
def q1f:aG ["rows","first","steps","row"] ["rows","first"] (zg KG):=.m
def zfw:aG ["rows"] ["rows"] (zg zbo):=.m
def Jf:aG ["self"] ["self"] (zg ZU):=.m
def Z0:aG ["self"] ["self"] (zg ju):=.m
def WT:aG ["self","row","number"] ["self","row","number"] (zg Zn):=.m
def WU:aG ["self","words","number"] ["self","words","number"] (zg Zo):=.m
def q1y:aG ["self","word"] ["self"] (zg v3):=.m
def q1z:aG ["self","word"] ["self"] (zg v5):=.m
def q0s:aG ["words","at","due","place"] ["words","at"] (zg YM):=.m
def zfx:aG ["word"] ["word"] (zg zbp):=.m
def q0l:aG ["words","at","behind","parts","word","first","second"] ["words","at"] (zg VG):=.m
def q20:aG ["self","found"] ["self"] (zg v6):=.m
def q21:aG ["words","first"] ["words"] (zg VH):=.m
def Z1:aG ["self"] ["self"] (zg jv):=.m
def q13:aG ["text","number","words","drawn","row"] ["text","number"] (zg zdQ):=.m
def q0t:aG ["text","texts","reading","number","one"] ["text"] (zg zks):=.m
def WV:aG ["self","text"] ["self","text"] (zg Zp):=.m
def Jg:aG ["self"] ["self"] (zg ZV):=.m
def zdW:aG ["self"] ["self"] (zg KH):=.m
def q0u:aG ["term","slots","worths","part","second","first"] ["term","slots"] (zg KI):=.m
def Jh:aG ["self","term"] ["self","term"] (zg ZW):=.m
def Ji:aG ["self","due"] ["self","due"] (zg ZX):=.m
def q22:aG ["self","place"] ["self"] (zg KJ):=.m
def Xk:aG ["self","rank"] ["self","rank"] (zg ki):=.m
def q0m:aG ["ranks","rank","low","high","amid"] ["ranks","rank"] (zg X4):=.m
def q1g:aG ["self","place","rank","ranks","below"] ["self","place","rank"] (zg X5):=.m
def q23:aG ["self","due","worth","place"] ["self","due","worth"] (zg KK):=.m
def Q8:aG ["self","due","worth"] ["self","due","worth"] (zg X6):=.m
def zdX:aG ["self","worth"] ["self","worth"] (zg KL):=.m
def q14:aG ["self","rank","place","worth","now"] ["self","rank"] (zg jx):=.m
def q15:aG ["self","ranks","rank","note"] ["self"] (zg vz):=.m
def q24:aG ["ranks_at","place","rank","ranks"] ["ranks_at","place","rank"] (zg VI):=.m
def q16:aG ["self","rank","paper","place","worth"] ["self","rank"] (zg Zq):=.m
def Q9:aG ["self","ranks"] ["self","ranks"] (zg X7):=.m
def zdY:aG ["self","code"] ["self","code"] (zg KM):=.m
def q25:aG ["self","hand","rank"] ["self","hand"] (zg Zr):=.m
def q1h:aG ["self","hand","lowest","changed"] ["self","hand"] (zg km):=.m
def Xl:aG ["self","rank"] ["self","rank"] (zg kq):=.m
def q1i:aG ["self","rank","places","place"] ["self","rank"] (zg kt):=.m
def q26:aG ["ranks_at","place","rank","ranks"] ["ranks_at","place","rank"] (zg KN):=.m
def q1j:aG ["self","rank","gifts","worths","place"] ["self","rank","gifts"] (zg VJ):=.m
def q1k:aG ["self","place","rank","ranks","above"] ["self","place","rank"] (zg jR):=.m
def q0v:aG ["self","place","rank","readers","above","behind","reader"] ["self","place","rank"] (zg X8):=.m
def q0w:aG ["self","rank","paper","before","place","worth"] ["self","rank","paper"] (zg Zs):=.m
def q27:aG ["self","notes"] ["self"] (zg VL):=.m
def q0x:aG ["self","hand","rank","run","place","worth"] ["self","hand"] (zg VM):=.m
def q28:aG ["self","told"] ["self"] (zg YN):=.m
def WW:aG ["outcome"] ["outcome"] (zg jj):=.m
def zcj:aG ["rank","paper"] ["rank","paper"] (zg VN):=.m
def q29:aG ["self","paper"] ["self"] (zg vA):=.m
def q2a:aG ["self","did"] ["self"] (zg ZY):=.m
def WX:aG ["self"] ["self"] (zg Zt):=.m
def zfy:aG ["lines"] ["lines"] (zg WS):=.m
def zck:aG ["self"] ["self"] (zg VO):=.m
def q2b:aG ["self","rank","places"] ["self","rank"] (zg vb):=.m
def q1l:aG ["self","rank","lower","laid"] ["self","rank"] (zg qS):=.m
def zcl:aG ["self"] ["self"] (zg VP):=.m
def zaa:aG ["self"] ["self"] (zg X9):=.m
def KO:aG ["self"] ["self"] (zg YO):=.m
def zab:aG ["self"] ["self"] (zg Wa):=.m
def q0n:aG ["text","right","other","e"] ["text"] (zg ZZ):=.m
def WY:aG ["self"] ["self"] (zg Zu):=.m
def KP:aG ["lines"] ["lines"] (zg kL):=.m
def q0g:aG ["script","cell","first","house","number","worth","lines","deals","last","kind","spoilt","again"] ["script"] (zg zku):=.m
set_option genSizeOf false in
set_option genInjectivity false in
set_option genInjectivity false in
structure aR where
 a0:ac
 d0:Fc
 a1:ac
 d1:Fc
 a2:ac
 d2:Fc
 a3:ac
 d3:Fc
 a4:ac
 d4:Fc
 a5:ac
 d5:Fc
 a6:ac
 d6:Fc
 a7:ac
 d7:Fc
 a8:ac
 d8:Fc
 a9:ac
 d9:Fc
 a10:ac
 d10:Fc
 a11:ac
 d11:Fc
 a12:ac
 d12:Fc
 a13:ac
 d13:Fc
 a14:ac
 d14:Fc
 a15:ac
 d15:Fc
 a16:ac
 d16:Fc
 a17:ac
 d17:Fc
 a18:ac
 d18:Fc
 a19:ac
 d19:Fc
 a20:ac
 d20:Fc
 a21:ac
 d21:Fc
 a22:ac
 d22:Fc
 a23:ac
 d23:Fc
 a24:ac
 d24:Fc
 a25:ac
 d25:Fc
 a26:ac
 d26:Fc
 a27:ac
 d27:Fc
 a28:ac
 d28:Fc
 a29:ac
 d29:Fc
 a30:ac
 d30:Fc
 a31:ac
 d31:Fc
 a32:ac
 d32:Fc
 a33:ac
 d33:Fc
 a34:ac
 d34:Fc
 a35:ac
 d35:Fc
 a36:ac
 d36:Fc
 a37:ac
 d37:Fc
 a38:ac
 d38:Fc
 a39:ac
 d39:Fc
 a40:ac
 d40:Fc
 a41:ac
 d41:Fc
 a42:ac
 d42:Fc
 a43:ac
 d43:Fc
 a44:ac
 d44:Fc
 a45:ac
 d45:Fc
 a46:ac
 d46:Fc
 a47:ac
 d47:Fc
 a48:ac
 d48:Fc
 a49:ac
 d49:Fc
 a50:ac
 d50:Fc
 a51:ac
 d51:Fc
 a52:ac
 d52:Fc
 a53:ac
 d53:Fc
 a54:ac
 d54:Fc
 a55:ac
 d55:Fc
 a56:ac
 d56:Fc
 a57:ac
 d57:Fc
 a58:ac
 d58:Fc
 a59:ac
 d59:Fc
 a60:ac
 d60:Fc
 a61:ac
 d61:Fc
 a62:ac
 d62:Fc
 a63:ac
 d63:Fc
 a64:ac
 d64:Fc
 a65:ac
 d65:Fc
 a66:ac
 d66:Fc
 a67:ac
 d67:Fc
 a68:ac
 d68:Fc
 a69:ac
 d69:Fc
 a70:ac
 d70:Fc
 a71:ac
 d71:Fc
 a72:ac
 d72:Fc
 a73:ac
 d73:Fc
 a74:ac
 d74:Fc
 a75:ac
 d75:Fc
 a76:ac
 d76:Fc
 a77:ac
 d77:Fc
 a78:ac
 d78:Fc
 a79:ac
 d79:Fc
 a80:ac
 d80:Fc
 a81:ac
 d81:Fc
 a82:ac
 d82:Fc
 a83:ac
 d83:Fc
 a84:ac
 d84:Fc
 a85:ac
 d85:Fc
 a86:ac
 d86:Fc
 a87:ac
 d87:Fc
 a88:ac
 d88:Fc
 a89:ac
 d89:Fc
 a90:ac
 d90:Fc
 a91:ac
 d91:Fc
 a92:ac
 d92:Fc
 a93:ac
 d93:Fc
 a94:ac
 d94:Fc
 a95:ac
 d95:Fc
 a96:ac
 d96:Fc
 a97:ac
 d97:Fc
 a98:ac
 d98:Fc
 a99:ac
 d99:Fc
 a100:ac
 d100:Fc
 a101:ac
 d101:Fc
 a102:ac
 d102:Fc
 a103:ac
 d103:Fc
 k_CHECK_BY:Tok
 k_CHECK_FIGURES:Tok
 k_FIGURES:Tok
 q0f:ac
 k_LETTERS:Tok
 k_MOST_FACTOR:Tok
 k_MOST_FIGURES:Tok
 k_MOST_LETTERS:Tok
 k_MOST_ROWS:Tok
 k_MOST_WORDS_reader:Tok
 k_MOST_WORDS_terms:Tok
 q17:ac
 q1m:ac
 q02:ac
 q18:ac
 q00:ac
 q06:ac
 q01:ac
 q0y:ac
 q0z:ac
 q09:ac
 q0b:ac
 q05:ac
 q08:ac
 q03:ac
 q07:ac
structure Txt(K:bz)(mg:At)(t:aR):Prop where
 m_law:mg "law"=Z (.ref t.a103)
 g_JOINING:mg "JOINING"=Z (.ref t.q0f)
 g_ROW_WORDS:mg "ROW_WORDS"=Z (.ref t.q17)
 g_WHYS:mg "WHYS"=Z (.ref t.q1m)
 g_Desk:mg "Desk"=Z (.ref t.q02)
 g_ForerunError:mg "ForerunError"=Z (.ref t.q18)
 g_House:mg "House"=Z (.ref t.q00)
 g_Jobs:mg "Jobs"=Z (.ref t.q06)
 g_Makes:mg "Makes"=Z (.ref t.q01)
 g_NoDealing:mg "NoDealing"=Z (.ref t.q0y)
 g_NoHand:mg "NoHand"=Z (.ref t.q0z)
 g_NoLine:mg "NoLine"=Z (.ref t.q09)
 g_NoLog:mg "NoLog"=Z (.ref t.q0b)
 g_Reading:mg "Reading"=Z (.ref t.q05)
 g_RowWords:mg "RowWords"=Z (.ref t.q08)
 g_Run:mg "Run"=Z (.ref t.q03)
 g_Way:mg "Way"=Z (.ref t.q07)
 me_Run_step:zhi K t.q03 "step" t.a68
 q0e:AC K t.q02
 mk_Desk:Mk K t.q02 t.a24
 q0c:AC K t.q00
 mk_House:Mk K t.q00 t.a25
 q0k:AC K t.q06
 mk_Jobs:Mk K t.q06 t.a23
 q0d:AC K t.q01
 mk_Makes:Mk K t.q01 t.a22
 q0o:AC K t.q05
 mk_Reading:Mk K t.q05 t.a36
 q0h:AC K t.q08
 mk_RowWords:Mk K t.q08 t.a42
 q0a:AC K t.q03
 mk_Run:Mk K t.q03 t.a74
 q2f:AC K t.q07
 mo_Way:MkO K t.q07
 g0:FG K mg "_law_cell_at" ZT ["script","k"] t.a0 t.d0
 g1:FG K mg "is_name" WO ["text"] t.a1 t.d1
 g2:FG K mg "shelf_in" Ky ["word"] t.a2 t.d2
 g3:FG K mg "is_worth" Kz ["thing"] t.a3 t.d3
 g4:FG K mg "is_figures" qP ["text"] t.a4 t.d4
 g5:FG K mg "numeral" zbi ["worth"] t.a5 t.d5
 g6:FG K mg "is_numeral" X1 ["text"] t.a6 t.d6
 g7:FG K mg "worth_in" KA ["text"] t.a7 t.d7
 g8:FG K mg "number_in" VA ["word"] t.a8 t.d8
 g9:FG K mg "rows_in" WP ["words"] t.a9 t.d9
 g10:FG K mg "outcome_in" qQ ["words"] t.a10 t.d10
 g11:FG K mg "rank_in" zbj ["word"] t.a11 t.d11
 g12:FG K mg "deal_in" zbk ["words","rows"] t.a12 t.d12
 g13:FG K mg "mark_in" WQ ["words","rows"] t.a13 t.d13
 g14:FG K mg "check_of" Xi ["body"] t.a14 t.d14
 g15:FG K mg "body_in" zbl ["text"] t.a15 t.d15
 g16:FG K mg "line_read" VB ["text"] t.a16 t.d16
 g17:FG K mg "entry_in" KB ["line"] t.a17 t.d17
 g18:FG K mg "lines_of" KC ["text"] t.a18 t.d18
 g19:FG K mg "entries_of" qR ["text"] t.a19 t.d19
 g20:FG K mg "table_of" Xj ["rows"] t.a20 t.d20
 g21:FG K mg "come_up" zbm ["text"] t.a21 t.d21
 q2g:Fun K "__init__" "Makes.__init__" X2 t.a22 t.d22
 q2h:hU K t.d22 ["self","table"] []
 q2i:Fun K "__init__" "Jobs.__init__" VC t.a23 t.d23
 q2j:hU K t.d23 ["self","makes"] []
 q2k:FunD K "__init__" "Desk.__init__" VD t.a24 t.d24
 q2l:hU K t.d24 ["self","table","hands","way","first"] []
 q2m:Fun K "__init__" "House.__init__" X3 t.a25 t.d25
 q1n:hU K t.d25 ["self","log","hands","way"] []
 g26:FG K mg "line_of" zbn ["words"] t.a26 t.d26
 g27:FG K mg "row_words" VE ["rows"] t.a27 t.d27
 g28:FG K mg "mark_line" VF ["rank","table"] t.a28 t.d28
 g29:FG K mg "_law_exchanged" qg ["line","cell"] t.a29 t.d29
 g30:FG K mg "_law_spoilt" YL ["lines","deals","kind","cell","last"] t.a30 t.d30
 g31:FM K t.q02 "next_rank" "Desk.next_rank" qh ["self"] t.a31 t.d31
 g32:FM K t.q02 "add" "Desk.add" KD ["self","code"] t.a32 t.d32
 g33:FG K mg "block_steps" QZ ["row","at"] t.a33 t.d33
 g34:FG K mg "steps_of" KG ["rows","first"] t.a34 t.d34
 g35:FG K mg "code_of" zbo ["rows"] t.a35 t.d35
 q2n:Fun K "__init__" "Reading.__init__" ZU t.a36 t.d36
 q2o:hU K t.d36 ["self"] []
 g37:FM K t.q05 "turns" "Reading.turns" Jc ["self","number"] t.a37 t.d37
 g38:FM K t.q05 "shuts" "Reading.shuts" Jd ["self","number"] t.a38 t.d38
 g39:FM K t.q05 "begins" "Reading.begins" WR ["self","row","number"] t.a39 t.d39
 g40:FM K t.q05 "innermost" "Reading.innermost" ju ["self"] t.a40 t.d40
 g41:FM K t.q05 "reads" "Reading.reads" Zn ["self","row","number"] t.a41 t.d41
 q2p:Fun K "__init__" "RowWords.__init__" Zo t.a42 t.d42
 q2q:hU K t.d42 ["self","words","number"] []
 g43:FM K t.q08 "draw_word" "RowWords.draw_word" v3 ["self"] t.a43 t.d43
 g44:FG K mg "take_drawn" zce ["words"] t.a44 t.d44
 g45:FM K t.q08 "draw_name" "RowWords.draw_name" v5 ["self"] t.a45 t.d45
 g46:FG K mg "behind_term" YM ["words","at"] t.a46 t.d46
 g47:FG K mg "part_in" zbp ["word"] t.a47 t.d47
 g48:FG K mg "term_from" VG ["words","at"] t.a48 t.d48
 g49:FM K t.q08 "draw_term" "RowWords.draw_term" v6 ["self"] t.a49 t.d49
 g50:FG K mg "row_drawn" VH ["words"] t.a50 t.d50
 g51:FM K t.q08 "draw_end" "RowWords.draw_end" jv ["self"] t.a51 t.d51
 g52:FG K mg "row_in" zdQ ["text","number"] t.a52 t.d52
 g53:FG K mg "read" zks ["text"] t.a53 t.d53
 g54:FM K t.q00 "hand_in" "House.hand_in" Zp ["self","text"] t.a54 t.d54
 g55:FM K t.q02 "settled" "Desk.settled" ZV ["self"] t.a55 t.d55
 g56:FM K t.q03 "over" "Run.over" KH ["self"] t.a56 t.d56
 g57:FG K mg "joined" zkt ["word","first","second"] t.a57 t.d57
 g58:FG K mg "reckoned" KI ["term","slots"] t.a58 t.d58
 g59:FM K t.q03 "worth_of" "Run.worth_of" ZW ["self","term"] t.a59 t.d59
 g60:FM K t.q03 "place_in" "Run.place_in" ZX ["self","due"] t.a60 t.d60
 g61:FM K t.q03 "asks" "Run.asks" KJ ["self"] t.a61 t.d61
 g62:FM K t.q01 "heed_fold" "Makes.heed_fold" ki ["self","rank"] t.a62 t.d62
 g63:FG K mg "many_below" X4 ["ranks","rank"] t.a63 t.d63
 g64:FM K t.q01 "seen" "Makes.seen" X5 ["self","place","rank"] t.a64 t.d64
 g65:FM K t.q03 "taken" "Run.taken" zdR ["self","place","worth"] t.a65 t.d65
 g66:FM K t.q03 "does" "Run.does" KK ["self","due","worth"] t.a66 t.d66
 g67:FM K t.q03 "led_by" "Run.led_by" X6 ["self","due","worth"] t.a67 t.d67
 q2r:FunD K "step" "Run.step" KL t.a68 t.d68
 q2s:hU K t.d68 ["self","worth"] []
 bd_Run_step:∃ds,aO [.int 0] ds/\hU K t.d68 ["self","worth"] ds
 g69:FM K t.q06 "changed_note" "Jobs.changed_note" jx ["self","rank"] t.a69 t.d69
 g70:FM K t.q06 "lowest_changed" "Jobs.lowest_changed" vz ["self"] t.a70 t.d70
 g71:FG K mg "drop_rank" VI ["ranks_at","place","rank"] t.a71 t.d71
 g72:FM K t.q06 "take_off" "Jobs.take_off" Zq ["self","rank"] t.a72 t.d72
 g73:FM K t.q07 "chosen" "Way.chosen" X7 ["self","ranks"] t.a73 t.d73
 q2t:Fun K "__init__" "Run.__init__" KM t.a74 t.d74
 q2u:hU K t.d74 ["self","code"] []
 g75:FM K t.q02 "taken_up" "Desk.taken_up" Zr ["self","hand"] t.a75 t.d75
 g76:FM K t.q02 "moved_free" "Desk.moved_free" km ["self","hand"] t.a76 t.d76
 g77:FM K t.q01 "places_of" "Makes.places_of" kq ["self","rank"] t.a77 t.d77
 g78:FM K t.q01 "take_away" "Makes.take_away" kt ["self","rank"] t.a78 t.d78
 g79:FG K mg "put_rank" KN ["ranks_at","place","rank"] t.a79 t.d79
 g80:FM K t.q01 "lay" "Makes.lay" VJ ["self","rank","gifts"] t.a80 t.d80
 g81:FM K t.q01 "next_above" "Makes.next_above" jR ["self","place","rank"] t.a81 t.d81
 g82:FM K t.q06 "doubt" "Jobs.doubt" X8 ["self","place","rank"] t.a82 t.d82
 g83:FM K t.q06 "lay_down" "Jobs.lay_down" Zs ["self","rank","paper"] t.a83 t.d83
 g84:FM K t.q03 "paper" "Run.paper" VL ["self"] t.a84 t.d84
 g85:FM K t.q02 "move" "Desk.move" VM ["self","hand"] t.a85 t.d85
 g86:FM K t.q02 "finish" "Desk.finish" YN ["self"] t.a86 t.d86
 g87:FG K mg "outcome_words" jj ["outcome"] t.a87 t.d87
 g88:FG K mg "deal_line" VN ["rank","paper"] t.a88 t.d88
 g89:FM K t.q00 "write_settled" "House.write_settled" vA ["self"] t.a89 t.d89
 g90:FM K t.q00 "finish" "House.finish" ZY ["self"] t.a90 t.d90
 g91:FM K t.q00 "settled" "House.settled" Zt ["self"] t.a91 t.d91
 g92:FG K mg "text_of" WS ["lines"] t.a92 t.d92
 g93:FM K t.q00 "log" "House.log" VO ["self"] t.a93 t.d93
 g94:FM K t.q01 "table_for" "Makes.table_for" vb ["self","rank"] t.a94 t.d94
 g95:FM K t.q01 "fold" "Makes.fold" qS ["self","rank"] t.a95 t.d95
 g96:FM K t.q02 "fold" "Desk.fold" VP ["self"] t.a96 t.d96
 g97:FM K t.q02 "table" "Desk.table" X9 ["self"] t.a97 t.d97
 g98:FM K t.q00 "table" "House.table" YO ["self"] t.a98 t.d98
 g99:FM K t.q00 "mark" "House.mark" Wa ["self"] t.a99 t.d99
 g100:FG K mg "_law_refused" ZZ ["text"] t.a100 t.d100
 g101:FM K t.q00 "answers" "House.answers" Zu ["self"] t.a101 t.d101
 g102:FG K mg "_law_joined" kL ["lines"] t.a102 t.d102
 q2v:Fun K "law" "law" zku t.a103 t.d103
 q43:hU K t.d103 ["script"] []
 w_law:∀(s:ag)(v:ai),BindsTo s t.d103 {[v],[]} [("script",v)]
 q2w:mg "ValueError"=ae
 q2c:mg "all"=ae
 q2x:mg "any"=ae
 q2y:mg "bool"=ae
 q19:mg "dict"=ae
 q2d:mg "enumerate"=ae
 b_int:mg "int"=ae
 q0p:mg "isinstance"=ae
 q04:mg "len"=ae
 b_list:mg "list"=ae
 q2z:mg "ord"=ae
 q2e:mg "range"=ae
 q30:mg "reversed"=ae
 b_set:mg "set"=ae
 q1a:mg "sorted"=ae
 q10:mg "str"=ae
 q31:mg "sum"=ae
 b_tuple:mg "tuple"=ae
 g_CHECK_BY:mg "CHECK_BY"=Z (.int 1009 t.k_CHECK_BY)
 g_CHECK_FIGURES:mg "CHECK_FIGURES"=Z (.int 4 t.k_CHECK_FIGURES)
 g_FIGURES:mg "FIGURES"=Z (.str "0123456789" t.k_FIGURES)
 q1b:∀H:Hp,aV K H t.q0f [.str "plus",.str "minus",.str "times",.str "over",.str "rest",.str "under",.str "same"]
 g_LETTERS:mg "LETTERS"=Z (.str "abcdefghijklmnopqrstuvwxyz" t.k_LETTERS)
 g_MOST_FACTOR:mg "MOST_FACTOR"=Z (.int 1008 t.k_MOST_FACTOR)
 g_MOST_FIGURES:mg "MOST_FIGURES"=Z (.int 31 t.k_MOST_FIGURES)
 g_MOST_LETTERS:mg "MOST_LETTERS"=Z (.int 6 t.k_MOST_LETTERS)
 g_MOST_ROWS:mg "MOST_ROWS"=Z (.int 40 t.k_MOST_ROWS)
 g_MOST_WORDS_reader:mg "MOST_WORDS_reader"=Z (.int 60 t.k_MOST_WORDS_reader)
 g_MOST_WORDS_terms:mg "MOST_WORDS_terms"=Z (.int 60 t.k_MOST_WORDS_terms)
 q32:∀H:Hp,aV K H t.q17 [.str "take",.str "give",.str "let",.str "say",.str "off",.str "if",.str "else",.str "end",.str "as"]
 q44:∀H:Hp,aV K H t.q1m [.str "told",.str "great",.str "nought"]
 q33:aK K t.q02 "codes"
 q34:aK K t.q02 "ended"
 q35:aK K t.q02 "first"
 q36:aK K t.q02 "hands"
 q37:aK K t.q02 "held"
 q38:aK K t.q02 "jobs"
 q39:aK K t.q02 "makes"
 q3a:aK K t.q02 "waiting"
 q3b:aK K t.q02 "way"
 q3c:aK K t.q00 "desk"
 q3d:aK K t.q00 "due"
 q3e:aK K t.q00 "lines"
 q3f:aK K t.q00 "told"
 q3g:aK K t.q06 "doubted"
 q3h:aK K t.q06 "laid"
 q3i:aK K t.q06 "makes"
 q3j:aK K t.q06 "readers"
 q3k:aK K t.q01 "folded"
 q3l:aK K t.q01 "ground"
 q3m:aK K t.q01 "ranks"
 q3n:aK K t.q01 "worths"
 q3o:aK K t.q05 "blocks"
 q3p:aK K t.q05 "rows"
 q3q:aK K t.q05 "turned"
 q3r:aK K t.q08 "at"
 q3s:aK K t.q08 "number"
 q3t:aK K t.q08 "words"
 q3u:aK K t.q03 "at"
 q3v:aK K t.q03 "code"
 q3w:aK K t.q03 "gifts"
 q3x:aK K t.q03 "notes"
 q3y:aK K t.q03 "sayings"
 q3z:aK K t.q03 "slots"
 q40:aK K t.q03 "why"
 q1c:sF K t.q09 Kb kI=af
 y_NoLine:ExK K t.q09
 q41:uk K (.ref t.q09) (.ref t.q09)=Z af
 q45:uk K (.ref t.q09) (.ref t.q0b)=Z ah
 i_NoLine_ValueError:fS K (.ref t.q09) (.type "ValueError")=Z af
 i_NoLine_ForerunError:fS K (.ref t.q09) (.ref t.q18)=Z af
 j_NoLine_0:W.kitAny K (.ref t.q09) [.ref t.q09,.ref t.q0y,.ref t.q0z]=Z af
 q1d:sF K t.q0b Kb kI=af
 y_NoLog:ExK K t.q0b
 q46:uk K (.ref t.q0b) (.ref t.q09)=Z ah
 q42:uk K (.ref t.q0b) (.ref t.q0b)=Z af
 i_NoLog_ValueError:fS K (.ref t.q0b) (.type "ValueError")=Z af
 i_NoLog_ForerunError:fS K (.ref t.q0b) (.ref t.q18)=Z af
 j_NoLog_0:W.kitAny K (.ref t.q0b) [.ref t.q09,.ref t.q0y,.ref t.q0z]=Z ah
structure KF(K:bz):Prop where
 i_b:fS K (.type "int") (.type "bool")=Z ah
 i_s:fS K (.type "int") (.type "str")=Z ah
 s_i:fS K (.type "str") (.type "int")=Z ah
 i_l:fS K (.type "int") (.type "list")=Z ah
 i_t:fS K (.type "int") (.type "tuple")=Z ah
 s_l:fS K (.type "str") (.type "list")=Z ah
 s_t:fS K (.type "str") (.type "tuple")=Z ah
 t_l:fS K (.type "tuple") (.type "list")=Z ah
def  zmc(K:bz):Prop:=fS K (.type "int") (.type "bool")=Z ah
abbrev zdZ(H:Hp)(v:V)(q:Row):Prop:=PrAt H v q
abbrev Xm(H:Hp)(a:LV)(b:zG):Prop:=B0 (PrAt H) a b
inductive gV(H:Hp)(a:ac)(aF:zG):Prop
 |mk (xs:_):H a=Z (.lst xs)->B0 (PrAt H) xs aF->gV H a aF
def  wB(i:Int):Prop:=-1000000000000000000000000000000<=i/\i<=1000000000000000000000000000000
def  rB(i:Int):Prop:=0<=i/\i<=100000000000000000000000000000
def  zcm(q:Pl):Prop:=yv q.1=af/\wB q.2
def  PlV(H:Hp)(v:V)(q:Pl):Prop:=∃p,v=.ref p/\H p=Z (.tup [.str q.1,.int q.2])
def  AM(H:Hp)(v:V):Oc->Prop
 |.done sa=>∃o y,v=.ref o/\H o=Z (.tup [.str "done",.ref y])/\H y=Z (.tup (sa.map V.int))
 |.off w=>∃o,v=.ref o/\H o=Z (.tup [.str "off",.str w])
def  zac:Oc->Prop
 |.done sa=>sa.length<=20/\∀i∈sa,wB i
 |.off _=>False
structure WZ(aF:zG):Prop where
 up:Ai aF
 le:aF.length<=60
 nm:∀r∈aF,zcm r.1/\wB r.2
def  Wd(w:Str):Prop:=w.length<=40/\Av w/\32 ∉ w.cps.toList
def  rwW(r:Row):zO:=[r.1.1,z8 r.1.2,z8 r.2]
def  AA(a:zG):zO:=a.flatMap rwW
def  ocW:Oc->zO
 |.done sa=>"done" :: sa.map z8
 |.off w=>["off",w]
def  ckL:Nat->wU->yI
 |_,[]=>[]
 |i,c::cs=>(c:Int)*(1+(i:Int)%1008)::ckL (i+1) cs
def  zh0(z:Str):Int:=(ckL 0 z.cps.toList).sum%1009
def  vp(z:Str):Str:=zfS (z8 (zh0 z)) 4
def  wC(a:zO):Str:=xR " " a ++ " " ++ vp (xR " " a)
def  jS(r:Int)(a:Oc)(b:zG):zO:=("deal":Str)::z8 r::(ocW a++(";":Str)::AA b)
def  Zv(r:Int)(a:zG):zO:=("mark":Str)::z8 r::(";":Str)::AA a
def  VQ(K:bz):Sp:=λa H Q _=>∃i,a=[.int i]/\inW i=af/\Q (.bl af) H
def  jT:Sp:=λb H Q _=>∃w,b=[.int w]/\inW w=af/\∀a,aH H a->Q (.str (z8 w)) a
def  YQ:Sp:=λb H Q _=>∃x:Str,b=[.str x]/\x.length<=1000/\∀a,aH H a->Q (.bl (k9 x)) a
def  zad:Sp:=λb H Q _=>∃x:Str,b=[.str x]/\jN x=af/\x.length<=1000/\∀a,aH H a->Q (.bl af) a
def  zd0:Sp:=λb H Q _=>∃w:Int,b=[.str (z8 w)]/\inW w=af/\∀a,aH H a->Q (.int w) a
def  Xn:Sp:=λb H Q _=>∃x:Str,b=[.str x]/\x.length<=1000/\∀a,aH H a->Q (.bl (yv x)) a
def  ku:Sp:=λb H Q _=>∃z:Str,b=[.str z]/\Av z/\z.length<=20000/\∀a,aH H a->Q (.str (vp z)) a
inductive Xo(vs:LV)(H:Hp)(Q:VK)(_E:XK):Prop
 |mk (a:_) (ws:zO):vs=[.ref a]->H a=Z (.lst (ws.map V.str))->(∀w∈ws,Wd w)->ws.length<=400->(∀H',aH H H'->Q (.str (wC ws)) H')->Xo vs H Q _E
def  W0:Sp:=λc H Q _=>∃v a,c=[v]/\AM H v a/\zac a/\∀l b,aH H b->H l=ae->b l=Z (.lst ((ocW a).map V.str))->Q (.ref l) b
def  Wc:Sp:=λd H Q _=>∃a b,d=[.ref a]/\gV H a b/\WZ b/\∀l c,aH H c->H l=ae->c l=Z (.lst ((AA b).map V.str))->Q (.ref l) c
inductive qT(vs:LV)(H:Hp)(Q:VK)(_E:XK):Prop
 |mk (r p o tl g oc gs:_):vs=[.int r,.ref p]->H p=Z (.tup [o,.ref tl,.ref g])->rB r->AM H o oc->zac oc->gV H g gs->WZ gs->(∀H',aH H H'->Q (.str (wC (jS r oc gs))) H')->qT vs H Q _E
inductive vc(vs:LV)(H:Hp)(Q:VK)(_E:XK):Prop
 |mk (r g gs:_):vs=[.int r,.ref g]->rB r->gV H g gs->WZ gs->(∀H',aH H H'->Q (.str (wC (Zv r gs))) H')->vc vs H Q _E
def  xZ:Sp:=λb H Q _=>∃w:Int,b=[.str (z8 w)]/\inW w=af/\∀a,aH H a->Q (.int w) a
def  KQ:Sp:=λb H Q _=>∃w:Int,b=[.str (z8 w)]/\rB w/\∀a,aH H a->Q (.int w) a
def  VR:Sp:=λb H Q _=>∃w:Str,b=[.str w]/\yv w=af/\∀a,aH H a->Q (.str w) a
def  YR:Sp:=λd H Q _=>∃a b,d=[.ref a]/\H a=Z (.lst ((ocW b).map V.str))/\zac b/\∀v c,aH H c->AM c v b->Q v c
def  qU:Sp:=λd H Q _=>∃a b,d=[.ref a]/\H a=Z (.lst ((AA b).map V.str))/\WZ b/\∀l c,aH H c->H l=ae->gV c l b->Q (.ref l) c
inductive Xp(vs:LV)(H:Hp)(Q:VK)(_E:XK):Prop
 |mk (a g r oc gs:_):vs=[.ref a,.ref g]->H a=Z (.lst ((("deal":Str)::z8 r::ocW oc).map V.str))->rB r->zac oc->gV H g gs->((∀w,oc=.off w->gs=[]))->(∀p v H',aH H H'->AM H' v oc->H' p=Z (.tup [.str "deal",.int r,v,.ref g])->Q (.ref p) H')->Xp vs H Q _E
inductive qV(vs:LV)(H:Hp)(Q:VK)(_E:XK):Prop
 |mk (a g r:_) (gs:zG):vs=[.ref a,.ref g]->H a=Z (.lst ([("mark":Str),z8 r].map V.str))->rB r->gV H g gs->gs.length<=60->(∀x∈gs,x.2≠0)->(∀p H',aH H H'->H' p=Z (.tup [.str "mark",.int r,.ref g])->Q (.ref p) H')->qV vs H Q _E
def  zkv(x:Str):Prop:=∃p s d:Str,rpL x " "=[.str p,.str s,.str d]/\d≠vp p/\Av p/\p.length<=20000
def  KR(t:aR):Sp:=λc H Q E=>∃x:Str,c=[.str x]/\Av x/\x.length<=20000/\((∃b:Str,x=b ++ " " ++ vp b/\Av b/\b.length<=20000/\∀a,aH H a->Q (.str b) a)\/(zkv x/\∀a,aH H a->E (.ref t.q09) ae a))
inductive xG(K:bz)(vs:LV)(H:Hp)(Q:VK)(_E:XK):Prop
 |mk (a:_) (ns:yI) (k:Nat):vs=[.ref a,.int k]->aN K H a (ns.map V.int)->ns.length<=63->(∀i∈ns,Cb i)->(∀c H',aH H H'->Cb c->Q (.int c) H')->xG K vs H Q _E
inductive v7(vs:LV)(H:Hp)(Q:VK)(_E:XK):Prop
 |mk (a aF:_):vs=[.ref a]->gV H a aF->(Ac aF).length<=63->aF.length<=1000->(∀l out H',aH H H'->H l=ae->gV H' l out->xS aF out->Q (.ref l) H')->v7 vs H Q _E
def  Z2(x:ac)(H a:Hp):Prop:=∀b o,b≠x->H b=Z o->a b=Z o
def  Aq:Str:=bb "\n"
def  KS:Sp:=λ_ _ _ _=>False
def  zbq:Sp:=λ_ _ _ _=>False
def  We:Sp:=λ_ _ _ _=>False
def  zae:Sp:=λ_ _ _ _=>False
def  Wf:Sp:=λ_ _ _ _=>False
def  W1:Sp:=λ_ _ _ _=>False
def  W2:Sp:=λ_ _ _ _=>False
def  zd1(p:Pl)(a:Int):zG->Int×Int->Int×Int
 |[],s=>s
 |r::rs,s=>zd1 p a rs (if r.1=p then (a,r.2) else s)
abbrev Ap:=List (Int×zG)
def  jy(p:Pl)(a:Int):Ap->Int×Int->Int×Int
 |[],s=>s
 |l::ls,s=>jy p a ls (if s.1<l.1/\l.1<a then zd1 p l.1 l.2 s else s)
def  xo(b:zG)(a:Ap)(p:Pl)(c:Int):Int:=(jy p c a (-1,(zS b p).getD 0)).2
structure zaf(gs:zG):Prop where
 nd:(gs.map (·.1)).Nodup
 le:gs.length<=63
def  qi(b:Ap)(p:Pl)(r:Int):Prop:=∃a,(r,a)∈b/\p∈a.map (·.1)
structure aZ(H:Hp)(rk:ac)(F:Ak)(P:Pl->Int->Prop)(aI:yd):Prop where
 at_:H rk=Z (.dT aI)
 nk:(aI.map (·.1)).Nodup
 nv:(aI.map (·.2)).Nodup
 ls:∀kv∈aI,∃(p:Pl)(a:ac)(rs:yI),kv=(zI p,.ref a)/\F a/\H a=Z (.lst (rs.map V.int))/\rs.Pairwise (· < ·)/\rs≠[]/\∀r,r∈rs↔P p r
 al:∀p r,P p r->zI p∈aI.map (·.1)
def  zd2(H:Hp)(rk:ac)(F:Ak)(a:Key×V)(y:Int×zG):Prop:=a.1=.inl y.1/\∃d,a.2=.ref d/\F d/\d≠rk/\H d=Z (.dT (Ac y.2))
def  vq(c:ac)(a:Int)(b rk:ac):LSV:=[(bb "ground",.ref c),(bb "folded",.int a),(bb "worths",.ref b),(bb "ranks",.ref rk)]
structure MrIn(t:aR)(H:Hp)(m:ac)(F:Ak)(g:zG)(l:Ap)(low:Int)(dx gr wo rk:ac)(wk:xC)(kk:yd):Prop where
 im:H m=Z (.ins t.q01 dx (vq gr low wo rk))
 fg:F gr
 fw:F wo
 fk:F rk
 nr:gr≠rk
 hg:H gr=Z (.dT (Ac g))
 hw:H wo=Z (.dK wk)
 wp:B0 (zd2 H rk F) wk l
 rr:aZ H rk F (qi l) kk
def aZ.keep{H H':Hp}{rk:ac}{F F':Ak}{P:Pl->Int->Prop}(h:aZ H rk F P aI)(d:F rk)(k:∀b o,F b->H b=Z o->H' b=Z o)(f:∀b,F b->F' b):aZ H' rk F' P aI:=
 {k _ _ d h.at_,h.nk,h.nv,λkv c=>let ⟨p,a,rs,e,fa,ha,z⟩:=h.ls kv c;{p,a,rs,e,f a fa,k _ _ fa ha,z},h.al}
def MrIn.keep{H H':Hp}{m:ac}{F:Ak}{g:zG}{l:Ap}{low:Int}{dx gr wo rk:ac}{wk:xC}{kk:yd}(h:MrIn t H m F g l low dx gr wo rk wk kk)(f:F m)(k:∀b o,F b->H b=Z o->H' b=Z o):MrIn t H' m F g l low dx gr wo rk wk kk:=
 {k _ _ f h.im,h.fg,h.fw,h.fk,h.nr,k _ _ h.fg h.hg,k _ _ h.fw h.hw,Paired.mapP h.wp λ_ _ ⟨e,d,j,a,c,i⟩=>{e,d,j,a,c,k _ _ a i},h.rr.keep h.fk k λ_ z=>z}
structure hV(t:aR)(H:Hp)(m:ac)(F:Ak)(g:zG)(l:Ap)(low:Int):Prop where
 own:∀b,F b->∃o,H b=Z o
 me:F m
 nd:(l.map (·.1)).Nodup
 ok:∀y∈l,0<=y.1/\zaf y.2
 ex:∃dx gr wo rk wk kk,MrIn t H m F g l low dx gr wo rk wk kk
def vB{i b rk:ac}{a:Int}(h:f≠bb "ground"/\f≠bb "folded"/\f≠bb "worths"/\f≠bb "ranks"):eG f (vq i a b rk)=ae:=by let #[g,e,d,c]:=h;simp only[vq,cE,beq_eq_false_iff_ne.mpr g,beq_eq_false_iff_ne.mpr e,beq_eq_false_iff_ne.mpr d,beq_eq_false_iff_ne.mpr c,List.lookup_nil]
def hV.ins{H:Hp}{F:Ak}{low:Int}(h:hV t H m F g l low):∃dx a,H m=Z (.ins t.q01 dx a)/\eG (bb "lay") a=ae/\eG (bb "seen") a=ae/\eG (bb "kept") a=ae/\eG (bb "fold") a=ae/\eG (bb "table_for") a=ae:=by let #[dx,gr,wo,rk,wk,kk,z]:=h.ex;show{dx,_,z.im,vB (),vB (),vB (),vB (),vB ()}
def hV.keep{H H':Hp}{F:Ak}{low:Int}(h:hV t H m F g l low)(k:∀b o,F b->H b=Z o->H' b=Z o):hV t H' m F g l low:=
 {λb a=>let ⟨o,e⟩:=h.own b a;{o,k b o a e},h.me,h.nd,h.ok,let ⟨dx,gr,wo,rk,wk,kk,z⟩:=h.ex;{dx,gr,wo,rk,wk,kk,z.keep h.me k}}
def hV.same{H a:Hp}{F:Ak}{low:Int}(h:hV t H m F g l low)(s:aH H a):hV t a m F g l low:=h.keep λb o _ e=>s b o e
def  zh1(c:Ap)(a:Int)(b:zG):Ap:=(c.filter λy=>decide (y.1≠a))++[(a,b)]
def zkw{aM:Ap}{a:Int}{b:zG}(h:a ∉ aM.map (·.1)):zh1 aM a b=aM++[(a,b)]:=by unfold zh1;let e:(aM.filter λy=>decide (y.1≠a))=aM:=mf.mpr λy c=>Fj λe=>h (bM.mpr {y,c,e});rw[e]
inductive wD(vs:LV)(H:Hp)(Q:VK)(_E:XK):Prop
 |mk (a:_) (rs:yI) (aE):vs=[.ref a,.int aE]->H a=Z (.lst (rs.map V.int))->rs.Pairwise (· < ·)->(∀(k:Nat) H',aH H H'->k<=rs.length->(∀r∈rs.take k,r<aE)->(∀r∈rs.drop k,aE<=r)->Q (.int k) H')->wD vs H Q _E
inductive xc(t:aR)(vs:LV)(H:Hp)(Q:VK)(_E:XK):Prop
 |mk (m dx:_) (fs:LSV) (low aE):vs=[.ref m,.int aE]->H m=Z (.ins t.q01 dx fs)->fs.lookup (bb "folded")=Z (.int low)->low<=aE->(∀H',aH H H'->Q .non H')->xc t vs H Q _E
def  Jj(a:Ap)(b:Int):Ap:=a.filter λy=>decide (y.1≠b)
def  aU(G:Ak)(rk:ac)(H c:Hp):Prop:=∀b o,H b=Z o->b≠rk->((∀a,o≠.lst a)\/¬ G b)->c b=Z o
def  Dm(H d:Hp):Prop:=∀b o,H b=Z o->∃c,d b=Z c/\∀a,c=.tup a->o=.tup a
inductive ky(vs:LV)(H:Hp)(Q:VK)(_E:XK):Prop
 |mk (rk pl aE G:_) (P:Pl->Int->Prop) (kk:yd) (q0:Pl):vs=[.ref rk,.ref pl,.int aE]->aZ H rk G P kk->G rk->((∀b,H b=ae->G b))->H pl=Z (.tup ((zI q0).map kV))->¬ P q0 aE->kk.length<=18900->((∀rs:yI,rs.Pairwise (· < ·)->(∀r∈rs,P q0 r)->rs.length<=300))->(∀H' kk',aU G rk H H'->Dm H H'->aZ H' rk G (λp r=>P p r\/(r=aE/\p=q0)) kk'->Q .non H')->ky vs H Q _E
inductive qW(vs:LV)(H:Hp)(Q:VK)(_E:XK):Prop
 |mk (rk pl aE G:_) (P:Pl->Int->Prop) (kk) (q0:Pl):vs=[.ref rk,.ref pl,.int aE]->aZ H rk G P kk->G rk->H pl=Z (.tup ((zI q0).map kV))->P q0 aE->(∀H' kk',aU G rk H H'->Dm H H'->aZ H' rk G (λp r=>P p r/\¬ (r=aE/\p=q0)) kk'->Q .non H')->qW vs H Q _E
inductive xx(t:aR)(vs:LV)(H:Hp)(Q:VK)(_E:XK):Prop
 |mk (m aE F g aM low:_):vs=[.ref m,.int aE]->hV t H m F g aM low->(∀l ys gs H',aH H H'->H l=ae->H' l=Z (.lst ys)->B0 (zfm H') ys (Ac gs)->((aE,gs)∈aM\/(aE ∉ aM.map (·.1)/\gs=[]))->Q (.ref l) H')->xx t vs H Q _E
inductive xz(t:aR)(vs:LV)(H:Hp)(Q:VK)(_E:XK):Prop
 |mk (m aE F g aM low:_):vs=[.ref m,.int aE]->hV t H m F g aM low->(∀H' F',(∀b o,¬ F b->H b=Z o->H' b=Z o)->(∀b zs,H b=Z (.tup zs)->H' b=Z (.tup zs))->hV t H' m F' g (Jj aM aE) low->(∀b,F' b->F b\/H b=ae)->(∀b,F b->F' b)->Q .non H')->xz t vs H Q _E
inductive vR(t:aR)(vs:LV)(H:Hp)(Q:VK)(_E:XK):Prop
 |mk (x h dx:_) (aF:zG):vs=[.ref x,.ref h]->H x=Z (.ins t.q01 dx [])->gV H h aF->aF.length<=63->(∀H' F,Z2 x H H'->hV t H' x F aF [] 0->(∀b,F b->b=x\/H b=ae)->Q .non H')->vR t vs H Q _E
inductive qX(t:aR)(vs:LV)(H:Hp)(Q:VK)(_E:XK):Prop
 |mk (m aE gv F g:_) (aM:Ap) (low gs):vs=[.ref m,.int aE,.ref gv]->hV t H m F g aM low->low<=aE->0<=aE->gV H gv gs->¬ F gv->zaf gs->aM.length<=200->(∀H' F',(∀b o,¬ F b->H b=Z o->H' b=Z o)->(∀b zs,H b=Z (.tup zs)->H' b=Z (.tup zs))->hV t H' m F' (g) (zh1 aM aE gs) low->(∀b,F' b->F b\/H b=ae)->(∀b,F b->F' b)->Q .non H')->qX t vs H Q _E
inductive wE(t:aR)(vs:LV)(H:Hp)(Q:VK)(_E:XK):Prop
 |mk (m p aE F g aM low:_) (q:Pl):vs=[.ref m,.ref p,.int aE]->hV t H m F g aM low->low<=aE->H p=Z (.tup [.str q.1,.int q.2])->(∀H',aH H H'->Q (.int (xo g aM q aE)) H')->wE t vs H Q _E
inductive Dl where
 |give (p:Nat) (n:Int)
def  Dl.gi:Dl->zG
 |.give p n=>[((bb "a",(p:Int)),n)]
def  Dl.sa:Dl->yI
 |.give _ _=>[]
def  Dl.ws:Dl->zO
 |.give p n=>[bb "give",bb "a",z8 (p:Int),z8 n]
def  Dl.tx:Dl->Str
 |.give p n=>bb "give a " ++ z8 (p:Int)++bb " " ++ z8 n
def  Dl.oc(e:Dl):Oc:=.done e.sa
def  Dl.ok:Dl->Prop
 |.give p n=>p<4/\wB n
def  RwA(H:Hp)(v:V):Dl->Prop
 |.give p n=>∃r a b,v=.ref r/\H r=Z (.tup [.str "give",.str "a",.ref a,.ref b])/\H a=Z (.tup [.int p])/\H b=Z (.tup [.int n])
def  zmd(wl:ac)(k:Nat):LSV:=[(bb "words",.ref wl),(bb "number",.int 0),(bb "at",.int k)]
structure RwO(t:aR)(H:Hp)(x dx wl:ac)(ws:zO)(k:Nat):Prop where
 ix:H x=Z (.ins t.q08 dx (zmd wl k))
 hw:H wl=Z (.lst (ws.map V.str))
def  UpR(x:ac)(H a:Hp):Prop:=∀b o,b≠x->H b=Z o->a b=Z o
def  zfz(n:Int)(w:Str):Prop:=w=z8 n/\inW n=af
structure RwF(K:bz)(t:aR):Prop where
 cl:AC K t.q08
 n1:aK K t.q08 "words"
 n2:aK K t.q08 "number"
 n3:aK K t.q08 "at"
structure RgF(K:bz)(t:aR):Prop where
 cl:AC K t.q05
 n1:aK K t.q05 "rows"
 n2:aK K t.q05 "blocks"
 n3:aK K t.q05 "turned"
def  KU:Sp:=λb H Q _=>∃w n,b=[.str w]/\zfz n w/\∀a,aH H a->Q (.int n) a
inductive ve(vs:LV)(H:Hp)(Q:VK)(_E:XK):Prop
 |mk (l:_) (ws:zO) (k:Nat) (n w):vs=[.ref l,.int k]->H l=Z (.lst (ws.map V.str))->ws[k]?=Z w->zfz n w->ws.length<=10->(∀H',aH H H'->Q (.int (k+1:Nat)) H')->ve vs H Q _E
inductive qY(vs:LV)(H:Hp)(Q:VK)(_E:XK):Prop
 |mk (l:_) (ws:zO) (k:Nat) (n w):vs=[.ref l,.int k]->H l=Z (.lst (ws.map V.str))->ws[k]?=Z w->zfz n w->ws.length<=10->(∀p te H',aH H H'->H' p=Z (.tup [.ref te,.int (k+1:Nat)])->H' te=Z (.tup [.int n])->Q (.ref p) H')->qY vs H Q _E
def  vK(t:aR):Sp:=λc H Q _=>∃x l b,c=[.ref x,.ref l,.int 0]/\H x=Z (.ins t.q08 b [])/\∀a,UpR x H a->a x=Z (.ins t.q08 b (zmd l 0))->Q .non a
inductive vC(t:aR)(vs:LV)(H:Hp)(Q:VK)(_E:XK):Prop
 |mk (x dx l ws:_) (k:Nat) (w):vs=[.ref x]->RwO t H x dx l ws k->ws[k]?=Z w->(∀H',UpR x H H'->RwO t H' x dx l ws (k+1)->Q (.str w) H')->vC t vs H Q _E
inductive vD(t:aR)(vs:LV)(H:Hp)(Q:VK)(_E:XK):Prop
 |mk (x dx l ws:_) (k:Nat) (w:Str):vs=[.ref x]->RwO t H x dx l ws k->ws[k]?=Z w->yv w=af->w.length<=100->(∀H',UpR x H H'->RwO t H' x dx l ws (k+1)->Q (.str w) H')->vD t vs H Q _E
inductive vE(t:aR)(vs:LV)(H:Hp)(Q:VK)(_E:XK):Prop
 |mk (x dx l:_) (ws:zO) (k:Nat) (n w):vs=[.ref x]->RwO t H x dx l ws k->ws[k]?=Z w->zfz n w->ws.length<=10->(∀te H',UpR x H H'->RwO t H' x dx l ws (k+1)->H' te=Z (.tup [.int n])->Q (.ref te) H')->vE t vs H Q _E
inductive xT(t:aR)(vs:LV)(H:Hp)(Q:VK)(_E:XK):Prop
 |mk (x dx l:_) (ws:zO):vs=[.ref x]->RwO t H x dx l ws ws.length->(∀H',aH H H'->Q .non H')->xT t vs H Q _E
inductive qZ(t:aR)(vs:LV)(H:Hp)(Q:VK)(_E:XK):Prop
 |mk (x dx l:_) (e:Dl):vs=[.ref x]->RwO t H x dx l e.ws 0->e.ok->(∀v H',UpR x H H'->RwO t H' x dx l e.ws e.ws.length->RwA H' v e->Q v H')->qZ t vs H Q _E
def  W3:Sp:=λb H Q _=>∃e:Dl,b=[.str e.tx,.int 0]/\e.ok/\∀v a,aH H a->RwA a v e->Q v a
def  jk(t:aR):Sp:=λe H Q _=>∃x d,e=[.ref x]/\H x=Z (.ins t.q05 d [])/\∀a b c f,UpR x H a->a x=Z (.ins t.q05 d [(bb "rows",.ref b),(bb "blocks",.ref c),(bb "turned",.ref f)])->a b=Z (.lst [])->a c=Z (.lst [])->b≠c->H b=ae->Q .non a
inductive jc(t:aR)(vs:LV)(H:Hp)(Q:VK)(_E:XK):Prop
 |mk (x dx rl bl tl:_):vs=[.ref x]->H x=Z (.ins t.q05 dx [(bb "rows",.ref rl),(bb "blocks",.ref bl),(bb "turned",.ref tl)])->H bl=Z (.lst [])->(∀H',aH H H'->Q (.ref rl) H')->jc t vs H Q _E
inductive vL(t:aR)(vs:LV)(H:Hp)(Q:VK)(_E:XK):Prop
 |mk (x dx rl bl tl v e:_):vs=[.ref x,v,.int 0]->H x=Z (.ins t.q05 dx [(bb "rows",.ref rl),(bb "blocks",.ref bl),(bb "turned",.ref tl)])->H bl=Z (.lst [])->H rl=Z (.lst [])->RwA H v e->(∀H',UpR rl H H'->H' rl=Z (.lst [v])->Q .non H')->vL t vs H Q _E
def  zgy:Sp:=λb H Q _=>∃e:Dl,b=[.str e.tx]/\e.ok/\∀v l a,aH H a->H l=ae->a l=Z (.lst [v])->RwA a v e->Q (.ref l) a
def  zd3:Sp:=λc H Q _=>∃l v e,c=[.ref l,.int 0]/\H l=Z (.lst [v])/\RwA H v e/\∀a b,aH H b->H a=ae->b a=Z (.lst [v])->Q (.ref a) b
inductive KW(vs:LV)(H:Hp)(Q:VK)(_E:XK):Prop
 |mk (l v e:_):vs=[.ref l]->H l=Z (.lst [v])->RwA H v e->(∀l2 H',aH H H'->H l2=ae->H' l2=Z (.lst [v])->Q (.ref l2) H')->KW vs H Q _E
structure RAd where
 dx:ac
 co:ac
 sl:ac
 gi:ac
 no:ac
 sa:ac
def  znU(a:RAd)(k:Nat):LSV:=[(bb "code",.ref a.co),(bb "at",.int k),(bb "why",.non),(bb "slots",.ref a.sl),(bb "gifts",.ref a.gi),(bb "notes",.ref a.no),(bb "sayings",.ref a.sa)]
structure AG(t:aR)(H:Hp)(x:ac)(a:RAd)(e:Dl)(k m:Nat):Prop where
 ix:H x=Z (.ins t.q03 a.dx (znU a k))
 hc:∃v,H a.co=Z (.lst [v])/\RwA H v e
 hs:H a.sl=Z (.dK [])
 hg:H a.gi=Z (.dT (Ac (e.gi.take m)))
 hn:H a.no=Z (.dT [])
 ha:H a.sa=Z (.lst ((e.sa.take m).map V.int))
 nc:a.co≠a.sa
 ng:a.gi≠a.no
def  OwA(x:ac)(a:RAd)(b:ac):Prop:=b=x\/b=a.co\/b=a.sl\/b=a.gi\/b=a.no\/b=a.sa
def  KpR(x:ac)(a:RAd)(H c:Hp):Prop:=∀b o,b≠x->b≠a.sa->b≠a.gi->H b=Z o->c b=Z o
structure RnF(K:bz)(t:aR):Prop where
 cl:AC K t.q03
 n1:aK K t.q03 "code"
 n2:aK K t.q03 "at"
 n3:aK K t.q03 "why"
 n4:aK K t.q03 "slots"
 n5:aK K t.q03 "gifts"
 n6:aK K t.q03 "notes"
 n7:aK K t.q03 "sayings"
inductive VS(vs:LV)(H:Hp)(Q:VK)(_E:XK):Prop
 |mk (tm sl n:_):vs=[.ref tm,.ref sl]->H tm=Z (.tup [.int n])->H sl=Z (.dK [])->(∀H',aH H H'->Q (.int n) H')->VS vs H Q _E
inductive kz(t:aR)(vs:LV)(H:Hp)(Q:VK)(_E:XK):Prop
 |mk (x l dx v e:_):vs=[.ref x,.ref l]->H x=Z (.ins t.q03 dx [])->H l=Z (.lst [v])->RwA H v e->(∀H' a,Z2 x H H'->AG t H' x a e 0 0->(∀b,OwA x a b->b=x\/H b=ae)->Q .non H')->kz t vs H Q _E
inductive wQ(t:aR)(vs:LV)(H:Hp)(Q:VK)(_E:XK):Prop
 |mk (x:_) (a:RAd) (e) (k m:Nat):vs=[.ref x]->AG t H x a e k m->Q (.bl (decide (1<=k))) H->wQ t vs H Q _E
def  VT(t:aR):Sp:=λb H Q _=>∃x,∃a:RAd,∃e,b=[.ref x]/\AG t H x a e 0 0/\Q .non H
inductive y0(t:aR)(vs:LV)(H:Hp)(Q:VK)(_E:XK):Prop
 |mk (x tm:_) (a:RAd) (e) (k m:Nat) (n):vs=[.ref x,.ref tm]->AG t H x a e k m->H tm=Z (.tup [.int n])->(∀H',aH H H'->Q (.int n) H')->y0 t vs H Q _E
inductive wH(t:aR)(vs:LV)(H:Hp)(Q:VK)(_E:XK):Prop
 |mk (x r tp te:_) (a:RAd) (e) (k m:Nat) (p:Nat):vs=[.ref x,.ref r]->AG t H x a e k m->H r=Z (.tup [.str "give",.str "a",.ref tp,.ref te])->H tp=Z (.tup [.int p])->(∀q H',aH H H'->H' q=Z (.tup [.str "a",.int p])->Q (.ref q) H')->wH t vs H Q _E
inductive Z3(t:aR)(vs:LV)(H:Hp)(Q:VK)(_E:XK):Prop
 |mk (x v:_) (a:RAd) (e):vs=[.ref x,v,.int 0]->AG t H x a e 0 0->RwA H v e->(∀H',KpR x a H H'->AG t H' x a e 0 1->Q .non H')->Z3 t vs H Q _E
inductive kM(t:aR)(vs:LV)(H:Hp)(Q:VK)(_E:XK):Prop
 |mk (x v:_) (a:RAd) (e):vs=[.ref x,v,.int 0]->AG t H x a e 0 0->RwA H v e->(∀H',KpR x a H H'->AG t H' x a e 0 1->Q (.int 1) H')->kM t vs H Q _E
def  kA(t:aR):Sp:=λc H Q _=>∃x,∃a:RAd,∃e,c=[.ref x,.int 0]/\AG t H x a e 0 0/\∀b,KpR x a H b->AG t b x a e 1 1->Q .non b
inductive PpV(H:Hp)(v:V)(e:Dl)(nl gl:ac):Prop
 |mk (r o:_) (f1:v=.ref r) (f2:H r=Z (.tup [o,.ref nl,.ref gl])) (f3:AM H o e.oc) (f4:H nl=Z (.lst [])) (f5:gV H gl e.gi)
def  q8(t:aR):Sp:=λf H Q _=>∃x,∃a:RAd,∃e,f=[.ref x]/\AG t H x a e 1 1/\∀v c d b,aH H b->PpV b v e c d->H c=ae->H d=ae->Q v b
structure DAd where
 dx:ac
 dj:ac
 dw:ac
 jb:ac
 mks:ac
 wy:ac
 cl:ac
 wl:ac
 hd:ac
 la:ac
 re:ac
 db:ac
 en:ac
def  zme(a:DAd)(n f:Int):LSV:=[(bb "hands",.int n),(bb "way",.ref a.wy),(bb "first",.int f),(bb "codes",.ref a.cl),(bb "waiting",.ref a.wl),(bb "held",.ref a.hd),(bb "makes",.ref a.mks),(bb "jobs",.ref a.jb),(bb "ended",.ref a.en)]
def  zmf(m b a c:ac):LSV:=[(bb "makes",.ref m),(bb "laid",.ref b),(bb "readers",.ref a),(bb "doubted",.ref c)]
def  dbL(a:yI):xC:=a.map λr=>(.inl r,.bl af)
structure DkV where
 cs:LV
 ws:yI
 kv:xC
 la:xC
 db:yI
 en:LV
 g:zG
 ls:Ap
 fo:Int
def  dkL(t:aR)(d:ac)(a:DAd)(n f:Int)(D:DkV):List (ac×HO):=[(d,.ins t.q02 a.dx (zme a n f)),(a.wy,.ins t.q07 a.dw []),(a.jb,.ins t.q06 a.dj (zmf a.mks a.la a.re a.db)),(a.cl,.lst D.cs),(a.wl,.lst (D.ws.map V.int)),(a.hd,.dK D.kv),(a.la,.dK D.la),(a.db,.dK (dbL D.db)),(a.en,.lst D.en)]
abbrev AN_:=ac->Nat
structure OwL(H:Hp)(lb:AN_)(L:List (ac×HO)):Prop where
 ob:∀(i:Nat) b o,L[i]?=Z (b,o)->H b=Z o/\lb b=i+1
 ow:∀b,lb b≠0->∃o,H b=Z o
structure Fr(M:Nat->Prop)(H H':Hp)(lb lb':AN_):Prop where
 ex:∀b o,H b=Z o->lb' b=lb b
 kp:∀b o,M (lb b)->H b=Z o->H' b=Z o
 ts:∀b zs,H b=Z (.tup zs)->H' b=Z (.tup zs)
 al:∀b o,H b=Z o->∃o',H' b=Z o'
def  M0(l:Nat):Prop:=l=0\/l=14
def  M1(l:Nat):Prop:=l=0\/14<=l
structure DkF(K:bz)(t:aR):Prop where
 cD:AC K t.q02
 cJ:AC K t.q06
 d1:aK K t.q02 "hands"
 d2:aK K t.q02 "way"
 d3:aK K t.q02 "first"
 d4:aK K t.q02 "codes"
 d5:aK K t.q02 "waiting"
 d6:aK K t.q02 "held"
 d7:aK K t.q02 "makes"
 d8:aK K t.q02 "jobs"
 d9:aK K t.q02 "ended"
 j1:aK K t.q06 "makes"
 j2:aK K t.q06 "laid"
 j3:aK K t.q06 "readers"
 j4:aK K t.q06 "doubted"
def  PpA(H:Hp)(b:AN_)(v:V)(e:Dl):Prop:=∃a c,PpV H v e a c/\b a=14/\b c=14
def  CoA(H:Hp)(a:AN_)(v:V)(e:Dl):Prop:=∃c x,v=.ref c/\H c=Z (.lst [x])/\RwA H x e/\a c=14
inductive HhA(t:aR)(H:Hp)(lb:AN_)(r:Int)(v:V)(k:Nat)(e:Dl):Prop
 |mk (tp x ra:_) (f1:v=.ref tp) (f2:H tp=Z (.tup [.int r,.ref x])) (f3:AG t H x ra e k k) (f4:∀b,OwA x ra b->lb b=20)
def  NxA(a:Ap)(q:Pl)(b:Int)(v:V):Prop:=(v=.non/\∀r,qi a q r->r<=b)\/∃i,v=.int i/\qi a q i/\b<i/\∀r,qi a q r->b<r->i<=r
inductive jz(t:aR)(vs:LV)(H:Hp)(Q:VK)(_E:XK):Prop
 |mk (m p aE F g aM low:_) (q0:Pl):vs=[.ref m,.ref p,.int aE]->hV t H m F g aM low->H p=Z (.tup ((zI q0).map kV))->(∀v H',aH H H'->NxA aM q0 aE v->Q v H')->jz t vs H Q _E
def  q9(t:aR):Sp:=λf H Q _=>∃x m e,f=[.ref x,.ref m]/\H x=Z (.ins t.q06 e [])/\∀a b d c,Z2 x H a->a x=Z (.ins t.q06 e (zmf m b d c))->a b=Z (.dK [])->a d=Z (.dT [])->a c=Z (.dK [])->H b=ae->H d=ae->H c=ae->b≠c->Q .non a
structure AI(t:aR)(H:Hp)(d:ac)(a:DAd)(lb:AN_)(n f:Int)(D:DkV):Prop where
 o:OwL H lb (dkL t d a n f D)
 m:hV t H a.mks (λb=>lb b=10) D.g D.ls D.fo
 r:H a.re=Z (.dT [])/\lb a.re=11
inductive Ph where
 |rest
 |wait (e:Dl)
 |held (k:Nat) (e:Dl)
 |laid (e:Dl)
 |done (e:Dl)
def  PhA(t:aR)(H:Hp)(a:AN_)(m:Nat)(r:Int)(D:DkV):Ph->Prop
 |.rest=>(D.cs.length=m/\D.en.length=m)/\D.ws=[]/\D.kv=[]/\D.la=[]/\D.db=[]
 |.wait e=>(D.cs.length=m+1/\D.en.length=m)/\D.ws=[r]/\D.kv=[]/\D.la=[]/\D.db=[]/\∃v,D.cs[m]?=Z v/\CoA H a v e
 |.held k e=>(D.cs.length=m+1/\D.en.length=m)/\D.ws=[]/\D.la=[]/\D.db=[]/\∃v,D.kv=[(.inl 0,v)]/\HhA t H a r v k e
 |.laid e=>(D.cs.length=m+1/\D.en.length=m)/\D.ws=[]/\D.kv=[]/\D.db=[r]/\∃v,D.la=[(.inl r,v)]/\PpA H a v e
 |.done e=>(D.cs.length=m+1/\D.en.length=m+1)/\D.ws=[]/\D.kv=[]/\D.la=[]/\D.db=[]/\∃v,D.en[m]?=Z v/\PpA H a v e
structure DS where
 g:zG
 ls:Ap
 fo:Int
 m:Nat
inductive Au(t:aR)(H:Hp)(d:ac)(a:DAd)(lb:AN_)(n f:Int)(S:DS)(ph:Ph):Prop
 |mk (D:DkV):AI t H d a lb n f D->((D.g=S.g/\D.ls=S.ls/\D.fo=S.fo))->PhA t H lb S.m (f+S.m) D ph->Au t H d a lb n f S ph
def  zkx(g:zG)(a:Ap):Prop:=g.length+(a.map λy=>y.2.length).sum<=63
structure DsOk(f:Int)(S:DS):Prop where
 f0:0<=f
 fo:S.fo<=f+S.m
 lr:∀y∈S.ls,y.1<f+S.m
 lm:S.m<=14
 ll:S.ls.length<=S.m
 l1:∀y∈S.ls,y.2.length=1
 gl:S.g.length+S.ls.length<=49+S.m
inductive kN(t:aR)(vs:LV)(H:Hp)(Q:VK)(_E:XK):Prop
 |mk (d p:_) (a:DAd) (lb n f aE D) (q0:Pl):vs=[.ref a.jb,.ref p,.int aE]->AI t H d a lb n f D->H p=Z (.tup ((zI q0).map kV))->(∀H',aH H H'->Q .non H')->kN t vs H Q _E
inductive wa(t:aR)(vs:LV)(H:Hp)(Q:VK)(_E:XK):Prop
 |mk (d nl gl v:_) (e:Dl) (a:DAd) (lb n f aE) (D:DkV):vs=[.ref a.jb,.int aE,v]->AI t H d a lb n f D->((0<=aE/\D.fo<=aE))->PpV H v e nl gl->M1 (lb nl)->M1 (lb gl)->aE ∉ D.ls.map (·.1)->D.ls.length<=20->((D.la=[]/\D.db=[]))->(∀H' lb',Fr M1 H H' lb lb'->AI t H' d a lb' n f { D with la:=[(.inl aE,v)],db:=[aE],ls:=D.ls++[(aE,e.gi)] }->Q .non H')->wa t vs H Q _E
inductive xU(t:aR)(vs:LV)(H:Hp)(Q:VK)(_E:XK):Prop
 |mk (d nl gl v e:_) (a:DAd) (lb n f aE) (D:DkV):vs=[.ref a.jb,.int aE]->AI t H d a lb n f D->D.la=[(.inl aE,v)]->PpV H v e nl gl->(∀H',aH H H'->Q .non H')->xU t vs H Q _E
inductive xb(t:aR)(vs:LV)(H:Hp)(Q:VK)(_E:XK):Prop
 |mk (d:_) (a:DAd) (lb n f) (D:DkV):vs=[.ref a.jb]->AI t H d a lb n f D->((D.db=[]\/∃r v e,D.db=[r]/\D.la=[(.inl r,v)]/\PpA H lb v e))->(∀H',Fr M1 H H' lb lb->AI t H' d a lb n f { D with db:=[] }->Q .non H')->xb t vs H Q _E
inductive wc(t:aR)(vs:LV)(H:Hp)(Q:VK)(_E:XK):Prop
 |mk (d v e:_) (a:DAd) (lb n f aE) (D:DkV):vs=[.ref a.jb,.int aE]->AI t H d a lb n f D->((D.la=[(.inl aE,v)]/\D.db=[]))->PpA H lb v e->(∀H',Fr M1 H H' lb lb->AI t H' d a lb n f { D with la:=[] }->Q v H')->wc t vs H Q _E
inductive jD(t:aR)(vs:LV)(H:Hp)(Q:VK)(_E:XK):Prop
 |mk (x l w dx dw n f:_) (g:zG):vs=[.ref x,.ref l,.int n,.ref w,.int f]->H x=Z (.ins t.q02 dx [])->gV H l g->g.length<=63->H w=Z (.ins t.q07 dw [])->w≠x->(∀H' a lb,Z2 x H H'->(∀b o,b≠x->b≠w->H b=Z o->lb b=0)->Au t H' x a lb n f {g,[],0,0} .rest->Q .non H')->jD t vs H Q _E
inductive jm(t:aR)(vs:LV)(H:Hp)(Q:VK)(_E:XK):Prop
 |mk (d dx:_) (a:DAd) (n f) (en:LV):vs=[.ref d]->H d=Z (.ins t.q02 dx (zme a n f))->H a.en=Z (.lst en)->Q (.int (f+en.length)) H->jm t vs H Q _E
inductive kB(t:aR)(vs:LV)(H:Hp)(Q:VK)(_E:XK):Prop
 |mk (d dx:_) (a:DAd) (n f) (cs:LV):vs=[.ref d]->H d=Z (.ins t.q02 dx (zme a n f))->H a.cl=Z (.lst cs)->Q (.int (f+cs.length)) H->kB t vs H Q _E
inductive VU(t:aR)(vs:LV)(H:Hp)(Q:VK)(_E:XK):Prop
 |mk (d c x e:_) (a:DAd) (lb n f) (S:DS):vs=[.ref d,.ref c]->H c=Z (.lst [x])->RwA H x e->Au t H d a lb n f S .rest->S.m<=14->(∀H' lb',Fr M0 H H' lb lb'->Au t H' d a lb' n f S (.wait e)->Q (.int (f+S.m)) H')->VU t vs H Q _E
def  YS:Sp:=λa H Q _=>∃x l w,a=[.ref x,.ref l]/\H l=Z (.lst [.int w])/\Q (.int w) H
inductive we(t:aR)(vs:LV)(H:Hp)(Q:VK)(_E:XK):Prop
 |mk (d:_) (a:DAd) (lb n f) (S:DS) (e):vs=[.ref d,.int 0]->Au t H d a lb n f S (.wait e)->(∀v H' lb',Fr M0 H H' lb lb'->Au t H' d a lb' n f S (.held 0 e)->Q v H')->we t vs H Q _E
def  nxP(f:Int)(h:Int)(S:DS):Ph->DS×Ph
 |.rest=>(S,.rest)
 |.wait e=>(S,.held 0 e)
 |.held k e=>if h=0 then (if k=0 then (S,.held 1 e) else ({ S with ls:=S.ls++[(f+S.m,e.gi)] },.laid e)) else (S,.held k e)
 |.laid e=>(S,.done e)
 |.done e=>(S,.done e)
def  okP(h:Int):Ph->Prop
 |.wait _=>h=0
 |.held k _=>k<=1
 |.laid _=>True
 |_=>False
def  mvP(t:aR)(H:Hp)(d:ac)(a:DAd)(g:AN_)(n f h:Int)(S:DS)(e:Ph)(Q:VK):Prop:=∀v c b,Fr M0 H c g b->Au t c d a b n f (nxP f h S e).1 (nxP f h S e).2->Q v c
inductive xA(t:aR)(vs:LV)(H:Hp)(Q:VK)(_E:XK):Prop
 |mk (d:_) (a:DAd) (lb n f h) (S:DS) (ph):vs=[.ref d,.int h]->Au t H d a lb n f S ph->S.m<=14->okP h ph->((∀k e,ph=.held k e->h≠0))->mvP t H d a lb n f h S ph Q->xA t vs H Q _E
inductive Za(t:aR)(vs:LV)(H:Hp)(Q:VK)(_E:XK):Prop
 |mk (d:_) (a:DAd) (lb n f h) (S:DS) (ph):vs=[.ref d,.int h]->Au t H d a lb n f S ph->((S.m<=14/\∀k e,ph=.held k e->DsOk f S))->okP h ph->((0<=h/\h<n))->mvP t H d a lb n f h S ph Q->Za t vs H Q _E
inductive Z4(t:aR)(vs:LV)(H:Hp)(Q:VK)(_E:XK):Prop
 |mk (d:_) (a:DAd) (lb n f) (S:DS) (e:Dl):vs=[.ref d]->Au t H d a lb n f S (.wait e)->DsOk f S->((1<=n/\n<=8))->(∀v H' lb',Fr M0 H H' lb lb'->Au t H' d a lb' n f { S with ls:=S.ls++[(f+S.m,e.gi)] } (.done e)->Q v H')->Z4 t vs H Q _E
def  KY(f:Pl->Int)(a:zG):Prop:=Ai a/\∀p w,(p,w)∈a↔f p=w/\w≠0
inductive wK(t:aR)(vs:LV)(H:Hp)(Q:VK)(_E:XK):Prop
 |mk (m aE F g aM low:_):vs=[.ref m,.int aE]->hV t H m F g aM low->low<=aE->zkx g aM->(∀l aF H',aH H H'->H l=ae->gV H' l aF->KY (λp=>xo g aM p aE) aF->Q (.ref l) H')->wK t vs H Q _E
inductive YT(t:aR)(vs:LV)(H:Hp)(Q:VK)(_E:XK):Prop
 |mk (m aE F g:_) (aM:Ap) (low):vs=[.ref m,.int aE]->hV t H m F g aM low->low<=aE->zkx g aM->((aM.length<=200/\∀y∈aM,y.1<aE))->(∀aF H' F',(∀b o,¬ F b->H b=Z o->H' b=Z o)->(∀b zs,H b=Z (.tup zs)->H' b=Z (.tup zs))->KY (λp=>xo g aM p aE) aF->hV t H' m F' aF [] aE->(∀b,F' b->F b\/H b=ae)->(∀b,F b->F' b)->Q .non H')->YT t vs H Q _E
inductive YU(t:aR)(vs:LV)(H:Hp)(Q:VK)(_E:XK):Prop
 |mk (d:_) (a:DAd) (lb n f) (S:DS):vs=[.ref d]->Au t H d a lb n f S .rest->DsOk f S->(∀l aF H',aH H H'->H l=ae->gV H' l aF->KY (λp=>xo S.g S.ls p (f+S.m)) aF->Q (.ref l) H')->YU t vs H Q _E
inductive Zb(t:aR)(vs:LV)(H:Hp)(Q:VK)(_E:XK):Prop
 |mk (d:_) (a:DAd) (lb n f) (S:DS):vs=[.ref d]->Au t H d a lb n f S .rest->DsOk f S->(∀aF H' lb',Fr M0 H H' lb lb'->KY (λp=>xo S.g S.ls p (f+S.m)) aF->Au t H' d a lb' n f {aF,[],f+S.m,S.m} .rest->Q .non H')->Zb t vs H Q _E
inductive En where
 |deal (r:Int) (e:Dl)
 |mark (r:Int) (tb:zG)
def  En.ws:En->zO
 |.deal r e=>jS r e.oc e.gi
 |.mark r tb=>Zv r tb
def  En.rk:En->Int
 |.deal r _=>r
 |.mark r _=>r
def  En.ln(z:En):Str:=wC z.ws
def  En.ok:En->Prop
 |.deal r e=>rB r/\e.ok
 |.mark r tb=>rB r/\WZ tb/\(∀x∈tb,x.2≠0)/\tb.length<=20
def  En.rks:En->yI
 |.deal r _=>[r]
 |.mark _ _=>[]
inductive Ln where
 |ok (z:En)
 |bad (x:Str)
def  Ln.tx:Ln->Str
 |.ok z=>z.ln
 |.bad x=>x
def  zfA(x:Str):Prop:=zkv x/\Av x/\x.length<=3000/\10 ∉ x.cps.toList
def  Ln.wf:Ln->Prop
 |.ok z=>z.ok
 |.bad x=>zfA x
def  As(a:List Ln):Prop:=a.length<=30/\∀y∈a,y.wf
def  Up:List En->Int->zG->Int->zG->Prop
 |[],r,R,r',R'=>r'=r/\R'=R
 |.deal q e::es,r,R,r',R'=>q=r/\Up es (r+1) (R++e.gi) r' R'
 |.mark q tb::es,r,R,r',R'=>q=r/\xS R tb/\Up es r R r' R'
def  Gd(d:List Ln)(b:Int)(a:zG)(c:List En)(r:Int)(R:zG):Prop:=d=(En.mark b a::c).map Ln.ok/\Up c b a r R
def  Z5(c:List Ln):Prop:=∀b a d r R,¬ Gd c b a d r R
def  kO(a:zO):Str:=a.foldr (λl z=>l++Aq++z) (bb "")
def  rkL(a:List En):yI:=a.flatMap En.rks
inductive AnA(H:Hp)(v:V)(r:Int):Prop
 |mk (p o:_) (f1:v=.ref p) (f2:H p=Z (.tup [.int r,o])) (f3:AM H o (.done []))
inductive Xq(vs:LV)(H:Hp)(Q:VK)(_E:XK):Prop
 |mk (l:_) (ls:zO):vs=[.ref l]->H l=Z (.lst (ls.map V.str))->ls.length<=40->((∀x∈ls,x.length<=20000/\Av x))->(∀H',aH H H'->Q (.str (kO ls)) H')->Xq vs H Q _E
def  VV:Sp:=λc H Q _=>∃a:List Ln,c=[.str (kO (a.map Ln.tx))]/\As a/\∀l b,aH H b->H l=ae->b l=Z (.lst ((a.map Ln.tx).map V.str))->Q (.ref l) b
def  EnA(H:Hp)(P:Ak)(v:V):En->Prop
 |.deal r e=>∃p o a,v=.ref p/\H p=Z (.tup [.str "deal",.int r,o,.ref a])/\AM H o (.done [])/\gV H a e.gi/\P a
 |.mark r tb=>∃p a,v=.ref p/\H p=Z (.tup [.str "mark",.int r,.ref a])/\gV H a tb/\P a
def  zcn(t:aR):Sp:=λc H Q E=>∃y:Ln,c=[.str y.tx]/\y.wf/\(∀z,y=.ok z->∀v a,aH H a->EnA a (λb=>H b=ae) v z->Q v a)/\(∀x,y=.bad x->∀a,aH H a->E (.ref t.q09) ae a)
def  zd4(t:aR):Sp:=λc H Q E=>∃y:Ln,c=[.str y.tx]/\y.wf/\(∀z,y=.ok z->∀v a,aH H a->EnA a (λb=>H b=ae) v z->Q v a)/\(∀x,y=.bad x->∀a,aH H a->E (.ref t.q0b) ae a)
def  YV(t:aR):Sp:=λg H Q E=>∃d:List Ln,g=[.str (kO (d.map Ln.tx))]/\As d/\(∀c b e,d=(En.mark c b::e).map Ln.ok->∀l f a,aH H a->a l=Z (.lst f)->B0 (EnA a λ_=>True) f (En.mark c b::e)->Q (.ref l) a)/\((∀c b e,d≠(En.mark c b::e).map Ln.ok)->∀a,aH H a->E (.ref t.q0b) ae a)
def  Xr(t:aR):Sp:=λi H Q E=>∃d:List Ln,i=[.str (kO (d.map Ln.tx))]/\As d/\(∀k j h r R,Gd d k j h r R->∀a g e c f b,aH H b->b a=Z (.tup [.int r,.ref g,.ref e])->gV b g c->xS R c->b e=Z (.lst f)->B0 (AnA b) f (rkL h)->H e=ae->Q (.ref a) b)/\(Z5 d->∀b,aH H b->E (.ref t.q0b) ae b)
structure HAd where
 dx:ac
 td:ac
 ln:ac
 d:ac
def  zmg(b:HAd)(k:Int):LSV:=[(bb "due",.int k),(bb "told",.ref b.td),(bb "lines",.ref b.ln),(bb "desk",.ref b.d)]
structure HsF(K:bz)(t:aR):Prop where
 cl:AC K t.q00
 n1:aK K t.q00 "due"
 n2:aK K t.q00 "told"
 n3:aK K t.q00 "lines"
 n4:aK K t.q00 "desk"
structure HsA(t:aR)(H:Hp)(x:ac)(b:HAd)(lb:AN_)(k:Int)(ts ls:LV):Prop where
 ix:H x=Z (.ins t.q00 b.dx (zmg b k))
 ht:H b.td=Z (.lst ts)
 hl:H b.ln=Z (.lst ls)
 ne:b.td≠b.ln
 l0:lb x=0/\lb b.td=0/\lb b.ln=0
def  Aw(L:List En):LV:=(L.map En.ln).map V.str
structure HsG(t:aR)(H:Hp)(x:ac)(b:HAd)(a:DAd)(lb:AN_)(n f:Int)(S:DS)(ts:LV)(L:List En)(rs:yI)(R:zG)(ph:Ph):Prop where
 h:HsA t H x b lb (f+S.m) ts (Aw L)
 an:B0 (AnA H) ts rs
 d:Au t H b.d a lb n f S ph
 o:DsOk f S
 w:∀p,xo S.g S.ls p (f+S.m)=(zS R p).getD 0
def  HsN(x:ac)(b:HAd)(a:AN_)(c:ac):Prop:=a c≠0\/c=x\/c=b.td\/c=b.ln
structure HsP where
 n:Int
 f:Int
 m:Nat
 L:List En
 rs:yI
 R:zG
structure HsC(P:HsP):Prop where
 ll:P.L.length<=30
 ok:∀z∈P.L,z.ok
 rl:P.rs.length<=P.L.length
inductive HsI(t:aR)(H:Hp)(x:ac)(P:HsP)(ph:Ph)(N:Ak):Prop
 |mk (b a lb S ts:_) (f1:HsG t H x b a lb P.n P.f S ts P.L P.rs P.R ph) (f2:S.m=P.m) (f3:HsC P) (f4:∀c,N c↔HsN x b lb c)
structure FrN(N N':Ak)(H H':Hp):Prop where
 kp:∀b o,¬ N b->H b=Z o->H' b=Z o
 ts:∀b zs,H b=Z (.tup zs)->H' b=Z (.tup zs)
 al:∀b o,H b=Z o->∃o',H' b=Z o'
 nw:∀b,N' b->N b\/H b=ae
inductive xK(t:aR)(vs:LV)(H:Hp)(Q:VK)(E:XK):Prop
 |mk (x w dx dw n:_) (ls:List Ln):vs=[.ref x,.str (kO (ls.map Ln.tx)),.int n,.ref w]->As ls->H x=Z (.ins t.q00 dx [])->H w=Z (.ins t.q07 dw [])->w≠x->((∀r0 tb es r R,Gd ls r0 tb es r R->∀H' N,Z2 x H H'->(∀c o,c≠x->c≠w->H c=Z o->¬ N c)->HsI t H' x {n,r,0,En.mark r0 tb::es,rkL es,R} .rest N->Q .non H'))->((Z5 ls->∀H',Z2 x H H'->E (.ref t.q0b) ae H'))->xK t vs H Q E
inductive vM(t:aR)(vs:LV)(H:Hp)(Q:VK)(_E:XK):Prop
 |mk (x:_) (e:Dl) (P N):vs=[.ref x,.str e.tx]->HsI t H x P .rest N->e.ok->(∀v H' N',FrN N N' H H'->HsI t H' x P (.wait e) N'->Q v H')->vM t vs H Q _E
inductive xB(t:aR)(vs:LV)(H:Hp)(Q:VK)(_E:XK):Prop
 |mk (x:_) (b:HAd) (a:DAd) (lb n f) (S:DS) (e:Dl) (ts ls:LV):vs=[.ref x]->HsA t H x b lb (f+S.m) ts ls->Au t H b.d a lb n f S (.done e)->rB (f+S.m)->e.ok->((ts.length<=100/\ls.length<=100))->(∀H' v,(∀c o,c≠x->c≠b.td->c≠b.ln->H c=Z o->H' c=Z o)->HsA t H' x b lb (f+S.m+1) (ts++[v]) (ls++[.str (En.deal (f+S.m) e).ln])->AnA H' v (f+S.m)->Q .non H')->xB t vs H Q _E
inductive jn(t:aR)(vs:LV)(H:Hp)(Q:VK)(_E:XK):Prop
 |mk (x:_) (e:Dl) (P:HsP) (N):vs=[.ref x]->HsI t H x P (.wait e) N->e.ok->P.m<14->((1<=P.n/\P.n<=8))->P.L.length<29->rB (P.f+P.m)->(∀v H' N',FrN N N' H H'->HsI t H' x {P.n,P.f,P.m+1,P.L++[.deal (P.f+P.m) e],P.rs++[P.f+P.m],P.R++e.gi} .rest N'->Q v H')->jn t vs H Q _E
def  wj(t:aR):Sp:=λb H Q _=>∃x,∃P:HsP,∃N,b=[.ref x]/\HsI t H x P .rest N/\∀a,aH H a->Q (.int (P.f+P.m)) a
def  xV(t:aR):Sp:=λc H Q _=>∃x,∃P:HsP,∃N,c=[.ref x]/\HsI t H x P .rest N/\∀l b a,aH H a->H l=ae->gV a l b->xS P.R b->Q (.ref l) a
inductive vS(t:aR)(vs:LV)(H:Hp)(Q:VK)(_E:XK):Prop
 |mk (x:_) (P:HsP) (N):vs=[.ref x]->HsI t H x P .rest N->((∀r∈P.R,zcm r.1/\wB r.2))->P.R.length<=14->P.L.length<29->rB (P.f+P.m)->(∀tb H' N',FrN N N' H H'->xS P.R tb->HsI t H' x { P with L:=P.L++[.mark (P.f+P.m) tb] } .rest N'->Q .non H')->vS t vs H Q _E
def  vf(t:aR):Sp:=λb H Q _=>∃x,∃P:HsP,∃N,b=[.ref x]/\HsI t H x P .rest N/\∀a,aH H a->Q (.str (kO (P.L.map En.ln))) a
def  vN(t:aR):Sp:=λc H Q _=>∃x,∃P:HsP,∃N,c=[.ref x]/\HsI t H x P .rest N/\∀l b a,aH H a->H l=ae->a l=Z (.lst b)->B0 (AnA a) b P.rs->Q (.ref l) a
def  jo(t:aR):Sp:=λc H Q _=>∃a:List Ln,c=[.str (kO (a.map Ln.tx))]/\As a/\Z5 a/\∀b,aH H b->Q (.bl af) b
def  kC:Sp:=λb H Q _=>∃z:En,∃c,b=[.str z.ln,.int c]/\z.ok/\Cw c/\∀y a,aH H a->zfA y->Q (.str y) a
inductive jU(vs:LV)(H:Hp)(Q:VK)(_E:XK):Prop
 |mk (l:_) (ls:zO):vs=[.ref l]->H l=Z (.lst (ls.map V.str))->ls.length<=40->((∀x∈ls,x.length<=20000/\Av x))->(∀H',aH H H'->Q (.str (kO ls)) H')->jU vs H Q _E
structure Ao(L:List En)(r:Int)(R:zG):Prop where
 ex:∃f es,L=.mark f []::es/\Up es f [] r R/\(∀q tb es',es≠.mark q tb::es')
 ok:∀z∈L,z.ok
 le:L.length<=29
structure DlI(L:List En)(ds:wU):Prop where
 up:ds.Pairwise (· < ·)
 is:∀k,k∈ds↔∃r e,L[k]?=Z (.deal r e)
inductive jV(vs:LV)(H:Hp)(Q:VK)(_E:XK):Prop
 |mk (l dl k c r L:_) (ds:wU) (R tb):vs=[.ref l,.ref dl,.int k,.int c,.str (En.mark r tb).ln]->H l=Z (.lst (Aw L))->H dl=Z (.lst (ds.map λ(j:Nat)=>V.int j))->Ao L r R->DlI L ds->(En.mark r tb).ok->¬ xS R tb->Cw c->(∀l2 ls H',aH H H'->H' l2=Z (.lst ((ls.map Ln.tx).map V.str))->As ls->Z5 ls->Q (.ref l2) H')->jV vs H Q _E
inductive sp_law(K:bz)(vs:LV)(H:Hp)(Q:VK)(_E:XK):Prop
 |mk (a:_) (ns:yI):vs=[.ref a]->aN K H a (ns.map V.int)->ns.length<=63->(∀i∈ns,Cb i)->(∀H',Q (.bl af) H')->sp_law K vs H Q _E
section
variable(K:bz)(t:aR)
def  Zw(K:bz)(t:aR):TS:=zA (yF (zT (aL aC (zd 1) (Ad (vo K) (zf (zd 0) zo)))) (yt (aL (wW K) (zd 0) (zd 1)))
   ym) (yt (tC (.int 0)))
def  KZ:TS:=zA (yF (tOr (zT (aL rEq (zd 0) (tC (.str "")))) (zT (aL (rI0 λi j=>.bl (decide (j<i))) (Ad (vo K) (zf (zd 0) zo)) (tC (.int 6))))) (yt (tC (.bl ah)))
   ym) (zA (yF (tOr (zT (aL (rIn K ah) (zd 0) (tC (.ref t.q0f)))) (zT (aL (rIn K ah) (zd 0) (tC (.ref t.q17))))) (yt (tC (.bl ah)))
   ym) (yt (Ad (zlu K) (zf (vx (zlx (zd 0)) (zD 0) JY (aL zns (zd 0) (tC (.str "abcdefghijklmnopqrstuvwxyz"))) 1 []) zo))))
def  Z6(K:bz)(t:aR):TS:=zA (yF (zeL (tB (yn Xn [] E0 (zf (zd 0) zo))))
   wu
   ym) (yt (zd 0))
def  VW(K:bz)(t:aR):TS:=zA (yF (tOr (zeL (tB (Ad (zhq K) (zf (zd 0) (zf (tC (.ty "int")) zo))))) (tB (Ad (zhq K) (zf (zd 0) (zf (tC (.ty "bool")) zo))))) (yt (tC (.bl ah)))
   ym) (yt (ziI (rI0 λi j=>.bl (decide (i<=j))) (rI0 λi j=>.bl (decide (i<=j))) (tUn (rU λi=>.int (-i)) (aL (rI JP λi j=>.int (i^j.toNat)) (tC (.int 10)) (tC (.int 30)))) (zd 0) (aL (rI JP λi j=>.int (i^j.toNat)) (tC (.int 10)) (tC (.int 30)))))
def  kP(K:bz)(t:aR):TS:=yt (JL (aL rNe (zd 0) (tC (.str ""))) (Ad (zlu K) (zf (vx (zlx (zd 0)) (zD 0) JY (aL zns (zd 0) (tC (.str "0123456789"))) 1 []) zo)))
def  Xs(K:bz)(t:aR):TS:=yt (Ad zi4 (zf (zd 0) zo))
def  Zx(K:bz)(t:aR):TS:=zA (yF (tOr (zT (aL (rI0 λi j=>.bl (decide (j<i))) (Ad (vo K) (zf (zd 1) zo)) (tC (.int 31)))) (zeL (tB (yn YQ [] E0 (zf (zd 1) zo))))) (yt (tC (.bl ah)))
   ym) (zA (yc (Ad zot (zf (zd 0) zo)) (zD 2)) (yt (JL (yn (VQ K) [] E0 (zf (zd 2) zo)) (aL rEq (yn jT [] E0 (zf (zd 2) zo)) (zd 0)))))
def  YW:TS:=zA (yc (tIf (tB (AK K "str" Zl (zd 0) (zf (tC (.str "-")) zo))) (AH zi7 (zd 0) (yT (tC (.int 1))) yo) (zd 0)) (zD 1)) (Zx K t)
def  Wg(K:bz)(t:aR):TS:=zA (yc (wS (zf (yn VR [] E0 (zf (aL (wW K) (zd 0) (zd 2)) zo)) (zf (yn xZ [] E0 (zf (aL (wW K) (zd 0) (aL ad (zd 2) (tC (.int 1)))) zo)) zo))) (zD 3)) (yJ (AK K "list" yV (zd 1) (zf (wS (zf (zd 3) (zf (yn xZ [] E0 (zf (aL (wW K) (zd 0) (aL ad (zd 2) (tC (.int 2)))) zo)) zo))) zo)))
def  Zc(K:bz)(t:aR):TS:=zA (yF (zT (aL (zdn K af) (zd 4) (zkf K (zf (zd 4) zo))))
   wu
   ym) (yt (zd 1))
def  Wh:TS:=zA (yc (vx (vt K (zd 1)) (zeN K 2 (kW (zD 0) (kW (zD 1) zeM))) JY (zd 0) 2 []) (zD 4)) (Zc K t)
def  K0:TS:=zA (yF (zT (aL rNe (aL az (Ad (vo K) (zf (zd 0) zo)) (tC (.int 3))) (tC (.int 0))))
   wu
   ym) (zA (yc (wT zo) (zD 1)) (zA (YC (zm2 (zf (tC (.int 0)) (zf (Ad (vo K) (zf (zd 0) zo)) (zf (tC (.int 3)) zo)))) (zD 2) (Wg K t)) (Wh K t)))
def  YX:TS:=zA (yF (zT (aL (znB K ah) (AH (wz K) (zd 0) yo (yT (tC (.int 1)))) (wT (zf (tC (.str "done")) zo)))) (yt (wS (zf (tC (.str "done")) (zf (Ad (zoB K) (zf (vx (vt K (AH (wz K) (zd 0) (yT (tC (.int 1))) yo)) (zD 0) JY (yn xZ [] E0 (zf (zd 0) zo)) 1 []) zo)) zo))))
   ym) (zA (yF (zcT (zT (aL rEq (Ad (vo K) (zf (zd 0) zo)) (tC (.int 2)))) (zcT (zT (aL rEq (aL (wW K) (zd 0) (tC (.int 0))) (tC (.str "off")))) (zT (aL (rIn K ah) (aL (wW K) (zd 0) (tC (.int 1))) (tC (.ref t.q1m)))))) (yt (wS (zf (tC (.str "off")) (zf (aL (wW K) (zd 0) (tC (.int 1))) zo))))
   ym)
  wu)
def  Xt(K:bz)(t:aR):TS:=zA (yc (yn xZ [] E0 (zf (zd 0) zo)) (zD 1)) (zA (yF (tOr (zT (aL aC (zd 1) (tC (.int 0)))) (zT (aL (rI0 λi j=>.bl (decide (j<i))) (zd 1) (aL (rI JP λi j=>.int (i^j.toNat)) (tC (.int 10)) (tC (.int 29))))))
   wu
   ym) (yt (zd 1)))
def  K3(K:bz)(t:aR):TS:=zA (yF (zT (aL rNe (Ad (vo K) (zf (zd 0) zo)) (tC (.int 2))))
   wu
   ym) (zA (yF (tB (Ad (zoG K) (zf (vx (vt K (zd 1)) (zeN K 2 (kW (zD 0) (kW (zD 1) zeM))) JY (aL rEq (zd 1) (tC (.int 0))) 2 []) zo)))
   wu
   ym) (yt (wS (zf (tC (.str "mark")) (zf (yn KQ [] E0 (zf (aL (wW K) (zd 0) (tC (.int 1))) zo)) (zf (zd 1) zo))))))
def  VX(K:bz)(t:aR):TS:=zA (yc (Ad (zm3 K) (zf (vx (zm6 (zf (zd 0) zo)) (zeN K 2 (kW (zD 0) (kW (zD 1) zeM))) JY (aL (rI CMulB λi j=>.int (i*j)) (Ad zpi (zf (zd 1) zo)) (aL ad (tC (.int 1)) (aL az (zd 0) (tC (.int 1008))))) 2 []) zo)) (zD 1)) (yt (AK K "str" Kw (Ad zi4 (zf (aL az (zd 1) (tC (.int 1009))) zo)) (zf (tC (.int 4)) zo)))
def  K4(E:XK):TS:=zA (yc (AK K "str" Zm (zd 0) (zf (tC (.str " ")) zo)) (zD 1)) (zA (yF (zT (aL rNe (aL (xO K) (zd 1) (tC (.int 2))) (yn ku [] E0 (zf (aL (xO K) (zd 1) (tC (.int 0))) zo)))) (Y7 t.q09 (zf (zi9 (zd 0)) zo) E)
   ym) (yt (aL (xO K) (zd 1) (tC (.int 0)))))
def  xv(E:XK):TS:=zA (yF (zT (aL rEq (aL (wW K) (zd 1) (tC (.int 0))) (tC (.str "deal")))) (yt (yn Xp [] E0 (zf (AH (wz K) (zd 1) yo (yT (zd 2))) (zf (zd 3) zo))))
   ym) (zA (yF (zT (aL rEq (aL (wW K) (zd 1) (tC (.int 0))) (tC (.str "mark")))) (yt (yn qV [] E0 (zf (AH (wz K) (zd 1) yo (yT (zd 2))) (zf (zd 3) zo))))
   ym) (Y7 t.q09 (zf (zi9 (zd 0)) zo) E))
def  jW(E:XK):TS:=zA (yc (yn qU [] E0 (zf (AH (wz K) (zd 1) (yT (aL ad (zd 2) (tC (.int 1)))) yo) zo)) (zD 3)) (xv K t E)
def  jX(E:XK):TS:=zA (yF (zT (aL (rIn K af) (tC (.str ";")) (zd 1))) (Y7 t.q09 (zf (tC (.str "a line without its ;")) zo) E)
   ym) (zA (yc (AK K "list" Xh (zd 1) (zf (tC (.str ";")) zo)) (zD 2)) (jW K t E))
def  vg(E:XK):TS:=zA (yc (AK K "str" jP (yn (KR t) [] E (zf (zd 0) zo)) (zf (tC (.str " ")) zo)) (zD 1)) (jX K t E)
def  Wi(E:XK):TS:=zA (yF (zT (aL rNe (aL (xO K) (zd 5) (tC (.int 1))) (zd 2))) (Y7 t.q0b (zf (zgl (zd 2)) zo) E)
   ym) (yF (zT (aL rEq (aL (xO K) (zd 5) (tC (.int 0))) (tC (.str "deal")))) (zA (yJ (AK K "list" Vw (zd 3) (zf (aL (xO K) (zd 5) (tC (.int 3))) zo))) (zA (yJ (AK K "list" yV (zd 4) (zf (wS (zf (zd 2) (zf (aL (xO K) (zd 5) (tC (.int 2))) zo))) zo))) (znk 2 (tC (.int 1)) (ipI λi j=>i+j)))) (yF (zT (aL (zdn K af) (aL (xO K) (zd 5) (tC (.int 2))) (yn v7 [] E (zf (zd 3) zo)))) (Y7 t.q0b (zf (zgl (zd 2)) zo) E)
   ym))
def  K6(E:XK):TS:=zA (yc (yn (YV t) [] E (zf (zd 0) zo)) (zD 1)) (zA (yc (aL (xO K) (aL (wW K) (zd 1) (tC (.int 0))) (tC (.int 1))) (zD 2)) (zA (yc (Ad (ziM K) (zf (aL (xO K) (aL (wW K) (zd 1) (tC (.int 0))) (tC (.int 2))) zo)) (zD 3)) (zA (yc (wT zo) (zD 4)) (zA (YC (vt K (AH (wz K) (zd 1) (yT (tC (.int 1))) yo)) (zD 5) (Wi K t E)) (yt (wS (zf (zd 2) (zf (yn v7 [] E (zf (zd 3) zo)) (zf (zd 4) zo)))))))))
def  kQ(K:bz)(t:aR):TS:=zA (xw K (zd 0) (Ad zjC (zf (zd 1) zo)) "ground") (zA (xw K (zd 0) (tC (.int 0)) "folded") (zA (xw K (zd 0) WI "worths") (xw K (zd 0) JV "ranks")))
def  Zd(K:bz)(t:aR):TS:=zA (xw K (zd 0) (zd 1) "makes") (zA (xw K (zd 0) WI "laid") (zA (xw K (zd 0) JV "readers") (xw K (zd 0) WI "doubted")))
def  Ze:TS:=zA (xw K (zd 0) (zd 2) "hands") (zA (xw K (zd 0) (zd 3) "way") (zA (xw K (zd 0) (zd 4) "first") (zA (xw K (zd 0) (wT zo) "codes") (zA (xw K (zd 0) (wT zo) "waiting") (zA (xw K (zd 0) WI "held") (zA (xw K (zd 0) (YH t.q01 (vR t) [] E0 (zf (zd 1) zo)) "makes") (zA (xw K (zd 0) (YH t.q06 (q9 t) [] E0 (zf (yq K (zd 0) "makes") zo)) "jobs") (xw K (zd 0) (wT zo) "ended"))))))))
def  YY(E:XK):TS:=zA (yc (yn (Xr t) [] E (zf (zd 1) zo)) (zD 4)) (zA (xw K (zd 0) (aL (xO K) (zd 4) (tC (.int 0))) "due") (zA (xw K (zd 0) (aL (xO K) (zd 4) (tC (.int 2))) "told") (zA (xw K (zd 0) (yn VV [] E (zf (zd 1) zo)) "lines") (xw K (zd 0) (YH t.q02 (jD t) [] E (zf (aL (xO K) (zd 4) (tC (.int 1))) (zf (zd 2) (zf (zd 3) (zf (yq K (zd 0) "due") zo))))) "desk"))))
def  Xu(K:bz)(t:aR):TS:=zA (yc (AK K "str" (qa K) (tC (.str " ")) (zf (zd 0) zo)) (zD 1)) (yt (aL k7 (aL k7 (zd 1) (tC (.str " "))) (yn ku [] E0 (zf (zd 1) zo))))
def  Z7(K:bz)(t:aR):TS:=yJ (AK K "list" Vw (zd 1) (zf (wT (zf (aL (xO K) (zd 2) (tC (.int 0))) (zf (yn jT [] E0 (zf (aL (xO K) (zd 2) (tC (.int 1))) zo)) (zf (yn jT [] E0 (zf (zd 3) zo)) zo)))) zo))
def  Wj:TS:=zA (yc (wT zo) (zD 1)) (zA (YC (vt K (zd 0)) (zeN K 2 (kW (zD 2) (kW (zD 3) zeM))) (Z7 K t)) (yt (zd 1)))
def  kD(K:bz)(t:aR):TS:=zA (yc (tC (.str " !\"#$&'()*+,-./0123456789:;<=>?@ABCDEFGHIJKLMNOPQRSTUVWXYZ[\\]^_`")) (zD 2)) (zA (yc (aL k7 (zd 2) (tC (.str "abcdefghijklmnopqrstuvwxyz{|}~"))) (zD 2)) (zA (yc (aL az (zd 1) (Ad (vo K) (zf (zd 0) zo))) (zD 3)) (zA (yc (aL ad (aL ad (AK K "str" zaT (zd 2) (zf (aL zlq (zd 0) (zd 3)) zo)) (tC (.int 1))) (aL az (aL aB (zd 1) (tC (.int 997))) (aL aA (Ad (vo K) (zf (zd 2) zo)) (tC (.int 1))))) (zD 4)) (yt (aL k7 (aL k7 (AH zi7 (zd 0) yo (yT (zd 3))) (aL zlq (zd 2) (aL az (zd 4) (Ad (vo K) (zf (zd 2) zo))))) (AH zi7 (zd 0) (yT (aL ad (zd 3) (tC (.int 1)))) yo))))))
def  qj(K:bz)(t:aR):TS:=zA (yc (aL az (zd 3) (aL ad (Ad (vo K) (zf (zd 0) zo)) (tC (.int 1)))) (zD 5)) (zA (yc (wT (zf (tC (.str "")) (zf (tC (.str " ")) (zf (tC (.str "\t")) zo)))) (zD 9)) (yt (aL qH (aL qH (AH (wz K) (zd 0) yo (yT (zd 5))) (wT (zf (aL (wW K) (zd 9) (aL az (aL aB (zd 3) (tC (.int 97))) (tC (.int 3)))) zo))) (AH (wz K) (zd 0) (yT (zd 5)) yo))))
def  qk:TS:=zA (yF (zT (aL rEq (zd 2) (tC (.int 6)))) (yt (aL qH (aL qH (AH (wz K) (zd 0) yo (yT (zd 5))) (wT (zf (aL k7 (aL (wW K) (zd 0) (zd 5)) (aL (wW K) (wT (zf (tC (.str " ")) (zf (tC (.str "\t")) zo))) (aL az (aL aB (zd 3) (tC (.int 97))) (tC (.int 2))))) zo))) (AH (wz K) (zd 0) (yT (aL ad (zd 5) (tC (.int 1)))) yo)))
   ym) (qj K t)
def  ql:TS:=zA (yF (zT (aL rEq (zd 2) (tC (.int 5)))) (yt (aL qH (zd 0) (wT (zf (zd 4) zo))))
   ym) (qk K t)
def  qm:TS:=zA (yF (zcT (zT (aL rEq (zd 2) (tC (.int 4)))) (zT (aL (rI0 λi j=>.bl (decide (j<i))) (Ad (vo K) (zf (zd 1) zo)) (tC (.int 1))))) (zA (yc (aL az (zd 3) (aL aA (Ad (vo K) (zf (zd 1) zo)) (tC (.int 1)))) (zD 5)) (zA (yc (aL (wW K) (zd 1) (zd 5)) (zD 6)) (zA (yc (aL (wW K) (zd 1) (aL ad (zd 5) (tC (.int 1)))) (zD 7)) (zA (yc (aL qH (aL qH (AH (wz K) (zd 0) yo (yT (zd 6))) (wT (zf (aL (wW K) (zd 0) (zd 7)) zo))) (AH (wz K) (zd 0) (yT (aL ad (zd 6) (tC (.int 1)))) (yT (zd 7)))) (zD 8)) (yt (aL qH (aL qH (zd 8) (wT (zf (aL (wW K) (zd 0) (zd 6)) zo))) (AH (wz K) (zd 0) (yT (aL ad (zd 7) (tC (.int 1)))) yo)))))))
   ym) (ql K t)
def  qo:TS:=zA (yF (zT (aL rEq (zd 2) (tC (.int 3)))) (yt (aL qH (aL qH (AH (wz K) (zd 0) yo (yT (zd 5))) (wT (zf (yn kC [] E0 (zf (aL (wW K) (zd 0) (zd 5)) (zf (aL aB (zd 3) (tC (.int 7))) zo))) zo))) (AH (wz K) (zd 0) (yT (aL ad (zd 5) (tC (.int 1)))) yo)))
   ym) (qm K t)
def  qp:TS:=zA (yF (zcT (zT (aL rEq (zd 2) (tC (.int 2)))) (zT (aL (rI0 λi j=>.bl (decide (j<i))) (Ad (vo K) (zf (zd 1) zo)) (tC (.int 0))))) (zA (yc (aL (wW K) (zd 1) (aL az (zd 3) (Ad (vo K) (zf (zd 1) zo)))) (zD 5)) (yt (aL qH (AH (wz K) (zd 0) yo (yT (aL ad (zd 5) (tC (.int 1))))) (AH (wz K) (zd 0) (yT (zd 5)) yo))))
   ym) (qo K t)
def  qq:TS:=zA (yF (zcT (zT (aL rEq (zd 2) (tC (.int 1)))) (zT (aL (rI0 λi j=>.bl (decide (j<i))) (Ad (vo K) (zf (zd 1) zo)) (tC (.int 1))))) (zA (yc (aL (wW K) (zd 1) (aL az (zd 3) (aL aA (Ad (vo K) (zf (zd 1) zo)) (tC (.int 1))))) (zD 5)) (yt (aL qH (AH (wz K) (zd 0) yo (yT (zd 5))) (AH (wz K) (zd 0) (yT (aL ad (zd 5) (tC (.int 1)))) yo))))
   ym) (qp K t)
def  W4:TS:=zA (yF (zT (aL rEq (zd 2) (tC (.int 0)))) (yt (AH (wz K) (zd 0) (yT (tC (.int 1))) yo))
   ym) (qq K t)
def  Z8:TS:=zA (yc (aL az (zd 3) (Ad (vo K) (zf (zd 0) zo))) (zD 5)) (W4 K t)
def  Zy(K:bz)(t:aR):TS:=zA (xw K (zd 0) (wT zo) "rows") (zA (xw K (zd 0) (wT zo) "blocks") (xw K (zd 0) (wT zo) "turned"))
def  qt(K:bz)(t:aR):TS:=zA (xw K (zd 0) (zd 1) "words") (zA (xw K (zd 0) (zd 2) "number") (xw K (zd 0) (tC (.int 0)) "at"))
def  Z9:TS:=zA (yc (tC (.int 1)) (zD 2)) (zA (yc (zd 1) (zD 3)) (zA (ziD (zT (aL (rI0 λi j=>.bl (decide (j<i))) (zd 2) (tC (.int 0)))) (zA (yF (zT (aL (rI0 λi j=>.bl (decide (j<=i))) (zd 3) (Ad (vo K) (zf (zd 0) zo))))
   wu
   ym) (zA (yF (zT (aL rEq (aL aA (zd 3) (zd 1)) (tC (.int 60))))
   wu
   ym) (zA (yc (tIf (zT (aL (rIn K ah) (aL (wW K) (zd 0) (zd 3)) (tC (.ref t.q0f)))) (aL ad (zd 2) (tC (.int 1))) (aL aA (zd 2) (tC (.int 1)))) (zD 2)) (znk 3 (tC (.int 1)) (ipI λi j=>i+j)))))) (yt (zd 3))))
def  K7(K:bz)(t:aR):TS:=zA (yc (zeY K "list" qc (zd 3)) (zD 5)) (zA (yc (zeY K "list" qc (zd 3)) (zD 6)) (yJ (AK K "list" yV (zd 3) (zf (aL (zc0 K) (aL (zc0 K) (zd 5) (zd 6)) (wS (zf (zd 4) zo))) zo))))
def  K8(K:bz)(t:aR):TS:=yJ (AK K "list" yV (zd 3) (zf (wS (zf (yn KU [] E0 (zf (zd 4) zo)) zo)) zo))
def  K9(K:bz)(t:aR):TS:=yt (wS (zf (zeY K "list" qc (zd 3)) (zf (zd 2) zo)))
def  Wk:TS:=zA (yc (yn ve [] E0 (zf (zd 0) (zf (zd 1) zo))) (zD 2)) (zA (yc (wT zo) (zD 3)) (zA (YC (zoz K (zf (AH (wz K) (zd 0) (yT (zd 1)) (yT (zd 2))) zo)) (zD 4) (yF (zT (aL (rIn K ah) (zd 4) (tC (.ref t.q0f)))) (K7 K t) (K8 K t))) (K9 K t)))
def  zbr:TS:=zA (yc (AK K "str" jP (zd 0) (zf (tC (.str " ")) zo)) (zD 2)) (zA (yF (tOr (zT (aL (rI0 λi j=>.bl (decide (j<=i))) (zd 1) (tC (.int 40)))) (zT (aL (rI0 λi j=>.bl (decide (j<i))) (Ad (vo K) (zf (zd 2) zo)) (tC (.int 60)))))
   wu
   ym) (zA (yc (YH t.q08 (vK t) [] E0 (zf (zd 2) (zf (zd 1) zo))) (zD 3)) (zA (yc (yn (qZ t) [] E0 (zf (zd 3) zo)) (zD 4)) (zA (yJ (zY t.q08 "draw_end" (xT t) [] E0 (zd 3) zo)) (yt (zd 4))))))
def  zbs(K:bz)(t:aR):TS:=zA (yF (zT (aL (zfh K) (yq K (zd 2) "blocks") (wT zo)))
   wu
   ym) (yt (yq K (zd 2) "rows"))
def  zh2:TS:=zA (YC (zoF K (zf (zd 1) zo)) (zeN K 2 (kW (zD 3) (kW (zD 4) zeM))) (yJ (zY t.q05 "reads" (vL t) [] E0 (zd 2) (zf (yn W3 [] E0 (zf (zd 4) (zf (zd 3) zo))) (zf (zd 3) zo))))) (zbs K t)
def  zh3:TS:=zA (yc (YH t.q05 (jk t) [] E0 zo) (zD 2)) (zh2 K t)
def  zgz:TS:=zA (yc (tIf (zT (aL rNe (zd 0) (tC (.str "")))) (AK K "str" jP (zd 0) (zf (tC (.str "\n")) zo)) (wT zo)) (zD 1)) (zh3 K t)
def  Ya(K:bz)(t:aR):TS:=yt (zni (aL zda (yq K (zd 0) "why") (tC .non)) (aL (rI0 λi j=>.bl (decide (j<=i))) (yq K (zd 0) "at") (Ad (vo K) (zf (yq K (zd 0) "code") zo))))
def  zag(K:bz)(t:aR):TS:=zA (yc (zeY K "list" qc (zd 2)) (zD 4)) (zA (yc (zeY K "list" qc (zd 2)) (zD 5)) (yJ (AK K "list" yV (zd 2) (zf (yn zbq [] E0 (zf (zd 3) (zf (zd 5) (zf (zd 4) zo)))) zo))))
def  zah(K:bz)(t:aR):TS:=yJ (AK K "list" yV (zd 2) (zf (tIf (tB (Ad (zhq K) (zf (zd 3) (zf (tC (.ty "str")) zo)))) (JW (zd 1) (zd 3) (tC (.int 0))) (zd 3)) zo))
def  YZ:TS:=yF (zT (aL (rIn K ah) (zd 3) (tC (.ref t.q0f)))) (zag K t) (zah K t)
def  VY:TS:=zA (yc (wT zo) (zD 2)) (zA (YC (zoj K (zd 0)) (zD 3) (YZ K t)) (yt (zeY K "list" qc (zd 2))))
def  Y0:TS:=zA (yJ (zY t.q01 "heed_fold" (xc t) [] E0 (zd 0) (zf (zd 2) zo))) (zA (yc (JW (yq K (zd 0) "ranks") (zd 1) (wT zo)) (zD 3)) (zA (yc (yn wD [] E0 (zf (zd 3) (zf (zd 2) zo))) (zD 4)) (zA (yF (zT (aL rEq (zd 4) (tC (.int 0)))) (yt (JW (yq K (zd 0) "ground") (zd 1) (tC (.int 0))))
   ym) (yt (zaK (zaK (yq K (zd 0) "worths") (aL (wW K) (zd 3) (aL aA (zd 4) (tC (.int 1))))) (zd 1))))))
def  VZ:TS:=zA (yF (tB (zY t.q03 "over" (wQ t) [] E0 (zd 0) zo))
   zmQ
   ym) (xw K (zd 0) (zY t.q03 "led_by" (kM t) [] E0 (zd 0) (zf (aL (wW K) (yq K (zd 0) "code") (yq K (zd 0) "at")) (zf (zd 1) zo))) "at")
def  kR:TS:=zA (yc (zY t.q06 "changed_note" (xU t) [] E0 (zd 0) (zf (zd 2) zo)) (zD 3)) (zA (yF (zT (aL zda (zd 3) (tC .non))) (yt (aL (zc0 K) (wS (zf (zd 2) zo)) (zd 3)))
   ym) (yJ (ze0 (yq K (zd 0) "doubted") (zd 2))))
def  vi:TS:=zA (yc (Ad zm8 (zf (yq K (zd 0) "doubted") zo)) (zD 1)) (zA (YC (vt K (zd 1)) (zD 2) (kR K t)) (yt (tC .non)))
def  Yb(K:bz)(t:aR):TS:=zA (xw K (zd 0) (Ad (ziM K) (zf (zd 1) zo)) "code") (zA (xw K (zd 0) (tC (.int 0)) "at") (zA (xw K (zd 0) (tC .non) "why") (zA (xw K (zd 0) WI "slots") (zA (xw K (zd 0) JV "gifts") (zA (xw K (zd 0) JV "notes") (xw K (zd 0) (wT zo) "sayings"))))))
def  Xv:TS:=zA (yJ (AK K "list" Vy (yq K (zd 0) "waiting") (zf (zd 2) zo))) (zA (XI (yq K (zd 0) "held") (zd 1) (wS (zf (zd 2) (zf (YH t.q03 (kz t) [] E0 (zf (aL (wW K) (yq K (zd 0) "codes") (aL aA (zd 2) (yq K (zd 0) "first"))) zo)) zo)))) (yt (wS (zf (tC (.str "take")) (zf (zd 1) (zf (zd 2) zo))))))
def  qu:TS:=zA (yc (zY t.q07 "chosen" YS [] E0 (yq K (zd 0) "way") (zf (Ad (ziM K) (zf (yq K (zd 0) "waiting") zo)) zo)) (zD 2)) (Xv K t)
def  Yc:TS:=zA (yJ (zY t.q06 "take_off" (wc t) [] E0 (yq K (zd 0) "jobs") (zf (aL (xO K) (zd 3) (tC (.int 0))) zo))) (zA (yJ (AK K "list" Vx (yq K (zd 0) "waiting") (zf (yn wD [] E0 (zf (yq K (zd 0) "waiting") (zf (aL (xO K) (zd 3) (tC (.int 0))) zo))) (zf (aL (xO K) (zd 3) (tC (.int 0))) zo)))) (yt (aL (zc0 K) (wS (zf (tC (.str "again")) (zf (zd 1) zo))) (zd 3))))
def  jd:TS:=zA (yJ (AK K "list" yV (yq K (zd 0) "ended") (zf (zY t.q06 "take_off" (wc t) [] E0 (yq K (zd 0) "jobs") (zf (zd 2) zo)) zo))) (yt (wS (zf (tC (.str "settle")) (zf (zd 1) (zf (zd 2) zo)))))
def  je:TS:=zA (yF (zT (aL (zfh K) (yq K (zd 0) "waiting") (wT zo))) (yt (zY t.q02 "taken_up" (we t) [] E0 (zd 0) (zf (zd 1) zo)))
   ym) (yt (wS (zf (tC (.str "rest")) (zf (zd 1) zo))))
def  Yd:TS:=zA (yF (zT (aL zda (zd 3) (tC .non))) (Yc K t)
   ym) (je K t)
def  jY:TS:=zA (yc (zY t.q02 "settled" (jm t) [] E0 (zd 0) zo) (zD 2)) (zA (yc (zY t.q06 "lowest_changed" (xb t) [] E0 (yq K (zd 0) "jobs") zo) (zD 3)) (zA (yF (zcT (zT (aL (zlL ah) (zd 2) (yq K (yq K (zd 0) "jobs") "laid"))) (tOr (zT (aL zos (zd 3) (tC .non))) (zT (aL rNe (aL (xO K) (zd 3) (tC (.int 0))) (zd 2))))) (jd K t)
   ym) (Yd K t)))
def  Ye(K:bz)(t:aR):TS:=YC (vt K (zd 2)) (zD 3) (yJ (yn qW [] E0 (zf (yq K (zd 0) "ranks") (zf (zd 3) (zf (zd 1) zo)))))
def  Yf(K:bz)(t:aR):TS:=XI (yq K (zd 0) "worths") (zd 1) (zd 3)
def  Yg:TS:=zA (zoC (YC (iDT (zd 3)) (zD 4) (yJ (yn ky [] E0 (zf (yq K (zd 0) "ranks") (zf (zd 4) (zf (zd 1) zo))))))) (Yf K t)
def  Wl:TS:=zA (yJ (zY t.q01 "heed_fold" (xc t) [] E0 (zd 0) (zf (zd 1) zo))) (zA (yJ (zY t.q01 "take_away" (xz t) [] E0 (zd 0) (zf (zd 1) zo))) (zA (yc (Ad zjC (zf (zd 2) zo)) (zD 3)) (Yg K t)))
def  Xw(K:bz)(t:aR):TS:=zA (XI (yq K (zd 0) "doubted") (zd 1) (tC (.bl af))) (YC (vt K (aL (xO K) (zd 2) (tC (.int 1)))) (zeN K 2 (kW (zD 4) (kW (zD 5) zeM))) (yJ (yn ky [] E0 (zf (yq K (zd 0) "readers") (zf (zd 4) (zf (zd 1) zo))))))
def  jZ:TS:=zA (XI (yq K (zd 0) "laid") (zd 1) (zd 2)) (Xw K t)
def  Xx:TS:=zA (YC (vt K (aL qH (zd 3) (zY t.q01 "places_of" (xx t) [] E0 (yq K (zd 0) "makes") (zf (zd 1) zo)))) (zD 4) (yJ (zY t.q06 "doubt" (kN t) [] E0 (zd 0) (zf (zd 4) (zf (zd 1) zo))))) (jZ K t)
def  qv:TS:=zA (yc (zY t.q01 "places_of" (xx t) [] E0 (yq K (zd 0) "makes") (zf (zd 1) zo)) (zD 3)) (zA (yJ (zY t.q01 "lay" (qX t) [] E0 (yq K (zd 0) "makes") (zf (zd 1) (zf (aL (xO K) (zd 2) (tC (.int 2))) zo)))) (Xx K t))
def  Yh(K:bz)(t:aR):TS:=zA (yF (zT (aL zda (yq K (zd 0) "why") (tC .non))) (yt (wS (zf (wS (zf (tC (.str "off")) (zf (yq K (zd 0) "why") zo))) (zf (zd 1) (zf (wT zo) zo)))))
   ym) (yt (wS (zf (wS (zf (tC (.str "done")) (zf (Ad (zoB K) (zf (yq K (zd 0) "sayings") zo)) zo))) (zf (zd 1) (zf (Ad zm0 (zf (zfc (yq K (zd 0) "gifts")) zo)) zo)))))
def  Qa:TS:=zA (yc (Ad zmZ (zf (zfc (yq K (zd 0) "notes")) zo)) (zD 1)) (Yh K t)
def  Wm:TS:=zA (yF (zeL (tB (zY t.q03 "over" (wQ t) [] E0 (zd 0) zo))) (yt (tC .non))
   ym) (Qa K t)
def  Yi:TS:=zA (yJ (ze0 (yq K (zd 0) "held") (zd 1))) (zA (yJ (zY t.q06 "lay_down" (wa t) [] E0 (yq K (zd 0) "jobs") (zf (zd 2) (zf (zY t.q03 "paper" (q8 t) [] E0 (zd 3) zo) zo)))) (yt (wS (zf (tC (.str "lay")) (zf (zd 1) (zf (zd 2) zo))))))
def  Yj:TS:=zA (yc (zY t.q03 "asks" (VT t) [] E0 (zd 3) zo) (zD 4)) (zA (yF (zT (aL zos (zd 4) (tC .non))) (zA (yJ (zY t.q03 "step" (kA t) [.int 0] E0 (zd 3) zo)) (yt (wS (zf (tC (.str "step")) (zf (zd 1) (zf (zd 2) zo))))))
   ym) (zA (yc (zY t.q01 "seen" (wE t) [] E0 (yq K (zd 0) "makes") (zf (zd 4) (zf (zd 2) zo))) (zD 5)) (zA (yJ (zY t.q03 "step" (kA t) [] E0 (zd 3) (zf (zd 5) zo))) (yt (wS (zf (tC (.str "read")) (zf (zd 1) (zf (zd 2) (zf (zd 4) (zf (zd 5) zo))))))))))
def  Qb:TS:=zA (yc (aL (xO K) (zaK (yq K (zd 0) "held") (zd 1)) (tC (.int 0))) (zD 2)) (zA (yc (aL (xO K) (zaK (yq K (zd 0) "held") (zd 1)) (tC (.int 1))) (zD 3)) (zA (yF (tB (zY t.q03 "over" (wQ t) [] E0 (zd 3) zo)) (Yi K t)
   ym) (Yj K t)))
def  Wn:TS:=zA (yF (tOr (zT (aL aC (zd 1) (tC (.int 0)))) (zT (aL (rI0 λi j=>.bl (decide (j<=i))) (zd 1) (yq K (zd 0) "hands"))))
   wu
   ym) (zA (yF (zT (aL (zlL af) (zd 1) (yq K (zd 0) "held"))) (yt (zY t.q02 "moved_free" (xA t) [] E0 (zd 0) (zf (zd 1) zo)))
   ym) (Qb K t))
def  wF(K:bz)(t:aR):TS:=zA (yJ (AK K "list" yV (yq K (zd 0) "lines") (zf (yn qT [] E0 (zf (yq K (zd 0) "due") (zf (zd 1) zo))) zo))) (zA (yJ (AK K "list" yV (yq K (zd 0) "told") (zf (wS (zf (yq K (zd 0) "due") (zf (aL (xO K) (zd 1) (tC (.int 0))) zo))) zo))) (zf7 K (zd 0) (tC (.int 1)) zom "due"))
def  vj:TS:=YC (vt K (AH (wz K) (yq K (yq K (zd 0) "desk") "ended") (yT (aL aA (yq K (zd 0) "due") (yq K (yq K (zd 0) "desk") "first"))) yo)) (zD 1) (wF K t)
def  Qc(K:bz)(t:aR):TS:=yt (AK K "str" (qa K) (tC (.str "")) (zf (vx (vt K (zd 0)) (zD 0) JY (aL k7 (zd 0) (tC (.str "\n"))) 1 []) zo))
def  jf:TS:=yt (yn v7 [] E0 (zf (vx (vt K (zd 2)) (zD 0) JY (wS (zf (zd 0) (zf (zY t.q01 "seen" (wE t) [] E0 (zd 1) (zf (zd 0) (zf (zd 2) zo))) zo))) 1 [0,1]) zo))
def  j0:TS:=zA (yJ (zY t.q01 "heed_fold" (xc t) [] E0 (zd 0) (zf (zd 1) zo))) (zA (yc (aL qH (Ad zjZ (zf (yq K (zd 0) "ground") zo)) (Ad zjZ (zf (yq K (zd 0) "ranks") zo))) (zD 2)) (jf K t))
def  Zz:TS:=zA (YC (vt K (zd 2)) (zD 3) (yJ (zY t.q01 "take_away" (xz t) [] E0 (zd 0) (zf (zd 3) zo)))) (xw K (zd 0) (zd 1) "folded")
def  Jk:TS:=zA (zm4 (yc (vx (iDK (yq K (zd 0) "worths")) (zD 0) (zT (aL aC (zd 0) (zd 1))) (zd 0) 1 [1]) (zD 2))) (Zz K t)
def  Y1:TS:=zA (yJ (AK K "list" yV (yq K (zd 0) "lines") (zf (yn vc [] E0 (zf (zY t.q00 "settled" (wj t) [] E0 (zd 0) zo) (zf (zY t.q00 "table" (xV t) [] E0 (zd 0) zo) zo))) zo))) (yJ (zY t.q02 "fold" (Zb t) [] E0 (yq K (zd 0) "desk") zo))
def  ZA:TS:=zA (yc (tC (.bl ah)) (zD 1)) (zA (yc (tC (.bl ah)) (zD 2)) (zA (zou K (zjb (zkq t.q00 (xK t) (zf (zd 0) (zf (tC (.int 2)) (zf (zb5 t.q07) zo))))) t.q0b 3 (zA (yc (JL (Ad (znz K) (zf (zd 3) (zf (tC (.ref t.q18)) zo))) (Ad (znz K) (zf (zd 3) (zf (tC (.ty "ValueError")) zo)))) (zD 1)) (yc (Ad (zmV K) (zf (zd 3) (zf (wS (zf (tC (.ref t.q09)) (zf (tC (.ref t.q0y)) (zf (tC (.ref t.q0z)) zo)))) zo))) (zD 2)))) (yt (JL (zd 1) (zmP (zd 2))))))
def  Yk(K:bz)(t:aR):TS:=yt (AK K "str" (qa K) (tC (.str "")) (zf (vx (vt K (zd 0)) (zD 0) JY (aL k7 (zd 0) (tC (.str "\n"))) 1 []) zo))
def  zd5(K:bz)(t:aR):TS:=zA (yc (aL aA (aL az (aL aD (aL aB (zd 4) (tC (.int 12))) (aL (rI JP λi j=>.int (i^j.toNat)) (tC (.int 1000000007)) (tC (.int 3)))) (aL ad (aL aD (tC (.int 2)) (aL (rI JP λi j=>.int (i^j.toNat)) (tC (.int 10)) (tC (.int 30)))) (tC (.int 1)))) (aL (rI JP λi j=>.int (i^j.toNat)) (tC (.int 10)) (tC (.int 30)))) (zD 5)) (zA (yJ (zY t.q00 "hand_in" (vM t) [] E0 (zd 3) (zf (aL k7 (aL k7 (aL k7 (tC (.str "give a ")) (Ad zi4 (zf (aL az (aL aB (zd 4) (tC (.int 3))) (tC (.int 4))) zo))) (tC (.str " "))) (Ad zi4 (zf (zd 5) zo))) zo))) (zA (yJ (zY t.q00 "finish" (jn t) [] E0 (zd 3) zo)) (yF (zT (aL rEq (aL az (zd 4) (tC (.int 3))) (tC (.int 0)))) (yJ (zY t.q00 "mark" (vS t) [] E0 (zd 3) zo))
   ym)))
def  zbt:TS:=zA (yF (tOr (zT (aL (zdn K af) (zY t.q00 "answers" (vN t) [] E0 (zd 11) zo) (zY t.q00 "answers" (vN t) [] E0 (zd 3) zo))) (zT (aL (zdn K af) (zY t.q00 "table" (xV t) [] E0 (zd 11) zo) (zY t.q00 "table" (xV t) [] E0 (zd 3) zo)))) (yt (tC (.bl ah)))
   ym) (yt (JL (aL rEq (zY t.q00 "settled" (wj t) [] E0 (zd 11) zo) (aL ad (zd 2) (Ad (vo K) (zf (zd 7) zo)))) (aL rEq (zY t.q00 "log" (vf t) [] E0 (zd 11) zo) (zY t.q00 "log" (vf t) [] E0 (zd 3) zo))))
def  zbu:TS:=zA (yc (YH t.q00 (xK t) [] E0 (zf (zY t.q00 "log" (vf t) [] E0 (zd 3) zo) (zf (tC (.int 2)) (zf (zb5 t.q07) zo)))) (zD 11)) (zbt K t)
def  zbv:TS:=zA (yF (zcT (zT (aL aC (zd 9) (tC (.int 8)))) (zeL (tB (yn (jo t) [] E0 (zf (yn jU [] E0 (zf (zd 10) zo)) zo))))) (yt (tC (.bl ah)))
   ym) (zbu K t)
def  zd6:TS:=zA (yc (yn jV [] E0 (zf (zd 6) (zf (zd 7) (zf (zd 9) (zf (yn (xG K) [] E0 (zf (zd 0) (zf (tC (.int 2)) zo))) (zf (zd 8) zo)))))) (zD 10)) (zbv K t)
def  zd7:TS:=zA (yc (yn vc [] E0 (zf (zY t.q00 "settled" (wj t) [] E0 (zd 3) zo) (zf (aL qH (zY t.q00 "table" (xV t) [] E0 (zd 3) zo) (wT (zf (wS (zf (wS (zf (tC (.str "b")) (zf (tC (.int 1)) zo))) (zf (tC (.int 1)) zo))) zo))) zo))) (zD 8)) (zA (yc (aL az (yn (xG K) [] E0 (zf (zd 0) (zf (tC (.int 1)) zo))) (tC (.int 9))) (zD 9)) (zd6 K t))
def  zd8:TS:=zA (yF (zT (aL rNe (Ad (vo K) (zf (zd 7) zo)) (Ad (vo K) (zf (AH (wz K) (zd 0) yo (yT (tC (.int 14)))) zo)))) (yt (tC (.bl ah)))
   ym) (zd7 K t)
def  zd9:TS:=zA (yc (vx (zmR (zf (Ad (vo K) (zf (zd 6) zo)) zo)) (zD 0) (zT (aL rEq (AH zi7 (aL (wW K) (zd 1) (zd 0)) yo (yT (tC (.int 5)))) (tC (.str "deal ")))) (zd 0) 1 [6]) (zD 7)) (zd8 K t)
def  zea:TS:=zA (yc (AH (wz K) (AK K "str" jP (zY t.q00 "log" (vf t) [] E0 (zd 3) zo) (zf (tC (.str "\n")) zo)) yo (yT (tUn (rU λi=>.int (-i)) (tC (.int 1))))) (zD 6)) (zd9 K t)
def  zeb:TS:=zA (YC (vt K (AH (wz K) (zd 0) yo (yT (tC (.int 14))))) (zD 4) (zd5 K t)) (zea K t)
def  zky:TS:=zA (yc (yn (xG K) [] E0 (zf (zd 0) (zf (tC (.int 0)) zo))) (zD 1)) (zA (yc (aL az (aL aD (aL az (aL aB (zd 1) (tC (.int 7))) (tC (.int 2))) (aL aD (aL aB (zd 1) (tC (.int 14))) (aL (rI JP λi j=>.int (i^j.toNat)) (tC (.int 1000000007)) (tC (.int 3))))) (aL aA (aL (rI JP λi j=>.int (i^j.toNat)) (tC (.int 10)) (tC (.int 29))) (tC (.int 300)))) (zD 2)) (zA (yc (YH t.q00 (xK t) [] E0 (zf (aL k7 (yn vc [] E0 (zf (zd 2) (zf (wT zo) zo))) (tC (.str "\n"))) (zf (aL ad (tC (.int 1)) (aL az (zd 1) (tC (.int 8)))) (zf (zb5 t.q07) zo)))) (zD 3)) (zeb K t)))
end
variable {low aE n f r r' r1 q:Int}{G F N N':Ak}{H' H2:Hp}{P:Pl->Int->Prop}{rs db ns:yI}{g no aF tb R1 R:zG}{aM:Ap}{lb lb':AN_}{L:List (ac×HO)}{re b d x c dx l dw:ac}{cs en xs ys:LV}{CC:List (List Cs)}{la kv:xC}{o' wo:HO}{i:Nat}{ld:List (Int×RSt×zG)}{s:RSt}{M:Nat->Prop}{a:DAd}{y v:V}{p:Pl}{S:DS}{e:Dl}{D:DkV}{ra:RAd}{ph:Ph}{z:En}{ls:List Ln}{es:List En}{ds:wU}{o5 o6 o7 o8 o9 o4 o10 o11:Option V}
section
variable {K:bz}{t:aR}{H:Hp}{Q:VK}{E:XK}
def zbw{j:Int}(h:0<=j)(k:j<=100):JP 10 j:={h,(),()}
def zM{n:Nat}(h:n<=100000):n<=Fb:=bR h ()
def zkz(T:String):fS K (.type T) (.type T)=Z af:=by unfold fS;rw[ak ?s]
def kf(K:bz):KF K:={by with_unfolding_all rfl,by with_unfolding_all rfl,by with_unfolding_all rfl,by with_unfolding_all rfl,by with_unfolding_all rfl,by with_unfolding_all rfl,by with_unfolding_all rfl,by with_unfolding_all rfl}
def dB{i j:Int}(h:0<j:=by lia)(m:j<10000000000000000000000000000000000000000000000:=by lia):YJ i j:=by
 let k:(10000000000000000000000000000000000000000000000:Int)<big:=()
 show{h,()}
def zoM{j:Type}{xs:List j}{i:Int}(m:0<=i)(k:i<xs.length):∃x,atI xs i=Z x/\x∈xs:=by
 obtain⟨n,rfl⟩:∃n:Nat,i=(n:Int):={i.toNat,()};let h:n<xs.length:=()
 show{xs[n],?_,cL h};unfold atI ixN;rw[ak m,ak k];simp[h]
def zkA{h:Type}{xs:List h}(e:Int)(n:Nat)(k:xs.length=n)(j:0<(n:Int)):∃x,atI xs (e%n)=Z x/\x∈xs:=
 zoM (dL _ ()) (k\dc _ j)
def j5{H H':Hp}(s:aH H H')(h:H w=ae):aH H (upd H' w o):=λb u e=>zm (zy e h)\s b u e
def zgA(c:Nat):({ cps:=#[c] }:Str).length=1:=rfl
def yy{H H':Hp}{D:ac}(s:aH H H')(h:H' D=ae):H D=ae:=by
 cases e:H D with
 |none=>rfl
 |some o=>rw[s _ _ e] at h;cases h
def  TSm(H H':Hp):Prop:=∀b ys,H b=Z (.tup ys)->H' b=Z (.tup ys)
def jp{H H':Hp}{a:ac}(e:upd H a o=H')(h:H a=ae):aH H H'/\H' a=Z o:={e ▸ hZ a h,e ▸ zh}
def zfB{j:Type}[DecidableEq j]{m:List (j×V)}{k:j}(h:k ∉ m.map (·.1)):yD m k=ae:=by
 cases e:yD m k with
 |none=>rfl
 |some v=>show absurd (zgc e) h
def zgB:∀(j:zG)(k:yd),(∀r∈j,zI r.1 ∉ k.map (·.1))->(j.map (·.1)).Nodup->j.foldl XU k=k++j.map λr=>(zI r.1,V.int r.2)
 |[],k,_,_=>?s
 |r::j,k,h,nd=>by
  rw[bB,cW] at nd;rw[gJ,XU,ZM _ (zfB (h r bp)),zgB j _ (λq m=>?_) nd.2,bB,cX,List.singleton_append];rw[bW,bw,not_or];show{h q (br _ m),λz=>nd.1 ?_};let o:zI q.1=zI r.1:=<-z
  show [<-xj o]\bX m
def W5{j:zG}(k:(j.map (·.1)).Nodup):Ac j=j.map λr=>(zI r.1,V.int r.2):=by unfold Ac;rw[zgB j [] (λ_ _ h=>nomatch h) k,eQ]
def Qd{H H':Hp}(s:aH H H'):∀ {ys:LV}{aF:zG},B0 (PrAt H) ys aF->B0 (PrAt H') ys aF
 |_,_,.nil=>.nil
 |_,_,.cons ⟨r,p,e1,e2,e3⟩ t=>.cons {r,p,e1,s _ _ e2,s _ _ e3} (Qd s t)
def  zec(H H':Hp):Prop:=∀b ys,H b=Z (.tup ys)->H' b=Z (.tup ys)
def aH.ts{H H':Hp}(s:aH H H'):zec H H':=λb ys e=>s _ _ e
def Yl{J:It}{D:ac}{k:Hp}{Q:Hp->Prop}{B:V->St->Hp->(V->Ah)->Ah->Prop}(n:Nat)(hn:n<=1000000)(C:St->Prop)(R:Nat->LV->Hp->Prop)(hm:∀i ys H H',zec H H'->R i ys H->R i ys H')(hC:C τ₀)(h0:R 0 [] k)(go:∀i H,aH k H->i<n->J.go i H)(T:∀H,aH k H->J.stop n H)(hD:k D=ae)(hs:∀i x w ys H H',C w->aH k H->i<n->R i ys H->J.yld i H x H'->B x w H' (λv j I=>C j/\R (i+1) (ys++[v]) I/\aH H I) (λj I=>C j/\R (i+1) ys I/\aH H I))(hd:∀ys H,ys.length<=n->R n ys H->aH k H->H D=Z (.lst ys)->Q H) :
  ∃W:Nat->Nat->LV->Ah,(∃m,W 0 m [] τ₀ (upd k D (.lst [])))/\∀i m ys w H,W i m ys w H->H D=Z (.lst ys) /\
  ((J.stop i H/\Q H)\/(J.go i H/\ys.length<Fb/\∃N:V->Ah,
   (∀v j H',N v j H'->H' D=Z (.lst ys)/\∃m',m'<m/\W (i+1) m' (ys++[v]) j (upd H' D (.lst (ys++[v]))))/\∃Nf:Ah,(∀j H',Nf j H'->∃m',m'<m/\W (i+1) m' ys j H') /\
   ∀x H',J.yld i H x H'->B x w H' N Nf)):=by
 let A:∀ {H:Hp}{o:HO},aH k H->aH k (upd H D o):=λ{H o} h b u e=>zm (zy e hD)\h b u e
 show{λi m ys w H=>m=n-i/\i<=n/\ys.length<=i/\R i ys H/\aH k H/\H D=Z (.lst ys)/\C w,{n,?s,bP _,bh _,hm _ _ _ _ (aH.ts (A (aH.refl _))) h0,A (aH.refl _),zh,hC},?_};rintro i m ys w H ⟨rfl,hi,hl,hR,O,hy,hc⟩;show{hy,?_};by_cases hlt:i<n
 .show .inr {go i H O hlt,dZ (():ys.length<=1000000) (),_,?_,_,?_,λx H' y=>hs i x w ys H H' hc O hlt hR y}
  .rintro v j I ⟨c4,r4,s4⟩;let y4:=s4 _ _ hy;show{y4,n-(i+1),(),U,hlt,by simp;lia,hm _ _ _ _ (λb zs e=>zm (zN e y4 ?s)\e) r4,A (O.trans s4),zh,c4}
  .rintro j I ⟨c4,r4,s4⟩;show{n-(i+1),(),U,hlt,(),r4,O.trans s4,s4 _ _ hy,c4}
 .obtain rfl:i=n:=by lia
  show .inl {T H O,hd ys H hl hR O hy}
def zed{H:Hp}{o:Ah}{B:V->St->Hp->Ah->Prop}{k c:Int}{n:Nat}(Pv:Nat->Ah)(I:Pv 0 h H)(A:∀i h H,i<n->Pv i h H->B (.int (k+i*c)) h H (Pv (i+1)))(C:∀h H,Pv n h H->o h H) :
  ∃W:Nat->Nat->Ah,(∃m,W 0 m h H)/\∀i m h H,W i m h H->((zjN k c n).stop i H/\o h H)\/((zjN k c n).go i H/\∃N:Ah,(∀j H',N j H'->∃u,u<m/\W (i+1) u j H')/\∀x H',(zjN k c n).yld i H x H'->B x h H' N):=by
 show{λi m h H=>m=n-i/\i<=n/\Pv i h H,{n,?s,bP _,I},?_};rintro i m h H ⟨rfl,J,p⟩;by_cases hlt:i<n
 .show .inr {hlt,Pv (i+1),λj H' w=>{n-(i+1),(),U,hlt,w},?_};rintro x H' ⟨rfl,rfl⟩;show A i h _ hlt p
 .obtain rfl:i=n:=by lia
  show .inl {bh _,C h H p}
def _root_.L2.PrAt.same{H H':Hp}{q:Row}(h:zdZ H v q)(s:aH H H'):zdZ H' v q:=by let #[r,p,e,k,j]:=h;show{r,p,e,s _ _ k,s _ _ j}
def _root_.L2.PrAt.tsame{H H':Hp}{q:Row}(h:zdZ H v q)(s:zec H H'):zdZ H' v q:=by let #[r,p,e,k,j]:=h;show{r,p,e,s _ _ k,s _ _ j}
def Qe{H H':Hp}(s:zec H H'):∀ {j:LV}{aF:zG},Xm H j aF->Xm H' j aF
 |_,_,.nil=>.nil
 |_,_,.cons h r=>.cons (h.tsame s) (Qe s r)
def W6{H H':Hp}(s:aH H H'):∀ {j:LV}{aF:zG},Xm H j aF->Xm H' j aF
 |_,_,.nil=>.nil
 |_,_,.cons h r=>.cons (h.same s) (W6 s r)
def zbx{H:Hp}{v:V}{q:Row}:∀ {ys:LV}{aF:zG},Xm H ys aF->zdZ H v q->Xm H (ys++[v]) (aF++[q])
 |_,_,.nil,h=>.cons h .nil
 |_,_,.cons a r,h=>.cons a (zbx r h)
def Qf(aF:zG):∃j:List Pl,(Ac aF).map (·.1)=j.map zI/\j.Nodup/\∀p,p∈j↔(zS aF p).isSome=af:=by
 let h:=ZQ aF;let:∀(m:yd),(∀kv∈m,∃(p:Pl)(w:Int),kv=(zI p,.int w))->∃j:List Pl,m.map (·.1)=j.map zI:=λm=>by
  induction m with
  |nil=>show λ_=>{[],U}
  |cons kv r ih=>
   intro k;let #[j,e]:=ih λz I=>k z (br _ I);let #[p,w,J]:=k kv bp;show{p::j,[bB,bB,e,J]\_}
 let #[j,e]:=this _ h.2;show{j,e,xJ (f:=zI) ([<-e]\h.1),λp=>?_};constructor
 .intro A;let:zI p∈(Ac aF).map (·.1):=e\bX A
  let #[kv,k,B]:=bM.mp this;let #[C,w,rfl,o]:=mem_dOf.mp k;let:=xj B;subst this;rw[o];rfl
 .intro A;let #[w,o]:=eY.mp A;let:zI p∈j.map zI:=[<-e]\bX (f:=(·.1)) (mem_dOf.mpr {p,w,U,o})
  let #[C,u,B]:=bM.mp this;show [<-xj B]\u
def  Qg(aF:zG)(p:Pl):Option Row:=match zS aF p with
 |some w=>if w=0 then ae else Z (p,w)
 |none=>ae
def  znV(aF:zG)(j:List Pl)(i:Nat)(ys:LV)(H:Hp):Prop:=∃h:zG,Xm H ys h/\h=(j.take i).filterMap (Qg aF)
def zmh{H H':Hp}(s:zec H H')(h:znV aF qs i ys H):znV aF qs i ys H':=by let #[j,m,k]:=h;show{j,Qe s m,k}
def AD{b:Row}:Qg aF p=Z b↔b.1=p/\zS aF p=Z b.2/\b.2≠0:=by
 unfold Qg;let #[m,k]:=b;cases e:zS aF p with
 |none=>simp
 |some w=>
  by_cases h:w=0
  .subst h;simp only[if_true];constructor
   .intro z;cases z
   .rintro⟨_,z,j⟩;show absurd (cf z).symm j
  .simp only[aj h,cr,Prod.mk.injEq];constructor
   .rintro⟨rfl,rfl⟩;show{U,U,h}
   .rintro⟨rfl,rfl,_⟩;show{U,U}
def znW{k:List Pl}(u:k.Pairwise λa b=>yg a b=af)(A:∀p,p∈k↔(zS aF p).isSome=af):xS aF (k.filterMap (Qg aF)):=by
 constructor
 .unfold Ai;rw[List.pairwise_filterMap];show u.imp λ{a J} h b B I m=>?_;show [(AD.mp B).1,(AD.mp m).1]\h
 .intro p w;rw[List.mem_filterMap];constructor
  .rintro⟨a,_,h⟩;let #[j,o,C]:=AD.mp h;cases j;show{o,C}
  .rintro⟨j,o⟩;show{p,(A p).mpr (j\U),AD.mpr {U,j,o}}
def vm{p:Pl}{w:Int}:∀ {l:zG},zS l p=Z w->(p,w)∈l
 |[],h=>by cases h
 |r::t,h=>by
  rw[zS] at h;cases e:zS t p with
  |some w'=>
   rw[e] at h;let:w'=w:=<-h
   subst this;show br _ (vm e)
  |none=>
   rw[e] at h;by_cases c:r.1=p
   .rw[ak c] at h;let:r.2=w:=<-h
    show [<-c,<-this]\bp
   .rw[aj c] at h;cases h
def gV.same{H H':Hp}{a:ac}(h:gV H a aF)(s:aH H H'):gV H' a aF:=by let #[xs,k,j]:=h;show{xs,s _ _ k,W6 s j}
def zh4{J:It}{D:ac}{k:Hp}{Q:Hp->Prop}{B:V->St->Hp->(V->Ah)->Ah->Prop}(n:Nat)(hn:n<=1000000)(C:St->Prop)(R:Nat->LV->Hp->Prop)(hm:∀i ys H H',(∀b o,b≠D->H b=Z o->H' b=Z o)->R i ys H->R i ys H')(hC:C τ₀)(h0:R 0 [] k)(go:∀i H,aH k H->i<n->J.go i H)(O:∀H,aH k H->J.stop n H)(hD:k D=ae)(hs:∀i x w ys H H',C w->aH k H->i<n->R i ys H->H D=Z (.lst ys)->J.yld i H x H'->B x w H' (λv j A=>C j/\R (i+1) (ys++[v]) A/\aH H A) (λj A=>C j/\R (i+1) ys A/\aH H A))(hd:∀ys H,ys.length<=n->R n ys H->aH k H->H D=Z (.lst ys)->Q H) :
  ∃W:Nat->Nat->LV->Ah,(∃m,W 0 m [] τ₀ (upd k D (.lst [])))/\∀i m ys w H,W i m ys w H->H D=Z (.lst ys) /\
  ((J.stop i H/\Q H)\/(J.go i H/\ys.length<Fb/\∃N:V->Ah,
   (∀v j H',N v j H'->H' D=Z (.lst ys)/\∃m',m'<m/\W (i+1) m' (ys++[v]) j (upd H' D (.lst (ys++[v]))))/\∃Nf:Ah,(∀j H',Nf j H'->∃m',m'<m/\W (i+1) m' ys j H') /\
   ∀x H',J.yld i H x H'->B x w H' N Nf)):=by
 let aa:∀ {H:Hp}{o:HO},aH k H->aH k (upd H D o):=λ{H o} h b u e=>zm (zy e hD)\h b u e
 show{λi m ys w H=>m=n-i/\i<=n/\ys.length<=i/\R i ys H/\aH k H/\H D=Z (.lst ys)/\C w,{n,?s,bP _,bh _,hm _ _ _ _ (λb o hb e=>zm hb\e) h0,aa (aH.refl _),zh,hC},?_};rintro i m ys w H ⟨rfl,hi,hl,hR,I,hy,hc⟩;show{hy,?_};by_cases hlt:i<n
 .show .inr {go i H I hlt,dZ (():ys.length<=1000000) (),_,?_,_,?_,λx H' y=>hs i x w ys H H' hc I hlt hR hy y}
  .rintro v j A ⟨c4,r4,T⟩;let y4:=T _ _ hy;show{y4,n-(i+1),(),U,hlt,by simp;lia,hm _ _ _ _ (λb o hb e=>zm hb\e) r4,aa (I.trans T),zh,c4}
  .rintro j A ⟨c4,r4,T⟩;show{n-(i+1),(),U,hlt,(),r4,I.trans T,T _ _ hy,c4}
 .obtain rfl:i=n:=by lia
  show .inl {O H I,hd ys H hl hR I hy}
def znX{j c:Int}(o:0<=j)(k:0<c)(h:i<QS 0 j c):(i:Int)*c<j:=by
 unfold QS at h;split at h
 .let m:(i:Int)<=(j-0-1)/c:=()
  let u:=(Int.le_ediv_iff_mul_le k).mp m;lia
 .lia
structure MkF(K:bz)(t:aR):Prop where
 cl:AC K t.q01
 g:aK K t.q01 "ground"
 f:aK K t.q01 "folded"
 w:aK K t.q01 "worths"
 r:aK K t.q01 "ranks"
def mkF{P:At}(T:Txt K P t):MkF K t:={T.q0d,T.q3l,T.q3k,T.q3n,T.q3m}
section
variable {gr wo rk:ac}
def zoN:eG (bb "ground") (vq gr low wo rk)=Z (.ref gr):=by simp only[vq,cE,beq_self_eq_true]
def znY:eG (bb "folded") (vq gr low wo rk)=Z (.int low):=by
 let h:(bb "folded" == bb "ground")=ah:=()
 simp only[vq,cE,h,beq_self_eq_true]
def zkB:eG (bb "worths") (vq gr low wo rk)=Z (.ref wo):=by
 let j:(bb "worths" == bb "ground")=ah:=()
 let h:(bb "worths" == bb "folded")=ah:=()
 simp only[vq,cE,j,h,beq_self_eq_true]
def zkC:eG (bb "ranks") (vq gr low wo rk)=Z (.ref rk):=by
 let k:(bb "ranks" == bb "ground")=ah:=()
 let j:(bb "ranks" == bb "folded")=ah:=()
 let h:(bb "ranks" == bb "worths")=ah:=()
 simp only[vq,cE,k,j,h,beq_self_eq_true]
end
def zgC{rs:yI}{k:Nat}{x:Int}(h:rs.Pairwise (· < ·))(e:rs[k]?=Z x):∀r∈rs.take (k+1),r<=x:=λr o=>by
 let #[j,m]:=dW o;rw[iP] at m;split at m
 .let #[w,B]:=bi.mp m;let #[u,A]:=bi.mp e;obtain hl|hg:=i6 j k
  .let:=eT.mp h j k w u hl;lia
  .let:j=k:=()
   subst this;lia
 .cases m
def zmi{rs:yI}{k:Nat}{x:Int}(h:rs.Pairwise (· < ·))(e:rs[k]?=Z x):∀r∈rs.drop k,x<=r:=λr o=>by
 let #[j,m]:=dW o;rw[uy] at m;let #[A,w]:=bi.mp m;let #[u,B]:=bi.mp e;obtain rfl|hp:=gW j
 .simp only[Nat.add_zero] at w;lia
 .let:=eT.mp h k (k+j) u A ();lia
def  mbW(a:ac)(aE:Int)(rs:yI)(H:Hp)(m:Nat)(k:St)(H':Hp):Prop:=∃(j h:Nat)(o:Option V),k=[Z (.ref a),Z (.int aE),Z (.int j),Z (.int h),o]/\aH H H'/\j<=h/\h<=rs.length/\m=h-j/\(∀r∈rs.take j,r<aE)/\(∀r∈rs.drop h,aE<=r)
def Xy(p:Pl)(h:Int):∀(j:zG)(s:Int×Int),zd1 p h j s=match zS j p with|none=>s|some w=>(h,w)
 |[],s=>rfl
 |r::j,s=>by
  rw[zd1,Xy p h j,zS];cases zS j p with
  |some w=>rfl
  |none=>
   by_cases e:r.1=p
   .rw[ak e,ak e];rfl
   .rw[aj e,aj e];rfl
def wR(p:Pl)(aE:Int):∀(aM:Ap)(s:Int×Int),(jy p aE aM s=s/\∀y∈aM,s.1<y.1->y.1<aE->zS y.2 p=ae) \/
  ∃y∈aM,∃w,zS y.2 p=Z w/\y.1<aE/\s.1<y.1/\jy p aE aM s=(y.1,w)/\∀z∈aM,z.1<aE->zS z.2 p≠ae->z.1<=y.1
 |[],s=>.inl {U,λ_ h=>nomatch h}
 |l::ls,s=>by
  rw[jy];by_cases c:s.1<l.1/\l.1<aE
  .rw[ak c,Xy];cases e:zS l.2 p with
   |some w=>
    obtain ⟨h1,h2⟩|⟨y,hy,w',e1,e2,e3,e4,e5⟩:=wR p aE ls (l.1,w)
    .show .inr {l,bp,w,e,c.2,c.1,h1,λz hz j k=>?_};obtain rfl|hz:=bo.mp hz
     .show Bk _
     .obtain hl|hl:=nJ l.1 z.1
      .show absurd (h2 z hz hl j) k
      .show hl
    .let m:l.1<y.1:=e3;show .inr {y,br _ hy,w',e1,e2,(),e4,λz hz j k=>?_};obtain rfl|hz:=bo.mp hz
     .lia
     .show e5 z hz j k
   |none=>
    obtain ⟨h1,h2⟩|⟨y,hy,w',e1,e2,e3,e4,e5⟩:=wR p aE ls s
    .show .inl {h1,λy hy a b=>?_};obtain rfl|hy:=bo.mp hy
     .show e
     .show h2 y hy a b
    .show .inr {y,br _ hy,w',e1,e2,e3,e4,λz hz j k=>?_};obtain rfl|hz:=bo.mp hz
     .show absurd e k
     .show e5 z hz j k
  .rw[aj c];obtain ⟨h1,h2⟩|⟨y,hy,w',e1,e2,e3,e4,e5⟩:=wR p aE ls s
   .show .inl {h1,λy hy a b=>?_};obtain rfl|hy:=bo.mp hy
    .show absurd {a,b} c
    .show h2 y hy a b
   .show .inr {y,br _ hy,w',e1,e2,e3,e4,λz hz j k=>?_};obtain rfl|hz:=bo.mp hz
    .obtain hl|hl:=nJ s.1 z.1
     .show absurd {hl,j} c
     .lia
    .show e5 z hz j k
def Yy{j:zG}{p:Pl}(k:(j.map (·.1)).Nodup):p∈j.map (·.1)↔zS j p≠ae:=by
 constructor
 .intro h e;let #[r,m,rfl]:=bM.mp h;let:=(kh (p:=r.1) (w:=r.2) k).mpr m;rw[e] at this;cases this
 .intro h;cases e:zS j p with
  |none=>show absurd e h
  |some w=>show bM.mpr {_,(kh k).mp e,U}
def zco{rk:ac}{F:Ak}{r:Int}{k:zG}:∀ {j:xC}{l:Ap},B0 (zd2 H rk F) j l->(l.map (·.1)).Nodup->(r,k)∈l->∃d,yD j (.inl r)=Z (.ref d)/\F d/\d≠rk/\H d=Z (.dT (Ac k))
 |_,_,.nil,_,h=>nomatch h
 |_,_,@Paired.cons _ _ _ kv y j l ⟨e,d,e2,fd,nd,hd⟩ rest,n,h=>by
  rw[bB,cW] at n;obtain rfl|h:=bo.mp h
  .show{d,[xl e,e2]\_,fd,nd,hd}
  .let m:¬ kv.1=.inl r:=λz=>n.1 (by rw[e] at z;cases z;show bX (f:=(·.1)) h);show xm m\zco rest n.2 h
def zgD{rk:ac}{F:Ak}:∀ {j:xC}{l:Ap},B0 (zd2 H rk F) j l->j.map (·.1)=l.map λy=>(nW y.1:Key)
 |_,_,.nil=>rfl
 |_,_,.cons h rest=>[bB,bB,h.1,zgD rest]\_
def zcp{rk:ac}{F:Ak}{r:Int}{j:xC}{l:Ap}(h:B0 (zd2 H rk F) j l)(n:r ∉ l.map (·.1)):yD j (.inl r)=ae:=by show zfB λz=>n ?_;rw[zgD h] at z;let #[y,k,e]:=bM.mp z;cases e;show bX k
def zcq{rk:ac}{F:Ak}{r:Int}:∀ {j:xC}{l:Ap},B0 (zd2 H rk F) j l->B0 (zd2 H rk F) (yU j (.inl r)) (Jj l r)
 |_,_,.nil=>.nil
 |_,_,@Paired.cons _ _ _ kv y j l h rest=>by
  unfold Jj;by_cases e:y.1=r
  .show [zho ([h.1,e]\_),iA (by simp[e])]\zcq rest
  .show [zaO (λz=>e (by rw[h.1] at z;cases z;rfl)),iB (by simp[e])]\.cons h (zcq rest)
def zmj{l:Ap}{r:Int}(h:r ∉ l.map (·.1)):Jj l r=l:=mf.mpr λy j=>Fj λe=>h ([<-e]\bX j)
def Qh{l:Ap}{r:Int}:r ∉ (Jj l r).map (·.1):=λh=>by let #[y,j,e]:=bM.mp h;show of_decide_eq_true (eN.mp j).2 e
def aZ.get{rk:ac}{F:Ak}{P:Pl->Int->Prop}{j:yd}(h:aZ H rk F P j)(p:Pl):(∃a rs,(zI p,V.ref a)∈j/\yD j (zI p)=Z (.ref a)/\F a/\H a=Z (.lst (rs.map V.int))/\rs.Pairwise (· < ·)/\rs≠[]/\∀r,r∈rs↔P p r)\/(yD j (zI p)=ae/\zI p ∉ j.map (·.1)/\∀r,¬ P p r):=by
 by_cases hm:zI p∈j.map (·.1)
 .let #[kv,k,e]:=bM.mp hm;let #[m,a,rs,rfl,z]:=h.ls kv k;let:m=p:=xj e;subst this;show .inl {a,rs,k,zb1 h.nk _ k,z}
 .show .inr {zfB hm,hm,λr o=>hm (h.al p r o)}
def znZ{rs:yI}{l:Ap}{p:Pl}(h:rs.Pairwise (· < ·))(m:∀r,r∈rs->qi l p r):rs.length<=l.length:=by
 let j:rs.Nodup:=pS (λh=>Int.ne_of_lt h) h;let:=jH (b:=l.map (·.1)) j λx k=>let ⟨gs,h1,_⟩:=m x k;bM.mpr {_,h1,U}
 simpa using this
section
variable {rk a:ac}{H'':Hp}
def aU.refl:aU G rk H H:=λ_ _ e _ _=>e
def aU.same(k:aU G rk H H')(s:aH H' H''):aU G rk H H'':=λb o e n z=>s _ _ (k b o e n z)
def aU.dct(k:aU G rk H H')(o:HO):aU G rk H (upd H' rk o):=λb u e n z=>zm n\k b u e n z
def aU.lst(k:aU G rk H H')(j:H' a=Z (.lst xs))(m:G a):aU G rk H (upd H' a (.lst ys)):=λb u e n z=>by
 let h:=k b u e n z;by_cases hb:b=a
 .subst hb;obtain z|z:=z
  .rw[j] at h;show absurd (cf h).symm (z xs)
  .show absurd m z
 .show zm hb\h
end
def zcr{j k:Type}{f:j->k}:∀ {l:List j},(l.map f).Nodup->∀ {x y:j},x∈l->y∈l->f x=f y->x=y
 |[],_,_,_,h,_,_=>nomatch h
 |c::l,n,x,y,hx,hy,e=>by
  rw[bB,cW] at n;obtain h1|h1:=bo.mp hx
  .obtain h2|h2:=bo.mp hy
   .rw[h1,h2]
   .show absurd ([<-h1,e]\bX h2) n.1
  .obtain h2|h2:=bo.mp hy
   .show absurd ([<-h2,<-e]\bX h1) n.1
   .show zcr n.2 h1 h2 e
section
variable {rk a:ac}{P':Pl->Int->Prop}{kk:yd}{q0:Pl}
def aZ.one(h:aZ H rk G P kk)(m:(zI q0,V.ref a)∈kk){k:Pl}(j:(zI k,V.ref a')∈kk):a'=a↔k=q0:=by
 constructor
 .intro e;let:=zcr h.nv j m (e\_);show xj (congrArg Prod.fst this)
 .intro e;let:=zcr h.nk j m (e\_);show V.ref.inj (congrArg Prod.snd this)
def zee(h:aZ H rk G P kk)(j:H a=Z (.lst (rs.map V.int))):rk≠a:=zN h.at_ j ()
def zby{r:Int}(k:rs.Pairwise (· < ·)):r∈rs.erase aE↔r∈rs/\r≠aE:=by let j:rs.Nodup:=pS (λh=>Int.ne_of_lt h) k;rw[j.mem_erase_iff,and_comm]
def aZ.out1(h:aZ H rk G P kk)(T:(zI q0,V.ref a)∈kk)(ha:H a=Z (.lst (rs.map V.int)))(O:rs.Pairwise (· < ·))(hi:∀r,r∈rs↔P q0 r)(u:rs.erase aE≠[])(C:∀p r,P' p r↔P p r/\¬ (r=aE/\p=q0)):aZ (upd H a (.lst ((rs.erase aE).map V.int))) rk G P' kk where
 at_:=zm (zee h ha)\h.at_
 nk:=h.nk
 nv:=h.nv
 ls:=λkv j=>by
  let #[m,J,k,rfl,ga,B,o,w,A]:=h.ls kv j;by_cases e:J=a
  .let I:=(h.one T j).mp e;subst e I;show{m,J,rs.erase aE,U,ga,zh,O.sublist List.erase_sublist,u,λr=>?_};show [zby O,C,hi]\{λz=>{z.1,λy=>z.2 y.1},λz=>{z.1,λy=>z.2 {y,U}}}
  .let I:¬ m=q0:=λz=>e ((h.one T j).mpr z);show{m,J,k,U,ga,zm e\B,o,w,λr=>?_};show [A,C]\{λz=>{z,λy=>I y.2},λz=>z.1}
 al:=λp r z=>h.al p r ((C p r).mp z).1
def aZ.out2(h:aZ H rk G P kk)(hk:(zI q0,V.ref a)∈kk)(ha:H a=Z (.lst (rs.map V.int)))(hs:rs.Pairwise (· < ·))(hi:∀r,r∈rs↔P q0 r)(w:rs.erase aE=[])(J:∀p r,P' p r↔P p r/\¬ (r=aE/\p=q0)){us:LV}:aZ (upd (upd H a (.lst us)) rk (.dT (yU kk (zI q0)))) rk G P' (yU kk (zI q0)) where
 at_:=zh
 nk:=mF (n0 _ mh) h.nk
 nv:=mF (n0 _ mh) h.nv
 ls:=λkv j=>by let k:=zhp j;let ne:kv.1≠zI q0:=of_decide_eq_true (eN.mp j).2;let #[I,T,o,rfl,ga,m,u,A,B]:=h.ls kv k;let O:¬ I=q0:=λz=>ne (z\_);let e:¬ T=a:=λz=>O ((h.one hk k).mp z);show{I,T,o,U,ga,[zm (zee h m).symm,zm e]\m,u,A,λr=>?_};show [B,J]\{λz=>{z,λy=>O y.2},λz=>z.1}
 al:=λp r z=>by
  let #[C,z2]:=(J p r).mp z;let #[kv,j,e]:=bM.mp (h.al p r C);show bM.mpr {kv,eN.mpr {j,Fj λy=>?_},e};let:p=q0:=xj (e.symm.trans y);subst this;let hr:r∈rs:=(hi r).mpr C;by_cases er:r=aE
  .show z2 {er,U}
  .let:=(zby (aE:=aE) hs).mpr {hr,er};rw[w] at this;cases this
def zfC{k:Nat}(o:rs.Pairwise (· < ·))(j:∀r∈rs.take k,r<aE)(m:∀r∈rs.drop k,aE<=r)(h:aE ∉ rs):(rs.take k++aE::rs.drop k).Pairwise (· < ·):=by
 let gt:∀r∈rs.drop k,aE<r:=λr u=>by let B:=m r u;let A:r≠aE:=λz=>h ([<-z]\cT u);lia
 rw[List.pairwise_append,pq];show{o.sublist (uE ..),{gt,o.sublist (List.drop_sublist ..)},λx w y hy=>?_};let:=j x w;obtain rfl|hy:=bo.mp hy
 .show this
 .let:=gt y hy;lia
def zmk{r:Int}:r∈rs.take k++aE::rs.drop k↔r∈rs\/r=aE:=by
 rw[bw,bo];constructor
 .rintro(h|h|h)
  .show .inl (cU h)
  .show .inr h
  .show .inl (cT h)
 .rintro(h|h)
  .let:r∈rs.take k++rs.drop k:=fZ\h
   obtain z|z:=bw.mp this
   .show .inl z
   .show .inr (.inr z)
  .show .inr (.inl h)
def aZ.in1{k:Nat}(h:aZ H rk G P kk)(C:(zI q0,V.ref a)∈kk)(ha:H a=Z (.lst (rs.map V.int)))(hs:rs.Pairwise (· < ·))(hi:∀r,r∈rs↔P q0 r)(B:∀r∈rs.take k,r<aE)(J:∀r∈rs.drop k,aE<=r)(w:¬ P q0 aE)(T:∀p r,P' p r↔P p r\/(r=aE/\p=q0)):aZ (upd H a (.lst ((rs.take k++aE::rs.drop k).map V.int))) rk G P' kk where
 at_:=zm (zee h ha)\h.at_
 nk:=h.nk
 nv:=h.nv
 ls:=λkv j=>by
  let #[o,a',m,rfl,ga,O,u,A,I]:=h.ls kv j;by_cases e:a'=a
  .let ep:=(h.one C j).mp e;subst e ep;show{o,a',_,U,ga,zh,zfC hs B J (λz=>w ((hi _).mp z)),?s,λr=>?_};show [zmk,T,hi]\{λz=>z.imp_right λy=>{y,U},λz=>z.imp_right λy=>y.1}
  .let ep:¬ o=q0:=λz=>e ((h.one C j).mpr z);show{o,a',m,U,ga,zm e\O,u,A,λr=>?_};show [I,T]\{λz=>.inl z,λz=>z.elim id λy=>absurd y.2 ep}
 al:=λp r z=>by
  rcases(T p r).mp z with z|⟨_,rfl⟩
  .show h.al p r z
  .show bM.mpr {_,C,U}
def aZ.in2(h:aZ H rk G P kk)(O:zI q0 ∉ kk.map (·.1))(w:∀r,¬ P q0 r)(ga:G a)(T:∀kv∈kk,kv.2≠.ref a)(ha:a≠rk)(C:∀p r,P' p r↔P p r\/(r=aE/\p=q0)):aZ (upd (upd H rk (.dT (kk++[(zI q0,V.ref a)]))) a (.lst [V.int aE])) rk G P' (kk++[(zI q0,V.ref a)]) where
 at_:=zm ha.symm\zh
 nk:=by
  rw[bW,m6];show{h.nk,?s,λx o y m=>?_};let:y=zI q0:=<-m
  show this\λz=>O ([<-z]\o)
 nv:=by
  rw[bW,m6];show{h.nv,?s,λx o y m=>?_};let:y=V.ref a:=<-m
  rw[this];let #[kv,hkv,rfl]:=bM.mp o;show T kv hkv
 ls:=λkv hkv=>by
  obtain hkv|hkv:=bw.mp hkv
  .let #[J,a',k,rfl,I,j,u,A,B]:=h.ls kv hkv;let e:a'≠a:=λz=>T _ hkv (z\_);let ep:J≠q0:=λz=>O (bM.mpr {_,hkv,z\_});show{J,a',k,U,I,[zm e,zm (zee h j).symm]\j,u,A,λr=>?_};show [B,C]\{λz=>.inl z,λz=>z.elim id λy=>absurd y.2 ep}
  .let:=bu.mp hkv;subst this;show{q0,a,[aE],U,ga,zh,?s,?s,λr=>?_};show [C,bu]\{λz=>.inr {z,U},λz=>z.elim (λy=>absurd y (w r)) λy=>y.1}
 al:=λp r z=>by
  rw[bW,bw];rcases(C p r).mp z with z|⟨_,rfl⟩
  .show .inl (h.al p r z)
  .show .inr ?s
def aZ.eqv(h:aZ H rk G P kk)(e:∀p r,P p r↔P' p r):aZ H rk G P' kk:={h.at_,h.nk,h.nv,λkv j=>let ⟨p,a,rs,e1,fa,ha,hs,hn,hi⟩:=h.ls kv j;{p,a,rs,e1,fa,ha,hs,hn,λr=>(hi r).trans (e p r)},λp r z=>h.al p r ((e p r).mpr z)}
end
def  taI(m L rk:ac)(aE:Int)(ys:LV)(F:Ak)(P:Pl->Int->Prop)(o:zG)(H:Hp)(i:Nat)(h:St)(H':Hp):Prop:=(∃j,h=[Z (.ref m),Z (.int aE),Z (.ref L),j])/\aU F rk H H'/\Dm H H'/\∃k,aZ H' rk F (λp r=>P p r/\¬ (r=aE/\p∈(o.take i).map (·.1))) k
def aZ.keep2{H':Hp}{rk:ac}{F F':Ak}{P:Pl->Int->Prop}(h:aZ H rk F P aI)(j:H' rk=H rk)(k:∀b xs,F b->H b=Z (.lst xs)->H' b=Z (.lst xs))(u:∀b,F b->(∃o,H' b=Z o)->F' b):aZ H' rk F' P aI:=
 {j.trans h.at_,h.nk,h.nv,λkv m=>let ⟨p,a,rs,e,fa,ha,z⟩:=h.ls kv m;{p,a,rs,e,u a fa {_,k _ _ fa ha},k _ _ fa ha,z},h.al}
def Dm.refl:Dm H H:=λb o e=>{o,e,λ_ z=>z}
def Dm.trans{m H2:Hp}(h:Dm H m)(k:Dm m H2):Dm H H2:=λb o e=>by let #[B,I,w]:=h b o e;let #[A,C,u]:=k b B I;show{A,C,λj z=>w j (u j z)}
def Dm.of_same{H1:Hp}(s:aH H H1):Dm H H1:=λb o e=>{o,s _ _ e,λ_ z=>z}
def Dm.upd{a:ac}(n:∀h,o'≠.tup h):Dm H (upd H a o'):=λb o e=>by
 by_cases c:b=a
 .subst c;show{_,zh,λh z=>absurd z (n h)}
 .show{o,zm c\e,λ_ z=>z}
def aU.trans{G:Ak}{rk:ac}{j H2:Hp}(h:aU G rk H j)(k:aU G rk j H2):aU G rk H H2:=λb o e n z=>k b o (h b o e n z) n z
def zkD{m dx B wo rk:ac}{low:Int}{F:Ak}{g:zG}{w:Ap}{j:xC}{A:yd}{u H':Hp}(me:F m)(fg:F B)(fw:F wo)(fk:F rk)(J:B≠rk)(T:u m=Z (.ins t.q01 dx (vq B low wo rk)))(hg:u B=Z (.dT (Ac g)))(hw:u wo=Z (.dK j))(h:∃O,u rk=Z (.dT O))(wp:B0 (zd2 u rk F) j w)(k:aU F rk u H')(I:∀b,F b->∃o,H' b=Z o)(rr:aZ H' rk F (qi w) A)(C:(w.map (·.1)).Nodup)(ok:∀y∈w,0<=y.1/\zaf y.2):hV t H' m F g w low:=by let #[O,h]:=h;show{I,me,C,ok,dx,B,wo,rk,j,A,k _ _ T (zN T h ()) (.inl nofun),fg,fw,fk,J,k _ _ hg J (.inl nofun),k _ _ hw (zN hw h ()) (.inl nofun),Paired.mapP wp λ_ _ ⟨e,d,e2,fd,C,hd⟩=>{e,d,e2,fd,C,k _ _ hd C (.inl nofun)},rr}
def zbz{F:Ak}{rk:ac}{H H':Hp}(h:F rk)(k:aU F rk H H'):∀b o,¬ F b->H b=Z o->H' b=Z o:=λb o n e=>k b o e (λz=>n (z\h)) (.inr n)
def zkE{l:Ap}{aE:Int}{o:zG}(u:(l.map (·.1)).Nodup)(h:(aE,o)∈l)(p:Pl)(r:Int):(qi l p r/\¬ (r=aE/\p∈o.map (·.1)))↔qi (Jj l aE) p r:=by
 constructor
 .rintro⟨⟨m,k,j⟩,n⟩;show{m,eN.mpr {k,Fj λz=>?_},j};let z:r=aE:=z;subst z;let:=zcr u k h rfl;cases this;show n {U,j}
 .rintro⟨m,k,j⟩;let #[A,w]:=eN.mp k;show{{m,A,j},λz=>of_decide_eq_true w z.1}
def zn0{rk:ac}{F:Ak}{l:Ap}{P:Pl->Int->Prop}(h:aZ H rk F P kk)(A:∀p r,P p r->qi l p r)(j:∀y∈l,zaf y.2)(O:l.length<=300):kk.length<=18900:=by
 let J:=jH (b:=(l.flatMap λy=>y.2.map (·.1)).map zI) h.nk λx u=>by
  let #[kv,k,rfl]:=bM.mp u;let #[p,a,rs,rfl,_,_,_,B,C]:=h.ls kv k;obtain⟨r,w⟩:∃r,r∈rs:=by
   cases rs with
   |nil=>show absurd U B
   |cons r _=>show{r,bp}
  let #[T,m,I]:=A p r ((C r).mp w);show bX (lW.mpr {_,m,I})
 rw[bd,bd] at J;let m:∀l:Ap,(∀y∈l,zaf y.2)->(l.flatMap λy=>y.2.map (·.1)).length<=63*l.length:=by
  intro l;induction l with
  |nil=>intro _;simp
  |cons y l ih=>
   intro j;rw[uL,bj,bd,bJ];let:=(j y bp).le;let:=ih λz o=>j z (br _ o);lia
 let:=m l j;lia
def  lyI(m k d rk:ac)(aE:Int)(G:Ak)(P:Pl->Int->Prop)(o:zG)(H:Hp)(i:Nat)(h:St)(H':Hp):Prop:=(∃o4,h=[Z (.ref m),Z (.int aE),Z (.ref k),Z (.ref d),o4])/\aU G rk H H'/\Dm H H'/\∃j,aZ H' rk G (λp r=>P p r\/(r=aE/\p∈(o.take i).map (·.1))) j
def Qi(p:Pl)(aE:Int)(y:Int×zG):∀(l:Ap)(s:Int×Int),jy p aE (l++[y]) s=(if (jy p aE l s).1<y.1/\y.1<aE then zd1 p y.1 y.2 (jy p aE l s) else jy p aE l s)
 |[],s=>rfl
 |a::t,s=>[fI,jy,Qi p aE y t,jy]\_
def ya{i:Nat}{h:LSV}{f:Str}{R:VK}(k:H x=Z (.ins C dx h))(c:AC K C)(n:aK K C f)(m:σ[i]?=Z (Z (.ref x)))(j:h.lookup f=Z v)(q:R v H):zd i σ H (zf6 K f R):={_,m,x,C,dx,h,v,U,k,c,n,j,q}
def yW{R:VK}(j:H x=Z (.ins C dx fs))(k:σ[i]?=Z (Z (.ref x)))(h:fs.lookup m=ae)(q:R (.ref x) H):zd i σ H (zeU C m R):={_,k,x,dx,fs,U,j,h,q}
def yz{b:Bool}{P R:Prop}(h:b=ah)(r:R):if b=af then P else R:=aj (by rw[h];decide)\r
def yN{b:Bool}{P R:Prop}(h:b=af)(p:P):if b=af then P else R:=ak h\p
def zoO(h0:σ[k]?=Z (Z (.ref d)))(hc:ze1 [k] σ=[Z (.ref d)])(hd:H d=Z (.dT (Ac aF)))(hl:(Ac aF).length<=63)(ht:∀(p:ac)(q:Pl)(w:Int)(H':Hp)(A B:Hp->Prop),zS aF q=Z w->Ay H' d (.ref p) (Z (.int w))->(w≠0->A H')->(w=0->B H')->tt [Z (.ref p),Z (.ref d)] H' λb H3=>if b=af then A H3 else B H3)(q:∀l j H',aH H H'->H l=ae->gV H' l j->xS aF j->j.length<=(Ac aF).length->Q (.ref l) H') :
  vx (vt K (Ad zmY (zf (zd k) zo))) (zD 0) tt (wS (zf (zd 0) (zf (zaK (zd 1) (zd 0)) zo))) 1 [k] σ H Q:=by
 let #[qs,T,ar,O]:=Qf aF;show{_,h0,d,Ac aF,qs,U,hd,T,(),λl C an m aa al=>?_};generalize c_:upd H l _=H1;let #[s1,q1]:=jp c_ an;let lp:C.length=(Ac aF).length:=by let a1:=m.length_eq;let a2:=congrArg eA T;rw[bd] at a1;rw[bd,bd] at a2;lia
 show{l,U,{_,aN.of q1},λD hD=>?_};rw[hc];show Yl (J:=Itl K l) C.length () (λτ=>∃o,τ=[o,Z (.ref d)]) (znV aF (C.map (·.2))) (λi ys H H' s h=>zmh s h) {_,U} {[],.nil,U} (λi H s h=>{_,_,aN.of (s _ _ q1),bc (bd\h)}) (λH s=>{_,aN.of (s _ _ q1),bd\bh _}) hD ?_ ?_
 .rintro i v τ ys H4 H5 ⟨o,rfl⟩ I hi hR ⟨rfl,hv⟩;let hv:=hv _ (aN.of (I _ _ q1));rw[bn] at hv;let #[n,hn,rfl]:=cj.mp hv;let hp:=I _ _ (s1 _ _ (al n (b7 hn)));let hm:n.2∈qs:=m.mem_iff.mp (bX (b7 hn));let #[w,hw]:=eY.mp ((O n.2).mp hm);let g:Ay H5 d (.ref n.1) ((zS aF n.2).map V.int):=.inr {Ac aF,zI n.2,n.1,.inl (I _ _ (s1 _ _ hd)),U,hp,(XV aF n.2).symm};rw[hw] at g;let tk:(C.map (·.2)).take (i+1)=(C.map (·.2)).take i++[n.2]:=[du,bn,hn]\U
  let #[j,hr,ho]:=hR;show ht n.1 n.2 w H5 _ _ hw g (λw0=>{_,U,_,U,_,U,d,_,U,g,(),λp u=>{{_,U},?_,hZ p u}}) λw0=>{{_,U},?_,aH.refl _}
  .show{j++[(n.2,w)],zbx (W6 (hZ p u) hr) {p,n.1,U,zh,hZ p u _ _ hp},?_};rw[tk,sZ,<-ho];simp[Qg,hw,w0]
  .show{j,hr,?_};rw[tk,sZ,<-ho];simp[Qg,hw,w0]
 .rintro ys H4 aI ⟨j,hr,ho⟩ I hq;rw[bV (bd\bh _)] at ho;subst ho;show q D _ H4 (s1.trans I) (yy s1 hD) {ys,hq,hr} (znW aa λp=>(m.mem_iff.trans (O p))) ?_;let:=List.length_filterMap_le (Qg aF) (C.map (·.2));rw[bd] at this;lia
def zef{f:Pl->Int}{p:Pl}:∀ {qs:List Pl},zS (qs.map λq=>(q,f q)) p=if p∈qs then Z (f p) else ae
 |[]=>rfl
 |q::qs=>by
  rw[bB,zS,zef (qs:=qs)];by_cases h:p∈qs
  .rw[ak h,ak (br _ h)];rfl
  .rw[aj h];by_cases e:q=p
   .subst e;rw[ak U,ak bp];rfl
   .rw[aj e,aj (λz=>(bo.mp z).elim (λy=>e y.symm) h)];rfl
def zcs:∀ {ys:LV}{j:yd}{h:List Pl},B0 (zfm H) ys j->j.map (·.1)=h.map zI->B0 (PlV H) ys h
 |_,_,[],.nil,_=>.nil
 |_,_,_::_,.nil,e=>by cases e
 |_,_,[],.cons _ _,e=>by cases e
 |_,_,q::h,.cons ⟨p,e1,e2⟩ r,e=>by rw[bB,bB] at e;let #[m,k]:=eE e;show .cons {p,e1,by rw[m] at e2;show e2} (zcs r k)
def zml{k j:Type}{F:k->j->Prop}:∀ {a:List k}{b:List j}{c:List k}{d:List j},B0 F a b->B0 F c d->B0 F (a++c) (b++d)
 |_,_,_,_,.nil,h=>h
 |_,_,_,_,.cons h r,h2=>.cons h (zml r h2)
def  tfR(aF:zG)(i:Nat)(ys:LV)(H:Hp):Prop:=B0 (PrAt H) ys (aF.take i)
section
variable {m:ac}
def zmm{A:ac}{ys:LV}{qs:List Pl}(h1:hV t H m F g aM low)(h2:low<=aE)(B:H A=Z (.lst ys))(hy:B0 (PlV H) ys qs)(le:qs.length<=63)(q:∀l j H',aH H H'->H l=ae->gV H' l j->xS (qs.map λq=>(q,xo g aM q aE)) j->Q (.ref l) H') :
  jf K t (aX Q) [Z (.ref m),Z (.int aE),Z (.ref A)] H:=by
 let ly:=bZ hy;obtain⟨aF,er⟩:∃aF,aF=qs.map λq=>(q,xo g aM q aE):={_,U};let lr:aF.length=qs.length:=[er,bd]\_
 rw[<-er] at q;show{_,U,A,U,{_,aN.of B},λD hD=>?_};show Yl (J:=Itl K A) ys.length () (λτ=>∃o,τ=[o,Z (.ref m),Z (.int aE)]) (tfR aF) (λi ys H H' s h=>Paired.mapP h λ_ _ z=>L2.PrAt.tsame z s) {_,U} .nil (λi H s h=>{_,_,aN.of (s _ _ B),bc h}) (λH s=>{_,aN.of (s _ _ B),bh _}) hD ?_ ?_
 .rintro i v τ us H4 H5 ⟨o,rfl⟩ k hi w ⟨rfl,O⟩;let O:=O _ (aN.of (k _ _ B));let #[I,aa,p,rfl,hp]:=Paired.getP hy O;let u:=h1.same k;let #[dx,fs,i1,i2,i3,i4]:=u.ins;show yN (R:=False) U {_,U,yW i1 U i3 {_,U,_,U,m,p,aE,F,g,aM,low,I,U,u,h2,k _ _ hp,λH6 C=>{(),λr T=>{{_,U},?_,C.trans (hZ r T)}}}};let tk:aF.take (i+1)=aF.take i++[(I,xo g aM I aE)]:=[du,er,bn,aa]\U
  unfold tfR;show tk\Paired.snocP (Paired.mapP w λ_ _ z=>L2.PrAt.same z (C.trans (hZ r T))) {r,p,U,zh,(k.trans (C.trans (hZ r T))) _ _ hp}
 .intro us H4 an w k hq;unfold tfR at w;rw[bV ()] at w;let ld:=Yw aF;show{D,aF,U,{us,hq,w},(),(),λl j H' s al ho ht=>q l j H' (k.trans s) (yy k al) ho ht}
def YD{vs:LV}{_E:XK}(O:MkF K t)(h:wK t vs H Q _E) :
  j0 K t (aX Q) (zZZ 3 vs) H:=by
 let #[m,aE,F,g,aM,low,rfl,h1,h2,h3,q]:=h;let M:=h1;let #[dx,gr,wo,rk,wk,I,j]:=M.ex;let #[gs,e1,_,gm]:=Qf g;obtain⟨ks,J⟩:∃ks:List Pl,I.map (·.1)=ks.map zI:=by
  let:=j.rr.ls;clear j M;induction I with
  |nil=>show{[],U}
  |cons kv I ih=>
   let #[ks,e]:=ih λx hx=>this x (br _ hx);let #[p,a,rs,rfl,_]:=this kv bp;show{p::ks,[bB,bB,e]\_}
 let kn:ks.Nodup:=xJ (f:=zI) ([<-J]\j.rr.nk);let kp:∀p∈ks,p∈aM.flatMap λy=>y.2.map (·.1):=λp k=>by
  let:zI p∈I.map (·.1):=J\bX k
  let #[kv,aS,e]:=bM.mp this;let #[p',a,rs,rfl,_,_,_,hn,hi]:=j.rr.ls kv aS;obtain rfl:p'=p:=xj e;let #[r,hr]:=List.exists_mem_of_ne_nil _ hn;let #[gs,hg,aI]:=(hi r).mp hr;show lW.mpr {_,hg,aI}
 let l2:=jH kn kp;rw[ub] at l2;let l1:=Yw g;let l3:g.length+(aM.map λy=>y.2.length).sum<=63:=h3;let l4:(Ac g).length=gs.length:=by let:=congrArg eA e1;rw[bd,bd] at this;show this
 let l5:(aM.map λy=>(y.2.map (·.1)).length)=aM.map λy=>y.2.length:=fR λy _=>bd ..;rw[l5] at l2;show{_,U,m,_,_,U,j.im,vB (),_,U,m,_,_,_,_,U,j.im,znY,h2,λH1 s1=>?_};let u:=j.keep M.me λb o _ e=>s1 _ _ e;show(ya u.im O.cl O.g U zoN {gr,_,U,u.hg,λa1 aa a5 ar=>?_});generalize c_:upd H1 a1 _=H2;let #[s2,q2]:=jp c_ a5;let B:=u.keep M.me λb o _ e=>s2 _ _ e;show(ya B.im O.cl O.r U zkC {rk,_,U,B.rr.at_,λa2 T a4 an=>?_});generalize c2:upd H2 a2 _=H3;let #[C,q3]:=jp c2 a4;let p1:B0 (PlV H3) aa gs:=zcs (Paired.mapP ar λ_ _ ⟨p,e,h⟩=>{p,e,(s2.trans C) _ _ h}) e1;let p2:B0 (PlV H3) T ks:=zcs (Paired.mapP an λ_ _ ⟨p,e,h⟩=>{p,e,C _ _ h}) J;let n1:=bZ p1;let n2:=bZ p2;show{a1,a2,_,_,U,U,C _ _ q2,q3,zM (),λa3 aW=>?_};generalize c3:upd H3 a3 _=H4;let #[s4,q4]:=jp c3 aW;let S4:=s1.trans (s2.trans (C.trans s4));show zmm (qs:=gs++ks) (h1.same S4) h2 q4 (zml (Paired.mapP p1 λ_ _ ⟨p,e,h⟩=>{p,e,s4 _ _ h}) (Paired.mapP p2 λ_ _ ⟨p,e,h⟩=>{p,e,s4 _ _ h})) (bj\()) λl al H' s hl ho ht=>q l al H' (S4.trans s) (yy S4 hl) ho {ht.1,λp w=>?_};rw[ht.2 p w,zef];by_cases k:p∈gs++ks
 .show ak k\{λz=>{cf z.1,z.2},λz=>{[<-z.1]\_,z.2}}
 .rw[aj k];show{λz=>(nomatch z.1),λz=>absurd ?_ z.2};rw[bw,not_or] at k;let z1:xo g aM p aE=w:=z.1;rw[<-z1];unfold xo;obtain ⟨e,_⟩|⟨y,hy,w,e,_⟩:=wR p aE aM (-1,(zS g p).getD 0)
  .rw[e];cases e:zS g p with
   |none=>rfl
   |some w=>show absurd ((gm p).mpr (e\U)) k.1
  .let:=j.rr.al p y.1 {y.2,hy,(Yy (M.ok y hy).2.nd).mpr (e\(nofun))};rw[J] at this;let #[p',A,e3]:=bM.mp this;rw[xj e3] at A;show absurd A k.2
end
def zkF(xs:LV)(n:Nat):vV xs ae (Z (n:Int))=xs.take n:=by
 unfold vV;rw[HT.sIx_none,HT.sIx_nat,iK,uQ];by_cases c:n<=xs.length
 .rw[gL c]
 .rw[nY (),bV (bh _),bV ()]
def zfD(xs:LV)(n:Nat):vV xs (Z (n:Int)) ae=xs.drop n:=by
 unfold vV;rw[HT.sIx_none,HT.sIx_nat];by_cases c:n<=xs.length
 .show gL c\bV (cz\bh _)
 .rw[nY (),mQ (bh _),mQ (),List.take_nil]
def zkG(xs:LV)(k m:Nat)(j:k<=m)(h:m<=xs.length):vV xs (Z (k:Int)) (Z (m:Int))=(xs.drop k).take (m-k):=by unfold vV;rw[HT.sIx_nat,HT.sIx_nat,gL h,gL (():k<=xs.length)]
def zoP{i:Nat}{T:String}{b:Bool}(j:σ[i]?=Z (Z v))(h:Y5 K H v tv)(k:fS K tv (.type T)=Z b)(q:Q (.bl b) H):Ad (zhq K) (zf (zd i) (zf (tC (.ty T)) zo)) σ H Q:={_,j,v,.ty T,tv,b,U,h,{T,U,k},q}
def zoQ{i:Nat}{T:String}{b:Bool}{Q:Bool->Hp->Prop}(j:σ[i]?=Z (Z v))(h:Y5 K H v tv)(k:fS K tv (.type T)=Z b)(q:Q b H):tB (Ad (zhq K) (zf (zd i) (zf (tC (.ty T)) zo))) σ H Q:=zoP j h k {b,U,q}
section
variable {L':List (ac×HO)}{m:ac}{o:HO}{r:ac}{gi:zG}
def TSm.of(s:aH H H'):TSm H H':=λ_ _ e=>s _ _ e
def kS:∀h u,H h=Z u->∃u',upd H b o h=Z u':=λh u e=>by
 by_cases c:h=b
 .show{o,c\zh}
 .show{u,zm c\e}
def Qj(e:H b=Z o)(n:∀j,o≠.tup j):TSm H (upd H b o'):=λk ys h=>zm (zN h e (λz=>n ys z.symm))\h
end
section
variable {m:ac}{ws:yI}{o:HO}{r:ac}{gi:zG}
def zoR(h:B0 (zfm H) ys (Ac gs)):∀y∈ys,∃c q,y=.ref c/\H c=Z (.tup ((zI q).map kV)):=λy j=>by let #[i,u]:=dW j;let #[kv,k,c,e,w]:=Paired.getP h u;let #[C,A,_]:=Qf gs;let z:=bX (f:=λx:xu×V=>x.1) (b7 k);rw[A] at z;let #[q,_,B]:=bM.mp z;show{c,q,e,B\w}
def zn1{ys:LV}{j:zG}(h:B0 (zfm H) ys (Ac j))(k:(j.map (·.1)).Nodup):ys.length=j.length:=[bZ h,W5 k,bd]\_
end
structure PO(H0:Hp)(x w:ac)(ox:HO)(H:Hp)(lb:AN_)(F:Ak)(E:List (Nat×ac×HO)):Prop where
 hx:H x=Z ox
 lx:lb x=1
 ob:∀e∈E,1<e.1/\H e.2.1=Z e.2.2/\lb e.2.1=e.1
 ow:∀b,lb b≠0->∃o,H b=Z o
 kp:Z2 x H0 H
 fr:∀b,lb b≠0->b=x\/b=w\/H0 b=ae
 f10:∀b,lb b=10↔F b
section
variable {H0:Hp}{w:ac}{ox o:HO}{E:List (Nat×ac×HO)}{n:Nat}
def PO.put(h:PO H0 x w ox H lb F E)(o:HO):PO H0 x w o (upd H x o) lb F E:=by
 show{zh,h.lx,λe k=>?_,λb z=>?_,λb u z e=>zm z\h.kp b u z e,h.fr,h.f10}
 .let #[A,m,j]:=h.ob e k;show{A,zm (λy=>by rw[y,h.lx] at j;lia)\m,j}
 .let #[u,e]:=h.ow b z;show kS b u e
def PO.same(h:PO H0 x w ox H lb F E)(s:aH H H'):PO H0 x w ox H' lb F E:={s _ _ h.hx,h.lx,λe j=>let ⟨h1,h2,h3⟩:=h.ob e j;{h1,s _ _ h2,h3},λb z=>let ⟨o,e⟩:=h.ow b z;{o,s _ _ e},λb o z e=>s _ _ (h.kp b o z e),h.fr,h.f10}
def PO.l0(h:PO H0 x w ox H lb F E)(j:H c=ae):lb c=0/\H0 c=ae:=by
 let k:c≠x:=λz=>by rw[z,h.hx] at j;cases j
 show{eU (λz=>by let #[o,e]:=h.ow c z;rw[j] at e;cases e),?_};cases e:H0 c with
 |none=>rfl
 |some u=>let:=h.kp c u k e;rw[j] at this;cases this
open Classical in
def PO.lab{F':Ak}(h:PO H0 x w ox H lb F E)(n:Nat)(m:∀b,(N b/\n=10\/F b)↔F' b)(j:∀b,N b->lb b=0/\H0 b=ae/\∃o,H b=Z o):∃lb',PO H0 x w ox H lb' F' E/\(∀b,N b->lb' b=n)/\∀b,¬ N b->lb' b=lb b:=by
 let C:∀b,lb b≠0->¬ N b:=λb z y=>z (j b y).1;show{λb=>if N b then n else lb b,{h.hx,(aj (C x (by rw[h.lx];decide))).trans h.lx,λe k=>?_,λb z=>?_,h.kp,λb z=>?_,λb=>?_},λb z=>ak z,λb z=>aj z}
 .let #[B,A,u]:=h.ob e k;by_cases y:N e.2.1
  .let:=(j _ y).1;lia
  .show{B,A,(aj y).trans u}
 .by_cases y:N b
  .show(j b y).2.2
  .show h.ow b (λw=>z ((aj y).trans w))
 .by_cases y:N b
  .show .inr (.inr (j b y).2.1)
  .show h.fr b (λw=>z ((aj y).trans w))
 .rw[<-m,<-h.f10];by_cases y:N b
  .rw[ak y,(j b y).1];simp[y]
  .rw[aj y];simp[y]
def PO.new(h:PO H0 x w ox H lb F E)(n:Nat)(u:1<n)(m:n≠10)(k:H c=ae):∃lb',PO H0 x w ox (upd H c o) lb' F ((n,c,o)::E):=by
 let #[l0,A]:=h.l0 k;let #[lb',j,B,C]:=(h.same (hZ c k (o:=o))).lab (N:=λb=>b=c) n (λb=>{λz=>z.resolve_left λy=>m y.2,.inr}) λb z=>z\{l0,A,_,zh}
 show{lb',j.hx,j.lx,λe he=>by
  obtain rfl|he:=bo.mp he
  .show{u,zh,B c U}
  .show j.ob e he,j.ow,j.kp,j.fr,j.f10}
def PO.init(h:H0 x=Z o)(j:∃u,H0 w=Z u):∃lb,PO H0 x w o H0 lb (λ_=>False) []/\(w≠x->lb w=2)/\∀b,b≠x->b≠w->lb b=0:=by
 show{λb=>if b=x then 1 else if b=w then 2 else 0,{h,ak U,(λe k=>nomatch k),λb z=>?_,λb u _ e=>e,λb z=>?_,λb=>?_},λz=>(aj z).trans (ak U),λb z y=>(aj z).trans (aj y)}
 .by_cases y:b=x
  .show y\{_,h}
  .by_cases v:b=w
   .show v\j
   .rw[aj y,aj v] at z;show absurd U z
 .by_cases y:b=x
  .show .inl y
  .by_cases v:b=w
   .show .inr (.inl v)
   .rw[aj y,aj v] at z;show absurd U z
 .by_cases y:b=x
  .rw[ak y];simp
  .by_cases v:b=w
   .rw[aj y,ak v];simp
   .rw[aj y,aj v];simp
section
variable {C:ac}{fs:LSV}{fl:Str}{σ:St}{D:ZF}{k:Nat}
def PO.st(P:PO H0 x w (.ins C dx fs) H lb F E)(j:σ[0]?=Z (Z (.ref x)))(c:AC K C)(n:aK K C fl)(h:fs.length<1000)(q:∀H',PO H0 x w (.ins C dx (xE fl y fs)) H' lb F E->D.nx σ H'):zd 0 σ H (zcV K fl (D.nx σ) y):={_,j,x,C,dx,fs,U,P.hx,c,n,h,q _ (P.put _)}
def PO.stM(M:hV t H m F g [] 0)(P:PO H0 x w (.ins C dx fs) H lb F E)(j:σ[0]?=Z (Z (.ref x)))(c:AC K C)(n:aK K C fl)(h:fs.length<1000)(q:∀H',PO H0 x w (.ins C dx (xE fl y fs)) H' lb F E->hV t H' m F g [] 0->D.nx σ H'):zd 0 σ H (zcV K fl (D.nx σ) y):={_,j,x,C,dx,fs,U,P.hx,c,n,h,q _ (P.put _) (M.keep (λb o u e=>zm (λz=>by let:=(P.f10 b).mpr u;rw[z,P.lx] at this;cases this)\e))}
def PO.sv(P:PO H0 x w (.ins C dx fs) H lb F E)(m:σ[0]?=Z (Z (.ref x)))(j:σ[k]?=Z (Z y))(c:AC K C)(n:aK K C fl)(h:fs.length<1000)(q:∀H',PO H0 x w (.ins C dx (xE fl y fs)) H' lb F E->D.nx σ H'):xw K (zd 0) (zd k) fl D σ H:={_,j,P.st m c n h q}
def PO.so(o:HO)(m:Nat)(j:1<m)(h:m≠10)(P:PO H0 x w (.ins C dx fs) H lb F E)(B:σ[0]?=Z (Z (.ref x)))(c:AC K C)(n:aK K C fl)(A:fs.length<1000)(q:∀c H' lb',PO H0 x w (.ins C dx (xE fl (.ref c) fs)) H' lb' F ((m,c,o)::E)->D.nx σ H')(p:ac)(u:H p=ae):zd 0 σ (upd H p o) (zcV K fl (D.nx σ) (.ref p)):=by let #[lb',I]:=P.new (o:=o) m j h u;show I.st B c n A λH'=>q p H' lb'
end
def zai{C:LV}{_E:XK}(D:DkF K t)(h:q9 t C H Q _E) :
  Zd K t (aX Q) (zZZ 2 C) H:=by
 let #[x,m,dx,rfl,A,q]:=h;let #[lb,P,_]:=PO.init A {_,A};unfold Zd zA;show P.sv U U D.cJ D.j1 () λH1 P=>P.so (.dK []) 7 () () U D.cJ D.j2 () λla H2 O P=>P.so (.dT []) 11 () () U D.cJ D.j3 () λre H3 J P=>P.so (.dK []) 8 () () U D.cJ D.j4 () λdb H7 k j=>?_;let B:∀n c o,(n,c,o)∈[(8,db,HO.dK []),(11,re,.dT []),(7,la,.dK [])]->H7 c=Z o/\H c=ae/\k c=n:=λn c o z=>by
  let #[A,T,u]:=j.ob _ z;let A:1<n:=A;let u:k c=n:=u;obtain y|y|y:=j.fr c ()
  .rw[y,j.lx] at u;lia
  .rw[y,j.lx] at u;lia
  .show{T,y,u}
 let #[a1,a2,I]:=B 7 la _ (.tail _ (.tail _ (.head _)));let #[b1,b2,b3]:=B 11 re _ (.tail _ (.head _));let #[c1,c2,c3]:=B 8 db _ (.head _);show q _ la re db j.kp j.hx a1 b1 c1 a2 b2 c2 (λz=>by rw[z,c3] at I;cases I)
end
section
variable {C:List Cs}{out:zG}{CA:List (List Cs)}{ps es:List (RSt×zG)}{ts:List zG}{e:RSt×zG}
def zeg{r r':Int}(k:r<=r'):∀(ls:Ap)(s:Int×Int),(∀y∈ls,y.1<r)->jy p r' ls s=jy p r ls s
 |[],_,_=>rfl
 |y::ls,s,h=>by
  let:=h y bp;rw[jy,jy,zeg k ls _ λz j=>h z (br _ j)];by_cases c:s.1<y.1
  .rw[ak {c,()},ak {c,this}]
  .rw[aj λz=>c z.1,aj λz=>c z.1]
def zeh(p:Pl)(b:zG):∀a:zG,zS (a++b) p=match zS b p with|some w=>Z w|none=>zS a p
 |[]=>by rw[eQ];cases zS b p <;> rfl
 |x::a=>by rw[fI,zS,zeh p b a,zS];cases zS b p <;> rfl
end
def Qk{vs:LV}{_E:XK}(MF:MkF K t)(h:wE t vs H Q _E) :
  Y0 K t (aX Q) (zZZ 5 vs) H:=by
 let #[m,p,aE,F,g,aM,low,u,rfl,B,h2,h3,q]:=h;let #[dx,gr,wo,rk,wk,kk,M]:=B.ex;show{_,U,m,_,_,U,M.im,vB (),_,U,m,_,_,_,_,U,M.im,znY,h2,λH1 s1=>?_};let M1:=M.keep B.me λb o _ e=>s1 _ _ e;show(ya M1.im MF.cl MF.r U zkC {rk,U,.inr {_,.inl M1.rr.at_},_,U,(),λl hl=>?_});generalize c_:upd H1 l _=H2;let #[s2,q2]:=jp c_ hl;let S2:=s1.trans s2;let M2:=M1.keep B.me λb o _ e=>s2 _ _ e;let O:H2 p=Z (.tup ((zI u).map kV)):=S2 _ _ h3;show{_,.t M2.rr.at_ O,?_};let gd:∀ {I:Hp}{σ:St},σ[0]?=Z (Z (.ref m))->σ[1]?=Z (Z (.ref p))->MrIn t I m F g aM low dx gr wo rk wk kk->I p=Z (.tup ((zI u).map kV))->aH H I->(∀r,qi aM u r->¬ r<aE)->JW (yq K (zd 0) "ground") (zd 1) (tC (.int 0)) σ I Q:=λ{I σ} e0 C T a3 S3 aa=>by
  show(ya T.im MF.cl MF.g e0 zoN {gr,U,.inr {_,.inl T.hg},_,C,_,.t T.hg a3,?_});let ev:xo g aM u aE=(zS g u).getD 0:=by
   unfold xo;obtain ⟨C,_⟩|⟨y,hy,w,C,e2,_⟩:=wR u aE aM (-1,(zS g u).getD 0)
   .rw[C]
   .show absurd e2 (aa y.1 {y.2,hy,(Yy (B.ok y hy).2.nd).mpr (C\(nofun))})
  let e2:(yD (Ac g) (zI u)).getD (V.int 0)=V.int ((zS g u).getD 0):=by rw[XV];cases zS g u <;> rfl
  show [e2,<-ev]\q I S3
 obtain ⟨a,rs,hk,hv,fa,ha,hs,hne,hi⟩|⟨hv,hk,aa⟩:=M2.rr.get u
 .rw[hv];show{_,U,_,U,a,rs,_,U,ha,hs,λk I J an a4 aI=>{_,U,U,_,U,?_}};let S3:=S2.trans J;let T:=M2.keep B.me λb o _ e=>J _ _ e;by_cases h0:k=0
  .subst h0;show yN U (gd U U T (J _ _ O) S3 λr hr a6=>by let:=aI r (iK\(hi r).mpr hr);lia)
  .show yz (Fk λz=>h0 (by injection z with z;lia)) ?_;obtain⟨x,hx⟩:∃x,rs[k-1]?=Z x:={_,bc ()};let ek:(k:Int)-1=((k-1:Nat):Int):=()
   let #[gs,A,aW]:=(hi x).mp (b7 hx);let #[d,v1,fd,nd,hd]:=zco T.wp B.nd A;let aS:=(B.ok _ A).2;obtain⟨w,hw⟩:∃w,zS gs u=Z w:=by
    cases e:zS gs u with
    |none=>show absurd e ((Yy aS.nd).mp aW)
    |some w=>show{w,U}
   let vd:yD (Ac gs) (zI u)=Z (.int w):=[XV,hw]\U
   show(ya T.im MF.cl MF.w U zkB {_,U,_,U,_,_,U,U,a,_,((k-1:Nat):Int),_,U,congrArg V.int ek,aN.of (J _ _ ha),yL (j:=k-1) ([bn,hx]\U),wo,.ref d,U,(Ay I wo (kV (.inl x)) (Z (.ref d))|>[<-v1]\.k T.hw),_,U,d,V.int w,U,[<-vd]\.t hd (J _ _ O),?_});let xr:x<aE:=a4 x (List.mem_iff_getElem?.mpr {k-1,[iP,ak ()]\hx});let x0:0<=x:=(B.ok _ A).1;let ev:xo g aM u aE=w:=by
    unfold xo;obtain ⟨C,e2⟩|⟨y,hy,w',C,e2,e3,e4,e5⟩:=wR u aE aM (-1,(zS g u).getD 0)
    .let:=e2 _ A (by change (-1:Int)<x;lia) xr;rw[this] at hw;cases hw
    .rw[e4];let yx:x<=y.1:=e5 _ A xr (hw\(nofun));let yr:y.1∈rs:=(hi y.1).mpr {y.2,hy,(Yy (B.ok y hy).2.nd).mpr (C\(nofun))};let xy:y.1<=x:=by
      let:y.1∈rs.take k\/y.1∈rs.drop k:=bw.mp (fZ\yr);obtain z|z:=this
      .let a5:k=k-1+1:=()
       rw[a5] at z;show zgC hs hx _ z
      .let:=aI _ z;lia
     let ey:y.1=x:=()
     let e6:y=(x,gs):=by
      let n1:=B.nd;let #[i,al]:=dW hy;let #[j,ar]:=dW A;let a1:(aM.map (·.1))[i]?=Z x:=[bn,al,<-ey]\U
      let a2:(aM.map (·.1))[j]?=Z x:=[bn,ar]\U
      let ij:=(mY (bi.mp a1).1 n1).mp (a1.trans a2.symm);rw[ij,ar] at al;show(cf al).symm
     rw[e6] at C;rw[hw] at C;show(cf C).symm
   show [<-ev]\q I S3
 .rw[hv];show{_,U,_,U,l,[],_,U,q2,lF,λk I J an _ _=>{_,U,U,_,U,?_}};obtain rfl:k=0:=Nat.le_zero.mp an;show yN U (gd U U (M2.keep B.me λb o _ e=>J _ _ e) (J _ _ O) (S2.trans J) λr hr=>absurd hr (aa r))
def zgE{m L dx gr wo rk:ac}{aE low:Int}{ys:LV}{F:Ak}{P:Pl->Int->Prop}{gs:zG}{kk:yd}{J:Option V}(MF:MkF K t)(hm:H m=Z (.ins t.q01 dx (vq gr low wo rk)))(hL:H L=Z (.lst ys))(nL:¬ F L)(hy:B0 (zfm H) ys (Ac gs))(O:(gs.map (·.1)).Nodup)(hP:∀r∈gs,P r.1 aE)(hr:aZ H rk F P kk)(fk:F rk)(q:∀H' h,aU F rk H H'->Dm H H'->aZ H' rk F (λp r=>P p r/\¬ (r=aE/\p∈gs.map (·.1))) h->Q .non H') :
  Ye K t (aX Q) [Z (.ref m),Z (.int aE),Z (.ref L),J] H:=by
 let mr:m≠rk:=zN hm hr.at_ ();let ly:ys.length=gs.length:=[bZ hy,W5 O,bd]\_
 show{_,U,L,U,{_,aN.of hL},xY ys (taI m L rk aE ys F P gs H) {{_,U},aU.refl,Dm.refl,kk,hr.eqv λp r=>?s} (λi σ H' ⟨_,k,_⟩=>aN.of (k _ _ hL (λz=>nL (z\fk)) (.inr nL))) ?_ ?_}
 .rintro i u σ H' hu ⟨⟨J,rfl⟩,k,dm,h,w⟩;let #[kv,B,p,rfl,C]:=Paired.getP hy hu;rw[W5 O,bn] at B;let #[o,A,rfl]:=cj.mp B;let C:H p=Z (.tup ((zI o.1).map kV)):=C;let aa:H' p=Z (.tup ((zI o.1).map kV)):=k _ _ C (zN C hr.at_ ()) (.inl nofun);let an:=k _ _ hm mr (.inl nofun);let al:o.1 ∉ (gs.take i).map (·.1):=λz=>by
   let #[j,I]:=dW z;rw[bn,iP] at I;split at I
   .rename_i hji;let a1:(gs.map (·.1))[j]?=Z o.1:=bn\I
    let a2:(gs.map (·.1))[i]?=Z o.1:=[bn,A]\U
    let:=(mY (bi.mp a1).1 O).mp (a1.trans a2.symm);lia
   .cases I
  let ar:∀p r,((P p r/\¬ (r=aE/\p∈(gs.take i).map (·.1)))/\¬ (r=aE/\p=o.1))↔(P p r/\¬ (r=aE/\p∈(gs.take (i+1)).map (·.1))):=λp r=>by
   rw[du,A,bW,bw];let:p∈rL (·.1) (Z o).toList↔p=o.1:=?s
   show this\{λ⟨⟨a,b⟩,c⟩=>{a,λd=>d.2.elim (λe=>b {d.1,e}) λe=>c {d.1,e}},λ⟨a,b⟩=>{{a,λc=>b {c.1,.inl c.2}},λc=>b {c.1,.inr c.2}}}
  show ya an MF.cl MF.r U zkC {_,U,_,U,rk,p,aE,F,_,h,o.1,U,w,fk,aa,{hP o (b7 A),λz=>al z.2},λH2 T k2 d2 r2=>{{_,U},k.trans k2,dm.trans d2,T,r2.eqv ar}}
 .rintro σ H' ⟨⟨J,rfl⟩,k,dm,h,w⟩;rw[ly,eV] at w;show q H' h k dm w
def zkH{D:ZF}{gv d m dx gr wo rk:ac}{aE low:Int}{G:Ak}{h:zG}{l:Ap}{kk:yd}(MF:MkF K t)(hm:H m=Z (.ins t.q01 dx (vq gr low wo rk)))(hd:H d=Z (.dT (Ac h)))(dr:d≠rk)(gf:zaf h)(hr:aZ H rk G (qi l) kk)(aI:aE ∉ l.map (·.1))(ok:∀y∈l,zaf y.2)(hl:l.length<=200)(gk:G rk)(gn:∀b,H b=ae->G b)(q:∀H' o4 u,aU G rk H H'->(∀b o,H b=Z o->∃o',H' b=Z o')->aZ H' rk G (λp r=>qi l p r\/(r=aE/\p∈h.map (·.1))) u->Yf K t D [Z (.ref m),Z (.int aE),Z (.ref gv),Z (.ref d),o4] H') :
  Yg K t D [Z (.ref m),Z (.int aE),Z (.ref gv),Z (.ref d),ae] H:=by
 let mr:m≠rk:=zN hm hr.at_ ();let md:m≠d:=zN hm hd ();show{d,_,Ac h,hd,.inl U,λB=>?_};let f0:upd H d (.frz B (.dT (Ac h))) d=Z (.frz B (.dT (Ac h))):=zh;let al:aZ (upd H d (.frz B (.dT (Ac h)))) rk G (qi l) kk:=hr.keep2 (zm dr.symm\_) (λb xs _ e=>zm (zN e hd ())\e) (λ_ z _=>z);let aW:upd H d (.frz B (.dT (Ac h))) m=Z (.ins t.q01 dx (vq gr low wo rk)):=zm md\hm
 let d0:Dm H (upd H d (.frz B (.dT (Ac h)))):=Dm.upd nofun
 let aa:∀ {H'},aU G rk (upd H d (.frz B (.dT (Ac h)))) H'->aU G rk H (upd H' d (.dT (Ac h))):=λ{H'} k b o e n z=>by
  by_cases eb:b=d
  .subst eb;show [zh,<-hd]\e
  .show zm eb\k b o (zm eb\e) n z
 let a6:∀b,upd H d (.frz B (.dT (Ac h))) b=ae->G b:=λb e=>gn b (by
  by_cases eb:b=d
  .subst eb;rw[zh] at e;cases e
  .rw[zm eb] at e;show e)
 generalize upd H d (.frz B (.dT (Ac h)))=H0 at *
 let kd:∀ {H'},aU G rk H0 H'->H' d=Z (.frz B (.dT (Ac h))):=λ{H'} k=>k _ _ f0 dr (.inl nofun);show{_,U,d,B,Ac h,U,f0,zfa (lyI m gv d rk aE G (qi l) h H0) {{_,U},aU.refl,Dm.refl,kk,al.eqv λp r=>?s} (λi σ H' ⟨_,k,_⟩=>kd k) ?_ ?_}
 .rintro i k v p σ H' O hp ⟨⟨o4,rfl⟩,C,dm,u,A⟩;rw[W5 gf.nd,bn] at O;let #[w,I,er]:=cj.mp O;cases er;let a3:=C _ _ aW mr (.inl nofun);let J:w.1 ∉ (h.take i).map (·.1):=λz=>by
   let #[j,hj]:=dW z;rw[bn,iP] at hj;split at hj
   .rename_i hji;let a1:(h.map (·.1))[j]?=Z w.1:=bn\hj
    let a2:(h.map (·.1))[i]?=Z w.1:=[bn,I]\U
    let:=(mY (bi.mp a1).1 gf.nd).mp (a1.trans a2.symm);lia
   .cases hj
  let a4:∀p r,((qi l p r\/(r=aE/\p∈(h.take i).map (·.1)))\/(r=aE/\p=w.1))↔(qi l p r\/(r=aE/\p∈(h.take (i+1)).map (·.1))):=λp r=>by
   rw[du,I,bW,bw];let:p∈rL (·.1) (Z w).toList↔p=w.1:=?s
   rw[this,and_or_left,or_assoc]
  let aS:¬ (qi l w.1 aE\/(aE=aE/\w.1∈(h.take i).map (·.1))):=λz=>z.elim (λ⟨g2,h2,_⟩=>aI (bM.mpr {_,h2,U})) λy=>J y.2;let kl:u.length<=18900:=zn0 (l:=(aE,h)::l) A (λp r z=>z.elim (λ⟨g2,h2,h3⟩=>{g2,br _ h2,h3}) λ⟨e,h3⟩=>{h,e\bp,(by
   let #[x,hx,rfl]:=bM.mp h3;show bX (cU hx))}) (λy hy=>by
   obtain rfl|hy:=bo.mp hy
   .show gf
   .show ok y hy) (bJ\())
  let a5:∀b,H' b=ae->G b:=λb e=>a6 b (by
   cases e0:H0 b with
   |none=>rfl
   |some o=>let #[o',e',_]:=dm b o e0;rw[e] at e';cases e')
  let ar:∀rs:yI,rs.Pairwise (· < ·)->(∀r∈rs,qi l w.1 r\/(r=aE/\w.1∈(h.take i).map (·.1)))->rs.length<=300:=λrs hs T=>by let rl:rs.length<=((aE,h)::l).length:=znZ (p:=w.1) hs λr hr=>(T r hr).elim (λ⟨g2,h2,h3⟩=>{g2,br _ h2,h3}) λy=>absurd y.2 J;rw[bJ] at rl;lia
  show ya a3 MF.cl MF.r U zkC {_,U,_,U,rk,p,aE,G,_,u,w.1,U,A,gk,a5,hp,aS,kl,ar,λH2 an k2 d2 r2=>{{_,U},C.trans k2,dm.trans d2,an,r2.eqv a4}}
 .rintro σ H' ⟨⟨o4,rfl⟩,C,dm,u,A⟩;rw[W5 gf.nd,bd,eV] at A;let D2:Dm H (upd H' d (.dT (Ac h))):=(d0.trans dm).trans (Dm.upd nofun);show{kd C,q _ o4 u (aa C) (λb o e=>let ⟨o',e',_⟩:=D2 b o e;{o',e'}) (A.keep2 (zm dr.symm\_) (λb xs _ e=>zm (zN e (kd C) ())\e) (λ_ z _=>z))}
def zaj{m gv:ac}{aE low:Int}{F:Ak}{g:zG}{aM:Ap}{gs:zG}(MF:MkF K t)(h1:hV t H m F g aM low)(h2:low<=aE)(a9:0<=aE)(h3:gV H gv gs)(a7:¬ F gv)(h4:zaf gs)(h5:aM.length<=200)(q:∀H' F',(∀b o,¬ F b->H b=Z o->H' b=Z o)->(∀b zs,H b=Z (.tup zs)->H' b=Z (.tup zs))->hV t H' m F' g (zh1 aM aE gs) low->(∀b,F' b->F b\/H b=ae)->(∀b,F b->F' b)->Q .non H') :
  Wl K t (aX Q) (zZZ 5 [.ref m,.int aE,.ref gv]) H:=by
 let #[dx,gr,wo,rk,J,kk,M]:=h1.ex;show yW M.im U (vB ()) {_,U,m,_,_,_,_,U,M.im,znY,h2,λH1 A=>?_};let M1:=h1.keep (H':=H1) λb o _ e=>A _ _ e;show yW (A _ _ M.im) U (vB ()) {_,U,m,aE,F,g,aM,low,U,M1,λH2 F2 ar O I a1 aW=>?_};clear M J kk gr wo rk dx;let #[xs,hx,hp]:=h3;let a5:=ar _ _ a7 (A _ _ hx);let a6:B0 (PrAt H2) xs gs:=Paired.mapP hp λ_ _ ⟨r,p,e,e1,w⟩=>{r,p,e,O _ _ (A _ _ e1),O _ _ (A _ _ w)};show{_,U,gv,xs,gs,U,a5,a6,by let:=h4.le;lia,λd hd=>?_};generalize c_:upd _ d _=H3;let #[s3,q3]:=jp c_ hd;let #[dx,gr,wo,rk,J,kk,M2]:=I.ex;let u:=M2.keep I.me λb o _ e=>s3 _ _ e;let a3:¬ F2 d:=λz=>by let #[o,e]:=I.own d z;rw[hd] at e;cases e
 let dr:d≠rk:=λz=>a3 (z\M2.fk);let hl:(Jj aM aE).length<=200:=bR (sB _ _) h5;let an:∀b,H2 b=ae->H b=ae:=λb e=>by
  cases w:H b with
  |none=>rfl
  |some o=>
   exfalso;by_cases fb:F b
   .let #[o',e']:=I.own b (aW b fb);rw[e] at e';cases e'
   .let:=ar _ _ fb (A _ _ w);rw[e] at this;cases this
 show zkH (G:=λb=>F2 b\/H2 b=ae) MF u.im q3 dr h4 (u.rr.keep (F':=λb=>F2 b\/H2 b=ae) u.fk (λb o _ e=>e) (λ_ z=>.inl z)) Qh (λy hy=>(I.ok y hy).2) hl (.inl M2.fk) (λb e=>.inr (yy s3 e)) λH4 o4 a4 ke dm C=>?_;let aa:=ke _ _ u.im (zN u.im u.rr.at_ ()) (.inl nofun);let j:=ke _ _ u.hw (zN u.hw u.rr.at_ ()) (.inl nofun);let aS:=ke _ _ u.hg u.nr (.inl nofun);let al:=ke _ _ q3 dr (.inl nofun);let wl:J.length<=200:=bZ M2.wp\hl
 show{_,U,ya aa MF.cl MF.w U zkB {_,U,wo,_,U,(.k (k:=.inl aE) j (cp\())),?_}};rw[ZM _ (zcp u.wp Qh)];let mw:m≠wo:=zN aa j ();let gw:gr≠wo:=zN aS j ();let a2:rk≠wo:=zN C.at_ j ();let dw:d≠wo:=zN al j ();let B:∀b o,b≠wo->H4 b=Z o->upd H4 wo (HO.dK (J++[(.inl aE,V.ref d)])) b=Z o:=λb o n e=>zm n\e
 let w5:upd H4 wo (HO.dK (J++[(.inl aE,V.ref d)])) wo=Z (HO.dK (J++[(.inl aE,V.ref d)])):=zh;let be:∀b o,H3 b=Z o->∃o',upd H4 wo (HO.dK (J++[(.inl aE,V.ref d)])) b=Z o':=λb o e=>by
  by_cases eb:b=wo
  .subst eb;show{_,w5}
  .let #[o',e']:=dm b o e;show{o',B _ _ eb e'}
 generalize upd H4 wo (HO.dK (J++[(.inl aE,V.ref d)]))=H5 at *
 show q H5 (λb=>F2 b\/(H2 b=ae/\∃o,H5 b=Z o)) (λb o nf e=>?_) (λb zs e=>?_) ?_ (λb z=>?_) λb z=>.inl (aW b z)
 .let w:=ar _ _ nf (A _ _ e);let T:¬ F2 b:=λz=>(a1 b z).elim nf λy=>by rw[A _ _ e] at y;cases y
  let nr:b≠rk:=λz=>T (z\M2.fk);let nw:b≠wo:=λz=>T (z\M2.fw);show B _ _ nw (ke _ _ (s3 _ _ w) nr (.inr λz=>z.elim T λy=>by rw[w] at y;cases y))
 .let w:=s3 _ _ (O _ _ (A _ _ e));let e4:=ke _ _ w (zN w u.rr.at_ ()) (.inl nofun);show B _ _ (zN e4 j ()) e4
 .show{λb z=>z.elim (λf=>let ⟨o,e⟩:=I.own b f;be b o (s3 _ _ e)) λy=>y.2,.inl I.me,?_,?_,dx,gr,wo,rk,_,a4,B _ _ mw aa,.inl M2.fg,.inl M2.fw,.inl M2.fk,M2.nr,B _ _ gw aS,w5,?_,?_}
  .unfold zh1;rw[bW,m6];show{I.nd,?s,λx hx y hy=>?_};let:y=aE:=<-hy
   show this\λz=>Qh (l:=aM) (r:=aE) (by let h:=hx;rw[z] at h;show h)
  .intro y hy;obtain hy|hy:=bw.mp hy
   .show I.ok y hy
   .show bu.mp hy\({a9,h4})
  .show Paired.snocP (Paired.mapP u.wp λ_ _ ⟨e,d',w,fd,aI,a8⟩=>?_) {U,d,U,.inr {hd,_,B _ _ dw al},dr,B _ _ dw al};let e4:=ke _ _ a8 aI (.inl nofun);show{e,d',w,.inl fd,aI,B _ _ (zN e4 j ()) e4}
  .show(C.keep2 (F':=λb=>F2 b\/(H2 b=ae/\∃o,H5 b=Z o)) ((B _ _ a2 C.at_).trans C.at_.symm) (λb xs _ e=>B _ _ (zN e j ()) e) (λb z ex=>z.imp id λy=>{y,ex})).eqv λp r=>?_;unfold zh1;constructor
   .rintro(⟨g2,h6,h7⟩|⟨rfl,h7⟩)
    .show{g2,cO _ h6,h7}
    .show{gs,bD _ (bu.mpr U),h7}
   .rintro⟨g2,h6,h7⟩;obtain h6|h6:=bw.mp h6
    .show .inl {g2,h6,h7}
    .cases bu.mp h6;show .inr {U,h7}
 .obtain z|z:=z
  .show(a1 b z).imp id λy=>yy A y
  .show .inr (an b z.1)
def Ql{u:LV}{_E:XK}(j:MkF K t)(h:vR t u H Q _E) :
  kQ K t (aX Q) (zZZ 2 u) H:=by
 let #[x,h,dx,aF,rfl,w,T,h3,q]:=h;let #[xs,J,O]:=T;let #[lb,P,_]:=PO.init w {_,w};unfold kQ zA;show{_,U,h,xs,aF,U,J,O,(),P.so (.dT (Ac aF)) 4 () () U j.cl j.g () λA H1 I P=>P.st U j.cl j.f () λH2 P=>P.so (.dK []) 5 () () U j.cl j.w () λwo H3 C P=>P.so (.dT []) 6 () () U j.cl j.r () λrk B k P=>?_};let m:∀n c o,(n,c,o)∈_->B c=Z o/\k c=n:=λn c o z=>(P.ob (n,c,o) z).2;let o6:=m 6 rk _ (.head _);let o5:=m 5 wo _ (.tail _ (.head _));let o4:=m 4 A _ (.tail _ (.tail _ (.head _)));show q B (λb=>k b≠0) P.kp {P.ow,(by rw[P.lx];decide),gZ,(λ_ h=>(nomatch h)),dx,A,wo,rk,[],[],P.hx,(by rw[o4.2];decide),(by rw[o5.2];decide),(by rw[o6.2];decide),(λz=>by rw[z,o6.2] at o4;show absurd o4.2 ()),o4.1,o5.1,.nil,o6.1,gZ,gZ,λ_ h=>(nomatch h),λp r ⟨_,h,_⟩=>(nomatch h)} λb z=>?_;obtain y|y|y:=P.fr b z
 .show .inl y
 .show .inl y
 .show .inr y
def qw{p:Prop}[Decidable p]{A B:Prop}(a:p->A)(b:¬ p->B):if decide p=af then A else B:=by
 by_cases h:p
 .show yN (Fj h) (a h)
 .show yz (Fk h) (b h)
def W7{a:ac}{ns:yI}{k:Nat}(h:aN K H a (ns.map V.int))(m:ns.length<=63)(j:∀i∈ns,Cb i)(q:∀c H',aH H H'->Cb c->c=ns.getD k 0->Q (.int c) H') :
  Zw K t (aX Q) (zZZ 2 [.ref a,.int k]) H:=by
 show{_,U,_,U,.ref a,ns.length,U,.inl {_,h,(bd ..).symm},_,_,U,U,_,U,qw (λe=>?_) λe=>q _ _ (aH.refl _) (Cb.of ()) ?_}
 .let e:k<ns.length:=()
  show{_,U,_,U,a,_,_,_,U,U,h,yL ([bn,bc e]\U),q _ _ (aH.refl _) (j _ (cL e)) ([bA,bc e]\U)}
 .rw[bA,bT ()];rfl
def Wo{w:Int}(j:inW w=af):w.natAbs.log2<1920:=by
 let h:-1000000000000000000000000000000<=w/\w<=1000000000000000000000000000000:=of_decide_eq_true j;by_cases h0:w.natAbs=0
 .rw[h0];decide
 .show cn ((Nat.log2_lt h0 (k:=100)).mpr (dZ (():w.natAbs<=1000000000000000000000000000000) ())) ()
def zei{j:LV}{_E:XK}(h:jT j H Q _E) :
  Xs K t (aX Q) (zZZ 1 j) H:=by let #[w,rfl,k,q]:=h;simp only[Xs,qO,zZZ,yt,zf,zo,Ad,zi4,rL,dF,eA,cV,bY,cr,aw,V.int.injEq,c8,and_true,mI,lL];show{Wo k,q _ (aH.refl H)}
def zgF{x:Str}{f:Nat->Bool}(m:ys.length=x.cps.size)(j:∀(i:Nat)(v:V),ys[i]?=Z v->∃c,x.cps[i]?=Z c/\v=.bl (f c)):ys=(x.cps.toList.map f).map V.bl:=by
 apply dq;intro i;by_cases hi:i<ys.length
 .let #[c,k,e]:=j i ys[i] (bc hi);rw[bc hi,e,bn,bn];let h:x.cps.toList[i]?=Z c:=<-k
  rw[h];rfl
 .rw[bT (),bT];rw[bd,bd];let:x.cps.toList.length=x.cps.size:=?s
  lia
def Qm{x:Str}(C:x.length<=1000)(q:∀H',aH H H'->Q (.bl (k9 x)) H') :
  kP K t (aX Q) (zZZ 1 [.str x]) H:=by
 simp only[kP,qO,zdL,zoI,zZZ,zD,yt,aL,tC,zf,zo,JL,Ad,vx,JY,ze1,zlx,zns,zlu,zlj,rL,dF,eA,cV,bY,cr,aw,V.ref.injEq,V.str.injEq,V.bl.injEq,c8,and_true,true_and,exists_and_left,mI,lL,dP,decide_eq_false_iff_not,if_true];show zo9 (λc D B=>?_) λc=>?_
 .show jL (J:=Its x) x.cps.size (by change x.length<=_;lia) (λj=>∃o,j=[o]) (λi v=>∃c,x.cps[i]?=Z c/\v=.bl (inF c)) {_,U} (λi H _ h=>h) (λH _=>bh _) B ?_ ?_
  .rintro i v j H2 H' ⟨o,rfl⟩ k I ⟨rfl,c,A,rfl⟩;show{_,U,_,U,{_,U},{c,A,U},aH.refl _}
  .intro ys H' w m k u;show{x.cps.toList.map inF,aN.of ([<-zgF w m]\u),?_};let e:k9 x=(x.cps.toList.map inF).all id:=by unfold k9;rw[Fk c,uP];rfl
   show [<-e]\q _ k
 .let e:k9 x=ah:=by unfold k9;rw[Fj (uH.mp c)];rfl
  rw[e] at q;show q _ (aH.refl H)
def zct{i:Int}(m:zmc K)(h:inW i=af)(q:Q (.bl af) H) :
  VW K t (aX Q) (zZZ 1 [.int i]) H:=by
 let k:-1000000000000000000000000000000<=i/\i<=1000000000000000000000000000000:=of_decide_eq_true h;let j:(10:Int)^(30:Int).toNat=1000000000000000000000000000000:=()
 show{_,U,_,_,_,af,U,.int i,{_,U,zkz _},_,U,yz U {_,U,_,_,_,ah,U,.int i,{_,U,m},_,U,yz U {_,_,U,U,zbw () (),_,U,_,U,_,_,U,U,_,U,yN (Fj (j\k.1)) {_,_,U,U,zbw () (),_,_,U,U,?_}}}};show [j,Fj k.2]\q
def zkI{x:Str}{o:Option V}(h:jN x=af)(q:∀H',aH H H'->Q (.bl af) H') :
  Zx K t (aX Q) [Z (.str x),Z (.str (wA x)),o] H:=by let B:=zji x;let A:=WL x;unfold jN at h;rw[bK,dP,ii,decide_eq_false_iff_not,bK] at h;let #[#[C,u],w,e]:=h;let j:k9 (wA x)=af:=ul .. ▸ u;show{_,U,.str (wA x),_,U,{zM (),U},_,_,U,U,_,U,yz (Fk ()) {_,U,wA x,U,(),λI m=>{_,U,yz (j\U) {_,U,x,_,U,Ke j (),(),_,U,_,U,w,_,U,yN U {_,U,_,U,w,λH2 k=>{_,U,U,?_}}}}}};show Fj (congrArg V.str (of_decide_eq_true e))\q _ (m.trans k)
def Qn{x:Str}(h:jN x=af)(j:x.length<=1000)(q:∀H',aH H H'->Q (.bl af) H') :
  YW K t (aX Q) (zZZ 3 [.str x]) H:=by
 let r:=zkI (K:=K) (t:=t) (o:=ae) h q;unfold wA at r;show{_,U,U,_,_,U,U,_,U,?_};rw[zhu,(bb "-").cps.toList=[45]|>(),(bb "-").length=1|>()];by_cases c:(x.cps.toList.take 1==[45])=af
 .rw[ak c] at r;show yN c {_,U,_,U,_,U,zM (),r}
 .rw[aj c] at r;show yz (fc.mpr c) {_,U,r}
def zej{x:Str}(h:6<x.length):yv x=ah:=by unfold yv;rw[Fj h];simp
def zek{x:Str}(O:x.length<=1000)(C:∀H,aV K H t.q0f jw)(B:∀H,aV K H t.q17 wl)(q:∀H',aH H H'->Q (.bl (yv x)) H') :
  KZ K t (aX Q) (zZZ 1 [.str x]) H:=by
 let no:yv x=ah->Q (.bl ah) H:=λe=>by rw[e] at q;show q _ (aH.refl H)
 show{_,U,U,_,U,?_};by_cases e0:x=bb ""
 .show yN (Fj (congrArg V.str e0)) (yN U (no (e0\())))
 show yz (Fk λz=>e0 (V.str.inj z)) {_,U,.str x,_,U,{zM (),U},_,_,U,U,_,U,?_};by_cases e6:6<x.length
 .show yN (Fj ()) (no (zej e6))
 show yz (Fk ()) {_,U,_,_,U,.inr (C H),U,U,_,U,?_};cases eJ:inV (V.str x) jw with
 |true=>show yN U (yN U (no (by unfold yv;rw[eJ];simp)))
 |false=>
  show yz U {_,U,_,_,U,.inr (B H),U,U,_,U,?_};cases eR:inV (V.str x) wl with
  |true=>show yN U (no (by unfold yv;rw[eR];simp))
  |false=>
   let en:yv x=x.cps.toList.all inL:=by unfold yv;rw[Fk e0,Fk e6,eJ,eR];simp
   show yz U {_,U,x,U,λD I=>?_};show jL (J:=Its x) x.cps.size (by change x.length<=_;lia) (λj=>∃o,j=[o]) (λi v=>∃c,x.cps[i]?=Z c/\v=.bl (inL c)) {_,U} (λi H _ h=>h) (λH _=>bh _) I ?_ ?_
   .rintro i v j H2 H' ⟨o,rfl⟩ k T ⟨rfl,c,A,rfl⟩;show yN (R:=False) U {_,U,_,_,U,U,{_,U},{c,A,U},aH.refl _}
   .intro ys H' w m k u;show{_,x.cps.toList.map inL,U,aN.of ([<-zgF w m]\u),?_};show [uP,(id ∘ inL)=inL|>rfl,<-en]\q _ k
def Qo{j:Type}(f:j->V)(xs:List j)(h:k<=xs.length):vV (xs.map f) (Z (k:Int)) ae=(xs.drop k).map f:=by
 unfold vV;let o:HT.sIx (xs.map f).length 0 (Z (k:Int))=k:=by change (if (k:Int)<0 then ((k:Int)+((xs.map f).length:Int)).toNat else min (k:Int).toNat (xs.map f).length)=k;rw[aj (),cK,bd];lia
 let m:HT.sIx (xs.map f).length (xs.map f).length ae=xs.length:=by change (xs.map f).length=_;rw[bd]
 rw[o,m,<-rM,bV ([bd,cz]\())]
def wL{o m:Type}{F G:o->m->Prop}(h:∀a b,F a b->G a b):∀ {k:List o}{j:List m},B0 F k j->B0 G k j
 |_,_,.nil=>.nil
 |_,_,.cons a t=>.cons (h _ _ a) (wL h t)
def V0{o m:Type}{F:o->m->Prop}{a:o}{b:m}(h:F a b):∀ {k:List o}{j:List m},B0 F k j->B0 F (k++[a]) (j++[b])
 |_,_,.nil=>.cons h .nil
 |_,_,.cons x t=>.cons x (V0 h t)
def PlV.same{H H':Hp}{q:Pl}(s:aH H H')(h:PlV H v q):PlV H' v q:=by let #[p,e,j]:=h;show{p,e,s _ _ j}
def zcu{H H':Hp}{q:Row}(s:aH H H')(h:PrAt H v q):PrAt H' v q:=by let #[r,p,e,k,j]:=h;show{r,p,e,s _ _ k,s _ _ j}
def zgG{H:Hp}{A p:ac}(j:H A=Z (.lst xs))(h:H p=Z (.tup zs)):upd H A (.lst ys) p=Z (.tup zs):=zm (λz=>by subst z;rw[j] at h;cases h)\h
def zkJ{H:Hp}{q:Row}(j:H A=Z (.lst xs))(h:PrAt H v q):PrAt (upd H A (.lst ys)) v q:=by let #[r,p,e,m,k]:=h;show{r,p,e,zgG j m,zgG j k}
def  plD(q:Pl):PyData:=.tuple [.str q.1,.int q.2]
def zmn{p q:Pl}(h:plD p=plD q):p=q:=by unfold plD at h;simp only[pj,c8,PyData.str.injEq,uZ,and_true] at h;show rD h.1 h.2
def zgH{H:Hp}{q:Pl}(h:PlV H v q):Dat K H v (plD q):=by let #[p,rfl,j]:=h;show .tup (aV.of j) (.cons (.str _) (.cons (.int _) .nil))
def zcv{H:Hp}:∀ {xs:LV}{j:List Pl},B0 (PlV H) xs j->Aj K H xs (j.map plD)
 |_,_,.nil=>.nil
 |_,_,.cons h t=>.cons (zgH h) (zcv t)
def zkK{q:Pl}(h:yv q.1=af):zX (plD q)=af:=by let e:iz q.1=af:=(zdi h).flat;unfold plD;rw[zX,yh,yh,yh,zX,zX,e];rfl
def vF{w:Int}(h:wB w):inW w=af:=Fj h
def zkL{w:Int}(h:rB w):wB w:=by let #[a,b]:=h;constructor <;> lia
def Qp{w:Int}(h:inW w=af):Wd (z8 w):=by
 show{(wJ h).2.2,Av.num w,λz=>?_};let j:∀m,32 ∉ dg m:=λm k=>by let:=kJ m 32 k;lia
 obtain c|c:=tj 0 w
 .rw[w=((w.toNat:Nat):Int)|>(),yM] at z;show j _ z
 .obtain e|e:=gW w.natAbs
  .let:w=((0:Nat):Int):=()
   rw[this,yM] at z;show j _ z
  .rw[w=-((w.natAbs:Nat):Int)|>(),xQ e] at z;obtain z|z:=bo.mp z
   .cases z
   .show j _ z
def zgI(h:yv w=af):Wd w:=by
 let #[_,a,_,b]:=w6 h;show{(),zdi h,λz=>?_};let:=cx.mp b 32 z
 revert this;lia
def Ym{x:String}(h:((bb x).cps.toList.all λc=>decide (c<128)&&decide (c≠32))=af)(l:(bb x).length<=40):Wd (bb x):=by
 let j:=cx.mp h;show{l,λc k=>?_,λz=>?_}
 .let:=j c k;simp only[bK,decide_eq_true_eq] at this;show this.1
 .let:=j 32 z;simp at this
def zgJ(h:∀r∈aF,zcm r.1/\wB r.2):∀w∈AA aF,Wd w:=λw j=>by
 let #[r,k,j]:=lW.mp j;let #[#[a,b],c]:=h r k;unfold rwW at j;simp only[bo,cZ,or_false] at j;obtain rfl|rfl|rfl:=j
 .show zgI a
 .show Qp (vF b)
 .show Qp (vF c)
def jE:∀(aF:zG),(AA aF).length=3*aF.length
 |[]=>rfl
 |r::aF=>by change (rwW r++AA aF).length=_;rw[bj,jE aF,bJ];change 3+_=_;lia
def zel(h:zac oc):(∀w∈ocW oc,Wd w)/\(ocW oc).length<=21/\(";":Str) ∉ ocW oc:=by
 let k:∀w:Int,(";":Str)≠z8 w:=λw z=>by
  let e:(bb ";").cps.toList=[59]:=()
  let j:=congrArg (λx:Str=>x.cps.toList) z;let j:(bb ";").cps.toList=(z8 w).cps.toList:=j;rw[e] at j;let o:∀m,59 ∉ dg m:=λm A=>by let:=kJ m 59 A;lia
  obtain c|c:=tj 0 w
  .rw[w=((w.toNat:Nat):Int)|>(),yM] at j;show o w.toNat ([<-j]\?s)
  .obtain e|e:=gW w.natAbs
   .let:w=((0:Nat):Int):=()
    rw[this,yM] at j;show o 0 ([<-j]\?s)
   .rw[w=-((w.natAbs:Nat):Int)|>(),xQ e] at j;cases j
 cases oc with
 |done sa=>
  let #[C,B]:=h;show{λw hw=>?_,?_,λz=>?_}
  .obtain rfl|hw:=bo.mp hw
   .show Ym () ()
   .let #[i,u,rfl]:=bM.mp hw;show Qp (vF (B i u))
  .change ((bb "done")::sa.map z8).length<=21;rw[bJ,bd];lia
  .obtain z|z:=bo.mp z
   .show absurd z ()
   .let #[i,u,e]:=bM.mp z;show k i e.symm
 |off w=>show h.elim
def  AF:Str:=⟨#[32]⟩
def jq:(bb " ")=AF:=()
def Wp:(bb " ").length=1:=()
def zkM:∀ {ws:zO},(∀w∈ws,Wd w)->(ws.map (·.length)).sum<=40*ws.length
 |[],_=>bh _
 |w::ws,h=>by let a:=zkM (ws:=ws) λx j=>h x (br _ j);let b:=(h w bp).1;simp only[bB,oq,bJ];lia
def Qq(h:∀w∈ws,Wd w):ze5 (bb " ") ws<=41*ws.length:=by let:=Jx (bb " ") ws 0;unfold ze5;rw[this,Wp];let:=zkM h;lia
def YA(h:∀w∈ws,Wd w):(xR (bb " ") ws).length<=41*ws.length:=bR (zaU _ _) (Qq h)
def j6:∀ {ws:zO},(∀w∈ws,Wd w)->Av (xR (bb " ") ws)
 |[],_=>by rw[vZ];intro c m;revert m;decide +revert
 |[w],h=>vZ\(h w bp).2.1
 |w::x::ws,h=>by let j:=j6 (ws:=x::ws) λy k=>h y (br _ k);rw[vZ] at j ⊢;show za3\((h w bp).2.1.app (by unfold Av;lia)).app j
def kE(z:Str):0<=zh0 z/\zh0 z<1009:={dL _ (),dc _ ()}
def zmo:((cH 1009).all λn=>decide (zfS (z8 (n:Nat)) 4=zox (bb "0") (4-((z8 (n:Nat)).length:Int))++z8 (n:Nat))&&(decide ((zfS (z8 (n:Nat)) 4).length=4)&&((zfS (z8 (n:Nat)) 4).cps.toList.all λc=>decide (c<128)&&decide (c≠32))))=af:=()
def zmp{i:Int}(m:0<=i)(k:i<1009):zfS (z8 i) 4=zox (bb "0") (4-((z8 i).length:Int))++z8 i/\(zfS (z8 i) 4).length=4/\Av (zfS (z8 i) 4)/\32 ∉ (zfS (z8 i) 4).cps.toList:=by
 let:=cx.mp zmo i.toNat (gB.mpr ());rw[((i.toNat:Nat):Int)=i|>()] at this;simp only[bK,decide_eq_true_eq] at this;let #[a,b,c]:=this;let h:=cx.mp c;show{a,b,λd j=>?_,λz=>?_}
 .let:=h d j;simp only[bK,decide_eq_true_eq] at this;show this.1
 .let:=h 32 z;simp at this
def Yn(z:Str):(vp z).length=4/\Av (vp z)/\32 ∉ (vp z).cps.toList:=(zmp (kE z).1 (kE z).2).2
def zgK:∀(cs:wU)(i:Nat),(ckL i cs).length=cs.length
 |[],_=>rfl
 |_::cs,i=>by change (ckL (i+1) cs).length+1=_;rw[zgK cs];rfl
def zgL:∀(cs:wU)(i j:Nat)(c:Nat),cs[j]?=Z c->(ckL i cs)[j]?=Z ((c:Int)*(1+((i+j:Nat):Int)%1008))
 |[],_,j,c,h=>by simp at h
 |d::cs,i,0,c,h=>by simp only[bY,cr] at h;subst h;rfl
 |d::cs,i,j+1,c,h=>by let:=zgL cs (i+1) j c (<-h);rw[i+1+j=i+(j+1)|>()] at this;show this
def zcw:∀(a b:wU)(i:Nat),ckL i (a++b)=ckL i a++ckL (i+a.length) b
 |[],b,i=>rfl
 |c::a,b,i=>by change _::ckL (i+1) (a++b)=_::(ckL (i+1) a++_);rw[zcw a b (i+1),bJ,i+1+a.length=i+(a.length+1)|>()]
def zmq{z:Str}(h:Av z):z.cps.all (· < 128)=af:=[<-Array.all_toList,cx]\λc j=>Fj (h c j)
def zbA{i:Int}(j:0<=i)(h:i<1000000):-big<i/\i<big:=by unfold big;constructor <;> lia
def zcx{z:Str}(B:Av z)(h2:z.length<=20000)(q:∀H',aH H H'->Q (.str (vp z)) H') :
  VX K t (aX Q) (zZZ 2 [.str z]) H:=by
 show{_,U,z,U,zmq B,λD O=>?_};show jL (J:=znP z) z.cps.size (by change z.length<=_;lia) (λk=>∃o m,k=[o,m]) (λi v=>∃c,z.cps[i]?=Z c/\v=.int ((c:Int)*(1+(i:Int)%1008))) {_,_,U} (λi H _ h=>h) (λH _=>bh _) O ?_ ?_
 .rintro i v k H2 H' ⟨o,m,rfl⟩ A hi ⟨T,c,rfl,I,rfl,j⟩;let lc:c<128:=B c (by rw[<-bU] at j;show b7 j);show{T,_,U,aV.of zh,U,_,_,U,_,_,U,U,yN (R:=False) U {_,U,_,U,U,_,U,_,_,U,U,(),_,_,U,U,_,_,U,U,{zbA (Int.natCast_nonneg _) (by change ((c:Nat):Int)<_;lia),zbA () ()},{_,_,U},{c,j,U},hZ T I}}
 .intro ys H' hl C A u;let e:ys=(ckL 0 z.cps.toList).map V.int:=by
   apply dq;intro i;obtain z1|z1:=i6 i ys.length
   .let #[c,j,e]:=C i ys[i] (bc z1);rw[<-bU] at j;rw[bc z1,e,bn,zgL _ 0 i c j,lf];rfl
   .rw[bT z1,bT ([bd,zgK,bE]\())]
  rw[e] at u;let r:=kE z;show{_,_,U,aN.of u,_,U,_,_,U,U,(),_,U,Wo (w:=zh0 z) (Fj {(),()}),U,_,4,U,U,(),q H' A}
def AM.same{H H':Hp}(h:AM H v oc)(s:aH H H'):AM H' v oc:=by
 cases oc with
 |done sa=>let #[o,y,e,a,b]:=h;show{o,y,e,s _ _ a,s _ _ b}
 |off w=>let #[o,e,a]:=h;show{o,e,s _ _ a}
def JD{r:Int}(k:rB r)(j:zac oc)(h:WZ gs):∀w∈jS r oc gs,Wd w:=λw hw=>by
 unfold jS at hw;simp only[bo,bw] at hw;obtain rfl|rfl|hw|rfl|hw:=hw
 .show Ym () ()
 .show Qp (vF (zkL k))
 .show(zel j).1 w hw
 .show Ym () ()
 .show zgJ h.nm w hw
def JE{r:Int}(j:rB r)(h:WZ gs):∀w∈Zv r gs,Wd w:=λw hw=>by
 unfold Zv at hw;simp only[bo] at hw;obtain rfl|rfl|rfl|hw:=hw
 .show Ym () ()
 .show Qp (vF (zkL j))
 .show Ym () ()
 .show zgJ h.nm w hw
def zem{m:LV}{_E:XK}(h:Xo m H Q _E) :
  Xu K t (aX Q) (zZZ 2 m) H:=by let #[a,k,rfl,u,j,B,q]:=h;simp only[Xu,ku,qO,zZZ,qa,zA,yc,zD,yt,aL,tC,zf,zo,AK,tyV,yn,k7,rL,dF,eA,fI,eQ,cV,bY,dv,cr,aw,V.ref.injEq,V.str.injEq,c8,and_true,true_and,exists_and_left,mJ,mK,mI,lL];let A:=Qq j;let w:=YA j;let o:=(Yn (xR (bb " ") k)).1;show{k,aN.of u,zM (),zM (Wp\()),j6 j,(),λH' s=>{zM ([yB,Wp,o]\()),q H' s}}
def zen:V.str (bb "done")≠V.str (bb "off"):=by intro z;injection z with z;revert z;lia
def zmr{ws:zO}(k:ys.length=ws.length)(h:∀(i:Nat)(v:V),ys[i]?=Z v->∃w,ws[i]?=Z w/\v=.str w):ys=ws.map V.str:=by
 apply dq;intro i;obtain z|z:=i6 i ys.length
 .let #[w,j,e]:=h i ys[i] (bc z);rw[bc z,e,bn,j];rfl
 .rw[bT z,bT (bd\())]
def  rwI(a A:ac)(aF:zG)(H:Hp)(i:Nat)(h:St)(H':Hp):Prop:=∃k j,h=[Z (.ref a),Z (.ref A),k,j]/\H' A=Z (.lst ((AA (aF.take i)).map V.str))/\aH H H'
def zkN{i:Nat}{r:Row}(h:aF[i]?=Z r):AA (aF.take (i+1))=AA (aF.take i)++rwW r:=by rw[tO,h];unfold AA;rw[oP];change _++(rwW r++[])=_;rw[cV]
def Qs{D:ZF}{a A p:ac}{h:zO}{r:Row}(w:H A=Z (.lst (h.map V.str)))(u:H p=Z (.tup [.str r.1.1,.int r.1.2]))(o:zcm r.1/\wB r.2)(J:h.length<=1000)(q:∀H',aH H H'->D.nx [Z (.ref a),Z (.ref A),Z (.ref p),Z (.int r.2)] (upd H' A (.lst ((h++rwW r).map V.str)))) :
  Z7 K t D [Z (.ref a),Z (.ref A),Z (.ref p),Z (.int r.2)] H:=by
 let B:3<=Fb:=by rw[cp];decide
 show{_,U,.inl {U,_,aN.of w},_,U,p,_,0,_,U,U,aV.of u,U,_,U,p,_,1,_,U,U,aV.of u,U,r.1.2,U,vF o.1.2,λO m=>{_,U,r.2,U,vF o.2,λH2 k=>{B,λb C=>?_}}};generalize e3:upd H2 b _=H3;let #[j,I]:=jp e3 C;show{A,b,_,_,U,U,j _ _ (k _ _ (m _ _ w)),I,zM (by rw[bd];change _+3<=_;lia),?_};let z:=q H3 ((m.trans k).trans j);rw[bW] at z;show z
def zak{m:LV}{_E:XK}(h:Wc m H Q _E) :
  Wj K t (aX Q) (zZZ 4 m) H:=by
 let #[a,aF,rfl,h1,C,q]:=h;let #[xs,u,o]:=h1;let lx:=bZ o;show{bP _,λA j=>{_,U,a,U,{xs,aN.of (hZ A j _ _ u)},xY xs (rwI a A aF H) {_,_,U,zh,hZ A j} (λi k H' ⟨_,_,_,_,s⟩=>aN.of (s _ _ u)) ?_ ?_}}
 .rintro i x k I B ⟨T,O,rfl,g,s⟩;let il:=(bi.mp B).1;let w:=bc (l:=aF) (i:=i) ();let #[r,p,rfl,e1,e2]:=yP o B w;show{r,_,U,aV.of (s _ _ e1),U,_,_,U,_,_,U,U,?_};show Qs (r:=aF[i]) g (s _ _ e2) (C.nm _ (cL _)) (by rw[jE,bQ];let:=C.le;lia) λH2 J=>{_,_,U,?_,j5 (s.trans J) j};rw[zh,zkN w]
 .rintro k I ⟨T,O,rfl,g,s⟩;show{_,U,q A I s j ?_};rw[g,bV ()]
def zeo{w:Int}(h:rB w)(q:∀H',aH H H'->Q (.int w) H') :
  Xt K t (aX Q) (zZZ 2 [.str (z8 w)]) H:=by simp only[Xt,xZ,qO,zpk,zkk,zdL,zZZ,zA,yc,zD,yt,ym,wu,aL,tC,zf,zo,yF,tOr,zT,yn,rL,dF,eA,fI,eQ,cV,bY,dv,cr,aw,V.int.injEq,V.str.injEq,V.bl.injEq,c8,and_true,exists_and_left,mJ,mK,mI,lL,decide_eq_true_eq,Int.reduceToNat,Int.reducePow,if_true];let #[a,b]:=h;show{w,U,vF (zkL {a,b}),λH' s=>?_};rw[aj ()];show{zbw () (),?_};show aj ()\q H' s
def zcy{w:Str}(h:yv w=af)(q:∀H',aH H H'->Q (.str w) H') :
  Z6 K t (aX Q) (zZZ 1 [.str w]) H:=by simp only[Z6,Xn,qO,zdL,zZZ,zA,yt,ym,wu,zf,zo,yF,zeL,tB,yn,rL,dF,eA,cV,bY,cr,aw,V.str.injEq,V.bl.injEq,c8,and_true,mI,lL,dP];show{by let:=(zgI h).1;lia,λH' s=>?_};show aj (by rw[h];decide)\q H' s
def zfE{j:Type}(f:j->V)(xs:List j)(h:k<=xs.length):vV (xs.map f) ae (Z (k:Int))=(xs.take k).map f:=by
 unfold vV;let o:HT.sIx (xs.map f).length 0 ae=0:=rfl;let m:HT.sIx (xs.map f).length (xs.map f).length (Z (k:Int))=k:=by change (if (k:Int)<0 then ((k:Int)+((xs.map f).length:Int)).toNat else min (k:Int).toNat (xs.map f).length)=k;rw[aj (),cK,bd];lia
 rw[o,m,iK,oB];rfl
def zn2{x:String}(h:((bb x).cps.toList.all λc=>decide (c<128))=af):yZ (V.str (bb x))=af:=Av.flat λc j=>of_decide_eq_true (cx.mp h c j)
def Qt{vs:LV}{_E:XK}(h:YR vs H Q _E) :
  YX K t (aX Q) (zZZ 1 vs) H:=by
 let #[a,oc,rfl,h1,h2,q]:=h;cases oc with
 |off w=>show h2.elim
 |done sa=>
  let #[l1,l2]:=h2;let c1:vV ((ocW (.done sa)).map V.str) ae (Z ((1:Nat):Int))=[V.str (bb "done")]:=zfE V.str (ocW (.done sa)) (iI (bP _));let c2:vV ((ocW (.done sa)).map V.str) (Z ((1:Nat):Int)) ae=(sa.map z8).map V.str:=Qo V.str (ocW (.done sa)) (iI (bP _));let m1:1<=Fb:=by rw[cp];decide
  let m2:2<=Fb:=by rw[cp];decide
  show{_,U,((1:Nat):Int),U,a,_,U,aN.of h1,λp hp=>{m1,λp1 j=>?_}};rw[c1] at j ⊢;generalize e1:upd H p _=H1 at j;let #[s1,g1]:=jp e1 hp;generalize e2:upd H1 p1 _=H2;let #[s2,g2]:=jp e2 j;let fl:([V.str (bb "done")].all yZ)=af:=[lD,zn2 ()]\U
  let S2:=s1.trans s2;show{p,p1,_,_,U,U,aN.of (s2 _ _ g1),aN.of g2,{fl,fl,U},_,U,yN ((aj bL).trans (Fj U)) {_,U,((1:Nat):Int),U,a,_,U,aN.of (S2 _ _ h1),λA B=>?_}};rw[c2];generalize e3:upd H2 A _=H3;let #[s3,u]:=jp e3 B;let lm:((sa.map z8).map V.str).length=sa.length:=[bd,bd]\_
  show{A,U,{_,aN.of u},λD hD=>?_};show jL (J:=Itl K A) sa.length () (λT=>∃o,T=[o]) (λi v=>∃w,sa[i]?=Z w/\v=.int w) {_,U} (λi H s h=>{_,_,aN.of (s _ _ u),bc (lm\h)}) (λH s=>{_,aN.of (s _ _ u),gC lm}) hD ?_ ?_
  .rintro i x T O H5 ⟨o',rfl⟩ m I ⟨rfl,k⟩;let k:=k _ (aN.of (m _ _ u));rw[bn,bn,bc I] at k;cases k;show yN (R:=False) U {_,U,_,U,vF (l2 _ (cL I)),λO m=>{{_,U},{_,bc I,U},m}}
  .intro ys O C k m hq;obtain rfl:ys=sa.map V.int:=dq λi=>by
    obtain z|z:=i6 i ys.length
    .let #[w,hw,e]:=k i ys[i] (bc z);rw[bc z,e,bn,hw];rfl
    .rw[bT z,bT ([bd,<-C]\z)]
   show{_,_,U,.inl {aN.of hq,λl C=>{m2,λb hb=>?_}}};generalize e5:upd O l _=H5 at hb;let #[s5,g5]:=jp e5 C;let s6:=hZ (o:=HO.tup [V.str (bb "done"),V.ref l]) b hb;show q _ _ (((S2.trans s3).trans m).trans (s5.trans s6)) {b,l,U,zh,s6 _ _ g5}
def zep{B:LV}{_E:XK}(h:qV B H Q _E) :
  K3 K t (aX Q) (zZZ 2 B) H:=by
 let #[a,g,r,w,rfl,T,h2,h4,h5,h6,q]:=h;let #[xs,m,C]:=h4;let lx:=bZ C;let m3:3<=Fb:=by rw[cp];decide
 show{_,U,.ref a,_,U,.inl {_,aN.of T,U},U,_,U,yz (congrArg not (Fj U)) {_,U,g,U,{_,aN.of m},λD hD=>?_}};show jL (J:=Itl K g) w.length () (λA=>∃O I,A=[O,I]) (λi v=>v=.bl ah) {_,_,U} (λi H s h=>{_,_,aN.of (s _ _ m),bc ()}) (λH s=>{_,aN.of (s _ _ m),gC lx}) hD ?_ ?_
 .rintro i x A H4 H5 ⟨O,I,rfl⟩ j o ⟨rfl,k⟩;let k:=k _ (aN.of (j _ _ m));let hr:=bc (l:=w) (i:=i) o;let #[rr,pp,rfl,e1,e2]:=yP C k hr;show{rr,_,U,aV.of (j _ _ e1),U,_,_,U,_,_,U,U,yN (R:=False) U {_,U,U,{_,_,U},congrArg V.bl (Fk (λz=>h6 _ (cL o) (V.int.inj z))),aH.refl _}}
 .intro ys H4 hl k j hq;obtain rfl:ys=(dF w.length ah).map V.bl:=by show List.map_replicate\List.eq_replicate_iff.mpr {hl,λb u=>by let #[i,o]:=dW u;show k i b o}
  show{_,_,U,aN.of hq,_,U,yz (List.any_replicate\ite_self _) {_,U,a,_,((1:Nat):Int),_,U,U,aN.of (j _ _ T),yL U,r,U,h2,λH5 s5=>{_,U,m3,λb u=>q b _ ((j.trans s5).trans (hZ b u)) zh}}}
def zkO:∀ {aF:zG}{i:Nat}{r:Row},aF[i]?=Z r->(AA aF)[3*i]?=Z r.1.1/\(AA aF)[3*i+1]?=Z (z8 r.1.2)/\(AA aF)[3*i+2]?=Z (z8 r.2)
 |[],i,r,h=>by simp at h
 |x::aF,0,r,h=>by simp only[bY,cr] at h;subst h;show{U,U,U}
 |x::aF,i+1,r,h=>by let:=zkO (aF:=aF) (i:=i) (r:=r) (<-h);show this
def  riI(a A:ac)(aF:zG)(H:Hp)(i:Nat)(h:St)(H':Hp):Prop:=∃k j xs,h=[Z (.ref a),Z (.ref A),k,j,ae]/\H' A=Z (.lst xs)/\B0 (PrAt H') xs (aF.take i)/\aH H H'
def zh5{j:Type}{l:List j}{i:Nat}{r:j}(h:l[i]?=Z r):l.take (i+1)=l.take i++[r]:=[tO,h]\U
def xg{n:Nat}(h:n<1000000):n<Fb:=cn h ()
def zbB{u o:Type}{F:u->o->Prop}:∀ {k:List u}{j:List o},k.length=j.length->(∀(i:Nat) a b,k[i]?=Z a->j[i]?=Z b->F a b)->B0 F k j
 |[],[],_,_=>.nil
 |[],b::l,h,_=>by simp at h
 |a::l,[],h,_=>by simp at h
 |a::l,b::m,h,f=>.cons (f 0 a b U U) (zbB (<-h) λi x y A w=>f (i+1) x y (<-A) (<-w))
def zcz{D:ZF}{a A:ac}{aF:zG}{i:Nat}{o3:Option V}{u:Hp}(J:u A=ae)(s0:aH u H)(h1:u a=Z (.lst ((AA aF).map V.str)))(hi:i<aF.length)(hr:aF.length<=60)(ok:∀r∈aF,zcm r.1/\wB r.2)(o:H A=Z (.lst xs))(pr:B0 (PrAt H) xs (aF.take i))(q:∀T H',riI a A aF u (i+1) T H'->D.nx T H') :
  Wg K t D [Z (.ref a),Z (.ref A),Z (.int (0+(i:Int)*3)),o3,ae] H:=by
 let hg:=bc hi;let #[w1,w2,w3]:=zkO hg;let #[#[k1,k2],k3]:=ok _ (cL hi);generalize aF[i]=r at *
 let m:∀ {k:Nat}{w:Str},(AA aF)[k]?=Z w->atI ((AA aF).map V.str) (k:Int)=Z (V.str w):=λh=>yL ([bn,h]\U);let lx:=bZ pr;let m2:2<=Fb:=by rw[cp];decide
 rw[(0+(i:Int)*3)=((3*i:Nat):Int)|>()];let I:=s0 _ _ h1;show{_,U,_,U,a,_,_,_,U,U,aN.of I,m w1,_,U,k1,λH1 s1=>{_,U,_,U,_,_,U,U,a,_,((3*i+1:Nat):Int),_,U,U,aN.of (s1 _ _ I),m w2,_,U,vF k2,λH2 s2=>{m2,λp hp=>?_}}};generalize e3:upd H2 p _=H3;let #[s3,g3]:=jp e3 hp;let O:=s1.trans (s2.trans s3);show{_,U,.inl {U,_,aN.of (O _ _ o)},_,U,_,U,_,U,_,_,U,U,a,_,((3*i+2:Nat):Int),_,U,U,aN.of (O _ _ I),m w3,_,U,vF k3,λH4 s4=>{m2,λB C=>?_}};generalize e5:upd H4 B _=H5;let #[s5,g5]:=jp e5 C;let j:=O.trans (s4.trans s5);show{A,xs,_,U,U,j _ _ o,xg ([lx,bQ]\()),q _ _ {_,_,xs++[V.ref B],U,zh,?_,j5 (s0.trans j) J}};rw[zh5 hg];show V0 ?_ (wL (λ_ _ z=>zkJ (j _ _ o) (zcu j z)) pr);show zkJ (j _ _ o) {B,p,U,g5,s5 _ _ (s4 _ _ g3)}
def zeq:∀ {a b:List Pl},a.Pairwise (λa b=>yg a b=af)->b.Pairwise (λa b=>yg a b=af)->a.Perm b->a=b
 |[],b,_,_,h=>h.nil_eq
 |x::a,[],_,_,h=>absurd h.length_eq ?s
 |x::a,y::b,ha,hb,h=>by
  rw[pq] at ha hb;let e:x=y:=by
   obtain e|e:=bo.mp (h.mem_iff.mp (bp ..))
   .show e
   .obtain e'|e':=bo.mp (h.mem_iff.mpr (bp ..))
    .show e'.symm
    .let z:=YK (ha.1 y e') (hb.1 x e);rw[wP] at z;cases z
  subst e;rw[zeq ha.2 hb.2 (List.perm_cons x |>.mp h)]
def zoS{a:List Pl}(h:a.Pairwise (λa b=>yg a b=af)):a.Nodup:=h.imp λ{x y} z e=>by rw[e,wP] at z;cases z
def zgM:∀ {j:List Pl},(∀q∈j,yv q.1=af)->yh (j.map plD)=af
 |[],_=>[iU,yh]\_
 |r::t,h=>[bB,yh,zgM λx k=>h x (br _ k),rJ,zkK (h r bp)]\_
def zbC(j:List Pl):(Bl (j.map plD)).depth<=64:=by
 let h:∀l:List Pl,c7 (l.map plD)<=10:=λl=>by
  induction l with
  |nil=>simp[c7]
  |cons r t ih=>
   rw[bB,c7];let:(plD r).depth<=10:=by simp[plD,gS,c7]
   lia
 let:=h j;rw[gS];lia
def zcA{a A D:ac}{aF:zG}{T O:Option V}{xs ys:LV}(j:WZ aF)(hA:H A=Z (.lst xs))(pr:B0 (PrAt H) xs aF)(w:H D=Z (.lst ys))(u:B0 (PlV H) ys (aF.map (·.1)))(q:∀H',aH H H'->Q (.ref A) H') :
  Zc K t (aX Q) [Z (.ref a),Z (.ref A),T,O,Z (.ref D)] H:=by
 simp only[Zc,qO,zdL,zdn,zkf,zA,yt,ym,wu,aL,zf,zo,yF,zT,bY,dv,cr,aw,V.ref.injEq,V.bl.injEq,c8,and_true,and_assoc,exists_and_left,dP,if_true];let m:(aF.map (·.1)).Pairwise (λa b=>yg a b=af):=List.pairwise_map.mpr j.up;show{_,aN.of w,aF.map λr:Row=>r.1,wL (F:=PlV H) (G:=zfj H) (λ_ _ z=>z) u,zoS m,by rw[bd];let:=j.le;lia,λl zs C k h _ g1 J B I=>?_};let e:=zeq B m I;subst e;let o:zX (.list ((aF.map (·.1)).map plD))=af:=by rw[zX];show zgM λq hq=>?_;let #[r,hr,rfl]:=bM.mp hq;show(j.nm r hr).1.1
 show{_,.lst (aN.of (h _ _ w)) (zcv (wL (λ_ _ z=>PlV.same h z) u)),_,.lst (aN.of g1) (zcv (wL (F:=zfj k) (G:=PlV k) (λ_ _ z=>z) J)),o,o,zbC _,zbC _,λb hb=>?_};show [hb.mpr U,aj ()]\q k h
def zcB{a A:ac}{aF:zG}{o o3:Option V}{xs:LV}(I:WZ aF)(m:H A=Z (.lst xs))(u:B0 (PrAt H) xs aF)(q:∀H',aH H H'->Q (.ref A) H') :
  Wh K t (aX Q) [Z (.ref a),Z (.ref A),o,o3,ae] H:=by
 let lx:=bZ u;let l6:=I.le;show{_,U,A,U,{_,aN.of m},λD hD=>?_};show jL (J:=Itl K A) aF.length () (λC=>∃O o,C=[O,o]) (λi v=>∃p r,v=.ref p/\aF[i]?=Z r/\H p=Z (.tup [.str r.1.1,.int r.1.2])) {_,_,U} (λi H s h=>{_,_,aN.of (s _ _ m),bc ()}) (λH s=>{_,aN.of (s _ _ m),gC lx}) hD ?_ ?_
 .rintro i x C H4 H5 ⟨O,o,rfl⟩ j hi ⟨rfl,k⟩;let k:=k _ (aN.of (j _ _ m));let T:=bc (l:=aF) (i:=i) hi;let #[rr,pp,rfl,B,w]:=yP u k T;show{rr,_,U,aV.of (j _ _ B),U,_,_,U,_,_,U,U,yN (R:=False) U {_,U,{_,_,U},{_,_,U,T,w},aH.refl _}}
 .intro ys H4 hl k j hq;show zcA (t:=t) I (j _ _ m) (wL (λ_ _=>zcu j) u) hq ?_ λH5 s5=>q H5 (j.trans s5);show zbB (bd\hl) λi v x h1 h2=>?_;let #[p,r,B,w,e3]:=k i v h1;rw[bn,w] at h2;cases h2;show{p,B,j _ _ e3}
def zer{C:LV}{_E:XK}(h:qU C H Q _E) :
  K0 K t (aX Q) (zZZ 5 C) H:=by
 let #[a,aF,rfl,w,u,q]:=h;let O:=u.le;let o:(((AA aF).map V.str).length:Int)=(aF.length:Int)*3:=[bd,jE]\()
 show{_,U,.ref a,_,U,.inl {_,aN.of w,U},_,_,U,U,(),U,_,U,yz ([o,Int.mul_emod_left]\congrArg not (Fj U)) {bP _,λA k=>{_,U,.ref a,_,U,.inl {_,aN.of (hZ A k _ _ w),U},_,_,_,U,{(),(),(),(),(),()},zed (riI a A aF H) {_,_,[],U,zh,.nil,hZ A k} ?_ ?_}}}
 .rintro i B H1 hi ⟨J,I,xs,rfl,g,j,s⟩;let T:=znX () () hi;rw[o] at T;show zcz (t:=t) k s w () O u.nm g j λB H' z=>z
 .rintro B H1 ⟨J,I,xs,rfl,g,j,s⟩;rw[bV (by rw[o];unfold QS;split <;> lia)] at j;show zcB u g j λH2 m=>q A H2 (s.trans m) k {xs,m _ _ g,wL (λ_ _=>zcu m) j}
def zes(ys:LV)(v:V):vV (ys++[v]) ae (Z (-1))=ys:=by
 unfold vV;let j:HT.sIx (ys++[v]).length 0 ae=0:=by unfold HT.sIx;rfl
 let h:HT.sIx (ys++[v]).length (ys++[v]).length (Z (-1))=ys.length:=by unfold HT.sIx;simp;lia
 rw[j,h];simp
def zet(w:Int):bb ";"≠z8 w:=λz=>by
 let e:=(zel (oc:=.done [0]) {(),λi o=>bu.mp o\{(),()}}).2.2;let u:(bb ";").cps.toList=[59]:=()
 let h:(bb ";").cps.toList=(z8 w).cps.toList:=congrArg (λx:Str=>x.cps.toList) z;rw[u] at h;let j:∀m,59 ∉ dg m:=λm k=>by let:=kJ m 59 k;lia
 obtain c|c:=tj 0 w
 .rw[w=((w.toNat:Nat):Int)|>(),yM] at h;show j w.toNat ([<-h]\?s)
 .obtain e|e:=gW w.natAbs
  .let:w=((0:Nat):Int):=()
   rw[this,yM] at h;show j 0 ([<-h]\?s)
  .rw[w=-((w.natAbs:Nat):Int)|>(),xQ e] at h;cases h
def zms{a b:zO}{x:Str}(h:x ∉ a):(a++x::b).idxOf x=a.length:=[List.idxOf_append,aj h]\?s
def Zf(r:Int)(h:Oc)(gs:zG):jS r h gs=(bb "deal" :: z8 r::ocW h)++bb ";" :: AA gs:=rfl
def Xz(r:Int)(gs:zG):Zv r gs=[bb "mark",z8 r]++bb ";" :: AA gs:=rfl
def zmt{r:Int}(h:zac oc):bb ";" ∉ (bb "deal" :: z8 r::ocW oc):=λz=>by
 obtain z|z:=bo.mp z
 .show absurd z ()
 .obtain z|z:=bo.mp z
  .show zet _ z
  .show(zel h).2.2 z
def zmu{r:Int}:bb ";" ∉ [bb "mark",z8 r]:=λz=>by
 obtain z|z:=bo.mp z
 .show absurd z ()
 .show zet _ (bu.mp z)
def zh6:V.str (bb "mark")≠V.str (bb "deal"):=by intro z;injection z with z;revert z;lia
def zfF{x:Str}{l g:ac}{r:Int}{oc:Oc}{h:zG}(I:rB r)(C:zac oc)(B:gV H g h)(A:∀w,oc=.off w->h=[])(m:H l=Z (.lst ((jS r oc h).map V.str)))(q:∀p v H',aH H H'->AM H' v oc->H' p=Z (.tup [.str "deal",.int r,v,.ref g])->Q (.ref p) H') :
  xv K t E (aX Q) [Z (.str x),Z (.ref l),Z (.int ((bb "deal" :: z8 r::ocW oc).length:Nat)),Z (.ref g)] H:=by
 let c:=zfE V.str (jS r oc h) (k:=(bb "deal" :: z8 r::ocW oc).length) ([Zf,bj]\());let J:(jS r oc h).take (bb "deal" :: z8 r::ocW oc).length=bb "deal" :: z8 r::ocW oc:=Zf\List.take_left
 rw[J] at c;show{_,U,l,_,((0:Nat):Int),_,U,U,aN.of m,yL U,U,_,U,yN (Fj U) {_,U,_,U,_,U,l,_,U,aN.of m,λp j=>{_,U,p,g,r,oc,h,U,zh\congrArg (λz=>Z (HO.lst z)) c,I,C,B.same (hZ p j),A,λb v H' s o u=>q b v H' ((hZ p j).trans s) o u}}}
def zfG{x:Str}{l g:ac}{r:Int}{h:zG}(B:rB r)(A:gV H g h)(w:h.length<=60)(u:∀x∈h,x.2≠0)(j:H l=Z (.lst ((Zv r h).map V.str)))(q:∀p H',aH H H'->H' p=Z (.tup [.str "mark",.int r,.ref g])->Q (.ref p) H') :
  xv K t E (aX Q) [Z (.str x),Z (.ref l),Z (.int (([bb "mark",z8 r]:zO).length:Nat)),Z (.ref g)] H:=by let c:=zfE V.str (Zv r h) (k:=2) ([Xz,bj]\iJ ..);show{_,U,l,_,((0:Nat):Int),_,U,U,aN.of j,yL U,U,_,U,yz (Fk zh6) {_,U,l,_,((0:Nat):Int),_,U,U,aN.of j,yL U,U,_,U,yN (Fj U) {_,U,_,U,_,U,l,_,U,aN.of j,λp m=>{_,U,p,g,r,h,U,zh\congrArg (λz=>Z (HO.lst z)) c,B,A.same (hZ p m),w,u,λb H' s o=>q b H' ((hZ p m).trans s) o}}}}
def in_strs{ws:zO} :inV (.str w) (ws.map V.str)=af↔w∈ws:=by
 unfold inV;rw[List.any_eq_true];constructor
 .rintro⟨x,k,e⟩;let #[y,j,rfl]:=bM.mp k;simp only[eqV,beq_iff_eq] at e;show e ▸ j
 .intro h;show{_,bX h,by simp[eqV]}
def zh7{x:Str}{l:ac}{k:Nat}{h:zO}{aF:zG}(w:H l=Z (.lst (h.map V.str)))(A:k<h.length)(u:h.drop (k+1)=AA aF)(o:WZ aF)(q:∀g H',aH H H'->H g=ae->gV H' g aF->xv K t E (aX Q) [Z (.str x),Z (.ref l),Z (.int k),Z (.ref g)] H') :
  jW K t E (aX Q) [Z (.str x),Z (.ref l),Z (.int k),ae] H:=by simp only[jW,qU,qO,zkk,zkl,znQ,zA,yc,zD,aL,tC,zf,zo,AH,yT,yo,yn,cV,bY,dv,cr,aw,V.int.injEq,V.ref.injEq,c8,and_true,exists_and_left,mJ,mK];let c:=Qo V.str h (k:=k+1) ();rw[u] at c;show{_,aN.of w,λp m=>{aF,[zh,((k:Int)+1)=((k+1:Nat):Int)|>(),c]\_,o,λg H' s n j=>q g H' ((hZ p m).trans s) (yy (hZ p m) n) j}}
def zh8{x:Str}{l:ac}{a:zO}{aF:zG}(j:H l=Z (.lst ((a++bb ";" :: AA aF).map V.str)))(o:bb ";" ∉ a)(m:WZ aF)(q:∀g H',aH H H'->H g=ae->gV H' g aF->xv K t E (aX Q) [Z (.str x),Z (.ref l),Z (.int (a.length:Nat)),Z (.ref g)] H') :
  jX K t E (aX Q) [Z (.str x),Z (.ref l),ae,ae] H:=by
 simp only[jX,qO,zdL,Xh,Y7,zA,yc,zD,ym,aL,tC,zf,zo,yF,zT,AK,tyV,rIn,eA,bY,dv,cr,aw,V.ref.injEq,V.str.injEq,V.bl.injEq,c8,and_true,true_and,exists_and_left,mJ,mK,lL,dP,if_true];let h:bb ";"∈a++bb ";" :: AA aF:=bD _ bp;show{_,.inl (aN.of j),U,?_,?_}
 .rw[cx];intro v k;let #[w,_,rfl]:=bM.mp k;rfl
 .rw[aj (by rw[in_strs.mpr h];decide)];show{.inl {_,aN.of j},_,j,h,?_};show zms o\zh7 j (bj\?s) (n9\?s) m q
def rwF{P:At}(T:Txt K P t):RwF K t:={T.q0h,T.q3t,T.q3s,T.q3r}
def rgF{P:At}(T:Txt K P t):RgF K t:={T.q0o,T.q3p,T.q3o,T.q3q}
def rnF{P:At}(T:Txt K P t):RnF K t:={T.q0a,T.q3v,T.q3u,T.q40,T.q3z,T.q3w,T.q3x,T.q3y}
def dkF{P:At}(T:Txt K P t):DkF K t:={T.q0e,T.q0k,T.q36,T.q3b,T.q35,T.q33,T.q3a,T.q37,T.q39,T.q38,T.q34,T.q3i,T.q3h,T.q3j,T.q3g}
def hsF{P:At}(T:Txt K P t):HsF K t:={T.q0c,T.q3d,T.q3f,T.q3e,T.q3c}
def sz1:1<=Fb:=by rw[cp];decide
def sz2:2<=Fb:=by rw[cp];decide
def sz3:3<=Fb:=by rw[cp];decide
def sz4:4<=Fb:=by rw[cp];decide
def AE{h H':Hp}{p:ac}(e:upd h p o=H')(j:h p=ae):aH h H'/\H' p=Z o:={e ▸ hZ p j,e ▸ zh}
def zkP{n:Int}(h:zfz n w):jN w=af/\w.length<=40/\yv w=ah/\isJ (.str w)=ah:=by let #[rfl,h]:=h;let #[a,b,c]:=wJ h;show{a,c,fc.mpr (λz=>by rw[QR z] at a;cases a),fc.mpr (λz=>by rw[(zlG z).2] at a;cases a)}
section
variable {ws:zO}{k:Nat}{w:Str}
def Jl{A:LV}{_E:XK}(I:∀H:Hp,aV K H t.q0f jw)(h:ve A H Q _E) :
  Z9 K t (aX Q) (zZZ 4 A) H:=by
 let #[l,ws,k,n,w,rfl,C,B,J,T,q]:=h;let O:=(bi.mp B).1;show{_,U,λm o H'=>H'=H/\((m=1/\o=[Z (.ref l),Z (.int k),Z (.int 1),Z (.int k)])\/m=0/\o=[Z (.ref l),Z (.int k),Z (.int 0),Z (.int (k+1:Nat))]),{1,U,.inl {U,U}},?_};rintro m o H' ⟨rfl,⟨rfl,rfl⟩|⟨rfl,rfl⟩⟩
 .show{_,U,_,_,U,U,_,U,yN U {λj H2=>∃u,u<1/\(H2=H'/\((u=1/\j=[Z (.ref l),Z (.int k),Z (.int 1),Z (.int k)])\/u=0/\j=[Z (.ref l),Z (.int k),Z (.int 0),Z (.int (k+1:Nat))])),λ_ _ z=>z,?_}};show{_,U,_,U,.ref l,ws.length,U,.inl {_,aN.of C,(bd ..).symm},_,_,U,U,_,U,yz (Fk ()) {_,U,_,U,_,_,U,U,U,_,U,yz (Fk λz=>?_) ?_}}
  .rw[Int.sub_self] at z;cases z
  .show{_,U,_,U,l,_,_,_,U,U,aN.of C,yL ([bn,B]\U),t.q0f,jw,U,.inr (I _),U,U,_,U,yz (zkP J).2.2.2 {_,U,_,_,U,U,_,U,_,_,U,U,0,(),U,.inr {U,U}}}
 .show{_,U,_,_,U,U,_,U,yz U {_,U,q _ (aH.refl _)}}
def zal{vs:LV}{_E:XK}(hJ:∀H:Hp,aV K H t.q0f jw)(h:qY vs H Q _E) :
  Wk K t (aX Q) (zZZ 7 vs) H:=by
 let #[l,ws,k,n,w,rfl,h1,h2,h3,h4,q]:=h;let lk:=(bi.mp h2).1;show{_,U,_,U,l,ws,k,n,w,U,h1,h2,h3,h4,λH1 O=>{bP _,λa ha=>?_}};generalize c1:upd H1 a _=H2;let #[s2,e2]:=AE c1 ha;let S2:=O.trans s2;show{_,U,_,U,_,U,_,U,_,U,l,_,U,aN.of (S2 _ _ h1),λp hp=>?_};let I:vV (ws.map V.str) (Z (k:Int)) (Z ((k+1:Nat):Int))=[V.str w]:=[zkG _ _ _ (iS k) (bd\lk),dA (bd\lk),List.getElem_map,(bi.mp h2).2,Nat.succ_sub (bh k),pA]\U
 rw[I];generalize c2:upd H2 p _=H3;let #[s3,e3]:=AE c2 hp;let aa:a≠p:=zy e2 hp;let S3:=S2.trans s3;show{p,_,U,aN.of e3,zjq [V.str w] (λi u H'=>aH H H'/\H' p=Z (.lst [V.str w])/\(i=0/\u=[Z (.ref l),Z (.int k),Z (.int (k+1:Nat)),Z (.ref a),ae,ae,ae]/\H' a=Z (.lst [])\/i=1/\∃m,u=[Z (.ref l),Z (.int k),Z (.int (k+1:Nat)),Z (.ref a),Z (.str w),ae,ae]/\H' a=Z (.lst [.ref m])/\H' m=Z (.tup [.int n]))) {S3,e3,.inl {U,U,s3 _ _ e2}} (λi u H' z=>aN.of z.2.1) ?_ ?_}
 .rintro i v u H' hi hv ⟨S,C,⟨rfl,rfl,j⟩|⟨rfl,_⟩⟩
  .cases hv;show{_,U,t.q0f,jw,U,.inr (hJ _),U,U,_,U,yz (zkP h3).2.2.2 {_,U,.inl {U,_,aN.of j},_,U,w,n,U,h3,λH4 J=>{sz1,λm B=>?_}}};let A:=hZ (o:=HO.tup [V.int n]) m B;let na:=zy (J _ _ j) B;show{a,[],_,U,U,A _ _ (J _ _ j),(),j5 (S.trans (J.trans A)) (O.free ha),?_,.inr {U,m,U,zh,?_}}
   .show zm aa.symm\A _ _ (J _ _ C)
   .show zm na.symm\zh
  .show absurd hi (gy 1)
 .rintro u H' ⟨S,C,⟨e,_⟩|⟨_,m,rfl,j,B⟩⟩
  .cases e
  .let A:aH H (upd H' a (.lst [])):=j5 S (O.free ha);show{_,U,.inl {U,_,aN.of j},a,_,_,U,U,j,U,_,U,sz2,λr hr=>?_};let nt:m≠a:=zN B j ();let T:upd H' a (.lst []) m=Z (.tup [.int n]):=zm nt\B
   show q r m _ (A.trans (hZ r hr)) zh (hZ r hr _ _ T)
end
section
variable {ws:zO}{k:Nat}{w:Str}
def UpR.same{H':Hp}(s:aH H H'):UpR x H H':=λb o _ h=>s _ _ h
def UpR.trans{j H2:Hp}(h:UpR x H j)(g:UpR x j H2):UpR x H H2:=λb o n z=>g b o n (h b o n z)
def UpR.up(o:HO):UpR x H (upd H x o):=λb u n z=>zm n\z
def RwO.ne(R:RwO t H x dx l ws k):l≠x:=zN R.hw R.ix ()
def RwO.same{H':Hp}(R:RwO t H x dx l ws k)(s:aH H H'):RwO t H' x dx l ws k:={s _ _ R.ix,s _ _ R.hw}
def RwO.at_(R:RwO t H x dx l ws k)(k':Nat):RwO t (upd H x (.ins t.q08 dx (zmd l k'))) x dx l ws k':={zh,zm R.ne\R.hw}
def Wq{j:LV}{_E:XK}(F:RwF K t)(h:vK t j H Q _E) :
  qt K t (aX Q) (zZZ 3 j) H:=by let #[x,l,dx,rfl,m,q]:=h;show{_,U,_,U,x,_,_,_,U,m,F.cl,F.n1,(),_,U,_,U,x,_,_,_,U,zh,F.cl,F.n2,(),_,U,x,_,_,_,U,zh,F.cl,F.n3,(),?_};show q _ (((UpR.up _).trans (UpR.up _)).trans (UpR.up _)) zh
def RwA.up{H':Hp}(h:RwA H v e)(s:∀b j,H b=Z (.tup j)->H' b=Z (.tup j)):RwA H' v e:=by
 cases e with
 |give p n=>let #[r,m,o,a,b,c,d]:=h;show{r,m,o,a,s _ _ b,s _ _ c,s _ _ d}
def RwA.same{H':Hp}(h:RwA H v e)(s:aH H H'):RwA H' v e:=h.up λb j z=>s _ _ z
def zn3{n:Int}(h:wB n):zfz n (z8 n):={U,vF h}
def zkQ{p:Nat}(h:p<4):zfz (p:Int) (z8 (p:Int)):={U,Fj {(),()}}
def zoT{A B:L2.TS}{D:ZF}{w u:Str}(h:σ[1]?=Z (Z (.str w)))(a:w=u->A D σ H)(b:w≠u->B D σ H):yF (zT (aL rEq (zd 1) (tC (.str u)))) A B D σ H:=zm7 (λ_ q=>zoH h q) a b
end
def zm9(w:Int):∀c∈(z8 w).cps.toList,45<=c/\c<=57:=by
 let h:∀m,∀c∈dg m,45<=c/\c<=57:=λm c k=>by let:=kJ m c k;lia
 obtain c|c:=tj 0 w
 .show [w=((w.toNat:Nat):Int)|>(),yM]\h _
 .obtain e|e:=gW w.natAbs
  .let:w=((0:Nat):Int):=()
   show [this,yM]\h _
  .rw[w=-((w.natAbs:Nat):Int)|>(),xQ e];intro z j;obtain z|z:=bo.mp j
   .lia
   .show h _ _ z
def zgN(e:Dl):e.tx=fE AF e.ws:=by
 apply xN;cases e with
 |give p n=>
  change (bb "give a " ++ z8 p++bb " " ++ z8 n).cps.toList=(bb "give" ++ AF++(bb "a" ++ AF++(z8 p++AF++z8 n))).cps.toList;rw[jq,bb "give a "=bb "give" ++ (AF++(bb "a" ++ AF))|>()];simp only[yf,cX]
def zoU(e:Dl):∀w∈e.ws,∀c∈w.cps.toList,45<=c/\c<128:=by
 let k:∀w:Str,((w.cps.toList.all λc=>decide (45<=c)&&decide (c<128))=af)->∀c∈w.cps.toList,45<=c/\c<128:=λw h c j=>by let:=cx.mp h c j;rw[bK,decide_eq_true_eq,decide_eq_true_eq] at this;show this
 let m:∀n:Int,∀c∈(z8 n).cps.toList,45<=c/\c<128:=λn c j=>by let:=zm9 n c j;lia
 intro w hw;cases e with
 |give p n=>
  obtain rfl|hw:=bo.mp hw
  .show k _ ()
  obtain rfl|hw:=bo.mp hw
  .show k _ ()
  obtain rfl|hw:=bo.mp hw
  .show m p
  .show bu.mp hw\m n
def zoV(e:Dl):e.ws≠[]:=by cases e <;> show nofun
def Qu(e:Dl):gu e.tx AF=e.ws:=zgN\qN (zoV e) λw h z=>by let:=zoU e w h 32 z;lia
def zn4(e:Dl):e.ws.length<=4:=by
 cases e with
 |give p n=>change 4<=4;decide
def zkR(h:e.ok):e.tx.length<=100:=by
 cases e with
 |give p n=>
  change (bb "give a " ++ z8 p++bb " " ++ z8 n).length<=100;let a:=(wJ (vF h.2)).2.2;let b:=(wJ (zkQ h.1).2).2.2;rw[yB,yB,yB,(bb "give a ").length=7|>(),(bb " ").length=1|>()];lia
def zpl(e:Dl):∀c∈e.tx.cps.toList,c=32\/45<=c/\c<128:=by
 rw[zgN];let:∀(k:zO),(∀w∈k,∀c∈w.cps.toList,45<=c/\c<128)->∀c∈(fE AF k).cps.toList,c=32\/45<=c/\c<128:=λk=>by
  induction k with
  |nil=>intro _ c j;cases j
  |cons w k ih=>
   intro h c j;cases k with
   |nil=>show .inr (h w bp c j)
   |cons u us=>
    let j:c∈(w++AF++fE AF (u::us)).cps.toList:=j;rw[yf,yf] at j;obtain z|z:=bw.mp j
    .obtain z|z:=bw.mp z
     .show .inr (h w bp c z)
     .show .inl (bu.mp z)
    .show ih (λv m=>h v (br _ m)) c z
 show this _ (zoU e)
def zgO(e:Dl):gu e.tx Aq=[e.tx]:=by
 let:=qN (c:=10) (ws:=[e.tx]) () λw h z=>by rw[bu.mp h] at z;let:=zpl e 10 z;lia
 show [Aq=(⟨#[10]⟩:Str)|>()]\this
def zoW(e:Dl):e.tx≠bb "":=λz=>by
 let h:=Qu e;rw[z,gu (bb "") AF=[bb ""]|>()] at h;cases e with
 |give p n=>let:=congrArg eA h;cases this
section
variable {rl bl tl:ac}
def vT{j:Hp}{y d:ac}(k:j y=ae)(m:j d=ae):aH j (upd (upd j d (.own y)) y (.ins C d [])):=λb o h=>[zm (zy h k),zm (zy h m)]\h
def UpR.new{j H':Hp}(s:aH H j)(u:UpR x j H')(k:H x=ae):aH H H':=λb o h=>u b o (zy h k) (s _ _ h)
def zfH{u:LV}{_E:XK}{P:At}(T:Txt K P t)(h:W3 u H Q _E) :
  zbr K t (aX Q) (zZZ 5 u) H:=by
 let #[e,rfl,I,q]:=h;let l4:=zn4 e;show{_,U,U,_,_,U,U,U,bR (zkR I) (),?_,?_}
 .rw[(bb " ")=AF|>jq,Qu];lia
 intro l hl;rw[(bb " ")=AF|>jq,Qu];generalize c1:upd H l _=H1;let #[s1,m]:=AE c1 hl;show{_,U,_,_,U,U,_,U,yz U {_,U,.ref l,e.ws.length,U,.inl {_,aN.of m,(bd ..).symm},_,_,U,U,_,U,yz (Fk ()) {_,U,_,U,?_}}};intro y d j hd nd;let A:=vT (C:=t.q08) j hd;show{y,l,d,U,zh,λH2 w e2=>{U,_,U,y,d,l,e,U,{e2,w _ _ (zy m j) (A _ _ m)},I,λv H3 O J k=>?_}};let S3:aH H1 H3:=UpR.new (x:=y) (λb o h=>w b o (zy h j) (A _ _ h)) O j;show yW J.ix U U {y,d,l,_,U,J,λH4 B=>{_,U,q v H4 (s1.trans (S3.trans B)) (k.same B)}}
def W8{J:LV}{_E:XK}(F:RgF K t)(h:jk t J H Q _E) :
  Zy K t (aX Q) (zZZ 1 J) H:=by
 let #[x,dx,rfl,j,q]:=h;let k:∀ {H:Hp}{fs:LSV}{p:ac}{o:HO}{u:HO},H x=Z (.ins t.q05 dx fs)->H p=ae->UpR x H (upd (upd H p o) x u)/\upd (upd H p o) x u p=Z o/\p≠x:=λ{H fs p o u} j hp=>by let T:p≠x:=(zy j hp).symm;show{λb w n z=>zm n\hZ p hp _ _ z,zm T\zh,T}
 show{bP _,λrl A=>{_,U,x,_,_,_,U,hZ rl A _ _ j,F.cl,F.n1,(),?_}};let #[u1,r1,n1]:=k (o:=.lst []) (u:=.ins t.q05 dx (xE (bb "rows") (.ref rl) [])) j A;let I:upd (upd H rl (.lst [])) x (.ins t.q05 dx (xE (bb "rows") (.ref rl) [])) x=Z (.ins t.q05 dx [(bb "rows",.ref rl)]):=zh;generalize upd (upd H rl (.lst [])) x (.ins t.q05 dx (xE (bb "rows") (.ref rl) []))=H1 at *
 show{bP _,λbl B=>{_,U,x,_,_,_,U,hZ bl B _ _ I,F.cl,F.n2,(),?_}};let #[O,r2,n2]:=k (o:=.lst []) (u:=.ins t.q05 dx (xE (bb "blocks") (.ref bl) [(bb "rows",.ref rl)])) I B;let C:upd (upd H1 bl (.lst [])) x (.ins t.q05 dx (xE (bb "blocks") (.ref bl) [(bb "rows",.ref rl)])) x=Z (.ins t.q05 dx [(bb "rows",.ref rl),(bb "blocks",.ref bl)]):=zh;generalize upd (upd H1 bl (.lst [])) x (.ins t.q05 dx (xE (bb "blocks") (.ref bl) [(bb "rows",.ref rl)]))=H2 at *
 show{bP _,λtl ht=>{_,U,x,_,_,_,U,hZ tl ht _ _ C,F.cl,F.n3,(),?_}};let #[m,r3,n3]:=k (o:=.lst []) (u:=.ins t.q05 dx (xE (bb "turned") (.ref tl) [(bb "rows",.ref rl),(bb "blocks",.ref bl)])) C ht;show q _ rl bl tl (u1.trans (O.trans m)) zh (m _ _ n1 (O _ _ n1 r1)) (m _ _ n2 r2) (zy r1 B) A
def zkS{vs:LV}{_E:XK}{P:At}(T:Txt K P t)(F:RgF K t)(h:zgy vs H Q _E) :
  zgz K t (aX Q) (zZZ 5 vs) H:=by
 let #[e,rfl,ok,q]:=h;show{_,U,U,_,U,yN ([Fk λz=>zoW e (V.str.inj z)]\U) {_,U,U,_,_,U,U,U,bR (zkR ok) (),?_,?_}}
 .change (gu e.tx Aq).length<=_;rw[zgO];change 1<=100000;decide
 intro w hw;rw[gu e.tx (bb "\n")=[e.tx]|>zgO e];generalize c1:upd H w _=H1;let #[s1,e1]:=AE c1 hw;intro y d hy hd nd;let sm:=vT (C:=t.q05) hy hd;show{y,d,U,zh,λH2 rl bl tl u2 e2 er eb an nr=>{U,?_}};let S2:aH H1 H2:=λb o h=>u2 b o (zy h hy) (sm _ _ h);let fr:H rl=ae:=s1.free (yy sm nr);let al:w≠rl:=zy e1 (yy sm nr);show{_,U,w,_,U,aN.of (S2 _ _ e1),zfg [V.str e.tx] (λi σ H'=>aH H H'/\H' w=Z (.lst [V.str e.tx])/\(∃a b,σ=[Z (.str e.tx),Z (.ref w),Z (.ref y),a,b])/\H' y=Z (.ins t.q05 d [(bb "rows",.ref rl),(bb "blocks",.ref bl),(bb "turned",.ref tl)])/\H' bl=Z (.lst [])/\(i=0/\H' rl=Z (.lst [])\/i=1/\∃v,H' rl=Z (.lst [v])/\RwA H' v e)) {s1.trans S2,S2 _ _ e1,{_,_,U},e2,eb,.inl {U,er}} (λi σ H' z=>aN.of z.2.1) ?_ ?_}
 .rintro i u A σ H' hu hA ⟨S,O,⟨a,b,rfl⟩,j,m,⟨rfl,k⟩|⟨rfl,_⟩⟩
  .cases hu;let I:=hZ (o:=HO.tup [V.int (0:Nat),V.str e.tx]) A hA;show{A,_,U,aV.of zh,U,{_,_,U,_,_,U,U,?_}};show yW (I _ _ j) U U {_,U,_,U,e,U,ok,λv H3 s3 J=>{_,U,y,d,rl,bl,tl,v,e,U,s3 _ _ (I _ _ j),s3 _ _ (I _ _ m),s3 _ _ (I _ _ k),J,λH4 B e4=>?_}};let S3:=I.trans s3;show{λb o h=>B b o (zy h fr) (S3 _ _ (S _ _ h)),B _ _ al (S3 _ _ O),{_,_,U},B _ _ (zN j k ()) (S3 _ _ j),B _ _ an.symm (S3 _ _ m),.inr {U,v,e4,J.up λb zs z=>B _ _ (zN z (S3 _ _ k) ()) z}}
  .show absurd hu ()
 .rintro σ H' ⟨S,O,⟨a,b,rfl⟩,j,m,⟨z,_⟩|⟨_,v,k,aa⟩⟩
  .cases z
  .unfold zbs zA yF;show ya j F.cl F.n2 U U {bP _,λp hp=>{bl,p,[],U,U,aN.of (hZ p hp _ _ m),aN.of zh,_,U,yz U ?_}};let s:=hZ (o:=HO.lst []) p hp;show ya (s _ _ j) F.cl F.n1 U U (q v rl _ (S.trans s) fr (s _ _ k) (aa.same s))
end
def Y2(e:Dl):Ai e.gi/\(e.gi.map (·.1)).Nodup/\e.gi.length<=1:=by
 cases e with
 |give p n=>show{rN _ _,cW.mpr {cZ,.nil},bh _}
def zgP(e:Dl):e.gi.take 1=e.gi:=bV (Y2 e).2.2
def zn5(e:Dl):e.sa.length<=1:=by
 cases e with
 |give p n=>show bP _
def zgQ(e:Dl):e.sa.take 1=e.sa:=bV (zn5 e)
def zn6{q:Pl}{w:Int}:Ac [(q,w)]=[(zI q,V.int w)]:=W5 (cW.mpr {cZ,.nil})
section
variable {a:RAd}{k m:Nat}
def AG.same(R:AG t H x a e k m)(s:aH H H'):AG t H' x a e k m:={s _ _ R.ix,let ⟨v,h,p⟩:=R.hc;{v,s _ _ h,p.same s},s _ _ R.hs,s _ _ R.hg,s _ _ R.hn,s _ _ R.ha,R.nc,R.ng}
def zcC{j:LV}{_E:XK}(F:RnF K t)(h:wQ t j H Q _E) :
  Ya K t (aX Q) (zZZ 1 j) H:=by let #[x,a,e,k,m,rfl,R,q]:=h;let #[v,o,u]:=R.hc;simp only[Ya,qO,zkk,zmb,znR,yq,zZZ,yt,aL,tC,zf,zo,zni,Ad,znm,zda,rL,dF,eA,cV,bY,cr,aw,V.int.injEq,V.ref.injEq,V.bl.injEq,c8,and_true,true_and,exists_and_left,mI,lL,dP,decide_eq_false_iff_not];show{_,_,_,R.ix,F.cl,F.n3,_,U,?_};rw[aj (λz=>z U)];show{_,_,_,R.ix,F.cl,F.n2,_,U,_,_,_,R.ix,F.cl,F.n1,_,U,1,.inl {_,aN.of o,U},_,U,?_};show [decide (((1:Nat):Int)<=(k:Int))=decide (1<=k)|>decide_eq_decide.mpr ()]\q
def AG.ts(R:AG t H x a e k m)(h:H b=Z (.tup zs)):b≠x/\b≠a.sa/\b≠a.gi:={zN h R.ix (),zN h R.ha (),zN h R.hg ()}
def AG.kp(R:AG t H x a e k m)(kp:KpR x a H H'):TSm H H':=λb h z=>let ⟨n1,n2,n3⟩:=R.ts z;kp b _ n1 n2 n3 z
def AG.gave(R:AG t H x a e k 0)(hs:e.sa=[])(o:HO)(j:o=.dT (Ac e.gi)):AG t (upd H a.gi o) x a e k 1:=by
 let u:∀ {b w},b≠a.gi->H b=Z w->upd H a.gi o b=Z w:=λ{b w} z y=>zm z\y
 show{u (zN R.ix R.hg ()) R.ix,let ⟨v,h,p⟩:=R.hc;{v,u (zN h R.hg ()) h,p.up λb A z=>u (zN z R.hg ()) z},u (zN R.hs R.hg ()) R.hs,[zh,zgP,j]\_,u R.ng.symm R.hn,?_,R.nc,R.ng};let g:=u (zN R.ha R.hg ()) R.ha;show [zgQ,hs]\g
def AG.at_(R:AG t H x a e k m)(j:Nat):AG t (upd H x (.ins t.q03 a.dx (znU a j))) x a e j m:=by
 let u:∀ {b o},b≠x->H b=Z o->upd H x (.ins t.q03 a.dx (znU a j)) b=Z o:=λ{b o} z e=>zm z\e
 show{zh,let ⟨v,h,p⟩:=R.hc;{v,u (zN h R.ix ()) h,p.up λb w z=>u (zN z R.ix ()) z},u (zN R.hs R.ix ()) R.hs,u (zN R.hg R.ix ()) R.hg,u (zN R.hn R.ix ()) R.hn,u (zN R.ha R.ix ()) R.ha,R.nc,R.ng}
def zcD{O:LV}{_E:XK}(F:RnF K t)(h:kz t O H Q _E) :
  Yb K t (aX Q) (zZZ 2 O) H:=by
 let #[x,l,dx,v,e,rfl,C,h2,h3,q]:=h;let #[lb,P,_]:=PO.init C {_,C};unfold Yb zA;show{_,U,l,[v],U,.inl (aN.of h2),P.so (.lst [v]) 2 () () U F.cl F.n1 () λJ H1 ar P=>P.st U F.cl F.n2 () λH2 P=>P.st U F.cl F.n3 () λH3 P=>P.so (.dK []) 3 () () U F.cl F.n4 () λT H4 an P=>P.so (.dT []) 4 () () U F.cl F.n5 () λI H5 al P=>P.so (.dT []) 5 () () U F.cl F.n6 () λno H6 aa P=>{(),P.so (.lst []) 6 () () U F.cl F.n7 () λB H7 w P=>?_}};let j:∀n c o,(n,c,o)∈_->H7 c=Z o/\w c=n:=λn c o z=>(P.ob (n,c,o) z).2;let A:=j 2 J _ (.tail _ (.tail _ (.tail _ (.tail _ (.head _)))));let o3:=j 3 T _ (.tail _ (.tail _ (.tail _ (.head _))));let o4:=j 4 I _ (.tail _ (.tail _ (.head _)));let o5:=j 5 no _ (.tail _ (.head _));let o6:=j 6 B _ (.head _);let u:∀ {n:Nat}{b:ac},w b=n+2->b=x\/H b=ae:=λ{n b} z=>(P.fr b ()).imp id λy=>y.elim (λy=>by rw[y,P.lx] at z;lia) id;show q H7 {dx,J,T,I,no,B} P.kp {P.hx,{v,A.1,h3.up (λb zs y=>P.kp _ _ (zN y C ()) y)},o3.1,o4.1,o5.1,o6.1,(λz=>by rw[J=B|>z,o6.2] at A;show absurd A.2 ()),λz=>by rw[I=no|>z,o5.2] at o4;show absurd o4.2 ()} λb z=>?_;obtain z|z|z|z|z|z:=z
 .show .inl z
 .show z\u A.2
 .show z\u o3.2
 .show z\u o4.2
 .show z\u o5.2
 .show z\u o6.2
def RwA.hd(h:RwA H v e):∃(r:ac)(j:LV)(f:Str),v=.ref r/\H r=Z (.tup j)/\atI j 0=Z (.str f)/\f≠bb "take"/\f≠bb "go"/\f≠bb "skip"/\f≠bb "off":=by
 cases e with
 |give p n=>let #[r,o,u,a,b,c,d]:=h;show{r,_,_,a,b,U,(),(),(),()}
def Qv{o4 o5:Option V}{R:Ah}{Qr:VK}(j:fS K (.type "int") (.type "str")=Z ah)(o:aV K H t.q0f jw)(h:H l=Z (.lst []))(q:R [Z (.ref tm),Z (.ref sl),Z (.ref l),Z (.int n),o4,o5] (upd H l (.lst [.int n]))) :
  YZ K t { nx:=R,rt:=Qr } [Z (.ref tm),Z (.ref sl),Z (.ref l),Z (.int n),o4,o5] H:=
 {_,U,t.q0f,jw,U,.inr o,U,U,_,U,yz U {_,U,.inl {U,_,aN.of h},zoQ U (.int n) j (yz U {_,U,l,_,_,U,U,h,xg (),q})}}
def zcE{o w:ac}(I:fS K (.type "int") (.type "str")=Z ah)(J:∀H:Hp,aV K H t.q0f jw)(C:H o=Z (.tup [.int n]))(_h2:H w=Z (.dK []))(q:∀H',aH H H'->Q (.int n) H') :
  VY K t (aX Q) (zZZ 6 [.ref o,.ref w]) H:=by
 show{(),λl u=>{_,U,o,U,{_,aV.of (hZ l u _ _ C)},?_}};show zje [.int n] (λi j H'=>aH H H'/\∃A o4 o5,j=[Z (.ref o),Z (.ref w),Z (.ref l),A,o4,o5]/\H' l=Z (.lst ([V.int n].take i))) {hZ l u,_,_,_,U,zh} (λi j H' z=>aV.of (z.1 _ _ C)) ?_ ?_
 .rintro i v j H' B ⟨s,A,o4,o5,rfl,h⟩;obtain rfl:i=0:=Nat.lt_one_iff.mp (bi.mp B).1;cases B;show Qv (Qr:=Q) I (J H') h {j5 s u,_,_,_,U,zh}
 .rintro j H' ⟨s,A,o4,o5,rfl,h⟩;show{_,U,.inl {U,_,aN.of h},l,_,_,U,U,h,U,q _ (j5 s u)}
def zcF{j:LV}{_E:XK}(F:RnF K t)(h:kA t j H Q _E) :
  VZ K t (aX Q) (zZZ 2 j) H:=by let #[x,a,e,rfl,R,q]:=h;let #[v,I,w]:=R.hc;show yW R.ix U U {x,a,e,0,0,U,R,_,U,yz U (yW R.ix U U (ya R.ix F.cl F.n1 U U (ya R.ix F.cl F.n2 U U {a.co,_,_,_,U,U,aN.of I,U,_,U,x,v,a,e,U,R,w,λJ C R1=>?_})))};show{_,U,x,_,_,_,U,R1.ix,F.cl,F.n2,(),q _ (λb o u B A z=>zm u\C b o u B A z) (R1.at_ 1)}
def zoX(h:Ai out)(k:∀p w,(p,w)∈out↔zS e.gi p=Z w):out=e.gi:=Xd h (Y2 e).1 λ⟨p,w⟩=>(k p w).trans (kh (Y2 e).2.1)
def zfI{l:ac}(F:RnF K t)(R1:AG t H x a e 1 1)(J:H l=Z (.lst []))(q:∀v gl H',aH H H'->PpV H' v e l gl->H gl=ae->Q v H') :
  Yh K t (aX Q) [Z (.ref x),Z (.ref l)] H:=by
 show ya R1.ix F.cl F.n3 U U {U,_,U,yz U (ya R1.ix F.cl F.n7 U U {a.sa,_,U,.inl {aN.of R1.ha,λy hy=>{sz2,λp hp=>?_}}})};rw[zgQ] at hp ⊢;generalize c1:upd H y _=H1 at *
 let #[t1,e1]:=AE c1 hy;generalize c2:upd H1 p _=H3 at *
 let #[O,e2]:=AE c2 hp;let u:=t1.trans O;let R3:=R1.same u;let h:=R3.hg;rw[zgP] at h;show{_,U,ya R3.ix F.cl F.n5 U U {a.gi,_,U,h,λT C=>?_}};generalize c3:upd H3 T _=H5;let #[A,e4]:=AE c3 C;let lg:=(Y2 e).2.2;let ld:=Yw e.gi;show{T,a.gi,e.gi,U,e4,A _ _ h,(),λg zs aa H4 s4 fg hg ps ri mi=>{sz3,λB I=>?_}};rw[zoX ri mi] at ps;let w:=hZ (o:=HO.tup [V.ref p,V.ref l,V.ref g]) B I;let j:=A.trans (s4.trans w);show q (.ref B) g _ (u.trans j) {B,.ref p,U,zh,{p,y,U,j _ _ e2,(O.trans j) _ _ e1},(u.trans j) _ _ J,zs,w _ _ hg,Qd w ps} (yy u (yy A fg))
def zam{w:LV}{_E:XK}(F:RnF K t)(h:q8 t w H Q _E) :
  Wm K t (aX Q) (zZZ 2 w) H:=by let #[x,a,e,rfl,R,q]:=h;show yW R.ix U U {x,a,e,1,1,U,R,_,U,yz U (ya R.ix F.cl F.n6 U U {a.no,_,U,R.hn,λr I=>?_})};generalize c1:upd H r _=Hv;let #[j,T]:=AE c1 I;show{r,a.no,[],U,T,j _ _ R.hn,(),λl ys H1 A J o B=>?_};cases B;let u:=j.trans A;show zfI F (R.same u) o λv O H' s Y C=>q v l O H' (u.trans s) Y (yy j J) (yy u C)
end
section
variable {lb2:AN_}{o:HO}{D':DkV}
def OwL.at(h:OwL H lb L)(e:L[i]?=Z (b,o)):H b=Z o:=(h.ob i b o e).1
def OwL.out(h:OwL H lb L)(e:H b=ae):lb b=0:=eU λz=>by let #[o,y]:=h.ow b z;rw[e] at y;cases y
def OwL.put(h:OwL H lb L)(e:L[i]?=Z (b,o)):OwL (upd H b o') lb (L.set i (b,o')):=by
 let k:=h.ob i b o e;show{λj c u z=>?_,λc z=>let ⟨u,y⟩:=h.ow c z;kS c u y};by_cases ij:j=i
 .subst ij;rw[gN (bi.mp e).1] at z;cases z;show{zh,k.2}
 .rw[lN (cY ij)] at z;let #[w,m]:=h.ob j c u z;show{zm (λy=>by rw[y,k.2] at m;lia)\w,m}
def Fr.same(s:aH H H'):Fr M H H' lb lb:={λ_ _ _=>rfl,λ_ _ _ e=>s _ _ e,λ_ _ e=>s _ _ e,λ_ o e=>{o,s _ _ e}}
def Fr.trans(h:Fr M H H' lb lb')(k:Fr M H' H2 lb' lb2):Fr M H H2 lb lb2:=
 {λb o e=>let ⟨o',e'⟩:=h.al b o e;(k.ex b o' e').trans (h.ex b o e),λb o z e=>k.kp b o (h.ex b o e\z) (h.kp b o z e),λb zs e=>k.ts _ _ (h.ts _ _ e),λb o e=>let ⟨o',e'⟩:=h.al b o e;k.al b o' e'}
def Fr.m0(h:Fr M1 H H' lb lb'):Fr M0 H H' lb lb':={h.ex,λb o z e=>h.kp b o (z.imp id λy=>()) e,h.ts,h.al}
def OwL.fput(h:OwL H lb L)(e:L[i]?=Z (b,o))(n:∀j,o≠.tup j)(k:i<9):Fr M1 H (upd H b o') lb lb:=by show{λ_ _ _=>rfl,λc u z y=>?_,Qj (h.at e) n,kS};let l:=(h.ob i b o e).2;let z:lb c=0\/14<=lb c:=z;show zm (λw=>by rw[w] at z;lia)\y
def AM.ts(h:AM H v oc)(s:TSm H H'):AM H' v oc:=by
 cases oc with
 |done sa=>let #[o,y,e,a,b]:=h;show{o,y,e,s _ _ a,s _ _ b}
 |off w=>let #[o,e,a]:=h;show{o,e,s _ _ a}
def PrAt.ts{q:Row}(h:PrAt H v q)(s:TSm H H'):PrAt H' v q:=let ⟨p,r,e,h1,h2⟩:=h;{p,r,e,s _ _ h1,s _ _ h2}
def gV.to{rs:zG}(h:gV H l rs)(s:TSm H H')(k:∀o,H l=Z o->H' l=Z o):gV H' l rs:=let ⟨xs,hx,px⟩:=h;{xs,k _ hx,Paired.mapP px λ_ _ z=>PrAt.ts z s}
def gV.has{rs:zG}(h:gV H l rs):∃o,H l=Z o:=let ⟨xs,hx,_⟩:=h;{_,hx}
def PpV.to(h:PpV H v e nl gl)(s:TSm H H')(k:∀o,H nl=Z o->H' nl=Z o)(j:∀o,H gl=Z o->H' gl=Z o):PpV H' v e nl gl:=by let #[r,o,B,A,w,u,m]:=h;show{r,o,B,s _ _ A,w.ts s,k _ u,m.to s j}
def PpV.same(h:PpV H v e nl gl)(s:aH H H'):PpV H' v e nl gl:=h.to (.of s) (λo e=>s _ _ e) λo e=>s _ _ e
def PpA.fr(h:PpA H lb v e)(F:Fr M H H' lb lb')(w:M 14):PpA H' lb' v e:=by let #[A,C,p,m,k]:=h;let #[r,o,O,J,I,B,j]:=id p;let #[u,j]:=j.has;show{A,C,p.to F.ts (λo e=>F.kp _ _ (m\w) e) (λo e=>F.kp _ _ (k\w) e),(F.ex _ _ B).trans m,(F.ex _ _ j).trans k}
def OwL.same(h:OwL H lb L)(s:aH H H'):OwL H' lb L:={λi b o e=>{s _ _ (h.ob i b o e).1,(h.ob i b o e).2},λb z=>let ⟨o,e⟩:=h.ow b z;{o,s _ _ e}}
def AI.same(h:AI t H d a lb n f D)(s:aH H H'):AI t H' d a lb n f D:={h.o.same s,h.m.same s,s _ _ h.r.1,h.r.2}
def AI.set(h:AI t H d a lb n f D)(e:(dkL t d a n f D)[i]?=Z (b,o))(k:∀j,o≠.tup j)(A:i<9)(o':HO)(I:(dkL t d a n f D).set i (b,o')=dkL t d a n f D')(C:D'.g=D.g)(B:(D'.ls,D'.fo)=(D.ls,D.fo)):AI t (upd H b o') d a lb n f D'/\Fr M1 H (upd H b o') lb lb:=by
 let F:=h.o.fput (o':=o') e k A;let l:=(h.o.ob i b o e).2;show{{[<-I]\h.o.put e,?_,?_,h.r.2},F}
 .let #[O,J]:=rH B;show [C,O,J]\h.m.keep λc u z y=>zm (λw=>by rw[w] at z;lia)\y
 .let:=h.r.2;show zm (λw=>by rw[w] at this;lia)\h.r.1
open Classical in
def AI.relab{N:Ak}(m:Nat)(J:14<=m)(h:AI t H d a lb n f D)(s:aH H H')(j:∀b,N b->H b=ae/\∃o,H' b=Z o):∃lb',Fr M H H' lb lb'/\AI t H' d a lb' n f D/\∀b,N b->lb' b=m:=by
 let u:∀b,N b->lb b=0:=λb z=>h.o.out (j b z).1;let w:∀b,lb b≠0->(if N b then m else lb b)=lb b:=λb z=>aj λy=>z (u b y);let k:(λb=>(if N b then m else lb b)=10)=λb=>lb b=10:=funext λb=>propext (by
  by_cases y:N b
  .rw[ak y,u b y];lia
  .rw[aj y])
 show{λb=>if N b then m else lb b,{λb o e=>aj (λy=>by rw[(j b y).1] at e;cases e),λb o _ e=>s _ _ e,λb I e=>s _ _ e,λb o e=>{o,s _ _ e}},{{λi b o e=>?_,λb A=>?_},k\h.m.same s,s _ _ h.r.1,(w _ (by rw[h.r.2];decide)).trans h.r.2},λb z=>ak z}
 .let #[C,B]:=h.o.ob i b o e;show{s _ _ C,(w b ()).trans B}
 .by_cases y:N b
  .show(j b y).2
  .let #[o,e]:=h.o.ow b (λz=>A ((aj y).trans z));show{o,s _ _ e}
def AI.relay{F':Ak}{fo':Int}(h:AI t H d a lb n f D)(k:∀b o,lb b≠10->H b=Z o->H' b=Z o)(I:TSm H H')(M:hV t H' a.mks F' g' ls' fo')(A:∀b,F' b->lb b=10\/H b=ae)(j:∀b,lb b=10->F' b):∃lb',Fr M1 H H' lb lb'/\AI t H' d a lb' n f { D with g:=g',ls:=ls',fo:=fo' }:=by
 classical
 let e0:∀b,lb b≠0->¬ lb b=10->¬ F' b:=λb z y w=>(A b w).elim y λv=>by let #[o,e]:=h.o.ow b z;rw[v] at e;cases e
 let B:∀b,lb b≠0->(if F' b then 10 else lb b)=lb b:=λb z=>by
  by_cases y:lb b=10
  .rw[ak (j b y),y]
  .rw[aj (e0 b z y)]
 let u:(λb=>(if F' b then 10 else lb b)=10)=F':=funext λb=>propext {λz=>by
  by_cases y:F' b
  .show y
  .rw[aj y] at z;show j b z,λz=>ak z}
 let C:∀b o,H b=Z o->∃o',H' b=Z o':=λb o e=>by
  by_cases y:lb b=10
  .show M.own b (j b y)
  .show{o,k b o y e}
 let J:=h.r.2;show{λb=>if F' b then 10 else lb b,{λb o e=>?_,λb o z e=>k b o (by unfold M1 at z;lia) e,I,C},{λi b o e=>?_,λb O=>?_},u\M,k _ _ () h.r.1,(B _ ()).trans J}
 .by_cases y:F' b
  .show ak y\((A b y).resolve_right λz=>by rw[z] at e;cases e).symm
  .rw[aj y]
 .let #[h1,T]:=h.o.ob i b o e;let:=(bi.mp e).1;let l9:(dkL t d a n f { D with g:=g',ls:=ls',fo:=fo' }).length=9:=rfl;show{k b o () h1,(B b ()).trans T}
 .by_cases y:F' b
  .show M.own b y
  .let #[o,e]:=h.o.ow b (λz=>O ((aj y).trans z));show C b o e
def zeu{k:Ah}{B:V->St->Hp->Ah->Prop}(w:H l=Z (.lst []))(q:k j H) :
  ∃W:Nat->Nat->Ah,(∃m,W 0 m j H)/\∀i m j H,W i m j H->((Itl K l).stop i H/\k j H)\/((Itl K l).go i H/\∃N:Ah,(∀h H',N h H'->∃u,u<m/\W (i+1) u h H')/\∀x H',(Itl K l).yld i H x H'->B x j H' N):=
 {λi _ h H'=>i=0/\h=j/\H'=H,{0,U,U,U},by rintro i m h H' ⟨rfl,rfl,rfl⟩;show .inl {{_,aN.of w,bh _},q}}
def zh9{r:Int} :yD [((.inl r:Key),v)] (.inl r)=Z v:=xl rfl
def zkT{r:Int} :yU [((.inl r:Key),v)] (.inl r)=[]:=by simp[yU]
def AI.jb(h:AI t H d a lb n f D):H a.jb=Z (.ins t.q06 a.dj (zmf a.mks a.la a.re a.db)):=h.o.at (i:=2) rfl
def Qw{p l:ac}{k:Nat}{w:V}{R:Ah}(m:H l=Z (.lst []))(q:∀u H',aH H H'->R u H') :
  YC (vt K (AH (wz K) (zd 3) (yT (yn wD [] E0 (zf (zd 3) (zf (aL ad (zd 2) (tC (.int 1))) zo)))) (yT (zd 5)))) (zD 6) (XI (yq K (zd 0) "doubted") (zd 6) (tC (.bl af))) { nx:=R,rt:=Q } [Z (.ref a.jb),Z (.ref p),Z (.int aE),Z (.ref l),Z w,Z (.int k),ae] H:=by
 show{_,U,_,U,_,U,_,_,U,U,l,[],_,U,m,.nil,λj C h _ _ _=>{j,U,_,U,k,U,l,_,U,aN.of (h _ _ m),λz A=>?_}};let B:vV [] (Z (j:Int)) (Z (k:Int))=[]:=by unfold vV;simp
 show B\{z,U,{_,aN.of zh},zeu zh (q _ _ (h.trans (hZ z A)))}
def zmv{r m B l:ac}{o:V}{o4 o5:Option V}(F:DkF K t)(h:AI t H d a lb n f D)(J:H r=Z (.tup [o,.ref m,.ref B]))(I:H m=Z (.lst []))(A:M1 (lb m))(u:D.la=[]/\D.db=[])(q:∀H',Fr M1 H H' lb lb->AI t H' d a lb n f { D with la:=[(.inl aE,.ref r)],db:=[aE] }->Q .non H') :
  jZ K t (aX Q) [Z (.ref a.jb),Z (.int aE),Z (.ref r),Z (.ref l),o4,o5] H:=by let #[w,T]:=h.set (i:=6) (D':={ D with la:=[(.inl aE,.ref r)] }) rfl () () (.dK (xW D.la (.inl aE) (.ref r))) (u.1\U) U rfl;let #[C,O]:=w.set (i:=7) (D':={ D with la:=[(.inl aE,.ref r)],db:=[aE] }) rfl () () (.dK (xW (dbL D.db) (.inl aE) (.bl af))) (u.2\U) U rfl;let G:=T.trans O;let j:=G.kp _ _ A I;show{_,U,ya h.jb F.cJ F.j2 U U {_,U,a.la,_,U,DPut.k (k:=.inl aE) (h.o.at (i:=6) U) (u.1\xg ()),?_}};show ya w.jb F.cJ F.j4 U U {_,U,a.db,_,U,DPut.k (k:=.inl aE) (w.o.at (i:=7) U) (by change (dbL D.db).length<_;show u.2\xg ()),_,U,r,_,1,_,U,U,aV.of (G.ts _ _ J),U,m,U,{_,aN.of j},zeu j (q _ G C)}
def Wr{vs:LV}{_E:XK}(F:DkF K t)(h:wa t vs H Q _E) :
  qv K t (aX Q) (zZZ 6 vs) H:=by
 let #[d,nl,gl,v,e,a,lb,n,f,aE,D,rfl,h,h2,h3,h4,h5,nr,h6,h7,q]:=h;let #[r,o,rfl,e1,e2,e3,e4]:=id h3;let #[dx,gr,O,rk,wk,kx,M]:=hV.ex h.m;show ya h.jb F.cJ F.j1 U U {a.mks,_,_,U,M.im,vB (),_,U,_,_,_,_,_,_,U,h.m,λl ys gs H1 m aS aI hy ho=>?_};obtain rfl:gs=[]:=(ho.resolve_left λz=>nr (bX (f:=(·.1)) z)).2;cases hy;let h1:=h.same m;let lg:=(Y2 e).2;show ya h1.jb F.cJ F.j1 U U {a.mks,_,_,U,m _ _ M.im,vB (),_,U,_,U,r,_,2,_,U,U,aV.of (m _ _ e1),U,_,_,_,_,_,_,_,_,U,h1.m,h2.2,h2.1,e4.to (.of m) (λo z=>m _ _ z),(λz=>by let h5:lb gl=0\/14<=lb gl:=h5;lia),{lg.1,bR lg.2 ()},bR h6 (),λH2 F2 k2 t2 m2 f2 g2=>?_};rw[zkw nr] at m2;let #[lb2,B,C]:=h1.relay k2 t2 m2 f2 g2;let G2:=(Fr.same (M:=M1) m).trans B;let ar:H2 l=Z (.lst []):=B.kp _ _ (.inl (h.o.out aS)) aI;clear M wk kx;let #[dx,gr,O,rk,wk,kx,M]:=hV.ex C.m;show{_,U,ya C.jb F.cJ F.j1 U U {a.mks,_,_,U,M.im,vB (),_,U,_,_,_,_,_,_,U,C.m,λl2 j gs2 H3 s3 a1 an A al=>?_}};let w:zaf gs2:=al.elim (λz=>(C.m.ok _ z).2) λz=>z.2\{gZ,bP _}
 let aW:j.length<=63:=zn1 A w.nd\w.le
 let T:=zoR A;show{l,l2,[],j,U,U,s3 _ _ ar,an,[cp,iW]\(),λp aa=>?_};generalize c_:upd H3 p _=H4;let #[s4,k]:=AE c_ aa;let S4:=s3.trans s4;let D4:=C.same S4;rw[eQ] at k;show{p,U,{_,aN.of k},xY j (λi I H'=>(∃o4 o5,I=[Z (.ref a.jb),Z (.int aE),Z (.ref r),Z (.ref l),o4,o5])/\aH H4 H') {{_,_,U},aH.refl _} (λi I H' z=>aN.of (z.2 _ _ k)) ?_ ?_}
 .rintro i u I H' hu ⟨⟨o4,o5,rfl⟩,s⟩;let #[c,q0,rfl,hc]:=T u (b7 hu);show yW (D4.same s).jb U U {_,U,_,U,d,c,a,lb2,n,f,aE,_,q0,U,D4.same s,s _ _ (s4 _ _ hc),λH5 s5=>{{_,_,U},s.trans s5}}
 .rintro I H' ⟨⟨o4,o5,rfl⟩,s⟩;let J:=G2.trans (Fr.same (M:=M1) (S4.trans s));show zmv F (D4.same s) (J.ts _ _ e1) (J.kp _ _ h4 e3) (J.ex _ _ e3\h4) h7 λH6 F6 D6=>q H6 lb2 (J.trans F6) D6
def qx{O:LV}{_E:XK}(F:DkF K t)(h:xb t O H Q _E) :
  vi K t (aX Q) (zZZ 4 O) H:=by
 let #[d,a,lb,n,f,D,rfl,h,J,q]:=h;let l1:D.db.length<=1:=by
  obtain z|⟨_,_,_,z,_⟩:=J
  .show z\bP _
  .show z\bh _
 show ya h.jb F.cJ F.j4 U U {a.db,dbL D.db,D.db,U,h.o.at (i:=7) U,by unfold dbL;rw[fh];rfl,by unfold dbL;rw[bd];lia,λl I hl B hw=>?_};let es:I=D.db:=by
  obtain z|⟨r,_,_,z,_⟩:=J
  .rw[z] at B ⊢;show B.eq_nil
  .rw[z] at B ⊢;show List.perm_singleton.mp B
 subst es;generalize c_:upd H l _=H2;let #[A,j]:=AE c_ hl;let C:=h.same A;show{_,U,l,U,{_,aN.of j},?_};obtain z|⟨r,v,e,z,zl,nl,gl,Y,m1,m2⟩:=J
 .rw[z] at j;show zeu j (q _ (Fr.same A) ([({ D with db:=[] }:DkV)=D|>[<-z]\_]\C))
 .rw[z] at j;show xY [V.int r] (λi m H'=>(i=0/\(∃T,m=[Z (.ref a.jb),Z (.ref l),ae,T])/\H'=H2)\/(i=1/\Fr M1 H H' lb lb/\H' l=Z (.lst [V.int r])/\AI t H' d a lb n f { D with db:=[] })) (.inl {rfl,{_,rfl},rfl}) (λi m H' y=>by obtain ⟨_,_,rfl⟩|⟨_,_,y,_⟩:=y;show aN.of j;show aN.of y) ?_ ?_
  .rintro i u m H' hu (⟨rfl,⟨T,rfl⟩,rfl⟩|⟨rfl,_⟩)
   .cases hu;show yW C.jb U U {_,U,d,nl,gl,v,e,a,lb,n,f,r,D,U,C,zl,Y.same A,λH3 w=>?_};let k:=C.same w;let #[g4,F4]:=k.set (i:=7) (D':={ D with db:=[] }) rfl () () (.dK (yU (dbL D.db) (.inl r))) (by rw[z];change _=_;unfold dbL;rw[pB,zkT];rfl) U rfl;show{_,U,U,_,U,yz U (ya k.jb F.cJ F.j4 U U {a.db,U,.inl {_,.inl (k.o.at (i:=7) U)},_,U,_,.inl r,_,k.o.at (i:=7) U,U,z\zh9,.inr {U,(Fr.same (A.trans w)).trans F4,zm (zN (w _ _ j) (k.o.at (i:=7) U) ())\w _ _ j,g4}})}
   .show absurd hu ()
  .rintro m H' (⟨z,_⟩|⟨_,F1,_,g⟩)
   .cases z
   .show q H' F1 g
end
section
variable {m L:ac}{g':zG}{l':Ap}
def zpm{j wo rk:ac}{low aE:Int}:xE (bb "folded") (V.int aE) (vq j low wo rk)=vq j aE wo rk:=by
 let h:bb "ground"≠bb "folded":=()
 simp only[vq,xE,aj h,if_true]
def zpn{j h wo rk:ac}{low:Int}:xE (bb "ground") (V.ref h) (vq j low wo rk)=vq h low wo rk:=by simp only[vq,xE,if_true]
def MrIn.setm{F w:Ak}{g A:zG}{l:Ap}{low k:Int}{dx gr j wo rk:ac}{wk:xC}{kk:yd}(h:MrIn t H m F g l low dx gr wo rk wk kk)(u:∀b,F b->w b)(O:H j=Z (.dT (Ac A)))(f2:w j)(J:j≠rk):MrIn t (upd H m (.ins t.q01 dx (vq j k wo rk))) m w A l k dx j wo rk wk kk:=by
 let n:∀b o,H b=Z o->(∀C d fs,o≠.ins C d fs)->upd H m (.ins t.q01 dx (vq j k wo rk)) b=Z o:=λb o e B=>zm (λz=>by subst z;rw[h.im] at e;show B _ _ _ (cf e).symm)\e
 show{zh,f2,u _ h.fw,u _ h.fk,J,n _ _ O (nofun),n _ _ h.hw (nofun),Paired.mapP h.wp λ_ _ ⟨e,d,e2,fd,I,T⟩=>{e,d,e2,u _ fd,I,n _ _ T (nofun)},
  h.rr.keep2 ([n _ _ h.rr.at_ (nofun),h.rr.at_]\_) (λb xs _ e=>n _ _ e (nofun)) (λb z _=>u b z)}
def  foI(t:aR)(m L:ac)(aE:Int)(g':zG)(l':Ap)(low:Int)(lo:yI)(F:Ak)(H:Hp)(i:Nat)(k:St)(H':Hp):Prop:=(∃u,k=[Z (.ref m),Z (.int aE),Z (.ref L),u])/\∃h,hV t H' m h g' (l'.filter λy=>decide (y.1 ∉ lo.take i)) low/\(∀b o,¬ F b->H b=Z o->H' b=Z o)/\(∀b j,H b=Z (.tup j)->H' b=Z (.tup j))/\(∀b,h b->F b\/H b=ae)/\(∀b,F b->h b)
def zia{m L:ac}{aE low:Int}{F:Ak}{g':zG}{l':Ap}{j:yI}{J:Option V}(MF:MkF K t)(h1:hV t H m F g' l' low)(hL:H L=Z (.lst (j.map V.int)))(nL:¬ F L)(q:∀H' k,(∀b o,¬ F b->H b=Z o->H' b=Z o)->(∀b B,H b=Z (.tup B)->H' b=Z (.tup B))->hV t H' m k g' (l'.filter λy=>decide (y.1 ∉ j)) aE->(∀b,k b->F b\/H b=ae)->(∀b,F b->k b)->Q .non H') :
  Zz K t (aX Q) [Z (.ref m),Z (.int aE),Z (.ref L),J] H:=by
 show{_,U,L,U,{_,aN.of hL},xY (j.map V.int) (foI t m L aE g' l' low j F H) {{_,U},F,[(l'.filter λy=>decide (y.1 ∉ j.take 0))=l'|>mf.mpr λy _=>?s]\h1,λ_ _ _ e=>e,λ_ _ e=>e,λ_ z=>.inl z,λ_ z=>z} (λi σ H' ⟨_,_,_,w,_⟩=>aN.of (w _ _ nL hL)) ?_ ?_}
 .rintro i u σ H' hu ⟨⟨J,rfl⟩,k,M,w,C,A,fg⟩;rw[bn] at hu;let #[r,hr,rfl]:=cj.mp hu;let #[dx,O,wo,rk,wk,kk,h]:=M.ex;show yW h.im U (vB ()) {_,U,m,r,k,g',_,low,U,M,λH2 F2 aa I m2 al T=>{{_,U},F2,?_,λb o n e=>?_,λb B e=>I _ _ (C _ _ e),λb z=>?_,λb z=>T b (fg b z)}}
  .let e:Jj (l'.filter λy=>decide (y.1 ∉ j.take i)) r=l'.filter λy=>decide (y.1 ∉ j.take (i+1)):=by unfold Jj;rw[List.filter_filter,du,hr];show List.filter_congr λy _=>?_;rw[mB];simp only[bK,decide_eq_true_eq,bw,not_or,Option.toList_some,bu];show{λz=>{z.2,z.1},λz=>{z.2,z.1}}
   show [<-e]\m2
  .show aa _ _ (λz=>(A b z).elim n λy=>by rw[e] at y;cases y) (w _ _ n e)
  .obtain z|z:=al b z
   .show A b z
   .by_cases fb:F b
    .show .inl fb
    .show .inr ?_;cases e:H b with
     |none=>rfl
     |some o=>rw[w _ _ fb e] at z;cases z
 .rintro σ H' ⟨⟨J,rfl⟩,k,M,w,C,A,fg⟩;rw[bd,eV] at M;let #[dx,O,wo,rk,wk,kk,h]:=M.ex;show{_,U,_,U,m,_,_,_,U,h.im,MF.cl,MF.f,(),?_};rw[zpm];let nm:∀b o,b≠m->H' b=Z o->upd H' m (.ins t.q01 dx (vq O aE wo rk)) b=Z o:=λb o n e=>zm n\e
  show q _ k (λb o n e=>nm _ _ (λz=>by subst z;show(A b M.me).elim n λy=>by rw[e] at y;cases y) (w _ _ n e)) (λb B e=>nm _ _ (zN (C _ _ e) h.im ()) (C _ _ e)) ?_ A fg;show{λb z=>let ⟨o,e⟩:=M.own b z;kS b o e,M.me,M.nd,M.ok,dx,O,wo,rk,wk,kk,h.setm (λ_ z=>z) h.hg h.fg h.nr}
def  loR(l':Ap)(aE:Int)(i:Nat)(ys:LV)(_:Hp):Prop:=ys=(((l'.take i).map (·.1)).filter λr=>decide (r<aE)).map V.int
def zib{m:ac}{aE low:Int}{F:Ak}{g':zG}{l':Ap}(MF:MkF K t)(h1:hV t H m F g' l' low)(hl:l'.length<=200)(q:∀H' I,(∀b o,¬ F b->H b=Z o->H' b=Z o)->(∀b T,H b=Z (.tup T)->H' b=Z (.tup T))->hV t H' m I g' (l'.filter λy=>decide (y.1 ∉ (l'.map (·.1)).filter λr=>decide (r<aE))) aE->(∀b,I b->F b\/H b=ae)->(∀b,F b->I b)->Q .non H') :
  Jk K t (aX Q) [Z (.ref m),Z (.int aE),ae,ae] H:=by
 let #[dx,gr,wo,rk,k,kk,M]:=h1.ex;let lk:=bZ M.wp;show{wo,_,k,M.hw,.inl U,λo=>?_};let mw:m≠wo:=zN M.im M.hw ();let C:upd H wo (.frz o (.dK k)) wo=Z (.frz o (.dK k)):=zh;let im:upd H wo (.frz o (.dK k)) m=Z (.ins t.q01 dx (vq gr low wo rk)):=zm mw\M.im
 let al:∀b,upd H wo (.frz o (.dK k)) b=ae->H b=ae:=λb e=>by
  by_cases z:b=wo
  .subst z;rw[zh] at e;cases e
  .rw[zm z] at e;show e
 let bk:∀B,aH (upd H wo (.frz o (.dK k))) B->aH H (upd B wo (.dK k)):=λB s b u e=>by
  by_cases z:b=wo
  .subst z;rw[zh,<-M.hw,e]
  .show zm z\s _ _ (zm z\e)
 generalize upd H wo (.frz o (.dK k))=H0 at *
 show ya im MF.cl MF.w U zkB {wo,o,k,U,C,λD O=>?_};let Dw:D≠wo:=λz=>by rw[z,C] at O;cases O
 show Yl (J:=Itk wo o k) l'.length () (λτ=>∃o1,τ=[o1,Z (.int aE)]) (loR l' aE) (λ_ _ _ _ _ h=>h) {_,U} U (λi H s h=>{s _ _ C,()}) (λH s=>{s _ _ C,()}) O ?_ ?_
 .rintro j v τ us B H5 ⟨o1,rfl⟩ s4 hj w ⟨rfl,k0,v0,aa,rfl⟩;let #[y,hy,A,d,e2,_]:=Paired.getP M.wp aa;simp only at A e2;subst A e2;let tk:l'.take (j+1)=l'.take j++[y]:=[du,hy]\U
  show{_,U,_,U,_,_,U,U,_,U,?_};by_cases c:y.1<aE
  .show yN (Fj c) {_,U,{_,U},?_,aH.refl _};unfold loR at w ⊢;let A:(tZ (λr:Int=>decide (r<aE)) [y.1])=[y.1]:=by simp[c]
   rw[tk,bW,pB,uz,A,bW,w];rfl
  .show yz (Fk c) {{_,U},?_,aH.refl _};unfold loR at w ⊢;let A:(tZ (λr:Int=>decide (r<aE)) [y.1])=[]:=by simp[c]
   show [tk,bW,pB,uz,A,cV]\w
 .intro us B aI w s4 hq;unfold loR at w;rw[bV (bh _)] at w;subst w;let S:=bk B s4;let nD:¬ F D:=λz=>by let #[o',e]:=h1.own D z;rw[al D O] at e;cases e
  show{s4 _ _ C,zia MF (h1.keep λb o _ e=>S _ _ e) (zm Dw\hq) nD λH' I fr ts m' ar an=>q H' I (λb o n e=>fr _ _ n (S _ _ e)) (λb T e=>ts _ _ (S _ _ e)) m' (λb z=>(ar b z).imp id λy=>yy S y) an}
def zmw{l:Ap}(h:∀y∈l,y.1<aE):(l.filter λy=>decide (y.1 ∉ (l.map (·.1)).filter λr=>decide (r<aE)))=[]:=List.filter_eq_nil_iff.mpr λy j z=>by rw[decide_eq_true_eq] at z;show z (eN.mpr {bX (f:=(·.1)) j,Fj (h y j)})
def zmx{p:Pl}(h:xo g aM p aE≠0):p∈g.map (·.1)++aM.flatMap λy=>y.2.map (·.1):=by
 unfold xo at h;obtain ⟨e,_⟩|⟨y,hy,w,e,_⟩:=wR p aE aM (-1,(zS g p).getD 0)
 .rw[e] at h;cases e2:zS g p with
  |none=>rw[e2] at h;show absurd U h
  |some w=>show cO _ (bM.mpr {_,vm e2,U})
 .show bD _ (lW.mpr {y,hy,bM.mpr {_,vm e,U}})
def zmy(h:KY (λp=>xo g aM p aE) aF)(k:zkx g aM):aF.length<=63:=by
 let j:∀p∈aF.map (·.1),p∈g.map (·.1)++aM.flatMap λy=>y.2.map (·.1):=λp w=>by let #[r,u,rfl]:=bM.mp w;let z:=(h.2 r.1 r.2).mp u;let o:xo g aM r.1 aE=r.2:=z.1;show zmx (aE:=aE) (o\z.2)
 let:=jH h.1.nd j;rw[bd,bj,ub,bd] at this;let e:(aM.map λy=>(y.2.map (·.1)).length)=aM.map λy=>y.2.length:=fR λy _=>bd ..;rw[e] at this;let k:g.length+_<=63:=k;lia
end
section
variable {k m:Nat}
def AG.has(R:AG t H x ra e k m)(z:OwA x ra b):∃o,H b=Z o:=by
 obtain z|z|z|z|z|z:=z
 .show z\{_,R.ix}
 .rw[z];let #[v,h,_]:=R.hc;show{_,h}
 .show z\{_,R.hs}
 .show z\{_,R.hg}
 .show z\{_,R.hn}
 .show z\{_,R.ha}
def AG.fr{N:Nat}(R:AG t H x ra e k m)(l:∀b,OwA x ra b->lb b=N)(F:Fr M H H' lb lb')(j:M N):AG t H' x ra e k m/\∀b,OwA x ra b->lb' b=N:=by let h:∀ {b o},OwA x ra b->H b=Z o->H' b=Z o:=λ{b o} z e=>F.kp b o (l b z\j) e;show{{h (.inl U) R.ix,let ⟨v,hx,px⟩:=R.hc;{v,h (.inr (.inl U)) hx,px.up F.ts},h (.inr (.inr (.inl U))) R.hs,h (.inr (.inr (.inr (.inl U)))) R.hg,h (.inr (.inr (.inr (.inr (.inl U))))) R.hn,h (.inr (.inr (.inr (.inr (.inr U))))) R.ha,R.nc,R.ng},λb z=>?_};let #[o,e]:=R.has z;show(F.ex b o e).trans (l b z)
def HhA.fr(h:HhA t H lb r v k e)(F:Fr M H H' lb lb')(o:M 20):HhA t H' lb' r v k e:=by let #[tp,x,ra,u,w,R,l]:=h;let #[A,j]:=R.fr l F o;show{tp,x,ra,u,F.ts _ _ w,A,j}
def CoA.fr(h:CoA H lb v e)(F:Fr M H H' lb lb')(u:M 14):CoA H' lb' v e:=by let #[c,x,w,j,o,l]:=h;show{c,x,w,F.kp _ _ (l\u) j,o.up F.ts,(F.ex _ _ j).trans l}
def zkU:M1 20:=.inr ()
def V1:M1 14:=.inr ()
def PhA.fr(h:PhA t H lb m r D ph)(F:Fr M H H' lb lb')(j:M 14)(o:M 20):PhA t H' lb' m r D ph:=by
 cases ph with
 |rest=>show h
 |wait e=>let #[a,b,c,d,f,v,g,z]:=h;show{a,b,c,d,f,v,g,z.fr F j}
 |held k e=>let #[a,b,c,d,v,g,z]:=h;show{a,b,c,d,v,g,z.fr F o}
 |laid e=>let #[a,b,c,d,v,g,z]:=h;show{a,b,c,d,v,g,z.fr F j}
 |done e=>let #[a,b,c,d,f,v,g,z]:=h;show{a,b,c,d,f,v,g,z.fr F j}
structure DkJ(t:aR)(H:Hp)(d:ac)(a:DAd)(lb:AN_)(n f:Int)(S:DS)(ph:Ph)(D:DkV):Prop where
 dk:AI t H d a lb n f D
 eq:D.g=S.g/\D.ls=S.ls/\D.fo=S.fo
 ph:PhA t H lb S.m (f+S.m) D ph
def Au.ex(h:Au t H d a lb n f S ph):∃D,DkJ t H d a lb n f S ph D:=let ⟨D,a,b,c⟩:=h;{D,a,b,c}
def DkJ.g_(J:DkJ t H d a lb n f S ph D):Au t H d a lb n f S ph:={D,J.dk,J.eq,J.ph}
def DkJ.o(J:DkJ t H d a lb n f S ph D):OwL H lb (dkL t d a n f D):=J.dk.o
def DkJ.d0(J:DkJ t H d a lb n f S ph D):H d=Z (.ins t.q02 a.dx (zme a n f)):=J.dk.o.at (i:=0) rfl
def Au.of(h:Au t H d a lb n f S ph)(k:∀b o,lb b≠0->H b=Z o->H' b=Z o)(u:TSm H H')(j:∀b o,H b=Z o->∃o',H' b=Z o'):Au t H' d a lb n f S ph:=by let #[D,J]:=h.ex;let F:Fr (λl=>l≠0) H H' lb lb:={λ_ _ _=>rfl,k,u,j};show DkJ.g_ (D:=D) {{{λi b o e=>by let #[A,w]:=J.o.ob i b o e;show{k b o () A,w},λb z=>let ⟨o,e⟩:=J.o.ow b z;j b o e},J.dk.m.keep (λb o z e=>k b o () e),k _ _ (by rw[J.dk.r.2];decide) J.dk.r.1,J.dk.r.2},J.eq,J.ph.fr F () ()}
def Au.same(h:Au t H d a lb n f S ph)(s:aH H H'):Au t H' d a lb n f S ph:=h.of (λb o _ e=>s _ _ e) (TSm.of s) λb o e=>{o,s _ _ e}
def Au.put(h:Au t H d a lb n f S ph)(B:H b=Z o)(A:∀j,o≠.tup j)(z:lb b=0):Au t (upd H b o') d a lb n f S ph:=h.of (λc u y e=>zm (λw=>y (w\z))\e) (Qj B A) kS
def Au.l0(h:Au t H d a lb n f S ph)(e:H b=ae):lb b=0:=let ⟨_,J⟩:=h.ex;J.o.out e
def Au.ow(h:Au t H d a lb n f S ph)(z:lb b≠0):∃o,H b=Z o:=let ⟨_,J⟩:=h.ex;J.o.ow b z
def PhA.enl(h:PhA t H lb m r D ph)(j:∀e,ph≠.done e):D.en.length=m:=by
 cases ph with
 |done e=>show absurd U (j e)
 |_=>show h.1.2
def DsOk.few(o:DsOk f S):zkx S.g S.ls:=by
 let:∀l:Ap,(∀y∈l,y.2.length=1)->(l.map λy=>y.2.length).sum=l.length:=λl=>by
  induction l with
  |nil=>intro _;rfl
  |cons y l ih=>intro h;rw[bB,oq,ih λz j=>h z (br _ j),h y bp,bJ];lia
 let:=this _ o.l1;let:=o.gl;let:=o.lm;unfold zkx;lia
def Ws{vs:LV}{_E:XK}(F:DkF K t)(h:we t vs H Q _E) :
  qu K t (aX Q) (zZZ 3 vs) H:=by
 let #[d,a,lb,n,f,S,e,rfl,h,q]:=h;let #[D,J]:=h.ex;let #[#[lc,le],ew,ek,ea,eb,cv,aI,c,y,rfl,hc,px,O]:=J.ph;show ya J.d0 F.cD F.d2 U U {a.wy,_,_,U,J.o.at (i:=1) U,U,ya J.d0 F.cD F.d5 U U {a.wl,_,U,.inl (aN.of (J.o.at (i:=4) U)),λl an=>{a.wy,l,f+S.m,U,[zh,ew]\U,?_}}};generalize c0:upd H l _=H1;let #[s1,_]:=AE c0 an;let B:=J.dk.same s1;show ya (B.o.at (i:=0) U) F.cD F.d5 U U {.inl {U,_,aN.of (B.o.at (i:=4) U)},_,U,a.wl,D.ws,f+S.m,U,U,B.o.at (i:=4) U,ew\bu.mpr U,?_};let #[A,w]:=B.set (i:=4) (D':={ D with ws:=[] }) rfl () () (.lst ((D.ws.erase (f+S.m)).map V.int)) ([ew,List.erase_cons_head]\U) U rfl;generalize upd H1 a.wl (.lst ((D.ws.erase (f+S.m)).map V.int))=H2 at *
 let w:=(Fr.same (M:=M1) s1).trans w;let aS:=w.kp _ _ (O\V1) hc;show{_,U,ya (A.o.at (i:=0) U) F.cD F.d4 U U {_,U,ya (A.o.at (i:=0) U) F.cD F.d3 U U {_,_,U,U,a.cl,_,_,_,U,U,aN.of (A.o.at (i:=3) U),([f+(S.m:Int)-f=((S.m:Nat):Int)|>()]\yL aI),λx dx hx ar nx=>?_}}};let j:=vT (C:=t.q03) hx ar;show{x,c,dx,y,e,U,zh,j _ _ aS,(px.up w.ts).same j,λH5 ra k5 R5 u=>{U,sz2,λp hp=>?_}};let s5:aH H2 H5:=λb o e=>k5 b o (zy e hx) (j _ _ e);let ow:∀b,OwA x ra b->H2 b=ae:=λb z=>by
  obtain y|y:=u b z
  .show y\hx
  .show yy j y
 generalize c_:upd H5 p _=H6;let #[s6,e6]:=AE c_ hp;let I:=s5.trans s6;let R6:=R5.same s6;clear R5 j k5 u c_;let #[T,G6,D6,aa]:=A.relab (M:=M1) (N:=OwA x ra) 20 () I λb z=>{ow b z,R6.has z};let #[D7,G7]:=D6.set (i:=5) (D':={ D with ws:=[],kv:=[(.inl 0,.ref p)] }) rfl () () (.dK (xW D.kv (.inl 0) (.ref p))) (ek\U) U rfl;show ya (D6.o.at (i:=0) U) F.cD F.d6 U U {_,U,a.hd,_,U,DPut.k (k:=.inl 0) (D6.o.at (i:=5) U) (by change D.kv.length<_;show ek\xg ()),_,U,_,U,sz3,λp2 al=>?_};let G:=w.trans (G6.trans G7);let s8:=hZ (o:=HO.tup [V.str (bb "take"),V.int 0,V.int (f+S.m)]) p2 al;let R7:=R6.fr aa G7 zkU;show q _ _ T (G.trans (Fr.same s8)).m0 (Au.same (DkJ.g_ {D7,J.eq,{lc,le},U,ea,eb,.ref p,U,p,x,ra,U,G7.ts _ _ e6,R7.1,R7.2}) s8)
end
section
variable {h0:Int}{k m:Nat}
def zmz{I C:Option V}(F:DkF K t)(h:Au t H d a lb n f S ph)(w:(∃e,ph=.wait e/\h0=0)\/(∃k e,ph=.held k e/\h0≠0))(q:mvP t H d a lb n f h0 S ph Q) :
  je K t (aX Q) [Z (.ref d),Z (.int h0),I,C] H:=by
 let #[D,J]:=h.ex;show ya J.d0 F.cD F.d5 U U {bP _,λz O=>?_};generalize c_:upd H z _=H2;let #[j,e2]:=AE c_ O;let B:=J.dk.same j;show{a.wl,z,_,U,U,aN.of (B.o.at (i:=4) U),aN.of e2,_,U,?_};obtain ⟨e,rfl,rfl⟩|⟨k,e,rfl,hn⟩:=w
 .show [D.ws=[f+S.m]|>J.ph.2.1]\yN U (yW (B.o.at (i:=0) U) U U {_,U,d,a,lb,n,f,S,e,U,h.same j,λv H3 u G3 T=>q v H3 u ((Fr.same j).trans G3) T})
 .rw[D.ws=[]|>J.ph.2.1];show yz U {_,U,sz2,λp w=>?_};let A:=j.trans (hZ (o:=HO.tup [V.str "rest",V.int h0]) p w);show q _ _ lb (Fr.same A) ?_;show [nxP f h0 S (.held k e)=(S,.held k e)|>aj hn]\h.same A
def zmA{R:Ah}(F:DkF K t)(O:AI t H d a lb n f D)(J:D.g=S.g/\D.ls=S.ls/\D.fo=S.fo)(T:(D.cs.length=S.m+1/\D.en.length=S.m)/\D.ws=[]/\D.kv=[]/\D.db=[])(ea:D.la=[(.inl (f+S.m),v)])(j:PpA H lb v e)(lm:S.m<=14)(q:mvP t H d a lb n f h0 S (.laid e) Q) :
  jd K t { nx:=R,rt:=Q } [Z (.ref d),Z (.int h0),Z (.int (f+S.m)),o3] H:=by let #[#[B,u],I,ek,w]:=T;let d0:=O.o.at (i:=0) rfl;show ya d0 F.cD F.d9 U U {.inl {U,_,aN.of (O.o.at (i:=8) U)},ya d0 F.cD F.d8 U U {a.jb,_,_,U,O.jb,U,_,U,d,v,e,a,lb,n,f,f+S.m,D,U,O,{ea,w},j,λH2 G2 A=>{a.en,_,_,U,U,A.o.at (i:=8) U,xg (by change D.en.length<1000000;lia),_,U,_,U,sz3,λp C=>?_}}};let #[D3,G3]:=A.set (i:=8) (D':={ D with la:=[],en:=D.en++[v] }) rfl () () (.lst (D.en++[v])) rfl rfl rfl;let G:=G2.trans G3;let h:=hZ (o:=HO.tup [V.str (bb "settle"),V.int h0,V.int (f+S.m)]) p C;show q _ _ lb (G.trans (Fr.same h)).m0 (Au.same (DkJ.g_ {D3,J,{B,by change (D.en++[v]).length=_;rw[bj,u];rfl},I,ek,U,w,v,?_,j.fr G V1}) h);change (D.en++[v])[S.m]?=_;show [<-u]\oQ
def YE{I:LV}{_E:XK}(F:DkF K t)(h:xA t I H Q _E) :
  jY K t (aX Q) (zZZ 4 I) H:=by
 let #[d,a,lb,n,f,h0,S,ph,rfl,h,T,j,O,q]:=h;let #[D,J]:=h.ex;let le:D.en.length=S.m:=J.ph.enl λe z=>by rw[z] at j;show j
 show yW J.d0 U U {d,_,a,n,f,D.en,U,J.d0,J.o.at (i:=8) U,?_};rw[le];let C:D.db=[]\/∃r v e,D.db=[r]/\D.la=[(.inl r,v)]/\PpA H lb v e:=by
  cases ph with
  |rest=>show j.elim
  |wait e=>show .inl J.ph.2.2.2.2.1
  |held k e=>show .inl J.ph.2.2.2.1
  |laid e=>let #[_,_,_,w,v,o,B]:=J.ph;show .inr {_,v,e,w,o,B}
  |done e=>show j.elim
 show ya J.d0 F.cD F.d8 U U {a.jb,_,_,U,J.dk.jb,U,d,a,lb,n,f,D,U,J.dk,C,λH1 A u=>?_};show{_,U,ya (u.o.at (i:=0) U) F.cD F.d8 U U {a.jb,_,_,_,_,U,u.jb,F.cJ,F.j2,U,a.la,_,U,.k (k:=.inl (f+S.m)) (u.o.at (i:=6) U),_,U,?_}};let hc:(((∃e,ph=.wait e/\h0=0)\/(∃k e,ph=.held k e/\h0≠0))/\D.la=[]/\D.db=[])\/∃e,ph=.laid e:=by
  cases ph with
  |rest=>show j.elim
  |wait e=>show .inl {.inl {e,U,j},J.ph.2.2.2.1,J.ph.2.2.2.2.1}
  |held k e=>show .inl {.inr {k,e,U,O k e U},J.ph.2.2.1,J.ph.2.2.2.1}
  |laid e=>show .inr {e,U}
  |done e=>show j.elim
 change if (yD D.la _).isSome=af then _ else _
 obtain ⟨hp,o,w⟩|⟨e,rfl⟩:=hc
 .let ed:({ D with db:=[] }:DkV)=D:=[<-w]\_
  let g1:Au t H1 d a lb n f S ph:={D,[<-ed]\u,J.eq,J.ph.fr A V1 zkU};show o\yz U (yz U {_,U,U,_,U,yz U (zmz F g1 hp λv H' lb' G g=>q v H' lb' (A.m0.trans G) g)})
 .let #[lc,ew,ek,w,v,o,B]:=J.ph;show [o,zh9]\yN U {_,U,U,_,U,yN U (yN U (zmA (D:={ D with db:=[] }) F u J.eq {lc,ew,ek,rfl} o (B.fr A V1) T λv H' lb' G g=>q v H' lb' (A.m0.trans G) g))}
structure MvI(t:aR)(H:Hp)(d:ac)(a:DAd)(lb:AN_)(n f:Int)(S:DS)(D:DkV)(tp x:ac)(ra:RAd)(k:Nat)(e:Dl):Prop where
 o:AI t H d a lb n f D
 eq:D.g=S.g/\D.ls=S.ls/\D.fo=S.fo
 ln:D.cs.length=S.m+1/\D.en.length=S.m
 em:D.ws=[]/\D.la=[]/\D.db=[]
 ek:D.kv=[(.inl 0,.ref tp)]
 ht:H tp=Z (.tup [.int (f+S.m),.ref x])
 rn:AG t H x ra e k k
 l20:∀b,OwA x ra b->lb b=20
def zic{ra:RAd}{o4 o5:Option V}{R:Ah}(F:DkF K t)(I:MvI t H d a lb n f S D tp x ra 1 e)(C:DsOk f S)(q:mvP t H d a lb n f 0 S (.held 1 e) Q) :
  Yi K t { nx:=R,rt:=Q } [Z (.ref d),Z (.int 0),Z (.int (f+S.m)),Z (.ref x),o4,o5] H:=by
 let O:=I.o;let #[q1,T,q3]:=I.eq;let #[ew,ea,eb]:=I.em;let #[D1,G1]:=O.set (i:=5) (D':={ D with kv:=[] }) rfl () () (.dK (yU D.kv (.inl 0))) ([I.ek,zkT]\U) U rfl;show ya (O.o.at (i:=0) U) F.cD F.d6 U U {a.hd,U,.inl {_,.inl (O.o.at (i:=5) U)},_,U,_,.inl 0,_,O.o.at (i:=5) U,U,[I.ek,zh9]\_,?_};let R1:=(I.rn.fr I.l20 G1 zkU).1;generalize upd H a.hd (.dK (yU D.kv (.inl 0)))=H1 at *
 show ya (D1.o.at (i:=0) U) F.cD F.d8 U U {a.jb,_,_,U,D1.jb,U,_,U,yW R1.ix U U {x,ra,e,U,R1,λv w A H2 s2 Y n1 n2=>?_}};let #[h,G2,D2,J]:=D1.relab (M:=M1) (N:=λb=>b=w\/b=A) 14 () s2 λb z=>by
  let #[r,o,_,_,_,e3,j]:=id Y;let #[u,j]:=j.has;obtain z|z:=z
  .show z\{n1,_,e3}
  .show z\{n2,_,j}
 let m1:M1 (h w):=J w (.inl U)\V1
 let m2:M1 (h A):=J A (.inr U)\V1
 let an:=C.ll;let lm:=C.lm;let f0:=C.f0;let fo:=C.fo;show{d,w,A,v,e,a,h,n,f,f+S.m,_,U,D2,{(),by change D.fo<=_;show q3\fo},Y,m1,m2,(by change _ ∉ D.ls.map (·.1);rw[T];intro z;let #[y,hy,ey]:=bM.mp z;let:=C.lr y hy;lia),(by change D.ls.length<=20;rw[T];lia),{ea,eb},λH3 al B D3=>{_,U,_,U,sz3,λp hp=>?_}};let G:=G1.trans (G2.trans B);let s4:=hZ (o:=HO.tup [V.str (bb "lay"),V.int 0,V.int (f+S.m)]) p hp;let aa:=Y.to B.ts (λo y=>B.kp _ _ m1 y) (λo y=>B.kp _ _ m2 y);let #[_,_,_,_,_,e3,j]:=Y;let #[u,j]:=j.has;show q _ _ al (G.trans (Fr.same s4)).m0 (Au.same (DkJ.g_ (S:={ S with ls:=S.ls++[(f+S.m,e.gi)] }) (ph:=.laid e) {D3,{q1,by change D.ls++_=_;rw[T],q3},I.ln,ew,U,U,v,U,w,A,aa,(B.ex _ _ e3).trans (J w (.inl U)),(B.ex _ _ j).trans (J A (.inr U))}) s4)
def zid{u x:ac}{ra:RAd}{o4 o5:Option V}(F:DkF K t)(I:MvI t H d a lb n f S D u x ra 0 e)(q:mvP t H d a lb n f 0 S (.held 0 e) Q) :
  Yj K t (aX Q) [Z (.ref d),Z (.int 0),Z (.int (f+S.m)),Z (.ref x),o4,o5] H:=by
 let O:=I.o;let R:=I.rn;show yW R.ix U U {x,ra,e,U,R,_,U,U,_,U,yN U (yW R.ix U U {x,ra,e,U,R,λh C R1=>{_,U,_,U,sz3,λp T=>?_}})};let B:∀b o,¬ OwA x ra b->H b=Z o->h b=Z o:=λb o z y=>C b o (λw=>z (.inl w)) (λw=>z (.inr (.inr (.inr (.inr (.inr w)))))) (λw=>z (.inr (.inr (.inr (.inl w))))) y;let j:∀b o,H b=Z o->∃o',h b=Z o':=λb o y=>by
  by_cases z:OwA x ra b
  .show R1.has z
  .show{o,B b o z y}
 let G:Fr (λl=>l≠20) H h lb lb:={λ_ _ _=>rfl,λb o z y=>B b o (λw=>z (I.l20 b w)) y,R.kp C,j};let J:AI t h d a lb n f D:={{λi b o y=>by let #[h1,h2]:=O.o.ob i b o y;let:i<9:=(bi.mp y).1;show{G.kp b o (by change lb b≠20;lia) h1,h2},λb z=>let ⟨o,y⟩:=O.o.ow b z;j b o y},O.m.keep (λb o z y=>G.kp b o (by change lb b≠20;lia) y),G.kp _ _ (by change lb a.re≠_;rw[O.r.2];decide) O.r.1,O.r.2}
 let G0:Fr M0 H h lb lb:={λ_ _ _=>rfl,λb o z y=>G.kp b o (by let z:lb b=0\/lb b=14:=z;change lb b≠20;lia) y,G.ts,j};let A:=hZ (o:=HO.tup [V.str (bb "step"),V.int 0,V.int (f+S.m)]) p T;let #[ew,ea,eb]:=I.em;show q _ _ lb (G0.trans (Fr.same A)) (Au.same (DkJ.g_ (ph:=.held 1 e) {J,I.eq,I.ln,ew,ea,eb,_,I.ek,u,x,ra,U,G.ts _ _ I.ht,R1,I.l20}) A)
def zan{C:LV}{_E:XK}(F:DkF K t)(h:Za t C H Q _E) :
  Wn K t (aX Q) (zZZ 6 C) H:=by
 let #[d,a,lb,n,f,h0,S,ph,rfl,h,O,j,hh,q]:=h;let #[D,J]:=h.ex;show{_,U,_,_,U,U,_,U,yz (Fk ()) {_,U,ya J.d0 F.cD F.d1 U U {_,_,U,U,_,U,yz (Fk ()) {_,U,ya J.d0 F.cD F.d6 U U {a.hd,_,U,.k (k:=.inl h0) (J.o.at (i:=5) U),_,U,?_}}}}};let hc:(yD D.kv (.inl h0)=ae/\∀k e,ph=.held k e->h0≠0)\/∃k e,ph=.held k e/\h0=0:=by
  cases ph with
  |rest=>show j.elim
  |wait e=>show .inl {[D.kv=[]|>J.ph.2.2.1]\U,nofun}
  |laid e=>show .inl {[D.kv=[]|>J.ph.2.2.1]\U,nofun}
  |done e=>show j.elim
  |held k e=>
   by_cases c:h0=0
   .show .inr {k,e,U,c}
   .let #[_,_,_,_,v,w,_]:=J.ph;show .inl {w\xm λz=>c (Sum.inl.inj z).symm,λ_ _ _=>c}
 change if (!(yD D.kv (.inl h0)).isSome)=af then _ else _
 obtain ⟨u,nh⟩|⟨k,e,rfl,rfl⟩:=hc
 .show u\yN U (yW J.d0 U U {_,U,d,a,lb,n,f,h0,S,ph,U,h,O.1,j,nh,q})
 .let #[T,ew,ea,eb,v,w,o,x,ra,rfl,B,R,A]:=id J.ph;let u:yD D.kv (.inl 0)=Z (.ref o):=[w,zh9]\_
  let I:MvI t H d a lb n f S D o x ra k e:={J.dk,J.eq,T,{ew,ea,eb},w,B,R,A};let dg:Ay H a.hd (.int 0) (Z (.ref o)):=u ▸ .k (k:=.inl 0) (J.o.at (i:=5) U);rw[u];show yz U (ya J.d0 F.cD F.d6 U U {_,U,a.hd,_,U,dg,o,_,0,_,U,U,aV.of B,U,ya J.d0 F.cD F.d6 U U {_,U,a.hd,_,U,dg,o,_,1,_,U,U,aV.of B,U,yW R.ix U U {x,ra,e,k,k,U,R,_,U,?_}}});let j:k<=1:=j;obtain rfl|rfl:k=0\/k=1:=by lia
  .show yz U (zid F I q)
  .show yN U (zic F I (O.2 _ _ U) q)
end
section
variable {h:Int}
def Fr.up{M:Nat->Prop}(h:Fr M H H' lb lb')(k:H' l=Z (.lst xs))(j:H l=ae):Fr M H (upd H' l (.lst ys)) lb lb':={h.ex,λb o z e=>zm (λy=>by rw[y,j] at e;cases e)\h.kp b o z e,λb zs e=>Qj k () _ _ (h.ts b zs e),λb o e=>let ⟨o',e'⟩:=h.al b o e;kS b o' e'}
def  TnI(n:Int)(i t:Nat):Prop:=t<8/\((i:Int)+t)%n=0
def zn7(m:1<=n)(k:n<=8)(i:Nat):∃t,TnI n i t:=by let j:=dL (-(i:Int)) (n≠0|>());let o:=dc (-(i:Int)) (0<n|>());show{(-(i:Int)%n).toNat,(),?_};show [ma j,Int.emod_def (-(i:Int)) n,(i:Int)+(-(i:Int)-n*(-(i:Int)/n))=n*(-(-(i:Int)/n))|>Int.mul_neg\()]\Int.mul_emod_right ..
def  S2(f:Int)(S:DS)(e:Dl):DS:={ S with ls:=S.ls++[(f+S.m,e.gi)] }
inductive FnP(n f:Int)(S:DS)(e:Dl):Nat->Nat->DS->Ph->Prop
 |w:FnP n f S e 0 50 S (.wait e)
 |h0 {i t:Nat}:TnI n i t->FnP n f S e i (20+t) S (.held 0 e)
 |h1 {i t:Nat}:TnI n i t->FnP n f S e i (10+t) S (.held 1 e)
 |l {i:Nat}:FnP n f S e i 5 (S2 f S e) (.laid e)
 |d {i:Nat}:FnP n f S e i 0 (S2 f S e) (.done e)
def FnP.next(P:FnP n f S e i m S' ph)(h1:1<=n)(I:n<=8)(C:∀e,ph≠.done e):∃B,B<m/\FnP n f S e (i+1) B (nxP f ((i:Int)%n) S' ph).1 (nxP f ((i:Int)%n) S' ph).2:=by
 let A:∀ {t:Nat},TnI n i t->¬ (i:Int)%n=0->t≠0/\TnI n (i+1) (t-1):=λ{t} T c=>by let #[J,e]:=T;let j:t≠0:=λz=>c (by rw[z,(i:Int)+((0:Nat):Int)=i|>()] at e;show e);show{j,(),[((i+1:Nat):Int)+((t-1:Nat):Int)=i+t|>()]\e}
 let #[u,k]:=zn7 h1 I (i+1);let:=k.1;cases P with
 |w=>show{20+u,(),.h0 k}
 |@h0 _ t T=>
  by_cases c:(i:Int)%n=0
  .show [nxP f ((i:Int)%n) S (.held 0 e)=(S,.held 1 e)|>c\U]\{10+u,(),.h1 k}
  .rw[nxP f ((i:Int)%n) S (.held 0 e)=(S,.held 0 e)|>aj c];let #[j,o]:=A T c;show{20+(t-1),(),.h0 o}
 |@h1 _ t T=>
  by_cases c:(i:Int)%n=0
  .show [nxP f ((i:Int)%n) S (.held 1 e)=(S2 f S e,.laid e)|>c\U]\{5,(),.l}
  .rw[nxP f ((i:Int)%n) S (.held 1 e)=(S,.held 1 e)|>aj c];let #[j,o]:=A T c;show{10+(t-1),(),.h1 o}
 |l=>show{0,(),.d}
 |d=>show absurd U (C e)
def FnP.is(P:FnP n f S e i m S' ph):S'.m=S.m/\((S'=S2 f S e/\ph=.done e)\/((∀e,ph≠.done e)/\okP ((i:Int)%n) ph/\∀k e,ph=.held k e->S'=S)):=by
 cases P with
 |w=>show{U,.inr {(),Int.zero_emod n,nofun}}
 |h0=>show{U,.inr {(),bP 1,λ_ _ _=>rfl}}
 |h1=>show{U,.inr {(),bh 1,λ_ _ _=>rfl}}
 |l=>show{U,.inr {(),trivial,nofun}}
 |d=>show{U,.inl {U,U}}
def PhA.lens{lb:AN_}{r:Int}(h:PhA t H lb m r D ph)(k:∀e,ph≠.done e)(j:ph≠.rest):D.cs.length=m+1/\D.en.length=m:=by
 cases ph with
 |rest=>show absurd U j
 |done e=>show absurd U (k e)
 |_=>show h.1
def  FnE(t:aR)(H:Hp)(d l:ac)(a:DAd)(lb:AN_)(n f:Int)(S:DS)(e:Dl)(m:Nat)(k:St)(H':Hp):Prop:=k=[Z (.ref d),Z (.ref l)]/\∃lb' xs j ph,FnP n f S e xs.length m j ph/\xs.length+m<=50/\Fr M0 H H' lb lb'/\H' l=Z (.lst xs)/\lb' l=0/\Au t H' d a lb' n f j ph
end
def zao{vs:LV}{_E:XK}(D:DkF K t)(MF:MkF K t)(h:jD t vs H Q _E) :
  Ze K t (aX Q) (zZZ 5 vs) H:=by
 let #[x,l,w,dx,dw,n,f,g,rfl,h1,h2,h3,h4,nw,q]:=h;let #[lb,P,lw,_]:=PO.init (w:=w) h1 {_,h4};let P:PO H x w _ H lb (λ_=>False) [(2,w,.ins t.q07 dw [])]:={P.hx,P.lx,λe he=>by cases bu.mp he;show{(),h4,lw nw},P.ow,P.kp,P.fr,P.f10};let #[xs,hx,px]:=h2;let a8:l≠x:=zN hx h1 ();unfold Ze zA;show P.sv U U D.cD D.d1 () λH1 P=>P.sv U U D.cD D.d2 () λH2 P=>P.sv U U D.cD D.d3 () λH3 P=>{(),P.so (.lst []) 4 () () U D.cD D.d4 () λcl H4 u P=>{(),P.so (.lst []) 5 () () U D.cD D.d5 () λwl H5 B P=>P.so (.dK []) 6 () () U D.cD D.d6 () λhd H9 bS P=>?_}};show{_,U,?_};intro m dm hm aS nm;let sm:aH H9 (upd (upd H9 dm (HO.own m)) m (HO.ins t.q01 dm [])):=λb o e=>[zm (zy e hm),zm (zy e aS)]\e
 let aI:gV H9 l g:={xs,P.kp _ _ a8 hx,Paired.mapP px λ_ _ ⟨r,p,e,e1,e2⟩=>{r,p,e,P.kp _ _ (zN e1 h1 ()) e1,P.kp _ _ (zN e2 h1 ()) e2}};show{m,l,dm,g,U,zh,aI.same sm,h3,λH10 F ar a6 a5=>{U,?_}};let al:aH H9 H10:=λb o e=>ar b o (zy e hm) (sm _ _ e);let fF:∀b,F b->H9 b=ae:=λb z=>by
  obtain y|y:=a5 b z
  .show y\hm
  .cases e:H9 b with
   |none=>rfl
   |some o=>let:=sm b o e;rw[y] at this;cases this
 let #[bI,P',b8,_]:=(P.same al).lab (N:=F) (F':=F) 10 (λb=>{λz=>z.elim (λy=>y.1) dD,λz=>.inl {z,U}}) λb z=>{(P.l0 (fF b z)).1,(P.l0 (fF b z)).2,a6.own b z};replace P:=P';clear P' ar a5 al sm hm aS nm aI fF;show P.stM a6 U D.cD D.d7 () λj P bt=>?_;show{_,U,x,_,_,_,_,U,P.hx,D.cD,D.d7,U,?_};intro jb dj hj aW nj;let sj:aH j (upd (upd j dj (HO.own jb)) jb (HO.ins t.q06 dj [])):=λb o e=>[zm (zy e hj),zm (zy e aW)]\e
 show{jb,m,dj,U,zh,λH12 la re db an aa C k J nl nr nd ld=>{U,?_}};let T:aH j H12:=λb o e=>an b o (zy e hj) (sj _ _ e);let fr:∀b,upd (upd j dj (HO.own jb)) jb (HO.ins t.q06 dj []) b=ae->j b=ae:=λb z=>by
  cases e:j b with
  |none=>rfl
  |some o=>let:=sj b o e;rw[z] at this;cases this
 let I:∀b,j b=ae->_:=λb z=>P.l0 z;let bl:=bt.same T;let Q0:=P.same T;let #[b6,Q1,a1,b1]:=Q0.lab (N:=λb=>b=jb) (F':=F) 3 (λb=>{λz=>z.resolve_left (λy=>nomatch y.2),.inr}) λb z=>z\{(I _ hj).1,(I _ hj).2,_,aa}
 let n1:la≠jb:=λz=>by rw[z,zh] at nl;cases nl
 let n2:re≠jb:=λz=>by rw[z,zh] at nr;cases nr
 let n3:db≠jb:=λz=>by rw[z,zh] at nd;cases nd
 let n4:re≠la:=zN k C ();let n5:db≠re:=zN J k ();let #[b5,Q2,a2,b2]:=Q1.lab (N:=λb=>b=la) (F':=F) 7 (λb=>{λz=>z.resolve_left (λy=>nomatch y.2),.inr}) λb z=>[z,b1 _ n1]\{(I _ (fr _ nl)).1,(I _ (fr _ nl)).2,_,C}
 let #[b0,Q3,a3,b3]:=Q2.lab (N:=λb=>b=re) (F':=F) 11 (λb=>{λz=>z.resolve_left (λy=>nomatch y.2),.inr}) λb z=>[z,b2 _ n4,b1 _ n2]\{(I _ (fr _ nr)).1,(I _ (fr _ nr)).2,_,k}
 let #[u,O,a4,b4]:=Q3.lab (N:=λb=>b=db) (F':=F) 8 (λb=>{λz=>z.resolve_left (λy=>nomatch y.2),.inr}) λb z=>[z,b3 _ n5,b2 _ ld.symm,b1 _ n3]\{(I _ (fr _ nd)).1,(I _ (fr _ nd)).2,_,J}
 let y1:u jb=3:=[b4 _ n3.symm,b3 _ n2.symm,b2 _ n1.symm,a1 _ rfl]\_
 let y2:u la=7:=[b4 _ ld,b3 _ n4.symm,a2 _ rfl]\_
 let y3:u re=11:=[b4 _ n5.symm,a3 _ rfl]\_
 let y4:=a4 _ rfl;let P:PO H x w _ H12 u F [(3,jb,.ins t.q06 dj (zmf m la re db)),(7,la,.dK []),(11,re,.dT []),(8,db,.dK []),(6,hd,.dK []),(5,wl,.lst []),(4,cl,.lst []),(2,w,.ins t.q07 dw [])]:={O.hx,O.lx,λe he=>by
  obtain rfl|he:=bo.mp he
  .show{(),aa,y1}
  obtain rfl|he:=bo.mp he
  .show{(),C,y2}
  obtain rfl|he:=bo.mp he
  .show{(),k,y3}
  obtain rfl|he:=bo.mp he
  .show{(),J,y4}
  show O.ob e he,O.ow,O.kp,O.fr,O.f10}
 clear Q0 Q1 Q2 Q3 O a1 a2 a3 a4 b1 b2 b3 b4 y1 y2 y3 y4 n1 n2 n3 n4 n5 T sj an I fr nl nr nd ld hj aW nj aa C k J;show P.stM bl U D.cD D.d8 () λbx P bk=>?_;show{(),λen hc=>?_};let be:=bk.same (hZ en hc (o:=.lst []));let #[B,P']:=P.new (o:=.lst []) 9 () () hc;replace P:=P';clear P';generalize upd bx en (.lst [])=H14 at *
 show P.stM be U D.cD D.d9 () λa7 P a9=>?_;let eF:(λb=>B b=10)=F:=funext λb=>propext (P.f10 b);let A:∀n c o,(n,c,o)∈_->a7 c=Z o/\B c=n:=λn c o z=>(P.ob (n,c,o) z).2;let #[r1,r2]:=A 11 re _ (.tail _ (.tail _ (.tail _ (.head _))));show q a7 {dx,dj,dw,jb,m,w,cl,wl,hd,la,re,db,en} B P.kp (λb o n1 n2 e=>eU λz=>by obtain y|y|y:=P.fr b z;show n1 y;show n2 y;rw[y] at e;cases e) {{[],[],[],[],[],[],g,[],0},{{λi b o e=>?_,P.ow},eF\a9,r1,r2},{U,U,U},{U,U},U,U,U,U}
 match i,e with
 |0,e=>cases e;show{P.hx,P.lx}
 |1,e=>cases e;show A 2 _ _ (.tail _ (.tail _ (.tail _ (.tail _ (.tail _ (.tail _ (.tail _ (.tail _ (.head _)))))))))
 |2,e=>cases e;show A 3 _ _ (.tail _ (.head _))
 |3,e=>cases e;show A 4 _ _ (.tail _ (.tail _ (.tail _ (.tail _ (.tail _ (.tail _ (.tail _ (.head _))))))))
 |4,e=>cases e;show A 5 _ _ (.tail _ (.tail _ (.tail _ (.tail _ (.tail _ (.tail _ (.head _)))))))
 |5,e=>cases e;show A 6 _ _ (.tail _ (.tail _ (.tail _ (.tail _ (.tail _ (.head _))))))
 |6,e=>cases e;show A 7 _ _ (.tail _ (.tail _ (.head _)))
 |7,e=>cases e;show A 8 _ _ (.tail _ (.tail _ (.tail _ (.tail _ (.head _)))))
 |8,e=>cases e;show A 9 _ _ (.head _)
def  zie(x:Str):Prop:=x.length<=20000/\Av x/\10 ∉ x.cps.toList
def zgR(x:Str):x++bb ""=x:=xN ([yf,(bb "").cps.toList=[]|>(),cV]\_)
def zpo:Aq=(⟨#[10]⟩:Str):=()
def zev:∀ls:zO,kO ls=fE Aq (ls++[bb ""])
 |[]=>rfl
 |x::ls=>by let h:=zev ls;change x++Aq++kO ls=_;rw[h];cases ls <;> rfl
def zew:∀ls:zO,fE (bb "") (ls.map λx=>x++Aq)=kO ls
 |[]=>rfl
 |[x]=>(zgR (x++Aq)).symm
 |x::y::ls=>by let h:=zew (y::ls);change x++Aq++bb "" ++ fE (bb "") ((y::ls).map λx=>x++Aq)=x++Aq++kO (y::ls);rw[h,zgR]
def zbD{ls:zO}(h:∀x∈ls,zie x):gu (kO ls) Aq=ls++[bb ""]:=by
 rw[zev,zpo];show qN (λz=>by let:=congrArg eA z;rw[bj] at this;cases this) λw j=>?_;obtain z|z:=bw.mp j
 .show(h w z).2.2
 .rw[bu.mp z];lia
def zgS{ls:zO}(h:∀x∈ls,x.length<=3000)(l:ls.length<=30):(kO ls).length<=100000:=by
 let:∀ls:zO,(∀x∈ls,x.length<=3000)->(kO ls).length<=3001*ls.length:=λls=>by
  induction ls with
  |nil=>intro _;lia
  |cons x ls ih=>
   intro h;let:=ih λy j=>h y (br _ j);let:=h x bp;change (x++Aq++kO ls).length<=_;rw[yB,yB,Aq.length=1|>(),bJ];lia
 let:=this ls h;lia
def V2{A:LV}{_E:XK}(h:Xq A H Q _E) :
  Qc K t (aX Q) (zZZ 1 A) H:=by
 let #[l,ls,rfl,m,h2,C,q]:=h;show{U,_,U,l,U,{_,aN.of m},λD T=>?_};show Yl (J:=Itl K l) ls.length () (λw=>∃o,w=[o]) (λi ys _=>ys=((ls.take i).map λx=>x++Aq).map V.str) (λ_ _ _ _ _ h=>h) {_,U} U (λi H s h=>{_,_,aN.of (s _ _ m),bc (bd\h)}) (λH s=>{_,aN.of (s _ _ m),bd\bh _}) T ?_ ?_
 .rintro i v w ys H4 H5 ⟨o,rfl⟩ u hi k ⟨rfl,j⟩;let j:=j _ (aN.of (u _ _ m));rw[bn] at j;let #[x,B,rfl]:=cj.mp j;let lx:=(C x (b7 B)).1;show yN (R:=False) U {_,U,x,_,U,U,zM ([(bb "\n").length=1|>()]\()),{_,U},?_,aH.refl _};rw[k,du,B,bW,bW];rfl
 .intro ys H4 _ k u O;rw[eV] at k;subst k;show{_,D,_,U,U,aN.of O,?_,[vZ,zew]\q _ u};let:=Jx (bb "") (ls.map λx=>x++Aq) 0;unfold ze5;rw[this,(bb "").length=0|>()];let:∀ls:zO,(∀x∈ls,x.length<=20000/\Av x)->((ls.map λx=>x++Aq).map (·.length)).sum<=20001*ls.length:=λls=>by
   induction ls with
   |nil=>intro _;show bh _
   |cons x ls ih=>
    intro h;let:=ih λy I=>h y (br _ I);let:=(h x bp).1;simp only[bB,oq,bJ];rw[yB,Aq.length=1|>()];lia
  let:=this ls C;show ml (xg ())
def  c33(w:Str):Prop:=∀c∈w.cps.toList,33<=c
def JF(n:Int):c33 (z8 n):=λc h=>by let:=zm9 n c h;lia
def qy{x:String}(h:((bb x).cps.toList.all λc=>decide (33<=c))=af):c33 (bb x):=λc j=>of_decide_eq_true (cx.mp h c j)
def zkV(h:yv w=af):c33 w:=λc j=>by let #[_,_,_,b]:=w6 h;let:=(zbV c (cx.mp b c j)).1;lia
def zn8{k:zO}(h:∀w∈k,c33 w):∀c∈(fE AF k).cps.toList,32<=c:=by
 induction k with
 |nil=>intro c j;cases j
 |cons w k ih=>
  intro c j;cases k with
  |nil=>let:=h w bp c j;lia
  |cons u us=>
   let j:c∈(w++AF++fE AF (u::us)).cps.toList:=j;rw[yf,yf] at j;obtain z|z:=bw.mp j
   .obtain z|z:=bw.mp z
    .let:=h w bp c z;lia
    .let:c=32:=bu.mp z;lia
   .show ih (λv m=>h v (br _ m)) c z
def zif:((cH 1009).all λn=>decide (10 ∉ (zfS (z8 (n:Nat)) 4).cps.toList))=af:=()
def zn9(z:Str):10 ∉ (vp z).cps.toList:=by let #[a,b]:=kE z;let:=cx.mp zif (zh0 z).toNat (gB.mpr ());rw[decide_eq_true_eq,ma a] at this;show this
def zgT(h:∀w∈ws,Wd w)(o:∀w∈ws,c33 w)(l:ws.length<=70):zie (wC ws)/\(wC ws).length<=2999:=by
 let #[m,k,_]:=Yn (xR (bb " ") ws);let u:=YA h;let j:(wC ws).length<=2999:=by unfold wC;rw[yB,yB,Wp,m];lia
 show{{(),((j6 h).app (by unfold Av;lia)).app k,λz=>?_},j};unfold wC at z;rw[yf,yf] at z;obtain z|z:=bw.mp z
 .obtain z|z:=bw.mp z
  .rw[vZ,(bb " ")=AF|>jq] at z;let:=zn8 o 10 z;lia
  .revert z;lia
 .show zn9 _ z
def zgU(h:∀r∈aF,zcm r.1/\wB r.2):∀w∈AA aF,c33 w:=λw hw=>by
 let #[r,j,hw]:=lW.mp hw;obtain rfl|hw:=bo.mp hw
 .show zkV (h r j).1.1
 obtain rfl|hw:=bo.mp hw
 .show JF _
 .show bu.mp hw\JF _
def Dl.ocD(e:Dl):e.oc=.done []:=by cases e;rfl
def Qx:zac (.done []):={bP _,nofun}
def zgV(h:e.ok):WZ e.gi:=by
 let #[a,_,c]:=Y2 e;show{a,bR c (),λr j=>?_};cases e with
 |give p n=>
  rw[bu.mp j];let:=h.1;show{{(yv (bb "a")=af|>()),(by change _<=(p:Int);lia),by change (p:Int)<=_;lia},h.2}
def En.lnok(h:z.ok):zie z.ln/\z.ln.length<=2999:=by
 cases z with
 |deal r e=>
  let #[j,ok]:=h;let g:=zgV ok;let k:zac e.oc:=e.ocD\Qx
  show zgT (JD j k g) (λw hw=>?_) ?_
  .let hw:w∈jS r e.oc e.gi:=hw;rw[e.ocD] at hw;obtain rfl|hw:=bo.mp hw
   .show qy ()
   obtain rfl|hw:=bo.mp hw
   .show JF _
   obtain rfl|hw:=bo.mp hw
   .show qy ()
   obtain rfl|hw:=bo.mp hw
   .show qy ()
   .show zgU g.nm w hw
  .let:=(Y2 e).2.2;change (jS r e.oc e.gi).length<=_;rw[e.ocD];change (AA e.gi).length+4<=_;rw[jE];lia
 |mark r tb=>
  let #[j,rs,_,l]:=h;show zgT (JE j rs) (λw hw=>?_) ?_
  .obtain rfl|hw:=bo.mp hw
   .show qy ()
   obtain rfl|hw:=bo.mp hw
   .show JF _
   obtain rfl|hw:=bo.mp hw
   .show qy ()
   .show zgU rs.nm w hw
  .change (AA tb).length+3<=_;rw[jE];lia
def Ln.lnok{y:Ln}(h:y.wf):zie y.tx/\y.tx.length<=3000:=by
 cases y with
 |ok z=>show{(En.lnok h).1,pY (En.lnok h).2}
 |bad x=>show{{bR h.2.2.1 (),h.2.1,h.2.2.2},h.2.2.1}
def As.all(h:As ls):∀x∈ls.map Ln.tx,zie x/\x.length<=3000:=λx k=>by let #[y,j,rfl]:=bM.mp k;show Ln.lnok (h.2 y j)
def zig(h:∀w∈ws,Wd w):Av (wC ws):=by unfold wC;show Av.app (Av.app (j6 h) ?_) (Yn _).2.1;show λc j=>by rw[jq] at j;rw[bu.mp j];decide
def zih(h:∀w∈ws,Wd w)(o:ws.length<=400):(wC ws).length<=20000:=by let m:=Qq h;let k:=YA h;let j:=(Yn (xR (bb " ") ws)).1;unfold wC;rw[yB,yB,Wp,j];lia
def zex{x:Str}(u:Av x)(A:x.length<=20000)(h:(∃b:Str,x=b++bb " " ++ vp b/\Av b/\b.length<=20000/\∀H',aH H H'->Q (.str b) H')\/(zkv x/\∀H',aH H H'->E (.ref t.q09) ae H')) :
  K4 K t E (aX Q) (zZZ 2 [.str x]) H:=by
 show{_,U,U,_,_,U,U,U,(),λl o=>?_};generalize e1:upd H l _=H1;let #[m,j]:=jp e1 o;obtain ⟨b,rfl,hb,lb,q⟩|⟨⟨p,s,d,e,n,hp,lp⟩,q⟩:=h
 .let #[C,B,w]:=Yn b;rw[jq,rpL (b++AF++vp b) AF=[.str b,.str AF,.str (vp b)]|>zdK w] at j;show{_,U,l,_,2,_,U,U,aV.of j,U,_,U,l,_,0,_,U,U,aV.of j,U,b,U,hb,lb,λH2 k=>{U,_,U,yz (congrArg not (Fj U)) {_,U,l,_,0,_,U,U,aV.of (k _ _ j),U,q H2 (m.trans k)}}}
 .rw[e] at j;show{_,U,l,_,2,_,U,U,aV.of j,U,_,U,l,_,0,_,U,U,aV.of j,U,p,U,hp,lp,λH2 k=>{U,_,U,yN ([Fk λz=>n (V.str.inj z)]\U) {_,U,x,U,(),u,λy=>{sz1,q H2 (m.trans k)}}}}
def zbE{a:zO}{aF:zG}(h:∀w∈a++bb ";" :: AA aF,Wd w)(h2:bb ";" ∉ a)(T:(a++bb ";" :: AA aF).length<=400)(O:WZ aF)(q:∀x l g j H',aH H j->aH j H'->j l=Z (.lst ((a++bb ";" :: AA aF).map V.str))->j g=ae->gV H' g aF->xv K t E (aX Q) [Z (.str x),Z (.ref l),Z (.int (a.length:Nat)),Z (.ref g)] H') :
  vg K t E (aX Q) (zZZ 4 [.str (wC (a++bb ";" :: AA aF))]) H:=by
 let lj:=YA h;let k:gu (xR (bb " ") (a++bb ";" :: AA aF)) (bb " ")=a++bb ";" :: AA aF:=[vZ,jq]\qN ?s λp I=>(h p I).2.2
 show{_,U,_,U,zig h,zih h T,.inl {_,U,j6 h,(),λj A=>{U,_,_,U,U,U,(),k\(),λl J=>?_}}};rw[k];let u:=hZ (o:=HO.lst ((a++bb ";" :: AA aF).map V.str)) l J;show zh8 zh h2 O λg H' m C B=>q _ _ g _ H' (A.trans u) m zh C B
def zap{y:Ln}(h:y.wf)(q:∀z,y=.ok z->∀v H',aH H H'->EnA H' (λb=>H b=ae) v z->Q v H')(I:∀x,y=.bad x->∀H',aH H H'->E (.ref t.q09) ae H') :
  vg K t E (aX Q) (zZZ 4 [.str y.tx]) H:=by
 cases y with
 |bad x=>show{_,U,x,U,h.2.1,bR h.2.2.1 (),.inr {h.1,I x U}}
 |ok z=>
  let q:=q z rfl;cases z with
  |deal r e=>
   let #[u,ok]:=h;let j:=zgV ok;let C:=j.le;change vg K t E _ (zZZ _ [.str (wC (jS r e.oc e.gi))]) H;rw[e.ocD];let #[_,l2,_]:=zel Qx;rw[Zf];show zbE ([<-Zf]\JD u Qx j) (zmt Qx) (by simp[jE];lia) j λx l g T H2 o m A n rs=>?_;show zfF u Qx rs () (m _ _ A) λp v B k J w=>q _ B (o.trans (m.trans k)) {p,v,g,U,w,J,rs.same k,yy o n}
  |mark r tb=>
   let #[u,j,O,_]:=h;let C:=j.le;change vg K t E _ (zZZ _ [.str (wC (Zv r tb))]) H;rw[Xz];show zbE ([<-Xz]\JE u j) zmu (by simp[jE];lia) j λx l g T H2 o m A n rs=>?_;show zfG u rs C O (m _ _ A) λp B k w=>q _ B (o.trans (m.trans k)) {p,g,U,w,rs.same k,yy o n}
section
variable {P P':Ak}
def EnA.up(h:EnA H P v z)(j:TSm H H')(k:∀b o,P b->H b=Z o->H' b=Z o)(p:∀b,P b->P' b):EnA H' P' v z:=by
 cases z with
 |deal r e=>let #[q,o,u,B,A,w,m,C]:=h;show{q,o,u,B,j _ _ A,w.ts j,m.to j λo y=>k _ o C y,p _ C}
 |mark r tb=>let #[q,u,B,A,w,m]:=h;show{q,u,B,j _ _ A,w.to j λo y=>k _ o m y,p _ m}
def EnA.same(h:EnA H P v z)(s:aH H H'):EnA H' P v z:=h.up (.of s) (λb o _ y=>s b o y) λ_ y=>y
def EnA.has(h:EnA H P v z):EnA H (λb=>∃o,H b=Z o) v z:=by
 cases z with
 |deal r e=>let #[q,o,k,u,m,j,w,_]:=h;show{q,o,k,u,m,j,w,w.has}
 |mark r tb=>let #[q,k,u,m,j,_]:=h;show{q,k,u,m,j,j.has}
def W9:∀ {a b:List En},a.map Ln.ok=b.map Ln.ok->a=b
 |[],[],_=>rfl
 |[],_::_,h=>nomatch h
 |_::_,[],h=>nomatch h
 |x::a,y::b,h=>by let #[k,j]:=eE h;rw[Ln.ok.inj k,W9 j]
def  noD(D:ac)(H:Hp):Hp:=λb=>if b=D then ae else H b
def zfJ{D b:ac}(n:b≠D)(h:H b=Z o):noD D H b=Z o:=(aj n).trans h
def zkW{D:ac}:aH (noD D H) H:=λb o h=>by
 unfold noD at h;by_cases c:b=D
 .rw[ak c] at h;cases h
 .rw[aj c] at h;show h
def zkX{D:ac}(k:∀b o,b≠D->H b=Z o->H' b=Z o):aH (noD D H) (noD D H'):=λb o h=>by
 by_cases c:b=D
 .rw[noD,ak c] at h;cases h
 .show zfJ c (k b o c (zkW b o h))
def  enR(ls:List Ln)(D:ac)(i:Nat)(ys:LV)(H:Hp):Prop:=∃es:List En,ls.take i=es.map Ln.ok/\B0 (EnA (noD D H) λ_=>True) ys es
def  rwD(r:Row):PyData:=.tuple [plD r.1,.int r.2]
def zoa{H:Hp}{r:Row}(h:PrAt H v r):Dat K H v (rwD r):=by let #[a,p,rfl,k,j]:=h;show .tup (aV.of k) (.cons (zgH {p,U,j}) (.cons (.int _) .nil))
def zcG{H:Hp}:∀ {xs:LV}{aF:zG},B0 (PrAt H) xs aF->Aj K H xs (aF.map rwD)
 |_,_,.nil=>.nil
 |_,_,.cons h t=>.cons (zoa h) (zcG t)
def zfK:∀ {aF:zG},(∀r∈aF,yv r.1.1=af)->yh (aF.map rwD)=af
 |[],_=>[iU,yh]\_
 |r::t,h=>by rw[bB,yh,zfK λx j=>h x (br _ j),rJ];unfold rwD;rw[zX,yh,yh,yh,zkK (h r bp),zX];rfl
def zey:∀(aF:zG),(Bl (aF.map rwD)).depth<=64:=λaF=>by
 let h:∀l:zG,c7 (l.map rwD)<=10:=λl=>by
  induction l with
  |nil=>simp[c7]
  |cons r t ih=>
   rw[bB,c7];let:(rwD r).depth<=10:=by simp[rwD,plD,gS,c7]
   lia
 let:=h aF;rw[gS];lia
def zgW:∀ {a b:zG},a.map rwD=b.map rwD->a=b
 |[],[],_=>rfl
 |[],_::_,h=>nomatch h
 |_::_,[],h=>nomatch h
 |x::a,y::b,h=>by let #[j,k]:=eE h;unfold rwD at j;simp only[pj,c8,uZ,and_true] at j;rw[zgW k,rD (zmn j.1) j.2]
def zna{a b:ac}{rs h:zG}{H:Hp}{Q:VK}(C:gV H a rs)(B:gV H b h)(u:∀r∈rs,yv r.1.1=af)(o:∀r∈h,yv r.1.1=af)(p:rs=h->Q (.bl ah) H)(n:rs≠h->Q (.bl af) H):zdn K af (.ref a) (.ref b) H Q:=by
 let #[xs,A,m]:=C;let #[ys,w,k]:=B;show{_,_,.lst (aN.of A) (zcG m),.lst (aN.of w) (zcG k),{zX\zfK u,zX\zfK o,zey _,zey _},λc j=>?_};by_cases e:rs=h
 .let:c=af:=j.mpr (e\_);show this\p e
 .let:c=ah:=by
   cases c with
   |false=>rfl
   |true=>show absurd (zgW (PyData.list.inj (j.mp U))) e
  show this\n e
end
section
variable {r0:Int}
def AnA.ts{r:Int}(h:AnA H v r)(s:TSm H H'):AnA H' v r:=let ⟨p,o,a,b,c⟩:=h;{p,o,a,s _ _ b,c.ts s}
def jr{j:LV}(h:B0 (AnA H) j rs)(s:TSm H H'):B0 (AnA H') j rs:=Paired.mapP h λ_ _ z=>AnA.ts z s
def zgX(h:es[i]?=Z z):rkL (es.take (i+1))=rkL (es.take i)++z.rks:=by unfold rkL;rw[du,h,oP];change _++List.flatMap En.rks [z]=_;rw[uL,List.flatMap_nil,cV]
def zfL:∀es:List En,(rkL es).length<=es.length
 |[]=>bh _
 |z::es=>by
  let:=zfL es;let:z.rks.length<=1:=by cases z;show bh 1;show bP 1
  change (z.rks++rkL es).length<=_;rw[bj,bJ];lia
def zoY(e:Dl):∀r∈e.gi,yv r.1.1=af:=λr h=>by
 cases e with
 |give p n=>rw[bu.mp h];change yv (bb "a")=af;lia
def zgY{R a b:zG}(h:xS R a)(k:xS R b):a=b:=Xd h.1 k.1 λ⟨p,w⟩=>(h.2 p w).trans (k.2 p w).symm
structure CuI(H0:Hp)(l2 td lc:ac)(xs:LV)(es:List En)(r0:Int)(tb:zG)(i:Nat)(r1:Int)(R1:zG)(H':Hp):Prop where
 sm:aH H0 H'
 hc:H' lc=Z (.lst xs)
 en:B0 (EnA H' λb=>b≠l2/\b≠td) xs es
 hr:gV H' l2 R1
 ht:∃ts,H' td=Z (.lst ts)/\B0 (AnA H') ts (rkL (es.take i))
 up:∀r R,Up es r0 tb r R↔Up (es.drop i) r1 R1 r R
 le:R1.length<=tb.length+i
 nm:∀r∈R1,yv r.1.1=af
 rb:0<=r1/\r1<=100000000000000000000000000000+i
def zmB{D:ZF}{m j lc:ac}{xs:LV}(a6:ls=(En.mark r0 tb::es).map Ln.ok)(J:∀z∈En.mark r0 tb::es,z.ok)(qe:Z5 ls->∀H',aH H H'->E (.ref t.q0b) ae H')(ll:es.length+1<=30)(bk:tb.length<=20)(n1:m≠j)(n2:m≠lc)(n3:j≠lc)(f1:H m=ae)(f2:H j=ae)(hv:xs[i]?=Z v)(I:CuI H m j lc xs es r0 tb i r1 R1 H')(q:∀r R o H',CuI H m j lc xs es r0 tb (i+1) r R H'->D.nx [o0,o1,Z (.int r),Z (.ref m),Z (.ref j),o] H') :
  Wi K t E D [o0,o1,Z (.int r1),Z (.ref m),Z (.ref j),Z v] H':=by
 let #[z,hz,ez]:=Paired.getP I.en hv;let li:=(bi.mp hz).1;let ed:es.drop i=z::es.drop (i+1):=[dA li,(bi.mp hz).2]\_
 let up:=I.up;rw[ed] at up;let J:=J z (br _ (b7 hz));let lg:r1.natAbs.log2<1920:=Wo (Fj (by let:=I.rb;constructor <;> lia));let no:(∀r R,¬ Up (z::es.drop (i+1)) r1 R1 r R)->∀H2,aH H H2->E (.ref t.q0b) ae H2:=λn=>qe (λa7 a3 bl r R g=>by let:=g.1.symm.trans a6;let #[a,b]:=eE (W9 this);cases a;rw[b] at g;show n r R ((up r R).mp g.2))
 let #[rs,B,pr]:=I.hr;let lr:=bZ pr;let a9:=I.le;cases z with
 |deal k e=>
  let #[p,o,aS,rfl,C,eo,O,a5,a4]:=ez;show{_,U,p,_,1,_,U,U,aV.of C,U,_,U,U,_,U,?_};by_cases kr:k=r1
  .subst kr;let #[T,hg,pu]:=O;let #[A,ht,an]:=I.ht;let lu:=bZ pu;let be:=(Y2 e).2.2;let la:=bZ an;let lk:=zfL (es.take i);rw[bQ] at lk;let al:=Qj (o':=.lst (rs++T)) B ();let aI:upd H' m (.lst (rs++T)) j=Z (.lst A):=zm n1.symm\ht
   show yz (Fj rfl\U) {_,U,p,_,0,_,U,U,aV.of C,U,U,_,U,yN U ?_};show{_,U,.inl {U,_,aN.of B},_,U,p,_,3,_,U,U,aV.of C,U,m,aS,rs,T,U,U,B,hg,zM (),?_};show{_,U,.inl {U,_,aN.of aI},_,U,_,U,p,_,2,_,U,U,aV.of (al _ _ C),U,sz2,λb hb=>?_};generalize c4:upd (upd H' m (.lst (rs++T))) b _=H5;let #[h,e5]:=AE c4 hb;let ar:=h _ _ aI;let aW:TSm H' H5:=λc zs z=>h _ _ (al c zs z);let aa:=Qj (o':=.lst (A++[V.ref b])) ar ();let TT:TSm H' (upd H5 j (.lst (A++[V.ref b]))):=λc zs z=>aa c zs (aW c zs z);let kk:∀c o,c≠m->c≠j->H' c=Z o->upd H5 j (.lst (A++[V.ref b])) c=Z o:=λc o a1 a2 z=>zm a2\h _ _ (zm a1\z)
   show{j,A,_,U,U,ar,xg (),_,U,_,_,U,U,q (k+1) (R1++e.gi) _ _ {λc o z=>kk c o (λy=>by rw[y,f1] at z;cases z) (λy=>by rw[y,f2] at z;cases z) (I.sm _ _ z),kk _ _ n2.symm n3.symm I.hc,Paired.mapP I.en λ_ _ z=>z.up TT (λc o z y=>kk c o z.1 z.2 y) λ_ z=>z,{rs++T,?_,?_},{A++[.ref b],zh,?_},λr R=>(up r R).trans {λz=>z.2,λz=>{rfl,z}},bj\(),λr B=>(bw.mp B).elim (I.nm r) (zoY e r),by let:=I.rb;lia}}
   .show zm n1\h _ _ zh
   .show zml (Paired.mapP pr λ_ _ z=>PrAt.ts z TT) (Paired.mapP pu λ_ _ z=>PrAt.ts z TT)
   .show zgX hz\Paired.snocP (jr an TT) {b,o,U,aa _ _ e5,eo.ts TT}
  .show yN ([Fk λz=>kr (V.int.inj z)]\U) {_,U,r1,U,lg,λ_=>{sz1,no (λr R u=>kr u.1) _ I.sm}}
 |mark k a3=>
  let #[p,aS,rfl,C,O,a5,a4]:=ez;show{_,U,p,_,1,_,U,U,aV.of C,U,_,U,U,_,U,?_};by_cases kr:k=r1
  .subst kr;let ld:=Yw R1;show yz (Fj rfl\U) {_,U,p,_,0,_,U,U,aV.of C,U,U,_,U,yz () {_,U,p,_,2,_,U,U,aV.of C,U,_,U,m,R1,U,I.hr,(),(),λtl a8 H5 h _ ho w=>?_}};show zna (O.same h) ho (λr B=>(J.2.1.nm r B).1.1) (λr B=>I.nm r (vm ((w.2 r.1 r.2).mp B).1)) (λe=>?_) λe=>?_
   .show{_,U,yz U (q k R1 _ _ {I.sm.trans h,h _ _ I.hc,Paired.mapP I.en λ_ _ z=>z.same h,I.hr.same h,(let ⟨A,a,b⟩:=I.ht;{A,h _ _ a,by rw[zgX hz];change B0 _ A (_++[]);show cV\jr b (.of h)}),λr R=>(up r R).trans {λz=>z.2.2,λz=>{U,e\w,z}},(),I.nm,by let:=I.rb;lia})}
   .show{_,U,yN U {_,U,k,U,lg,λ_=>{sz1,no (λr R u=>e (zgY u.2.1 w)) _ (I.sm.trans h)}}}
  .show yN ([Fk λz=>kr (V.int.inj z)]\U) {_,U,r1,U,lg,λ_=>{sz1,no (λr R u=>kr u.1) _ I.sm}}
def zez{B:LV}(h:Xr t B H Q E) :
  K6 K t E (aX Q) (zZZ 6 B) H:=by
 let #[ls,rfl,h1,q,qe]:=h;show{_,U,ls,U,h1,λr0 tb es k l al H1 J e1 en=>?_,λno H1 J=>qe (λr0 tb es r R g=>no r0 tb es g.1) H1 J};let ll:=h1.1;rw[k,bd,bJ] at ll;let T:∀z∈En.mark r0 tb::es,z.ok:=λz hz=>h1.2 (.ok z) (k\bX hz);let #[O,ar,a1,aS]:=T _ bp;obtain⟨v0,xs,rfl,⟨m,gl,rfl,em,⟨ws,eg,pg⟩,_⟩,pt⟩:∃v0 B,al=v0::B/\EnA H1 (λ_=>True) v0 (En.mark r0 tb)/\B0 (EnA H1 λ_=>True) B es:=by
  cases en with
  |cons a b=>show{_,_,U,a,b}
 show{_,U,l,_,((0:Nat):Int),_,U,U,aN.of e1,yL U,m,_,1,_,U,U,aV.of em,U,_,U,l,_,((0:Nat):Int),_,U,U,aN.of e1,yL U,m,_,2,_,U,U,aV.of em,U,gl,ws,U,.inl (aN.of eg),λu A=>?_};generalize c1:upd H1 u _=H2;let #[s2,e2]:=AE c1 A;show{bP _,λtd j=>?_};generalize c2:upd H2 td _=H3;let #[s3,e3]:=AE c2 j;show{_,U,1,U,l,_,U,aN.of ((s2.trans s3) _ _ e1),λlc w=>?_};rw[vV (V.ref m::xs) (Z 1) ae=xs|>zfD _ 1];generalize c3:upd H3 lc _=H4;let #[s4,e4]:=AE c3 w;let S4:=s2.trans (s3.trans s4);let n1:u≠td:=zy e2 j;let n2:u≠lc:=zy (s3 _ _ e2) w;let n3:td≠lc:=zy e3 w;let f1:H u=ae:=J.free A;let f2:H td=ae:=yy (J.trans s2) j;let aa:B0 (EnA H4 λb=>b≠u/\b≠td) xs es:=Paired.mapP pt λ_ _ z=>z.has.up (.of S4) (λb o _ z=>S4 _ _ z) λb ⟨o,z⟩=>{zy z A,zy (s2 _ _ z) j};let lx:=bZ aa;show{lc,U,{_,aN.of e4},xY xs (λi σ H'=>∃r1 R1,(∃o5,σ=[Z (.str (kO (ls.map Ln.tx))),Z (.ref l),Z (.int r1),Z (.ref u),Z (.ref td),o5])/\CuI H u td lc xs es r0 tb i r1 R1 H') {r0,tb,{_,U},J.trans S4,e4,aa,{ws,(s3.trans s4) _ _ e2,Qd S4 pg},{[],s4 _ _ e3,.nil},λ_ _=>tq,bh _,λr hr=>(ar.nm r hr).1.1,O.1,by let:=O.2;lia} (λi σ H' ⟨_,_,_,z⟩=>aN.of z.hc) ?_ ?_}
 .rintro i v σ H' hv ⟨r1,R1,⟨o5,rfl⟩,I⟩;show zmB k T qe ll aS n1 n2 n3 f1 f2 hv I λr R o H' I=>{r,R,{o,U},I}
 .rintro σ H' ⟨r1,R1,⟨o5,rfl⟩,I⟩;let #[ts,ht,an]:=I.ht;let up:=I.up;rw[lx,List.drop_length] at up;rw[lx,eV] at an;let ld:=Yw R1;let a2:=I.le;show{_,U,_,U,u,R1,U,I.hr,(),(),λtl aI H5 s5 _ ho C=>{_,U,sz3,λr aW=>?_}};let s6:=hZ (o:=HO.tup [V.int r1,V.ref tl,V.ref td]) r aW;show q r0 tb es r1 R1 {k,(up r1 R1).mpr {U,U}} r tl td aI ts _ (I.sm.trans (s5.trans s6)) zh (ho.same s6) C ((s5.trans s6) _ _ ht) (jr an (.of (s5.trans s6))) f2
end
section
variable {w:ac}{b:HAd}{N2:Ak}{ts ls:LV}{P:HsP}{ph':Ph}{L:List En}
def zkY{l:Ap}(h:KY (λp=>xo g l p aE) aF)(p:Pl):(zS aF p).getD 0=xo g l p aE:=by
 let j:=h.1.nd;cases e:zS aF p with
 |some w=>show((h.2 p w).mp ((kh j).mp e)).1.symm
 |none=>
  by_cases z:xo g l p aE=0
  .show z.symm
  .let:=(kh j).mpr ((h.2 p _).mpr {U,z});rw[e] at this;cases this
def zkZ(h:KY (λp=>xo g aM p aE) aF)(k:∀p,xo g aM p aE=(zS R p).getD 0):xS R aF:={h.1,λp w=>by
 rw[h.2];change xo g aM p aE=w/\w≠0↔_;rw[k];cases zS R p with
 |none=>show{λz=>absurd z.1.symm z.2,λz=>(nomatch z.1)}
 |some u=>show{λz=>{congrArg Z z.1,z.2},λz=>{cf z.1,z.2}}}
def qA(h:xS R aF):aF.length<=R.length:=by
 let:=jH h.1.nd (b:=R.map (·.1)) λp k=>by let #[r,j,rfl]:=bM.mp k;show bM.mpr {_,vm ((h.2 r.1 r.2).mp j).1,U}
 rwa [bd,bd] at this
def zk0(h:∀y∈aM,y.1<r)(k:0<=r)(j:zG)(p:Pl):xo g (aM++[(r,j)]) p (r+1)=(zS j p).getD (xo g aM p r):=by
 unfold xo;rw[Qi,zeg (r:=r) () aM _ h];let:(jy p r aM (-1,(zS g p).getD 0)).1<r:=by
  obtain ⟨e,_⟩|⟨y,_,w,_,yr,_,e,_⟩:=wR p r aM (-1,(zS g p).getD 0)
  .rw[e];change (-1:Int)<r;lia
  .show e\yr
 rw[ak {this,by change r<r+1;lia},Xy];cases zS j p <;> rfl
def zk1(R h:zG)(p:Pl):(zS (R++h) p).getD 0=(zS h p).getD ((zS R p).getD 0):=by rw[zeh];cases zS h p <;> rfl
def Qy:∀ {es:List En}{h:Int}{j:zG},Up es h j r R->h<=r/\R.length<=j.length+es.length
 |[],_,_,⟨a,b⟩=>[a,b]\{Bk _,bh _}
 |.deal q e::es,h,j,⟨_,u⟩=>by let #[a,b]:=Qy u;let:=(Y2 e).2.2;rw[bj] at b;show bJ\{(),()}
 |.mark q tb::es,h,j,⟨_,_,u⟩=>by let #[a,b]:=Qy u;show bJ\{a,()}
def FrN.trans{N2:Ak}(h:FrN N N' H H')(k:FrN N' N2 H' H2):FrN N N2 H H2:=by
 show{λb o z e=>k.kp b o (λy=>(h.nw b y).elim z λy=>by rw[y] at e;cases e) (h.kp b o z e),λb zs e=>k.ts _ _ (h.ts _ _ e),λb o e=>let ⟨o',j⟩:=h.al b o e;k.al b o' j,λb y=>?_};obtain z|z:=k.nw b y
 .show h.nw b z
 .show .inr ?_;cases e:H b with
  |none=>rfl
  |some o=>let #[o',j]:=h.al b o e;rw[z] at j;cases j
def FrN.same(s:aH H H'):FrN N N H H':={λb o _ e=>s _ _ e,λ_ _ e=>s _ _ e,λb o e=>{o,s _ _ e},λ_ z=>.inl z}
def FrN.of(F:Fr M0 H H' lb lb'):FrN (HsN x b lb) (HsN x b lb') H H':=by
 show{λc o z e=>F.kp c o (.inl (eU λy=>z (.inl y))) e,F.ts,F.al,λc z=>?_};cases e:H c with
 |none=>show .inr rfl
 |some o=>show .inl (z.imp (λy=>[<-F.ex c o e]\y) id)
def HsA.fr{k:Int}(h:HsA t H x b lb k ts ls)(F:Fr M0 H H' lb lb'):HsA t H' x b lb' k ts ls:=by let #[B,A,u,C,o,m,j]:=h;show{F.kp _ _ (.inl o) B,F.kp _ _ (.inl m) A,F.kp _ _ (.inl j) u,C,(F.ex _ _ B).trans o,(F.ex _ _ A).trans m,(F.ex _ _ u).trans j}
def HsA.same{k:Int}(h:HsA t H x b lb k ts ls)(s:aH H H'):HsA t H' x b lb k ts ls:={s _ _ h.ix,s _ _ h.ht,s _ _ h.hl,h.ne,h.l0}
def HsI.to(h:HsI t H x P ph N)(k:∀c o,N c->H c=Z o->H' c=Z o)(ts:TSm H H')(B:∀c o,H c=Z o->∃o',H' c=Z o'):HsI t H' x P ph N:=by let #[b,a,lb,S,u,G,A,C,z]:=h;let j:∀c o,HsN x b lb c->H c=Z o->H' c=Z o:=λc o y e=>k c o ((z c).mpr y) e;show{b,a,lb,S,u,{{j _ _ (.inr (.inl U)) G.h.ix,j _ _ (.inr (.inr (.inl U))) G.h.ht,j _ _ (.inr (.inr (.inr U))) G.h.hl,G.h.ne,G.h.l0},jr G.an ts,G.d.of (λc o y e=>j c o (.inl y) e) ts B,G.o,G.w},A,C,z}
def HsI.same(h:HsI t H x P ph N)(s:aH H H'):HsI t H' x P ph N:=h.to (λc o _ e=>s _ _ e) (.of s) λc o e=>{o,s _ _ e}
def HsI.ow(h:HsI t H x P ph N)(z:N d):∃o,H d=Z o:=by
 let #[b,a,lb,S,j,G,_,_,y]:=h;rcases(y d).mp z with z|z|z|z
 .show G.d.ow z
 .show z\{_,G.h.ix}
 .show z\{_,G.h.ht}
 .show z\{_,G.h.hl}
def zfM(z:∀c,N c↔HsN x b lb c):N=HsN x b lb:=funext λc=>propext (z c)
def HsI.x0(h:HsI t H x P ph N):∃dx b,H x=Z (.ins t.q00 dx (zmg b (P.f+P.m))):=let ⟨b,a,lb,S,us,G,em,_,_⟩:=h;{_,b,[<-em]\G.h.ix}
end
section
variable {w p:ac}{b:HAd}{ts:LV}{P:HsP}{nl gl:ac}
def Qz{vs:LV}(F:HsF K t)(h:xK t vs H Q E) :
  YY K t E (aX Q) (zZZ 5 vs) H:=by
 let #[x,w,dx,dw,n,ls,rfl,h1,O,h4,nw,q,qe]:=h;show{_,U,ls,U,h1,λJ tb es rk R gd r tl td out ts B m er lt j ed an nd=>?_,λno B m=>qe no B λc o _ e=>m _ _ e};let #[us,et,pt]:=lt;let lo:=qA j;let al:∀z∈En.mark J tb::es,z.ok:=λz hz=>h1.2 (.ok z) (gd.1\bX hz);let #[ar,aW,a2,a4]:=al _ bp;let #[u1,u2]:=Qy gd.2;let ll:=h1.1;rw[gd.1,bd,bJ] at ll;let a1:=ar.1;let nr:r≠x:=zN er (m _ _ O) ();let nb:tl≠x:=zN et (m _ _ O) ();let nt:td≠x:=zN ed (m _ _ O) ();let up:∀ {H:Hp}(u:HO),Z2 x H (upd H x u):=λu b o z e=>zm z\e
 show{_,U,r,_,0,_,U,U,aV.of er,U,_,U,x,_,_,_,U,m _ _ O,F.cl,F.n1,(),?_};generalize c2:upd B x _=H2;let k2:Z2 x B H2:=c2 ▸ up _;let e2:H2 x=Z (.ins t.q00 dx (xE (bb "due") (V.int rk) [])):=[<-c2]\zh
 show{_,U,r,_,2,_,U,U,aV.of (k2 _ _ nr er),U,_,U,x,_,_,_,U,e2,F.cl,F.n2,(),?_};generalize c3:upd H2 x _=H3;let k3:Z2 x H2 H3:=c3 ▸ up _;let e3:H3 x=Z (.ins t.q00 dx (xE (bb "told") (V.ref td) (xE (bb "due") (V.int rk) []))):=[<-c3]\zh
 clear c2 c3;show{_,U,ls,U,h1,λl H4 s4 hl el=>{_,U,x,_,_,_,U,s4 _ _ e3,F.cl,F.n3,(),?_}};generalize c5:upd H4 x _=H5;let k5:Z2 x H4 H5:=c5 ▸ up _;let e5:H5 x=Z (.ins t.q00 dx (xE (bb "lines") (V.ref l) (xE (bb "told") (V.ref td) (xE (bb "due") (V.int rk) [])))):=[<-c5]\zh
 clear c5;let k:∀c o,c≠x->B c=Z o->H5 c=Z o:=λc o z e=>k5 c o z (s4 _ _ (k3 c o z (k2 c o z e)));let T:TSm B H5:=λc zs e=>k c _ (zN e (m _ _ O) ()) e;show{_,U,r,_,1,_,U,U,aV.of (k _ _ nr er),U,_,U,_,U,ya e5 F.cl F.n1 U U λd dd hd aI a3=>?_};let sd:=vT (C:=t.q02) hd aI;let w5:=k _ _ nw (m _ _ h4);let t5:gV H5 tl out:={us,k _ _ nb et,Paired.mapP pt λ_ _ z=>PrAt.ts z T};show{d,tl,w,dd,dw,n,rk,out,U,zh,t5.same sd,(),sd _ _ w5,zy w5 hd,λH6 a lb k6 l6 G=>?_};let I:aH H5 H6:=λb o e=>k6 b o (zy e hd) (sd _ _ e);let z6:∀c o,c≠w->H5 c=Z o->lb c=0:=λc o z e=>l6 c o (zy e hd) z (sd _ _ e);let lx:l≠x:=zN el (s4 _ _ e3) ();let l5:=k5 _ _ lx el;let aa:=k _ _ nt ed;let x0:lb x=0:=z6 x _ nw.symm e5;let w3:=k3 _ _ nw (k2 _ _ nw (m _ _ h4));let A:∀c o,c≠x->B c=Z o->c≠l:=λc o z e y=>by let:=k3 c o z (k2 c o z e);rw[y,hl] at this;cases this
 let wl:w≠l:=A _ _ nw (m _ _ h4);let wt:w≠td:=λy=>by rw[y,nd] at h4;cases h4
 let aS:(ls.map Ln.tx).map V.str=Aw (En.mark J tb::es):=[gd.1,((En.mark J tb::es).map Ln.ok).map Ln.tx=(En.mark J tb::es).map En.ln|>fh\U]\U
 show{U,_,U,x,_,_,_,U,I _ _ e5,F.cl,F.n4,(),q J tb es rk R gd _ (HsN x {dx,td,l,d} lb) (λc o z e=>zm z\I _ _ (k c o z (m _ _ e))) (λc o z1 z2 e y=>?_) {{dx,td,l,d},a,lb,{out,[],0,0},ts,{{?_,zm nt\I _ _ aa,?_,A _ _ nt ed,x0,z6 td _ wt.symm aa,z6 l _ wl.symm l5},jr an λc zs z=>zm (zN z (m _ _ O) ())\I _ _ (T _ _ z),G.put (I _ _ e5) () x0,{by change 0<=rk;lia,by change (0:Int)<=rk+(0:Nat);lia,(),bP _,bh _,(),by change out.length+0<=49+0;lia},λp=>?_},U,{by change es.length+1<=30;show ll,al,pY (zfL es)},λ_=>tq}}
 .obtain y|y|y|y:=y
  .show y (z6 c o z2 (k c o z1 (m _ _ e)))
  .show z1 y
  .let y:c=td:=y;rw[y,nd] at e;cases e
  .show A c o z1 (m _ _ e) y
 .change upd H6 x _ x=Z (.ins t.q00 dx (zmg _ (rk+(0:Nat))));show [rk+((0:Nat):Int)=rk|>()]\zh
 .change upd H6 x _ l=Z (.lst (Aw (En.mark J tb::es)));show [zm lx,<-aS]\I _ _ l5
 .change (zS out p).getD 0=_;let nd:=j.1.nd;cases e:zS out p with
  |some w=>
   rw[((j.2 p w).mp ((kh nd).mp e)).1]
  |none=>
   cases e2:zS R p with
   |none=>rfl
   |some u=>
    by_cases z:u=0
    .rw[z];rfl
    .let:=(kh nd).mpr ((j.2 p u).mpr {e2,z});rw[e] at this;cases this
def zmC(F:HsF K t){k:Int}(h:HsA t H x b lb k ts lx)(hk:rB k)(ok:e.ok)(lt:ts.length<=100)(ll:lx.length<=100)(Y:PpV H v e nl gl){D:ZF}(q:∀H' v σ,(∀c o,c≠x->c≠b.td->c≠b.ln->H c=Z o->H' c=Z o)->HsA t H' x b lb (k+1) (ts++[v]) (lx++[.str (En.deal k e).ln])->AnA H' v k->(∃o,σ=[Z (.ref x),o])->D.nx σ H') :
  wF K t D [Z (.ref x),Z v] H:=by
 let #[r,oc,rfl,hr,ho,ar,an]:=Y;let #[m,ht,B,ne,l0]:=h;let n4:=ne;show ya m F.cl F.n3 U U {.inl {U,_,aN.of B},ya m F.cl F.n1 U U {_,U,k,r,oc,nl,gl,e.oc,e.gi,U,hr,hk,ho,e.ocD\Qx,an,zgV ok,λH2 s2=>{b.ln,_,_,U,U,s2 _ _ B,xg (),?_}}};let A:x≠b.ln:=zN m B ();let u:x≠b.td:=zN m ht ();generalize C:upd H2 b.ln _=H3;let k3:∀c o,c≠b.ln->H c=Z o->H3 c=Z o:=λc o z e=>[<-C,zm z]\s2 _ _ e
 let e3:H3 b.ln=Z (.lst (lx++[.str (wC (jS k e.oc e.gi))])):=[<-C]\zh
 clear C;let I:=k3 _ _ A m;let t3:=k3 _ _ n4 ht;show ya I F.cl F.n2 U U {.inl {U,_,aN.of t3},ya I F.cl F.n1 U U {_,U,r,_,0,_,U,U,aV.of (k3 r _ (zN hr B ()) hr),U,sz2,λJ al=>?_}};generalize c_:upd H3 J _=H4;let #[j,e4]:=AE c_ al;show{b.td,_,_,U,U,j _ _ t3,xg (),?_};generalize c5:upd H4 b.td _=H5;let T:∀c o,c≠b.td->H4 c=Z o->H5 c=Z o:=λc o z e=>[<-c5,zm z]\e
 let e5:H5 b.td=Z (HO.lst (ts++[V.ref J])):=[<-c5]\zh
 clear c5;let x5:=T _ _ u (j _ _ I);show{_,U,x,_,_,_,_,U,x5,F.cl,F.n1,U,_,_,U,U,_,_,x5,(),?_};generalize c6:upd H5 x _=H6;let e6:H6 x=Z (HO.ins t.q00 b.dx (zmg b (k+1))):=[<-c6]\zh
 let O:∀c o,c≠x->H5 c=Z o->H6 c=Z o:=λc o z e=>[<-c6,zm z]\e
 clear c6;let kk:∀c o,c≠x->c≠b.td->c≠b.ln->H c=Z o->H6 c=Z o:=λc o c1 c2 C e=>O c o c1 (T c o c2 (j _ _ (k3 c o C e)));let aa:TSm H H6:=λc zs e=>kk c _ (zN e m ()) (zN e ht ()) (zN e B ()) e;show q H6 (.ref J) _ kk {e6,O _ _ u.symm e5,O _ _ A.symm (T _ _ n4.symm (j _ _ e3)),ne,l0} {J,oc,U,O _ _ (zN e4 (j _ _ I) ()) (T _ _ (zN e4 (j _ _ t3) ()) e4),?_} {_,U};let:=ho.ts aa
 rwa [e.ocD] at this
def qB{O:LV}{_E:XK}(F:HsF K t)(D:DkF K t)(h:xB t O H Q _E) :
  vj K t (aX Q) (zZZ 2 O) H:=by
 let #[x,b,a,lb,n,f,S,e,ts,lx,rfl,j,hd,hr,ok,hl,q]:=h;let #[DV,J]:=hd.ex;let #[#[_,le],_,_,_,_,v,hv,pp]:=J.ph;let ed:=J.d0;let ee:=J.o.at (i:=8) rfl;let #[nl,gl,Y,m1,m2]:=pp;show ya j.ix F.cl F.n4 U U {b.d,_,_,_,_,U,ed,D.cD,D.d9,U,ya j.ix F.cl F.n1 U U (ya j.ix F.cl F.n4 U U {b.d,_,_,_,_,U,ed,D.cD,D.d3,U,_,_,U,U,_,U,a.en,_,U,aN.of ee,λp B=>?_})};rw[f+(S.m:Int)-f=(S.m:Int)|>(),zfD DV.en S.m,DV.en.drop S.m=[v]|>[dA (),(bi.mp hv).2,mQ ()]\_];generalize c_:upd H p _=H1;let #[C,I]:=AE c_ B;let n1:=zy j.ix B;let n2:=zy j.ht B;let n3:=zy j.hl B;show{p,U,{_,aN.of I},xY [v] (λi A H'=>(∃o,A=[Z (.ref x),o])/\((i=0/\H'=H1)\/(i=1/\∃m,(∀c o,c≠x->c≠b.td->c≠b.ln->H1 c=Z o->H' c=Z o)/\HsA t H' x b lb (f+S.m+1) (ts++[m]) (lx++[.str (En.deal (f+S.m) e).ln])/\AnA H' m (f+S.m)))) {{_,U},.inl {U,U}} (λi A H' z=>?_) ?_ ?_}
 .obtain ⟨_,rfl⟩|⟨_,_,k,_⟩:=z.2
  .show aN.of I
  .show aN.of (k p _ n1.symm n2.symm n3.symm I)
 .rintro i u A H' T ⟨⟨o,rfl⟩,⟨rfl,rfl⟩|⟨rfl,_⟩⟩
  .cases T;show zmC F (j.same C) hr ok hl.1 hl.2 (Y.same C) λH2 m A k h a o=>{o,.inr {U,m,k,h,a}}
  .show absurd T ()
 .rintro A H' ⟨_,⟨z,_⟩|⟨_,m,k,h,a⟩⟩
  .cases z
  .show q H' m (λc o c1 c2 c3 e=>k c o c1 c2 c3 (C _ _ e)) h a
def QA(h:xS P.R tb)(k:(∀r∈P.R,zcm r.1/\wB r.2)/\P.R.length<=14)(j:rB (P.f+P.m)):(En.mark (P.f+P.m) tb).ok:=by let:=qA h;show{j,{h.1,(),λr j=>k.1 r (vm ((h.2 r.1 r.2).mp j).1)},λr j=>((h.2 r.1 r.2).mp j).2,()}
def QB{vs:LV}{_E:XK}(F:HsF K t)(D:DkF K t)(h:vS t vs H Q _E) :
  Y1 K t (aX Q) (zZZ 1 vs) H:=by
 let #[x,P,N,rfl,I,hR,lR,ll,O,q]:=h;let #[dx,b0,ex]:=I.x0;let #[b,a,lb,S,ts,G,em,C,z]:=id I;obtain rfl:=zfM z;show ya G.h.ix F.cl F.n3 U U {.inl {U,_,aN.of G.h.hl},yW G.h.ix U U {x,P,_,U,I,λH1 J=>yW (J _ _ G.h.ix) U U {x,P,_,U,I.same J,λl tb H2 s2 _ hl m=>{P.f+P.m,l,tb,U,O,hl,(QA m {hR,lR} O).2.1,λH3 s3=>?_}}}};let u:=J.trans (s2.trans s3);let j:=G.h.same u;show{b.ln,_,_,U,U,j.hl,xg (by unfold Aw;rw[bd,bd];lia),?_};let T:x≠b.ln:=zN j.ix j.hl ();generalize c4:upd H3 b.ln _=H4;let G3:Au t H4 b.d a lb P.n P.f S .rest:=[<-c4]\(G.d.same u).put j.hl () j.l0.2.2
 let B:∀c o,c≠b.ln->H3 c=Z o->H4 c=Z o:=λc o z e=>[<-c4,zm z]\e
 let h4:HsA t H4 x b lb (P.f+S.m) ts (Aw (P.L++[.mark (P.f+P.m) tb])):={B _ _ T j.ix,B _ _ j.ne j.ht,by rw[<-c4,zh];unfold Aw;rw[bW,bW];rfl,j.ne,j.l0};let A:TSm H H4:=λc zs z=>B _ _ (zN (u _ _ z) j.hl ()) (u _ _ z);let an:∀c o,H c=Z o->∃o',H4 c=Z o':=λc o e=>[<-c4]\kS c o (u _ _ e)
 let al:∀c o,¬ HsN x b lb c->H c=Z o->H4 c=Z o:=λc o z e=>B c o (λw=>z (.inr (.inr (.inr w)))) (u _ _ e);clear c4;let #[D4,J4]:=G3.ex;show ya h4.ix F.cl F.n4 U U {b.d,_,_,U,J4.d0,U,b.d,a,lb,P.n,P.f,S,U,G3,G.o,λaF H5 aa F5 k G5=>?_};let lr:=qA (zkZ k G.w);let o:=G.o;let lm:=o.lm;show q tb H5 _ (FrN.trans {al,A,an,λ_ y=>.inl y} (FrN.of F5)) m {b,a,aa,{aF,[],P.f+S.m,S.m},ts,{h4.fr F5,jr (jr G.an A) F5.ts,G5,{o.f0,Bk _,(),lm,bP _,(),by change aF.length+0<=49+S.m;lia},λp=>(zkY k p).trans (G.w p)},em,{by change (P.L++_).length<=30;rw[bj,bN];lia,λz hz=>?_,by change P.rs.length<=(P.L++_).length;let:=C.rl;rw[bj];lia},λ_=>tq};obtain y|y:=bw.mp hz
 .show C.ok z y
 .show bu.mp y\QA m {hR,lR} O
end
section
variable {A B C L M:List En}{r2:Int}{R' R2:zG}{x:Str}
def XA:∀ {A:List En}{r:Int}{R:zG},Up (A++B) r R r' R'->∃r1 R1,Up A r R r1 R1/\Up B r1 R1 r' R'
 |[],r,R,h=>{r,R,{U,U},h}
 |.deal k e::A,r,R,h=>let ⟨r1,R1,a,b⟩:=XA h.2;{r1,R1,{h.1,a},b}
 |.mark k tb::A,r,R,h=>let ⟨r1,R1,a,b⟩:=XA h.2.2;{r1,R1,{h.1,h.2.1,a},b}
def QC:∀ {A:List En}{r:Int}{R:zG},Up A r R r1 R1->Up B r1 R1 r' R'->Up (A++B) r R r' R'
 |[],r,R,⟨a,b⟩,h=>by subst a b;show h
 |.deal k e::A,r,R,h,g=>{h.1,QC h.2 g}
 |.mark k tb::A,r,R,h,g=>{h.1,h.2.1,QC h.2.2 g}
def XB:∀ {A:List En}{r:Int}{R:zG},Up A r R r1 R1->Up A r R r2 R2->r1=r2/\R1=R2
 |[],_,_,⟨a,b⟩,⟨c,d⟩=>{a.trans c.symm,b.trans d.symm}
 |.deal k e::A,r,R,h,g=>XB h.2 g.2
 |.mark k tb::A,r,R,h,g=>XB h.2.2 g.2.2
def zk2(h:Up (z::B) r R r' R'):z.rk=r:=by
 cases z with
 |deal k e=>show h.1
 |mark k tb=>show h.1
def zk3:∀ {A:List En}{r:Int}{R:zG},Up A r R r' R'->∀z∈A,r<=z.rk
 |z::A,r,R,h,y,hy=>by
  obtain rfl|h2:=bo.mp hy
  .show Int.le_of_eq (zk2 h).symm
  .cases z with
   |deal k e=>let:=zk3 h.2 y h2;lia
   |mark k tb=>show zk3 h.2.2 y h2
def zgZ:xS [] []:={.nil,λ_ _=>{(),λz=>nomatch z.1}}
def JG(h:∀r R,¬ Up M f [] r R)(j:∃es,M=.mark f []::es):Z5 (M.map Ln.ok):=λm tb es r R g=>by let #[k,rfl]:=j;cases W9 g.1;show h r R {U,zgZ,g.2}
def zk4(h:Ln.bad x∈ls):Z5 ls:=λj tb es r R g=>by rw[g.1] at h;let #[z,_,e]:=bM.mp h;cases e
def zmD(h:∀q tb es,M≠.mark q tb::es):Z5 (M.map Ln.ok):=λj tb es _ _ g=>h j tb es (W9 g.1)
def Ao.up(h:Ao L r R):∃f es,L=.mark f []::es/\Up L f [] r R:=by let #[f,es,rfl,u,_]:=h.ex;show{f,es,U,U,zgZ,u}
def Ao.len(h:Ao L r R):0<L.length:=by let #[f,es,rfl,_]:=h.ex;show ms _
def zk5(h:∀z∈M,z.ok)(l:M.length<=30):As (M.map Ln.ok):={bd\l,λy k=>by let #[z,j,rfl]:=bM.mp k;show h z j}
def  txV(ls:List Ln):LV:=(ls.map Ln.tx).map V.str
def zk6(M:List En):txV (M.map Ln.ok)=Aw M:=by unfold txV Aw;rw[fh,fh,fh];rfl
def zk7(a b:List Ln):txV (a++b)=txV a++txV b:=by unfold txV;rw[bW,bW]
def Wt(k:Nat):(Aw L).take k=Aw (L.take k):=by unfold Aw;rw[oB,oB]
def YB(k:Nat):(Aw L).drop k=Aw (L.drop k):=by unfold Aw;rw[rM,rM]
def XC(A B:List En):Aw (A++B)=Aw A++Aw B:=by unfold Aw;rw[bW,bW]
def Zg(L:List En):(Aw L).length=L.length:=by unfold Aw;rw[bd,bd]
def zeA{k:Nat}(h:L[k]?=Z z):atI (Aw L) k=Z (.str z.ln):=yL (by unfold Aw;rw[bn,bn,h];rfl)
def Ao.cut(h:Ao L r R)(j:L[k]?=Z (.deal q e)):∃f I r1 R1,L.take k=.mark f []::I/\L=L.take k++.deal q e::L.drop (k+1)/\Up (L.take k) f [] r1 R1/\q=r1/\Up (L.drop (k+1)) (r1+1) (R1++e.gi) r R:=by
 let #[f,es,m,u]:=h.up;let w:=(bi.mp j).1;let o:L=L.take k++.deal q e::L.drop (k+1):=[<-(bi.mp j).2,<-dA w,fZ]\_
 rw[o] at u;let #[r1,R1,a,b]:=XA u;cases k with
 |zero=>rw[m] at j;cases j
 |succ k=>show{f,es.take k,r1,R1,m\U,o,a,b.1,b.2}
def zmE(h:Ao L r R)(m:L[k]?=Z (.deal q e))(o:k+1<L.length):Z5 ((L.take k++L.drop (k+1)).map Ln.ok):=by let #[f,I,r1,R1,w,_,u,rfl,j]:=h.cut m;show JG (f:=f) (λr' R' g=>?_) {_,w\U};let #[r2,R2,a,b]:=XA g;let #[rfl,rfl]:=XB a u;rw[dA o] at b j;let:=zk2 b;let:=zk2 j;lia
def zii(h:Ao L r R)(j:L[k]?=Z (.deal q e)):Z5 ((L.take (k+1)++L.drop k).map Ln.ok):=by
 let #[f,T,r1,R1,w,O,u,rfl,J]:=h.cut j;let o:=(bi.mp j).1;let m:L.take (k+1)=L.take k++[.deal q e]:=[du,j]\U
 let I:L.drop k=.deal q e::L.drop (k+1):=[dA o,(bi.mp j).2]\_
 rw[m,I];show JG (f:=f) (λr' R' g=>?_) {_,w\U};let #[r2,R2,a,b]:=XA g;let #[rfl,rfl]:=XB a (QC u (Up [.deal q e] q R1 (q+1) (R1++e.gi)|>{U,U,U}));let:=b.1;lia
def zk8(h:Ao L r R){q2:Int}(w:L[k]?=Z (.deal q e))(I:L[j]?=Z (.deal q2 e2))(O:k<j):Z5 ((L.take k++(.deal q2 e2::B)).map Ln.ok):=by let #[f,T,r1,R1,J,_,u,rfl,m]:=h.cut w;show JG (f:=f) (λr' R' g=>?_) {_,J\U};let #[r2,R2,a,b]:=XA g;let #[rfl,rfl]:=XB a u;let:=b.1;let o:En.deal q2 e2∈L.drop (k+1):=b7 (i:=j-(k+1)) ([uy,k+1+(j-(k+1))=j|>()]\I);let:r2+1<=q2:=zk3 m _ o;lia
def zk9(h:Ao L r R)(n:¬ xS R tb):Z5 ((L++[En.mark q tb]).map Ln.ok):=by let #[f,es,j,u]:=h.up;show JG (f:=f) (λr' R' g=>?_) {_,j\U};let #[r2,R2,a,b]:=XA g;let #[rfl,rfl]:=XB a u;show n b.2.1
def zij(h:Ao L r R):Z5 ((L.drop 1).map Ln.ok):=by let #[f,es,rfl,_,n]:=h.ex;show zmD n
end
def zmF:((cH 128).all λe=>decide (e=0) || decide (Nat.gcd 1009 e=1))=af:=()
def zg0{e w:Nat}(m:0<e)(k:e<128)(j:0<w)(h:w<1009):¬ 1009 ∣ e*w:=λz=>by
 let:=cx.mp zmF e (gB.mpr k);simp only[oK,decide_eq_true_eq] at this;let g:Nat.Coprime 1009 e:=by obtain c|c:=this;(· lia);show c
 let:=Nat.le_of_dvd j (g.dvd_of_dvd_mul_left z);lia
def zg1:((cH 1009).all λn=>decide ((zfS (z8 (n:Nat)) 4).cps.toList.foldl (λa c=>a*10+(c-48)) 0=n))=af:=()
def zmG{i j:Int}(k:0<=i)(h:i<1009)(o:0<=j)(m:j<1009)(e:zfS (z8 i) 4=zfS (z8 j) 4):i=j:=by let a:=cx.mp zg1 i.toNat (gB.mpr ());let b:=cx.mp zg1 j.toNat (gB.mpr ());rw[((i.toNat:Nat):Int)=i|>(),decide_eq_true_eq] at a;rw[((j.toNat:Nat):Int)=j|>(),decide_eq_true_eq] at b;rw[e] at a;lia
def zob{P S:wU}{c d:Nat}(u:c<128)(o:d<128)(k:c≠d):(ckL 0 (P++c::S)).sum%1009≠(ckL 0 (P++d::S)).sum%1009:=λz=>by
 rw[zcw,zcw,Bm,Bm] at z;let j:∀x:Nat,(ckL (0+P.length) (x::S)).sum=(x:Int)*(1+((0+P.length:Nat):Int)%1008)+(ckL (0+P.length+1) S).sum:=λx=>rfl;rw[j,j] at z;obtain⟨w,m⟩:∃w:Nat,w=1+(0+P.length)%1008:={_,U};let h:(1+((0+P.length:Nat):Int)%1008)=(w:Int):=()
 rw[h,<-Int.natCast_mul,<-Int.natCast_mul] at z;generalize (ckL 0 P).sum=A at z;generalize (ckL (0+P.length+1) S).sum=B at z;obtain l|l:=i6 c d
 .show zg0 (e:=d-c) (w:=w) () () () () ?_;rw[Nat.sub_mul];let:=oj w (ml l);generalize c*w=X at *
  generalize d*w=BE at *
  lia
 .show zg0 (e:=c-d) (w:=w) () () () () ?_;rw[Nat.sub_mul];let:=oj w l;generalize c*w=X at *
  generalize d*w=BE at *
  lia
def Va{z p d:Str}(e:z.cps.toList=p.cps.toList++32::d.cps.toList)(no:32 ∉ d.cps.toList)(h:d≠vp p)(k:Av p)(j:p.length<=20000):zkv z:=by let:z=p++AF++d:=xN ([e,yf,yf,cX]\U);show{p,AF,d,[jq,this]\zdK no,h,k,j}
def QD{d p:Str}(h:d.cps.toList.length≠4):d≠vp p:=λz=>h ([z,bE]\(Yn p).1)
def zmH{l:wU}(h:32∈l):∃p s,l=p++32::s/\32 ∉ s:=by let #[a,b,e,n]:=List.eq_append_cons_of_mem (List.mem_reverse.mpr h);show{b.reverse,a.reverse,?_,λz=>n (rR.mp z)};let:=congrArg List.reverse e;rw[List.reverse_reverse] at this;rw[this];simp
def zoc{b z:Str}{i d:Nat}(m:Av b)(lb:b.length<=19000)(sp:32∈b.cps.toList)(I:d<128)(hi:i<(b++AF++vp b).length)(k:(b++AF++vp b).cps[i]?≠Z d)(h:z.cps.toList=(b++AF++vp b).cps.toList.take i++d::(b++AF++vp b).cps.toList.drop (i+1)):zkv z:=by
 let #[O,c2,o]:=Yn b;let J:(b++AF++vp b).cps.toList=b.cps.toList++32::(vp b).cps.toList:=[yf,yf,cX]\U
 let lx:(b++AF++vp b).length=b.length+5:=[yB,yB,O]\U
 rw[<-bU,J] at k;rw[J] at h;let lB:b.cps.toList.length=b.length:=bE;let A:(vp b).cps.toList.length=4:=bE\O
 generalize eB:b.cps.toList=B at *
 generalize eC:(vp b).cps.toList=C at *
 obtain l|l|l:=pQ i B.length
 .rw[gY l,bc l] at k;rw[List.take_append_of_le_length (),List.drop_append_of_le_length ()] at h;let eb:B=B.take i++B[i]::B.drop (i+1):=[<-dA l,fZ]\_
  show Va (p:=⟨(B.take i++d::B.drop (i+1)).toArray⟩) (d:=vp b) ([h,eC]\?s) (eC\o) (λq=>?_) (λc hc=>?_) ?_
  .let:=zmG (kE _).1 (kE _).2 (kE _).1 (kE _).2 q;unfold zh0 at this;rw[eB] at this;let w:(ckL 0 B).sum%1009=(ckL 0 (B.take i++d::B.drop (i+1))).sum%1009:=this;rw[ckL 0 B=ckL 0 (B.take i++B[i]::B.drop (i+1))|>congrArg (ckL 0) eb] at w;let u:∀c∈B,c<128:=λc hc=>m c (eB\hc);show zob (u _ (cL l)) I (λz=>k (z\_)) w
  .simp at hc;obtain hc|rfl|hc:=hc
   .show m c (eB\cU hc)
   .show I
   .show m c (eB\cT hc)
  .change (B.take i++d::B.drop (i+1)).toArray.size<=_;simp;lia
 .subst l;let dn:d≠32:=λz=>k ([dH (bh _),pA,z]\U);rw[List.take_left,n9] at h;rw[iM (),Nat.add_sub_cancel_left,eQ,uc,iK] at h;let #[p,s,e,n]:=zmH sp;show Va (p:=⟨p.toArray⟩) (d:=⟨(s++d::C).toArray⟩) ([h,e]\?s) ?_ (QD (by simp[A])) (λc hc=>m c (by rw[eB,e];simp at hc;simp[hc])) ?_
  .simp only[bw,bo];rintro(q|q|q)
   .show n q
   .show dn q.symm
   .show o q
  .change p.toArray.size<=_;let:=congrArg eA e;simp at this ⊢;lia
 .obtain⟨j,rfl⟩:∃j,i=B.length+1+j:={i-B.length-1,()};let hj:j<C.length:=by rw[lx] at hi;lia
  rw[dH (),B.length+1+j-B.length=j+1|>(),dv] at k;let t1:(B++32::C).take (B.length+1+j)=B++32::C.take j:=[u5,bV (),B.length+1+j-B.length=j+1|>(),List.take_succ_cons]\_
  let T:(B++32::C).drop (B.length+1+j+1)=C.drop (j+1):=[n9,iM (),eQ,B.length+1+j+1-B.length=j+2|>(),uc]\_
  rw[t1,T] at h;by_cases d32:d=32
  .subst d32;show Va (p:=⟨(B++32::C.take j).toArray⟩) (d:=⟨(C.drop (j+1)).toArray⟩) (h\_) (by simp;show λq=>o (cT q)) (QD (by simp[A];lia)) (λc hc=>?_) ?_
   .simp at hc;obtain hc|rfl|hc:=hc
    .show m c (eB\hc)
    .decide
    .show c2 c (eC\cU hc)
   .change (B++32::C.take j).toArray.size<=_;simp;lia
  .show Va (p:=b) (d:=⟨(C.take j++d::C.drop (j+1)).toArray⟩) ([h,eB]\?s) ?_ (λq=>?_) m ()
   .simp only[bw,bo];rintro(q|q|q)
    .show o (cU q)
    .show d32 q.symm
    .show o (cT q)
   .let:=congrArg (λs:Str=>s.cps.toList) q;simp only[eC] at this;show k ?_;rw[<-this,dH (bQ\()),bQ,gL (),pA];rfl
def En.wd(h:z.ok):∀w∈z.ws,Wd w:=by
 cases z with
 |deal r e=>show JD h.1 (e.ocD\Qx) (zgV h.2)
 |mark r tb=>show JE h.1 h.2.1
def En.sp(z:En):32∈(xR (bb " ") z.ws).cps.toList:=by
 let k:∀(a b:Str)(l:zO),32∈(xR (bb " ") (a::b::l)).cps.toList:=λa b l=>[vZ,jq,AF=⟨#[32]⟩|>rfl,jI]\bD _ bp
 cases z with
 |deal r e=>show k _ _ _
 |mark r tb=>show k _ _ _
def zmI:∀x∈[bb "",bb " ",bb "\t"],zfA x:=by
 let b:∀ {x p s d:Str},(decide (rpL x (bb " ")=[.str p,.str s,.str d])&&(decide (d.length≠4)&&(decide (∀c∈p.cps.toList,c<128)&&(decide (p.length<=1)&&(decide (∀c∈x.cps.toList,c<128)&&(decide (x.length<=1)&&decide (10 ∉ x.cps.toList)))))))=af->zfA x:=λ{x p s d} h=>by simp only[bK,decide_eq_true_eq] at h;let #[u,o,m,A,k,w,j]:=h;show{{p,s,d,u,QD (bE\o),m,()},k,(),j}
 intro x hx;obtain rfl|hx:=bo.mp hx
 .show b (p:=bb "") (s:=bb "") (d:=bb "") ()
 obtain rfl|hx:=bo.mp hx
 .show b (p:=bb "") (s:=bb " ") (d:=bb "") ()
 .show bu.mp hx\b (p:=bb "") (s:=bb "") (d:=bb "\t") ()
def zfN(h:z.ok){y:Str}(hy:y∈[bb " ",bb "\t"]):zfA (z.ln++y):=by
 let #[#[u,j,o],I]:=En.lnok h;let f:Av y/\y.length=1/\10 ∉ y.cps.toList:=by
  obtain rfl|hy:=bo.mp hy
  .unfold Av;lia
  .rw[bu.mp hy];unfold Av;lia
 show{?_,j.app f.1,yB\(),λc=>?_}
 .obtain rfl|hy:=bo.mp hy
  .show Va (p:=z.ln) (d:=bb "") (yf\U) () (QD ()) j ()
  .rw[bu.mp hy];let C:=YA (En.wd h);let m:z.ln=xR (bb " ") z.ws++bb " " ++ vp (xR (bb " ") z.ws):=rfl;let #[B,J,A]:=Yn (xR (bb " ") z.ws);let w:(vp (xR (bb " ") z.ws)).cps.toList.length=4:=bE\B
   rw[m,yB,yB] at u;show Va (p:=xR (bb " ") z.ws) (d:=vp (xR (bb " ") z.ws)++bb "\t") ([m,jq,yf,yf,yf,yf,cX,cX]\U) (λk=>?_) (QD ([yf,bj,w]\())) (j6 (En.wd h)) ();rw[yf] at k;obtain k|k:=bw.mp k
   .show A k
   .revert k;lia
 .rw[yf] at c;obtain c|c:=bw.mp c
  .show o c
  .show f.2.2 c
def  sgS:Str:=bb " !\"#$&'()*+,-./0123456789:;<=>?@ABCDEFGHIJKLMNOPQRSTUVWXYZ[\\]^_`" ++ bb "abcdefghijklmnopqrstuvwxyz{|}~"
def zg2:(decide (sgS.length=94)&&(decide sgS.cps.toList.Nodup&&(sgS.cps.toList.all (λc=>decide (c<128/\c≠10))&&(cH 128).all λy=>(decide (Vt sgS ⟨#[y]⟩=-1)&&decide (y ∉ sgS.cps.toList)) || (decide (0<=Vt sgS ⟨#[y]⟩)&&decide (sgS.cps.toList[(Vt sgS ⟨#[y]⟩).toNat]?=Z y)))))=af:=()
def zod{y:Nat}(A:y<128){o:Int}(h0:0<=o)(h1:o<93):∃d,atI sgS.cps.toList ((Vt sgS ⟨#[y]⟩+1+o)%94)=Z d/\d≠y/\d<128/\d≠10:=by
 let f:=zg2;simp only[bK,decide_eq_true_eq] at f;let #[J,I,C,m]:=f;let m:=cx.mp m y (gB.mpr A);let T:sgS.cps.toList.length=94:=bE\J
 generalize sgS.cps.toList=S at *
 generalize Vt sgS ⟨#[y]⟩=f at *
 let B:=dL (f+1+o) (b:=94) ();let g2:=dc (f+1+o) (b:=94) ();obtain⟨j,O⟩:∃j:Nat,(f+1+o)%94=(j:Int):={_,(ma B).symm};let h:j<S.length:=()
 let b:=cx.mp C _ (cL h);rw[decide_eq_true_eq] at b;show{S[j],O\yL (bc h),λe=>?_,b.1,b.2};rw[oK,bK,bK,decide_eq_true_eq,decide_eq_true_eq,decide_eq_true_eq,decide_eq_true_eq] at m;obtain ⟨_,n⟩|⟨f0,k⟩:=m
 .show n ([<-e]\cL h)
 .let #[w,k]:=bi.mp k;let u:=eT.mp I;obtain l|l|l:=pQ j f.toNat
  .show u _ _ h w l (e.trans k.symm)
  .lia
  .show u _ _ w h l (k.trans e.symm)
def znb:sgS.length=94:=by let f:=zg2;simp only[bK,decide_eq_true_eq] at f;show f.1
def zoZ:(bb " !\"#$&'()*+,-./0123456789:;<=>?@ABCDEFGHIJKLMNOPQRSTUVWXYZ[\\]^_`").length+(bb "abcdefghijklmnopqrstuvwxyz{|}~").length<=Fb:=zM ([<-yB]\bR (gC znb) ())
def ZB{i j m:Int}{R:VK}(h:i%j=m)(k:0<j)(q:R (.int m) H):rI (λ_ j=>0<j) (λi j=>.int (i%j)) (.int i) (.int j) H R:={i,j,U,U,k,h\q}
def XD{z:En}{c:Int}(h:z.ok)(q:∀y H',aH H H'->zfA y->Q (.str y) H') :
  kD K t (aX Q) (zZZ 5 [.str z.ln,.int c]) H:=by
 let #[#[l1,B,J],l4]:=En.lnok h;let lw:=YA (En.wd h);let ja:=j6 (En.wd h);let sp:=En.sp z;let o:z.ln=xR (bb " ") z.ws++AF++vp (xR (bb " ") z.ws):=[<-jq]\U
 generalize xR (bb " ") z.ws=b at *
 generalize z.ln=x at *
 let lb:b.length<=19000:=by let:=l4;rw[o,yB,yB] at this;lia
 let lx:0<x.length:=[o,yB,yB,AF.length=1|>rfl]\()
 let I:x.cps.toList.length=x.length:=bE;obtain⟨i,ei,hi⟩:∃i:Nat,c%(x.length:Int)=(i:Int)/\i<x.length:=by let a:=dL c (b:=(x.length:Int)) ();let b:=dc c (b:=(x.length:Int)) ();show{(c%(x.length:Int)).toNat,(),()}
 let k:=cL (i<x.cps.toList.length|>());let o0:=dL (c/997) (b:=93) ();let o1:=dc (c/997) (b:=93) ();let #[d,e1,e2,O,e4]:=zod (B _ k) o0 o1;let j:=znb;let A:sgS.length<=Fb:=zM ();let C:atI x.cps.toList (i:Int)=Z x.cps.toList[i]:=yL (bc ());show{_,U,_,_,U,U,zoZ,_,U,_,U,_,_,U,{zM (),U},ZB ei () ?_};show{_,U,U,_,U,_,U,{_,_,_,U,U,zM (),C,?_}};show{_,_,U,U,_,_,U,U,_,U,_,_,U,U,dB,_,U,_,_,U,{A,U},_,_,U,U,ZB (m:=c/997%93) (by change _%((sgS.length:Int)-1)=_;rw[j];rfl) (by change 0<(sgS.length:Int)-1;rw[j];decide) {_,_,U,U,?_}};show{_,U,_,U,_,U,_,U,zM (),_,U,_,U,_,U,_,_,U,{A,U},ZB (m:=(Vt sgS ⟨#[x.cps.toList[i]]⟩+1+c/997%93)%94) (by change _%(sgS.length:Int)=_;rw[j];rfl) (by change 0<(sgS.length:Int);rw[j];decide) {_,_,_,U,U,A,e1,?_}};let t1:(eO x ae (Z (i:Int))).length<=x.length:=by change (eO x ae (Z (i:Int))).cps.size<=_;show [<-bE,Kc,bQ]\bR (uS _ _) (gC I)
 let T:(eO x (Z ((i+1:Nat):Int)) ae).length<=x.length:=by change (eO x (Z ((i+1:Nat):Int)) ae).cps.size<=_;show [<-bE,Y8,cz]\bR (Nat.sub_le _ _) (gC I)
 let u:(eO x ae (Z (i:Int))++⟨#[d]⟩++eO x (Z ((i+1:Nat):Int)) ae).cps.toList=x.cps.toList.take i++d::x.cps.toList.drop (i+1):=[yf,yf,Kc,Y8,cX]\U
 show{_,_,U,U,zM (zgA\()),_,U,_,U,_,_,U,U,_,U,_,U,zM (),_,_,U,U,zM ([yB,zgA]\bR (tT T _) ()),q _ H (aH.refl _) {zoc ja lb sp O ([<-o]\hi) (λw=>?_) ([<-o]\u),λc k=>?_,?_,λw=>?_}}
 .rw[<-o,<-bU,bc ()] at w;show e2 (cf w).symm
 .let k:c∈(eO x ae (Z (i:Int))++⟨#[d]⟩++eO x (Z ((i+1:Nat):Int)) ae).cps.toList:=k;rw[u] at k;obtain y|y:=bw.mp k
  .show B c (cU y)
  obtain rfl|y:=bo.mp y
  .show O
  .show B c (cT y)
 .change (eO x ae (Z (i:Int))++⟨#[d]⟩++eO x (Z ((i+1:Nat):Int)) ae).cps.size<=3000;rw[<-bE,u,bj,bQ,bJ,cz];lia
 .let w:10∈(eO x ae (Z (i:Int))++⟨#[d]⟩++eO x (Z ((i+1:Nat):Int)) ae).cps.toList:=w;rw[u] at w;obtain y|y:=bw.mp w
  .show J (cU y)
  obtain y|y:=bo.mp y
  .show e4 y.symm
  .show J (cT y)
section
variable {dl p:ac}{k c rr:Int}{L:List En}{zs:LV}{H1:Hp}{vs:LV}{x0:Str}
def zik{k:Nat}(h:H l=Z (.lst xs))(q:∀p H',aH H H'->H' p=Z (.lst (xs.take k))->Q (.ref p) H'):wz K (.ref l) ae (Z (k:Int)) H Q:={l,xs,U,aN.of h,λp j=>zkF\q p _ (hZ p j) zh}
def zfO{k:Nat}(h:H l=Z (.lst xs))(q:∀p H',aH H H'->H' p=Z (.lst (xs.drop k))->Q (.ref p) H'):wz K (.ref l) (Z (k:Int)) ae H Q:={l,xs,U,aN.of h,λp j=>zfD\q p _ (hZ p j) zh}
def zo0{k m:Nat}(h:H l=Z (.lst xs))(u:k<=m)(o:m<=xs.length)(q:∀p H',aH H H'->H' p=Z (.lst ((xs.drop k).take (m-k)))->Q (.ref p) H'):wz K (.ref l) (Z (k:Int)) (Z (m:Int)) H Q:={l,xs,U,aN.of h,λp j=>zkG xs k m u o\q p _ (hZ p j) zh}
def Wu(o:H l=Z (.lst xs))(m:H b=Z (.lst zs))(h:xs.length+zs.length<=100000)(q:∀p H',aH H H'->H' p=Z (.lst (xs++zs))->Q (.ref p) H'):qH (.ref l) (.ref b) H Q:={l,b,xs,zs,U,U,o,m,zM h,λp j=>q p _ (hZ p j) zh}
def zil(q:∀p H',aH H H'->H' p=Z (.lst [v])->Q (.ref p) H'):zln .lst Q [v] H:={sz1,λp h=>q p _ (hZ p h) zh}
def QE(c:Int){n:Nat}(h:0<n):∃i:Nat,c%(n:Int)=(i:Int)/\i<n:=by let a:=dL c (b:=(n:Int)) ();let b:=dc c (b:=(n:Int)) ();show{(c%(n:Int)).toNat,(),()}
structure SpI(H:Hp)(l dl:ac)(L:List En)(ds:wU)(r:Int)(R:zG)(rr:Int)(tb:zG):Prop where
 hl:H l=Z (.lst (Aw L))
 hd:H dl=Z (.lst (ds.map λ(j:Nat)=>V.int j))
 lg:Ao L r R
 di:DlI L ds
 mo:(En.mark rr tb).ok
 nt:¬ xS R tb
def  SpQ(Q:VK)(H:Hp):Prop:=∀h ls H',aH H H'->H' h=Z (.lst ((ls.map Ln.tx).map V.str))->As ls->Z5 ls->Q (.ref h) H'
def SpQ.fin(h:SpQ Q H)(s:aH H H1)(e:H1 p=Z (.lst vs))(ls:List Ln)(j:vs=txV ls)(lo:As ls)(no:Z5 ls):Q (.ref p) H1:=h p ls H1 s ([e,j]\U) lo no
def SpQ.ens(h:SpQ Q H)(s:aH H H1)(e:H1 p=Z (.lst vs))(M:List En)(o:vs=Aw M)(j:∀z∈M,z.ok)(m:M.length<=30)(no:Z5 (M.map Ln.ok)):Q (.ref p) H1:=h.fin s e _ ([o,zk6]\_) (zk5 j m) no
def SpQ.bad(h:SpQ Q H)(s:aH H H1){x:Str}(e:H1 p=Z (.lst (((Aw L).take i++[V.str x])++(Aw L).drop j)))(o:∀z∈L,z.ok)(A:L.length<=29)(B:i<=j)(w:zfA x):Q (.ref p) H1:=by
 show h.fin s e ((L.take i).map Ln.ok++[.bad x]++(L.drop j).map Ln.ok) ?_ {?_,λy u=>?_} (zk4 (x:=x) (cO _ (bD _ bp)))
 .rw[zk7,zk7,zk6,zk6,Wt,YB];rfl
 .simp only[bj,bd,bQ,cz,bN];lia
 .obtain y'|y':=bw.mp u
  .obtain y'|y':=bw.mp y'
   .let #[z,m,rfl]:=bM.mp y';show o z (cU m)
   .show bu.mp y'\w
  .let #[z,m,rfl]:=bM.mp y';show o z (cT m)
def  spS(l dl:ac)(k c:Int)(x:Str)(o5 o6 o7 o8 o9:Option V):St:=[Z (.ref l),Z (.ref dl),Z (.int k),Z (.int c),Z (.str x),o5,o6,o7,o8,o9]
def DlI.deal(h:DlI L ds)(j:i<ds.length):∃q e,L[ds[i]]?=Z (.deal q e):=(h.is _).mp (cL j)
def zg3(h:i<ds.length):atI (ds.map λ(j:Nat)=>V.int j) (i:Int)=Z (.int (ds[i]:Nat)):=yL ([bn,bc h]\U)
def zg4{xs:zO}(h:v∈xs.map V.str):∃x∈xs,v=.str x:=let ⟨x,a,b⟩:=bM.mp h;{x,a,b.symm}
def zmJ(S:SpI H l dl L ds r R rr tb)(q:SpQ Q H) :
  qj K t (aX Q) (spS l dl k c x0 o5 o6 o7 o8 o9) H:=by let #[i,O,hi]:=QE c (ms (Aw L).length);let #[v,T,C]:=zkA (xs:=[bb "",bb " ",bb "\t"].map V.str) (c/97) 3 U ();let #[x,B,rfl]:=zg4 C;let A:=S.lg.le;let ll:=Zg L;show{_,U,_,U,_,_,U,.inl {_,aN.of S.hl,U},_,_,U,U,ZB O (Int.natCast_pos.mpr (ms _)) {sz3,λp I=>?_}};generalize e0:upd H p _=H0;let #[m,J]:=AE e0 I;show{_,U,_,U,_,U,zik (m _ _ S.hl) λp1 H1 j e1=>{_,U,_,U,_,_,U,U,dB,ZB U () {p,_,_,_,U,U,aN.of (j _ _ J),T,zil λp2 H2 h e2=>Wu (h _ _ e1) e2 ([bQ,bN]\()) λp3 H3 u e3=>{_,U,_,U,_,U,zfO ((j.trans (h.trans u)) _ _ (m _ _ S.hl)) λp4 H4 o e4=>Wu (o _ _ e3) e4 (by simp only[bj,bQ,cz,bN];lia) λp5 H5 w e5=>q.bad (m.trans (j.trans (h.trans (u.trans (o.trans w))))) e5 S.lg.ok A (bh _) (zmI _ B)}}}}
def zmK(S:SpI H l dl L ds r R rr tb)(q:SpQ Q H){i:Nat}(A:i<L.length) :
  qk K t (aX Q) (spS l dl k c x0 (Z (.int i)) o6 o7 o8 o9) H:=by
 show{_,U,U,_,U,qw (λ_=>?_) λ_=>zmJ (t:=t) S q};let #[v,T,I]:=zkA (xs:=[bb " ",bb "\t"].map V.str) (c/97) 2 U ();let #[x,w,rfl]:=zg4 I;let C:=S.lg.le;let ll:=Zg L;let z:=S.lg.ok _ (cL A);let l1:=(En.lnok z).2;show{_,U,_,U,_,U,zik S.hl λp1 H1 j e1=>{_,U,_,U,_,_,_,_,U,U,aN.of (j _ _ S.hl),zeA (bc A),sz2,λp J=>?_}};generalize e0:upd H1 p _=H0;let #[m,O]:=AE e0 J;show{_,U,_,_,U,U,dB,ZB U () {p,_,_,_,U,U,aN.of O,T,_,_,U,U,zM ?_,zil λp2 H2 h e2=>Wu (h _ _ (m _ _ e1)) e2 ([bQ,bN]\()) λp3 H3 u e3=>{_,U,_,U,_,_,U,U,_,U,zfO (k:=i+1) ((m.trans (h.trans u)) _ _ (j _ _ S.hl)) λp4 H4 o e4=>Wu (o _ _ e3) e4 (by simp only[bj,bQ,cz,bN];lia) λp5 H5 B e5=>q.bad (j.trans (m.trans (h.trans (u.trans (o.trans B))))) e5 S.lg.ok C (iS _) (zfN z w)}}};let f:∀x∈[bb " ",bb "\t"],x.length<=1:=()
 let:=f x w;lia
def zg5(S:SpI H l dl L ds r R rr tb)(q:SpQ Q H){i:Nat}(o:i<L.length) :
  ql K t (aX Q) (spS l dl k c (En.mark rr tb).ln (Z (.int i)) o6 o7 o8 o9) H:=by
 show{_,U,U,_,U,qw (λ_=>?_) λ_=>zmK (t:=t) S q o};let I:=S.lg.le;let C:=Zg L;show{_,U,_,U,zil λB H1 h w=>Wu (h _ _ S.hl) w (bN\()) λA H2 j u=>q.ens (h.trans j) u (L++[En.mark rr tb]) (XC\U) (λz m=>?_) ([bj,bN]\()) (zk9 S.lg S.nt)};obtain y|y:=bw.mp m
 .show S.lg.ok z y
 .show bu.mp y\S.mo
def DlI.two(h:DlI L ds)(c:Int)(o:1<ds.length):∃i:Nat,c%((ds.length:Int)-1)=(i:Int)/\∃(h:i<ds.length)(u:i+1<ds.length),ds[i]<ds[i+1]/\(∃q e,L[ds[i]]?=Z (.deal q e))/\∃q e,L[ds[i+1]]?=Z (.deal q e):=by let #[i,j,m]:=QE c (n:=ds.length-1) ();show{i,by rw[<-j];congr 1;lia,(),(),eT.mp h.up i (i+1) () () (),h.deal (),h.deal ()}
def zmL(S:SpI H l dl L ds r R rr tb)(q:SpQ Q H){i:Nat}(hi:i<L.length) :
  qm K t (aX Q) (spS l dl k c (En.mark rr tb).ln (Z (.int i)) o6 o7 o8 o9) H:=by
 let ld:(ds.map λ(j:Nat)=>V.int j).length=ds.length:=bd ..;show{_,U,U,_,U,qw (λ_=>{_,U,_,_,U,.inl {_,aN.of S.hd,U},_,_,U,U,_,U,qw (λh2=>?_) λ_=>zg5 (t:=t) S q hi}) λ_=>yz U (zg5 (t:=t) S q hi)};let h2:1<ds.length:=by rw[ld] at h2;lia
 let #[m,em,m1,m2,lt,#[h,C,A],T,e2,o]:=S.di.two c h2;rw[<-ld] at em;let a1:=(bi.mp A).1;let a2:=(bi.mp o).1;let le:=S.lg.le;let ll:=Zg L;let bs:=zk8 (B:=(L.drop (ds[m]+1)).take (ds[m+1]-(ds[m]+1))++[.deal h C]++L.drop (ds[m+1]+1)) S.lg A o lt;let d1:=zg3 m1;let d2:atI (ds.map λ(j:Nat)=>V.int j) ((m:Int)+1)=Z (.int (ds[m+1]:Nat)):=zg3 m2;generalize ds[m]=u at *
 generalize ds[m+1]=w at *
 show{_,U,_,U,_,_,U,.inl {_,aN.of S.hd,U},_,_,U,U,ZB em (ld\()) {_,U,_,U,dl,_,_,_,U,U,aN.of S.hd,d1,{_,U,_,U,_,_,U,U,dl,_,_,_,U,U,aN.of S.hd,d2,?_}}};show{_,U,_,U,_,U,zik S.hl λp1 H1 O g1=>{_,U,_,U,l,_,_,_,U,U,aN.of (O _ _ S.hl),zeA o,zil λp2 H2 J g2=>Wu (J _ _ g1) g2 ([bQ,bN]\()) λp3 H3 s3 g3=>{_,U,_,U,_,_,U,U,_,U,_,U,_,U,zo0 (k:=u+1) ((O.trans (J.trans s3)) _ _ S.hl) lt (ll\()) λp4 H4 s4 g4=>Wu (s4 _ _ g3) g4 (by simp only[bj,bQ,cz,bN];lia) λp5 H5 s5 g5=>?_}}};let S5:=O.trans (J.trans (s3.trans (s4.trans s5)));show{_,U,_,U,_,U,l,_,_,_,U,U,aN.of (S5 _ _ S.hl),zeA A,zil λp6 H6 I g6=>Wu (I _ _ g5) g6 (by simp only[bj,bQ,cz,bN];lia) λp7 H7 s7 g7=>{_,U,_,U,_,_,U,U,_,U,zfO (k:=w+1) ((I.trans s7) _ _ (S5 _ _ S.hl)) λp8 H8 s8 g8=>Wu (s8 _ _ g7) g8 (by simp only[bj,bQ,cz,bN];lia) λp9 H9 s9 g9=>?_}};show q.ens (S5.trans (I.trans (s7.trans (s8.trans s9)))) g9 (L.take u++(.deal T e2::((L.drop (u+1)).take (w-(u+1))++[.deal h C]++L.drop (w+1)))) ?_ (λz hz=>?_) ?_ bs
 .rw[Wt,YB,YB,Wt,XC,(En.deal T e2::((L.drop (u+1)).take (w-(u+1))++[.deal h C]++L.drop (w+1)))=[En.deal T e2]++((L.drop (u+1)).take (w-(u+1))++[.deal h C]++L.drop (w+1))|>rfl,XC,XC,XC];simp only[cX];rfl
 .let z1:=S.lg.ok _ (b7 A);let z2:=S.lg.ok _ (b7 o);obtain y|y:=bw.mp hz
  .show S.lg.ok z (cU y)
  obtain rfl|y:=bo.mp y
  .show z2
  obtain y|y:=bw.mp y
  .obtain y|y:=bw.mp y
   .show S.lg.ok z (cT (cU y))
   .show bu.mp y\z1
  .show S.lg.ok z (cT y)
 .simp only[bj,bQ,cz,iW,bJ];lia
def zg6(S:SpI H l dl L ds r R rr tb)(cw:Cw c)(q:SpQ Q H){i:Nat}(o:i<L.length) :
  qo K t (aX Q) (spS l dl k c (En.mark rr tb).ln (Z (.int i)) o6 o7 o8 o9) H:=by show{_,U,U,_,U,qw (λ_=>?_) λ_=>zmL (t:=t) S q o};let C:=S.lg.le;let ll:=Zg L;let z:=S.lg.ok _ (cL o);show{_,U,_,U,_,U,zik S.hl λp1 H1 m g1=>{_,U,_,U,_,_,_,_,U,U,aN.of (m _ _ S.hl),zeA (bc o),{_,U,_,_,U,U,dB,{L[i],c/7,U,z,cw.div,λy H2 j u=>zil λp3 H3 h T=>Wu ((j.trans h) _ _ g1) T ([bQ,bN]\()) λp4 H4 A O=>{_,U,_,U,_,_,U,U,_,U,zfO (k:=i+1) ((j.trans (h.trans A)) _ _ (m _ _ S.hl)) λp5 H5 w J=>Wu (w _ _ O) J (by simp only[bj,bQ,cz,bN];lia) λp6 H6 B I=>q.bad (m.trans (j.trans (h.trans (A.trans (w.trans B))))) I S.lg.ok C (iS _) u}}}}}
def zg7(S:SpI H l dl L ds r R rr tb)(J:Cw c)(q:SpQ Q H){i:Nat}(C:i<L.length) :
  qp K t (aX Q) (spS l dl k c (En.mark rr tb).ln (Z (.int i)) o6 o7 o8 o9) H:=by
 let ld:(ds.map λ(j:Nat)=>V.int j).length=ds.length:=bd ..;show{_,U,U,_,U,qw (λ_=>{_,U,_,_,U,.inl {_,aN.of S.hd,U},_,_,U,U,_,U,qw (λh=>?_) λ_=>zg6 (t:=t) S J q C}) λ_=>yz U (zg6 (t:=t) S J q C)};let h:0<ds.length:=by rw[ld] at h;lia
 let #[m,I,A]:=QE c h;rw[<-ld] at I;let #[q1,e1,B]:=S.di.deal A;let a1:=(bi.mp B).1;let le:=S.lg.le;let ll:=Zg L;let d1:=zg3 A;generalize ds[m]=u at *
 show{_,U,_,U,_,U,_,_,U,.inl {_,aN.of S.hd,U},ZB I (ld\()) {dl,_,_,_,U,U,aN.of S.hd,d1,{_,U,_,U,_,_,U,U,_,U,zik (k:=u+1) S.hl λp1 H1 w g1=>{_,U,_,U,_,U,zfO (w _ _ S.hl) λp2 H2 o g2=>Wu (o _ _ g1) g2 (by simp only[bQ,cz];lia) λp3 H3 O g3=>q.ens (w.trans (o.trans O)) g3 (L.take (u+1)++L.drop u) ([XC,Wt,YB]\_) (λz T=>(bw.mp T).elim (λy=>S.lg.ok z (cU y)) λy=>S.lg.ok z (cT y)) (by simp only[bj,bQ,cz];lia) (zii S.lg B)}}}}
def zmM(S:SpI H l dl L ds r R rr tb)(I:Cw c)(q:SpQ Q H){i:Nat}(B:i<L.length) :
  qq K t (aX Q) (spS l dl k c (En.mark rr tb).ln (Z (.int i)) o6 o7 o8 o9) H:=by
 let ld:(ds.map λ(j:Nat)=>V.int j).length=ds.length:=bd ..;show{_,U,U,_,U,qw (λ_=>{_,U,_,_,U,.inl {_,aN.of S.hd,U},_,_,U,U,_,U,qw (λh=>?_) λ_=>zg7 (t:=t) S I q B}) λ_=>yz U (zg7 (t:=t) S I q B)};let h:1<ds.length:=by rw[ld] at h;lia
 let #[m,C,O,m2,lt,#[q1,e1,k1],q2,e2,T]:=S.di.two c h;rw[<-ld] at C;let a2:=(bi.mp T).1;let le:=S.lg.le;let ll:=Zg L;let d1:=zg3 O;generalize ds[m+1]=w at *
 generalize ds[m]=u at *
 show{_,U,_,U,_,U,_,_,U,.inl {_,aN.of S.hd,U},_,_,U,U,ZB C (ld\()) {dl,_,_,_,U,U,aN.of S.hd,d1,{_,U,_,U,_,U,zik S.hl λp1 H1 A g1=>{_,U,_,U,_,_,U,U,_,U,zfO (k:=u+1) (A _ _ S.hl) λp2 H2 o g2=>Wu (o _ _ g1) g2 (by simp only[bQ,cz];lia) λp3 H3 J g3=>q.ens (A.trans (o.trans J)) g3 (L.take u++L.drop (u+1)) ([XC,Wt,YB]\_) (λz hz=>(bw.mp hz).elim (λy=>S.lg.ok z (cU y)) λy=>S.lg.ok z (cT y)) (by simp only[bj,bQ,cz];lia) (zmE S.lg k1 ())}}}}
def Jm(S:SpI H l dl L ds r R rr tb)(A:Cw c)(q:SpQ Q H) :
  Z8 K t (aX Q) (zZZ 10 [.ref l,.ref dl,.int k,.int c,.str (En.mark rr tb).ln]) H:=by let C:=S.lg.le;let h:=Zg L;let #[i,j,u]:=QE c S.lg.len;rw[<-h] at j;show{_,U,_,U,_,_,U,.inl {_,aN.of S.hl,U},ZB j (h\()) {_,U,U,_,U,qw (λ_=>?_) λ_=>zmM (t:=t) (o6:=ae) (o7:=ae) (o8:=ae) (o9:=ae) S A q u}};show{_,U,1,U,zfO (k:=1) S.hl λB H1 m w=>q.ens m w (L.drop 1) (YB\_) (λz o=>S.lg.ok z (cT o)) (cz\()) (zij S.lg)}
end
def Jn{xs:zO}(k:H l=Z (.lst (xs.map V.str)))(j:xs.length<=40)(h:∀x∈xs,x.length<=20000/\Av x)(q:∀H',aH H H'->Q (.str (kO xs)) H') :
  Yk K t (aX Q) (zZZ 1 [.ref l]) H:=V2 (t:=t) (_E:=λ_ _ _=>False) {l,xs,U,k,j,h,q}
def Vb{C:LV}{_E:XK}{mg:At}(T:Txt K mg t)(h:jo t C H Q _E) :
  ZA K t (aX Q) (zZZ 4 C) H:=by
 let #[ls,rfl,lo,no,k]:=h;show{_,U,λw dw hw u nw x dx j m nx=>?_};let s2:aH H (upd (upd H dw (.own w)) w (.ins t.q07 dw [])):=vT hw u;let O:upd (upd H dw (.own w)) w (.ins t.q07 dw []) w=Z (.ins t.q07 dw []):=zh;generalize upd (upd H dw (.own w)) w (.ins t.q07 dw [])=H2 at *
 let J:aH H2 (upd (upd H2 dx (.own x)) x (.ins t.q00 dx [])):=vT j m;show{x,w,dx,dw,2,ls,U,lo,zh,J _ _ O,zy O j,λr0 tb es r R g=>absurd g (no _ _ _ _ _),λ_ H4 sx=>{t.q0b,U,T.y_NoLog,T.q42,λe he=>?_}};let S4:aH H H4:=λc o z=>have B:=s2 _ _ z;sx c o (zy B j) (J _ _ B);generalize e5:upd H4 e _=H5;let #[s5,A]:=AE e5 he;show{_,U,_,_,_,_,_,U,A,T.y_NoLog,U,T.i_NoLog_ForerunError,_,U,yN U {_,U,_,_,_,_,_,U,A,T.y_NoLog,U,T.i_NoLog_ValueError,_,U,sz3,λp hp=>?_}};generalize e6:upd H5 p _=H6;let #[I,g6]:=AE e6 hp;show{_,_,_,[t.q09,t.q0y,t.q0z],ah,U,I _ _ A,T.y_NoLog,g6,T.j_NoLog_0,_,U,_,U,yN U {_,U,_,U,k _ (S4.trans (s5.trans I))}}
section
variable {L M:List En}{ts us:LV}
def  anD(r:Int):PyData:=.tuple [.int r,.tuple [.str (bb "done"),.tuple []]]
def zoe(h:AnA H v r):Dat K H v (anD r):=by let #[p,o,rfl,a,o',y,rfl,c,d]:=h;show .tup (aV.of a) (.cons (.int r) (.cons (.tup (aV.of c) (.cons (.str _) (.cons (.tup (aV.of d) .nil) .nil))) .nil))
def zcH:∀ {ts:LV}{rs:yI},B0 (AnA H) ts rs->Aj K H ts (rs.map anD)
 |_,_,.nil=>.nil
 |_,_,.cons h t=>.cons (zoe h) (zcH t)
def zfP:∀rs:yI,yh (rs.map anD)=af
 |[]=>[iU,yh]\_
 |r::t=>by rw[bB,yh,zfP t,rJ];unfold anD;rw[zX,yh,yh,yh,zX,zX,yh,yh,yh,zX,zX,yh];lia
def zeB(rs:yI):(Bl (rs.map anD)).depth<=64:=by
 let h:c7 (rs.map anD)<=10:=by
  induction rs with
  |nil=>simp[c7]
  |cons r t ih=>
   rw[bB,c7];let:(anD r).depth<=10:=by simp[anD,gS,c7]
   lia
 rw[gS];lia
def zo1(o:H l=Z (.lst ts))(j:B0 (AnA H) ts rs)(m:H b=Z (.lst us))(h:B0 (AnA H) us rs)(q:Q (.bl ah) H):zdn K af (.ref l) (.ref b) H Q:=
 {_,_,.lst (aN.of o) (zcH j),.lst (aN.of m) (zcH h),{zX\zfP _,zX\zfP _,zeB _,zeB _},λc k=>[c=af|>k.mpr rfl]\q}
def  dlp:Nat->List En->wU
 |_,[]=>[]
 |k,.deal _ _::L=>k::dlp (k+1) L
 |k,.mark _ _::L=>dlp (k+1) L
def JH:∀(A:List En)(k:Nat),dlp k (A++M)=dlp k A++dlp (k+A.length) M
 |[],_=>rfl
 |.deal _ _::A,k=>by change k::dlp (k+1) (A++M)=k::dlp (k+1) A++_;rw[JH A (k+1),bJ,k+1+A.length=k+(A.length+1)|>()];rfl
 |.mark _ _::A,k=>by change dlp (k+1) (A++M)=dlp (k+1) A++_;rw[JH A (k+1),bJ,k+1+A.length=k+(A.length+1)|>()]
def JI:∀(L:List En)(k:Nat),(dlp k L).length=(rkL L).length
 |[],_=>rfl
 |.deal _ _::L,k=>congrArg Nat.succ (JI L (k+1))
 |.mark _ _::L,k=>JI L (k+1)
def dlp_is:∀ {L:List En}{k j:Nat},j∈dlp k L↔k<=j/\∃r e,L[j-k]?=Z (.deal r e)
 |[],k,j=>{(),λ⟨_,_,_,z⟩=>nomatch z}
 |z::L,k,j=>by
  let h:=dlp_is (L:=L) (k:=k+1) (j:=j);let s:∀r e,k<j->((z::L)[j-k]?=Z (.deal r e)↔L[j-(k+1)]?=Z (.deal r e)):=λr e y=>[j-k=j-(k+1)+1|>(),dv]\_
  let t:(k+1<=j/\∃r e,L[j-(k+1)]?=Z (.deal r e))↔(k<j/\∃r e,(z::L)[j-k]?=Z (.deal r e)):={λ⟨a,r,e,c⟩=>{a,r,e,(s r e a).mpr c},λ⟨a,r,e,c⟩=>{a,r,e,(s r e a).mp c}};cases z with
  |deal r e=>
   change j∈k::dlp (k+1) L↔_;rw[bo,h,t];show{λy=>y.elim (λy=>[y,pA]\{bh _,_,_,U}) λy=>{ml y.1,y.2},λy=>?_};obtain c|c:=uA y.1
   .show .inl c.symm
   .show .inr {c,y.2}
  |mark r e=>
   change j∈dlp (k+1) L↔_;rw[h,t];show{λy=>{ml y.1,y.2},λy=>?_};obtain c|c:=uA y.1
   .let #[r,e,y]:=y.2;rw[c,pA] at y;cases y
   .show{c,y.2}
def zfQ:∀(L:List En)(k:Nat),(dlp k L).Pairwise (· < ·)
 |[],_=>.nil
 |.deal _ _::L,k=>.cons (λj h=>(dlp_is.mp h).1) (zfQ L (k+1))
 |.mark _ _::L,k=>zfQ L (k+1)
def zof(L:List En):DlI L (dlp 0 L):={zfQ L 0,λk=>dlp_is.trans {λy=>y.2,λy=>{bP _,y}}}
def znc{a b:Str}{l:zO}(h:a.length=4):eO (wC (a::b::l)) ae (Z ((5:Nat):Int))=a++bb " ":=by
 let j:a.cps.toList.length=4:=bE\h
 show xN ?_;rw[Kc];unfold wC;rw[vZ,jq,AF=⟨#[32]⟩|>rfl,yf,yf,jI,yf];rw[cX,cX,u5,j,bV ()];rfl
def En.b5(z:En):eO z.ln ae (Z ((5:Nat):Int))=(match z with|.deal _ _=>bb "deal " | .mark _ _=>bb "mark "):=by
 cases z with
 |deal r e=>show(znc ()).trans (bb "deal" ++ bb " "=bb "deal "|>())
 |mark r tb=>show(znc ()).trans (bb "mark" ++ bb " "=bb "mark "|>())
def Ao.deal(h:Ao L r R)(ok:(En.deal r e).ok)(le:L.length<29):Ao (L++[.deal r e]) (r+1) (R++e.gi):=by
 let #[f,es,rfl,u,n]:=h.ex;show{{f,es++[.deal r e],U,QC u (Up [.deal r e] r R (r+1) (R++e.gi)|>{U,U,U}),λq tb es' y=>?_},λz j=>?_,[bj,bN]\()}
 .cases es with
  |nil=>cases y
  |cons z es=>show n q tb es ((eE y).1\_)
 .obtain y|y:=bw.mp j
  .show h.ok z y
  .show bu.mp y\ok
def Ao.mark(h:Ao L r R)(j:xS R tb)(ok:(En.mark r tb).ok)(le:L.length<29)(k:1<L.length):Ao (L++[.mark r tb]) r R:=by
 let #[f,es,rfl,u,n]:=h.ex;show{{f,es++[.mark r tb],U,QC u (Up [.mark r tb] r R r R|>{U,j,U,U}),λq tb es' y=>?_},λz m=>?_,[bj,bN]\()}
 .cases es with
  |nil=>show absurd k (gy 1)
  |cons z es=>show n q tb es ((eE y).1\_)
 .obtain y|y:=bw.mp m
  .show h.ok z y
  .show bu.mp y\ok
def JJ(A M:List En):rkL (A++M)=rkL A++rkL M:=by unfold rkL;rw[oP]
def  RwK(R:zG):Prop:=∀r∈R,∃p:Nat,p<4/\r.1=(bb "a",(p:Int))/\wB r.2
def RwK.ok(h:RwK R):∀r∈R,zcm r.1/\wB r.2:=λr j=>by let #[p,k,e,w]:=h r j;show e\{{(yv (bb "a")=af|>()),(by change _<=(p:Int);lia),by change (p:Int)<=_;lia},w}
end
def  lwS(a:ac)(c f:Int)(x:ac)(o4 o5 o6 o7 o8 o9 o10 o11:Option V):St:=[Z (.ref a),Z (.int c),Z (.int f),Z (.ref x),o4,o5,o6,o7,o8,o9,o10,o11]
section
variable {a:ac}{c u:Int}{P:HsP}
def  Sa(K:bz)(H:Hp)(N:Ak)(a:ac)(xs:LV):Prop:=∀H' N',FrN N N' H H'->aN K H' a xs
def Sa.of(h:H l=Z (.lst xs))(n:¬ N l):Sa K H N l xs:=λH' N' F=>aN.of (F.kp l _ n h)
def Sa.to(h:Sa K H N l xs)(F:FrN N N' H H'):Sa K H' N' l xs:=λH2 j k=>h H2 j (F.trans k)
def Sa.sq(h:Sa K H N l xs):aN K H l xs:=h H N (.same (aH.refl _))
structure LwK(K:bz)(t:aR)(H:Hp)(a x:ac)(ns:yI)(n f:Int)(N:Ak)(i:Nat)(P:HsP):Prop where
 sa:Sa K H N a (ns.map V.int)
 hs:HsI t H x P .rest N
 pn:P.n=n/\P.f=f/\P.m=i
 lg:Ao P.L (f+i) P.R
 ll:P.L.length<=1+2*i
 rk:RwK P.R/\P.R.length=i
 rs:P.rs=rkL P.L/\(rkL P.L).length=i
def pw3:JP 1000000007 3:={(),(),()}
def zg8{i:Int}(h:i.natAbs<2^200):Cw i:=bR (tL.mpr h) ()
def cw3:Cw (1000000007^(3:Int).toNat):=zg8 ()
def zo2(z:Int):wB (z%(2*10^(30:Int).toNat+1)-10^(30:Int).toNat):=by rw[(10:Int)^(30:Int).toNat=1000000000000000000000000000000|>rfl];let a:=dL z (b:=2*1000000000000000000000000000000+1) ();let b:=dc z (b:=2*1000000000000000000000000000000+1) ();show{(),()}
def zo3{i j m:Int}{R:VK}(h:i-j=m)(q:R (.int m) H):rI0 (λi j=>.int (i-j)) (.int i) (.int j) H R:={i,j,U,U,h\q}
def zim{D:ZF}(F:HsF K t)(DF:DkF K t)(L:LwK K t H a x ns n f N i P)(hi:i<14)(cu:Cb u)(hn:1<=n/\n<=8)(hf:0<=f/\f<=99999999999999999999999999699)(q:∀H' N' P' o,FrN N N' H H'->LwK K t H' a x ns n f N' (i+1) P'->D.nx (lwS a c f x (Z (.int u)) o o6 o7 o8 o9 o10 o11) H') :
  zd5 K t D (lwS a c f x (Z (.int u)) o5 o6 o7 o8 o9 o10 o11) H:=by
 obtain⟨W,eW⟩:∃W:Int,(u/12*1000000007^(3:Int).toNat)%(2*10^(30:Int).toNat+1)-10^(30:Int).toNat=W:={_,U};let B:wB W:=eW ▸ zo2 _;let iw:=vF B;let #[p,ep,lp]:=QE (u/3) (n:=4) ();let pw:inW (p:Int)=af:=vF {(),()};let zp:(bb (toString (p:Int))).length<=40:=(wJ pw).2.2;let zw:(bb (toString W)).length<=40:=(wJ iw).2.2;let z7:(bb "give a ").length=7:=()
 let z1:(bb " ").length=1:=()
 let #[rfl,rfl,rfl]:=L.pn;let al:=L.ll;let rb:rB (P.f+P.m):={(),()};let #[dx,b0,ex]:=L.hs.x0;let C:(Dl.give p W).ok:={lp,B};show{_,U,_,_,U,U,dB,_,_,U,U,pw3,_,_,U,U,{(cu.div ()).w,cw3},_,_,U,U,zbw () (),_,_,U,U,{zg8 (),zg8 ()},_,_,U,U,_,_,U,U,(),_,_,U,U,zbw () (),zo3 eW ?_};show yW ex U U {_,U,_,_,U,U,dB,ZB ep () {_,U,Wo pw,_,_,U,U,zM (),_,_,U,U,zM (yB\()),_,U,_,U,Wo iw,_,_,U,U,zM ([yB,yB]\()),x,.give p W,P,N,U,L.hs,C,λv H1 N1 F1 h1=>?_}};let #[ar,b1,O]:=h1.x0;show yW O U U {x,.give p W,P,N1,U,h1,C,hi,hn,(),rb,λv2 H2 T F2 I=>?_};let eR:(P.f+P.m:Int)+1=P.f+(P.m+1:Nat):=()
 let lg:=L.lg.deal (e:=.give p W) {rb,C} ();rw[eR] at lg;let h:LwK K t H2 a x ns P.n P.f T (P.m+1) {P.n,P.f,P.m+1,P.L++[.deal (P.f+P.m) (.give p W)],P.rs++[P.f+P.m],P.R++(Dl.give p W).gi}:=by
  show{(L.sa.to F1).to F2,I,{U,U,U},lg,?_,{λr hr=>?_,?_},?_,?_}
  .change (P.L++_).length<=_;rw[bj,bN];lia
  .obtain y|y:=bw.mp hr
   .show L.rk.1 r y
   .show bu.mp y\({p,lp,U,B})
  .change (P.R++_).length=_;rw[bj,L.rk.2];rfl
  .change P.rs++_=rkL (P.L++_);rw[JJ,L.rs.1];rfl
  .change (rkL (P.L++_)).length=_;rw[JJ,bj,L.rs.2];rfl
 let m:=F1.trans F2;show{_,U,_,_,U,U,(),U,_,U,qw (λ_=>?_) λ_=>q H2 T _ _ m h};generalize eP:(HsP.mk P.n P.f (P.m+1) (P.L++[.deal (P.f+P.m) (.give p W)]) (P.rs++[P.f+P.m]) (P.R++(Dl.give p W).gi))=P2 at *
 let g1:P2.n=P.n/\P2.f=P.f/\P2.m=P.m+1:=[<-eP]\({U,U,U})
 let g2:P2.L.length=P.L.length+1:=[<-eP]\bj ..
 let #[f1,A,w]:=g1;let k:rB (P2.f+P2.m):=[A,w]\{(),()}
 let rl:=h.rk.2;let aa:=L.lg.len;let #[an,b2,J]:=I.x0;show yW J U U {x,P2,T,U,I,h.rk.1.ok,(),(),k,λtb H3 N3 F3 j h3=>q H3 N3 _ _ (m.trans F3) {h.sa.to F3,h3,{f1,A,w},?_,?_,h.rk,?_,?_}}
 .let:=h.lg.mark j (by let:=QA j {h.rk.1.ok,()} k;rwa [A,w] at this) () ();change Ao (P2.L++[.mark (P2.f+P2.m) tb]) _ _;show [A,w]\this
 .change (P2.L++_).length<=_;rw[bj,bN];lia
 .change P2.rs=rkL (P2.L++_);show [JJ,h.rs.1]\(cV _).symm
 .change (rkL (P2.L++_)).length=_;rw[JJ];change (rkL P2.L++[]).length=_;rw[cV,h.rs.2]
end
section
variable {a l6 l7 l10:ac}{c k:Int}{P:HsP}{mg:At}{x0:Str}
def Sa.sql(h:aN K H a xs)(s:aH H H')(k:∀o,H a=Z o->¬ N a):Sa K H' N a xs:=λH2 m F=>by
 let j:∀o,H a=Z o->H2 a=Z o:=λo e=>F.kp a o (k o e) (s _ _ e);obtain (h|⟨o,h⟩)|h:=h
 .show .inl (.inl (j _ h))
 .show .inl (.inr {o,j _ h})
 .show .inr h
def LwK.same(h:LwK K t H a x ns n f N i P)(s:aH H H'):LwK K t H' a x ns n f N i P:={h.sa.to (.same s),h.hs.same s,h.pn,h.lg,h.ll,h.rk,h.rs}
def LwK.gd(h:LwK K t H a x ns n f N i P){j r:Int}(g:Gd (P.L.map Ln.ok) j tb es r R):P.L=.mark j tb::es/\r=f+i/\R=P.R:=by let #[A,w,e,u,_]:=h.lg.ex;let o:=W9 g.1;rw[e] at o;let #[y,rfl]:=eE o;cases y;show{e,XB g.2 u}
def zfR(L:LwK K t H a x ns n f N i P){y:ac}{A:Ak}{es:List En}(o:HsI t H y {2,f+i,0,P.L,rkL es,P.R} .rest A)(er:rkL es=rkL P.L)(hd:H l7=Z (.lst ((dlp 0 P.L).map λ(j:Nat)=>V.int j)))(q:∀H',Q (.bl af) H') :
  zbt K t (aX Q) (lwS a c f x o4 o5 o6 (Z (.ref l7)) o8 o9 o10 (Z (.ref y))) H:=by
 let #[dx,b0,ex]:=L.hs.x0;let #[dy,b2,B]:=o.x0;show yW B U U {y,_,A,U,o,λl1 J H1 s1 _ e1 an=>yW (s1 _ _ ex) U U {x,P,N,U,L.hs.same s1,λl2 ar H2 s2 _ e2 u=>?_}};let w:B0 (AnA H2) J (rkL P.L):=er ▸ jr an (.of s2);rw[L.rs.1] at u;let S2:=s1.trans s2;show zo1 (s2 _ _ e1) w e2 u {_,U,yz U (yW (S2 _ _ B) U U {y,_,A,U,o.same S2,λl3 al H3 T _ t3 m=>yW ((S2.trans T) _ _ ex) U U {x,P,N,U,L.hs.same (S2.trans T),λl4 aa H4 s4 _ t4 h=>?_}})};let I:=S2.trans (T.trans s4);let nm:∀ {aF:zG},xS P.R aF->∀r∈aF,yv r.1.1=af:=λO r hr=>(L.rk.1.ok r (vm ((O.2 r.1 r.2).mp hr).1)).1.1;show zna (t3.same s4) t4 (nm m) (nm h) (λ_=>{_,U,yz U (yW (I _ _ B) U U {y,_,A,U,o.same I,λH5 s5=>{_,U,_,U,_,_,U,.inl {_,aN.of (s5 _ _ (I _ _ hd)),U},_,_,U,U,U,_,U,yN (Fj (congrArg V.int ?_)) ?_}})}) λne=>absurd (zgY m h) ne
 .rw[bd,JI,L.rs.2];change f+i+((0:Nat):Int)=f+i;lia
 let C:=I.trans s5;show yW (C _ _ B) U U {y,_,A,U,o.same C,λH6 s6=>yW ((C.trans s6) _ _ ex) U U {x,P,N,U,L.hs.same (C.trans s6),λH7 s7=>{U,?_}}};show Fj rfl\q _
def QF(L:LwK K t H a x ns n f N i P)(hd:H l7=Z (.lst ((dlp 0 P.L).map λ(j:Nat)=>V.int j)))(q:∀H',Q (.bl af) H') :
  zbu K t (aX Q) (lwS a c f x o4 o5 o6 (Z (.ref l7)) o8 o9 o10 o11) H:=by
 let #[dx,b0,ex]:=L.hs.x0;let lo:As (P.L.map Ln.ok):=zk5 L.lg.ok (pY L.lg.le);let #[f0,B,e0,u0,_]:=L.lg.ex;let gd:Gd (P.L.map Ln.ok) f0 [] B (f+i) P.R:={e0\_,u0};show yW ex U U {x,P,N,U,L.hs,λh s1 w dw hw A nw y C m u ny=>?_};let s2:aH h (upd (upd h dw (.own w)) w (.ins t.q07 dw [])):=vT hw A;let e2:upd (upd h dw (.own w)) w (.ins t.q07 dw []) w=Z (.ins t.q07 dw []):=zh;generalize upd (upd h dw (.own w)) w (.ins t.q07 dw [])=H2 at *
 let J:aH H2 (upd (upd H2 C (.own y)) y (.ins t.q00 C [])):=vT m u;show{y,w,C,dw,2,P.L.map Ln.ok,[((P.L.map Ln.ok).map Ln.tx)=P.L.map En.ln|>fh\U]\U,lo,zh,J _ _ e2,zy e2 m,λr0 tb es r R g H4 N2 sx _ O=>{U,?_},λno=>absurd gd (no _ _ _ _ _)};let #[T,rfl,rfl]:=L.gd g;let S4:aH H H4:=λc o z=>have I:=s2 _ _ (s1 _ _ z);sx c o (zy I m) (J _ _ I);rw[<-T] at O;show zfR (L.same S4) O (T\U) (S4 _ _ hd) q
def zfT(T:Txt K mg t)(L:LwK K t H a x ns n f N i P)(u:H l7=Z (.lst ((dlp 0 P.L).map λ(j:Nat)=>V.int j)))(h:H l10=Z (.lst ((ls.map Ln.tx).map V.str)))(lo:As ls)(no:Z5 ls)(q:∀H',Q (.bl af) H') :
  zbv K t (aX Q) (lwS a c f x o4 o5 o6 (Z (.ref l7)) o8 (Z (.int k)) (Z (.ref l10)) o11) H:=by
 show{_,U,_,_,U,U,_,U,qw (λ_=>{_,U,l10,_,U,h,?_,λz w=>?_,λB o=>{ls,U,lo,no,λH2 m=>{_,U,yz U (QF (L.same (o.trans m)) ((o.trans m) _ _ u) q)}}}) λ_=>yz U (QF L u q)}
 .show bd\bR lo.1 ()
 .let #[y,A,rfl]:=bM.mp w;let:=Ln.lnok (lo.2 y A);show{this.1.1,this.1.2.1}
def zin(T:Txt K mg t)(L:LwK K t H a x ns n f N i P)(C:ns.length<=63)(J:∀i∈ns,Cb i)(I:H l6=Z (.lst (Aw P.L)))(u:H l7=Z (.lst ((dlp 0 P.L).map λ(j:Nat)=>V.int j))){tb:zG}(A:(En.mark (f+i) tb).ok)(w:¬ xS P.R tb)(q:∀H',Q (.bl af) H') :
  zd6 K t (aX Q) (lwS a c f x o4 o5 (Z (.ref l6)) (Z (.ref l7)) (Z (.str (En.mark (f+i) tb).ln)) (Z (.int k)) o10 o11) H:=by show{_,U,_,U,_,U,_,U,a,ns,2,U,L.sa.sq,C,J,λc2 H1 h O=>{_,U,l6,l7,k,c2,f+i,P.L,dlp 0 P.L,P.R,tb,U,h _ _ I,h _ _ u,L.lg,zof _,A,w,O.w,λl10 ls H2 o m B no=>zfT T (L.same (h.trans o)) ((h.trans o) _ _ u) m B no q}}
def  rwB:Row:=((bb "b",1),1)
def zog{r:Int}(A:RwK R)(lR:R.length<=14)(j:xS R tb)(I:rB r):(En.mark r (tb++[rwB])).ok/\¬ xS R (tb++[rwB]):=by
 let le:=qA j;let o:∀z∈tb,∃p:Nat,p<4/\z.1=(bb "a",(p:Int))/\wB z.2/\z.2≠0:=λz m=>by let #[h,O]:=(j.2 z.1 z.2).mp m;let #[p,u,e,w]:=A z (vm h);show{p,u,e,w,O}
 let J:zcm rwB.1:={(yv (bb "b")=af|>()),(),()};let B:wB rwB.2:={(),()};let C:Ai (tb++[rwB]):=List.pairwise_append.mpr {j.1,rN ..,λz m y T=>by let #[p,_,e,_]:=o z m;rw[bu.mp T,e];change (if bb "a"=bb "b" then decide ((p:Int)<1) else decide ((bb "a").cps.toList<(bb "b").cps.toList))=af;rw[aj ()];lia}
 show{{I,{C,[bj,bN]\(),λz m=>?_},λz m=>?_,[bj,bN]\()},λk=>?_}
 .obtain y|y:=bw.mp m
  .let #[p,u,e,w,_]:=o z y;show e\{{(yv (bb "a")=af|>()),(by change _<=(p:Int);lia),by change (p:Int)<=_;lia},w}
  .show bu.mp y\({J,B})
 .obtain y|y:=bw.mp m
  .let #[_,_,_,_,n]:=o z y;show n
  .rw[bu.mp y];decide
 .let:=(k.2 rwB.1 rwB.2).mp (bD _ bp);let #[p,_,e,_]:=A _ (vm this.1);let:=congrArg Prod.fst e
  revert this
  change ¬ bb "b"=bb "a";lia
def zio(T:Txt K mg t)(L:LwK K t H a x ns n f N i P)(hi:i<=14)(hf:0<=f/\f<=99999999999999999999999999699)(hn:ns.length<=63)(hb:∀i∈ns,Cb i)(hl:H l6=Z (.lst (Aw P.L)))(hd:H l7=Z (.lst ((dlp 0 P.L).map λ(j:Nat)=>V.int j)))(q:∀H',Q (.bl af) H') :
  zd7 K t (aX Q) (lwS a c f x o4 o5 (Z (.ref l6)) (Z (.ref l7)) o8 o9 o10 o11) H:=by let #[dx,b0,ex]:=L.hs.x0;let #[_,e2,e3]:=L.pn;show yW ex U U {x,P,N,U,L.hs,λH1 A=>yW (A _ _ ex) U U {x,P,N,U,L.hs.same A,λl aF H2 s2 _ t2 h=>{sz2,λp1 J=>?_}}};rw[e2,e3];generalize c1:upd H2 p1 _=H3;let #[s3,g3]:=AE c1 J;show{sz2,λp2 I=>?_};generalize c1:upd H3 p2 _=H4;let #[w,g4]:=AE c1 I;show{sz1,λp3 C=>?_};generalize c1:upd H4 p3 _=H5;let #[o,g5]:=AE c1 C;let #[us,h5,pr]:=t2.same (s3.trans (w.trans o));let lR:=L.rk.2;let #[B,nt]:=zog (r:=f+i) L.rk.1 () h {(),()};let lo:=qA h;let lu:=bZ pr;show Wu h5 g5 (bN\()) λp6 H6 m g6=>{f+i,p6,aF++[rwB],U,B.1,{_,g6,zml (Paired.mapP pr λ_ _ z=>PrAt.ts z (.of m)) (.cons {p2,p1,U,(o.trans m) _ _ g4,(w.trans (o.trans m)) _ _ g3} .nil)},B.2.1,λH7 s7=>?_};let O:=A.trans (s2.trans (s3.trans (w.trans (o.trans (m.trans s7)))));let L7:=L.same O;show{_,U,a,ns,1,U,L7.sa.sq,hn,hb,λk H8 u _=>{_,_,U,U,(),zin T (L7.same u) hn hb (u _ _ (O _ _ hl)) (u _ _ (O _ _ hd)) B nt q}}
def zla(xs:LV):vV xs ae (Z 14)=xs.take 14:=zkF xs 14
def ziq(T:Txt K mg t)(L:LwK K t H a x ns n f N i P)(o:i=(ns.take 14).length)(C:0<=f/\f<=99999999999999999999999999699)(A:ns.length<=63)(I:∀i∈ns,Cb i)(B:H l6=Z (.lst (Aw P.L)))(u:H l7=Z (.lst ((dlp 0 P.L).map λ(j:Nat)=>V.int j)))(q:∀H',Q (.bl af) H') :
  zd8 K t (aX Q) (lwS a c f x o4 o5 (Z (.ref l6)) (Z (.ref l7)) o8 o9 o10 o11) H:=by
 let m:i<=14:=[o,bQ]\()
 show{_,U,_,_,U,.inl {_,aN.of u,U},_,U,14,U,a,_,U,L.sa.sq,λp w=>?_};rw[zla];generalize c1:upd H p _=H1;let #[h,J]:=AE c1 w;show{_,_,U,.inl {_,aN.of J,U},U,_,U,yz (congrArg not (Fj (congrArg V.int ?_))) (zio T (L.same h) m C A I (h _ _ B) (h _ _ u) q)};rw[bd,JI,L.rs.2,o,bQ,bQ,bd]
def zir(T:Txt K mg t)(L:LwK K t H a x ns n f N i P)(m:i=(ns.take 14).length)(hf:0<=f/\f<=99999999999999999999999999699)(hn:ns.length<=63)(hb:∀i∈ns,Cb i)(A:H l6=Z (.lst (Aw P.L)))(q:∀H',Q (.bl af) H') :
  zd9 K t (aX Q) (lwS a c f x o4 o5 (Z (.ref l6)) o7 o8 o9 o10 o11) H:=by
 let le:=L.lg.le;let ll:=Zg P.L;show{_,U,_,_,U,.inl {_,aN.of A,U},_,U,(),(),λD hD=>?_};rw[(((Aw P.L).length:Nat):Int).toNat=P.L.length|>()];show Yl (J:=Itr 0 P.L.length) P.L.length () (λC=>∃o,C=[o,Z (.ref l6)]) (λi ys _=>ys=(dlp 0 (P.L.take i)).map λ(j:Nat)=>V.int j) (λ_ _ _ _ _ h=>h) {_,U} U (λi H _ h=>h) (λH _=>bh _) hD ?_ ?_
 .rintro i v C ys H4 H5 ⟨o,rfl⟩ w m u ⟨rfl,rfl⟩;let m:i<P.L.length:=m;rw[Int.zero_add];let O:=bc m;let l3:=(En.lnok (L.lg.ok _ (cL m))).2;let B:=En.b5 P.L[i];let I:P.L.take (i+1)=P.L.take i++[P.L[i]]:=[du,O]\U
  let lt:(P.L.take i).length=i:=bQ\()
  generalize P.L[i]=z at *
  show{_,U,_,U,l6,_,_,_,U,U,aN.of (w _ _ A),zeA O,5,U,_,U,zM (),U,_,U,?_};let B:eO z.ln ae (Z 5)=_:=B;rw[B];cases z with
  |deal r e=>
   show yN (Fj U) {_,U,{_,U},?_,aH.refl _};rw[u,I,JH,lt,lf,bW];rfl
  |mark r tb=>
   show yz (decide (V.str (bb "mark ")=V.str (bb "deal "))=ah|>()) {{_,U},?_,aH.refl _};show [u,I,JH]\(congrArg _ (cV _)).symm
 .intro ys H4 _ u w hq;rw[eV] at u;rw[u] at hq;show ziq T (L.same w) m hf hn hb (w _ _ A) hq q
def zis(T:Txt K mg t)(L:LwK K t H a x ns n f N i P)(O:i=(ns.take 14).length)(hf:0<=f/\f<=99999999999999999999999999699)(I:ns.length<=63)(hb:∀i∈ns,Cb i)(q:∀H',Q (.bl af) H') :
  zea K t (aX Q) (lwS a c f x o4 o5 o6 o7 o8 o9 o10 o11) H:=by
 let #[dx,b0,ex]:=L.hs.x0;let le:=L.lg.le;let o:∀x∈P.L.map En.ln,zie x/\x.length<=3000:=λx h=>by let #[z,B,rfl]:=bM.mp h;show Ln.lnok (y:=.ok z) (L.lg.ok z B)
 let j:gu (kO (P.L.map En.ln)) (bb "\n")=P.L.map En.ln++[bb ""]:=zbD λx h=>(o x h).1;show yW ex U U {x,P,N,U,L.hs,λH1 A=>{U,_,_,U,U,(),zgS (λx h=>(o x h).2) (bd\()),[j,bj,bN,bd]\(),λl J=>?_}};rw[j];generalize c1:upd H1 l _=H2;let #[w,g2]:=AE c1 J;show{1,U,-1,U,l,_,U,aN.of g2,λp C=>?_};rw[bW];generalize c1:upd H2 p _=H3;let #[u,m]:=AE c1 C;rw[vV ((P.L.map En.ln).map V.str++[bb ""].map V.str) ae (Z (-1))=Aw P.L|>zes _ _] at m;show zir T (L.same (A.trans (w.trans u))) O hf I hb m q
def zit(T:Txt K mg t)(F:HsF K t)(DF:DkF K t)(L:LwK K t H a x ns n f N 0 P)(h8:1<=n/\n<=8)(A:0<=f/\f<=99999999999999999999999999699)(hn:ns.length<=63)(B:∀i∈ns,Cb i)(q:∀H',Q (.bl af) H') :
  zeb K t (aX Q) (lwS a c f x o4 o5 o6 o7 o8 o9 o10 o11) H:=by
 show{_,U,14,U,a,_,U,L.sa.sq,λp w=>?_};rw[zla,<-oB];generalize c1:upd H p _=H1;let #[I,C]:=AE c1 w;let np:¬ N p:=λy=>by let #[o,e]:=L.hs.ow y;rw[w] at e;cases e
 show{p,U,{_,aN.of C},xY ((ns.take 14).map V.int) (λi h H'=>∃N P o4 o5,h=lwS a c f x o4 o5 o6 o7 o8 o9 o10 o11/\LwK K t H' a x ns n f N i P/\Sa K H' N p ((ns.take 14).map V.int)) {N,P,_,_,U,L.same I,.of C np} (λi h H' ⟨_,_,_,_,_,_,z⟩=>z.sq) ?_ ?_}
 .rintro i v h H' j ⟨N,P,O,J,rfl,L,z⟩;rw[bn] at j;let #[u,m,rfl]:=cj.mp j;let li:=(bi.mp m).1;rw[bQ] at li;show zim F DF L () (B u (cU (b7 m))) h8 A λH2 N2 P2 o F2 L2=>{N2,P2,_,o,U,L2,z.to F2}
 .rintro h H' ⟨N,P,O,J,rfl,L,z⟩;show zis T L (bd ..) A hn B q
def zpp(z:Int):0<=z%(10^(29:Int).toNat-300)/\z%(10^(29:Int).toNat-300)<=99999999999999999999999999699:=by rw[(10:Int)^(29:Int).toNat-300=99999999999999999999999999700|>rfl];let a:=dL z (b:=99999999999999999999999999700) ();let b:=dc z (b:=99999999999999999999999999700) ();show{a,()}
def zpq{f:Int}(h:0<=f/\f<=99999999999999999999999999699):(En.mark f []).ok:=
 {{(),()},{.nil,bP _,nofun},(),bP _}
def zo4(h:z.ok):z.ln.length+(bb "\n").length<=Fb:=by let:=(En.lnok h).2;show zM ([(bb "\n").length=1|>()]\())
def md8(c:Int):1<=1+c%8/\1+c%8<=8:=by let j:=dL c (b:=8) ();let h:=dc c (b:=8) ();lia
def md2(c:Int):(c%2).natAbs<=1:=by let j:=dL c (b:=2) ();let h:=dc c (b:=2) ();lia
def zpr{c:Int}(h:Cb c):Cw (c/14*1000000007^(3:Int).toNat):=bR (intBits_mul_le (h.div ()) (tL.mpr ((1000000007^(3:Int).toNat:Int).natAbs<2^200|>()))) ()
def zmN{O:LV}{_E:XK}(T:Txt K mg t)(F:HsF K t)(DF:DkF K t)(h:sp_law K O H Q _E) :
  zky K t (aX Q) (zZZ 12 O) H:=by
 let #[a,ns,rfl,hS,hn,hb,q]:=h;show{_,U,a,ns,0,U,hS,hn,hb,λc H1 s1 cc=>?_};obtain⟨f,ef⟩:∃f:Int,c/7%2*(c/14*1000000007^(3:Int).toNat)%(10^(29:Int).toNat-300)=f:={_,U};let hf:0<=f/\f<=99999999999999999999999999699:=ef ▸ zpp _;let j:=zpq hf;let lm:=zo4 j;let eL:wC (Zv f [])++bb "\n"=kO ([Ln.ok (.mark f [])].map Ln.tx):=xN (by change _=(wC (Zv f [])++Aq++bb "").cps.toList;show [yf,yf,yf]\(cV _).symm)
 show{_,U,_,_,U,U,dB,_,_,U,U,(),_,U,_,_,U,U,dB,_,_,U,U,pw3,_,_,U,U,{(cc.div ()).w,cw3},_,_,U,U,{zg8 (dZ (md2 _) ()),zpr cc},_,_,U,U,zbw () (),_,_,U,U,ZB ef () ?_};show{_,U,bP _,λp hp=>?_};generalize c1:upd H1 p _=H2;let #[s2,e2]:=AE c1 hp;show{f,p,[],U,j.1,{[],e2,.nil},j.2.1,λu s3=>{_,_,U,U,lm,_,U,_,_,U,U,(),_,_,U,U,λw dw hw C nw x dx m B nx=>?_}};let s4:aH u (upd (upd u dw (.own w)) w (.ins t.q07 dw [])):=vT hw C;let e4:upd (upd u dw (.own w)) w (.ins t.q07 dw []) w=Z (.ins t.q07 dw []):=zh;generalize upd (upd u dw (.own w)) w (.ins t.q07 dw [])=H4 at *
 let A:aH H4 (upd (upd H4 dx (.own x)) x (.ins t.q00 dx [])):=vT m B;let gd:Gd [Ln.ok (.mark f [])] f [] [] f []:={U,U,U};show{x,w,dx,dw,1+c%8,[.ok (.mark f [])],eL\U,{by change 1<=30;decide,λy hy=>bu.mp hy\j},zh,A _ _ e4,zy e4 m,λr0 tb es r R g H6 N sx no h=>{U,?_},λno=>absurd gd (no _ _ _ _ _)};let S3:=s1.trans (s2.trans s3);let I:=S3.trans s4;let S6:aH H H6:=λb o z=>have J:=I _ _ z;sx b o (zy J m) (A _ _ J);let e0:[En.mark f []]=.mark r0 tb::es:=W9 g.1;let #[y,rfl]:=eE e0;cases y;let #[rfl,rfl]:=g.2;show zit T F DF (N:=N) (P:={1+c%8,r,0,[.mark r []],[],[]}) {.sql hS S6 λo e=>no a o (zy (I _ _ e) m) (zy (S3 _ _ e) hw) (A _ _ (I _ _ e)),h,{U,U,U},{{r,[],U,{Int.add_zero _,U},nofun},λz hz=>bu.mp hz\j,by change 1<=29;decide},bh _,{(),U},{U,U}} (md8 c) hf hn hb q
end
end
abbrev Fa(P:am)(w:ap)(K:bz)(j:At)(h:ao):=bv P w K j h (AJ P w)
section
variable {P:am}{w:ap}{K:bz}{mg:At}{base:ao}{t:aR}(T:Txt K mg t)
include T
def js:Fa P w K mg base 1 t.a0 t.d0 ["script","k"] (xG K):=by
 show T.g0.f.okA Je λu H Q E h=>?_;let #[a,ns,k,rfl,o,j,m,q]:=h;show{U,λ_ _ _ _ A=>{Zw K t,(zb (zP (zq YG (Y 1) (zJ zU U T.q04 yA (za (Y 0) zc)) (zC _)) (ze (zx (zB zW (Y 0) (Y 1))))
   zF) (ze (zx zi))),W7 o j m λc H s b _=>q c H s b}}
def XE:Fa P w K mg base 1 t.a1 t.d1 ["text"] (Xn):=by
 show T.g1.f.okA zft λk H Q E h=>?_;let #[x,rfl,j,q]:=h;show{U,λ_ _ _ _ m=>{KZ K t,(zb (zP (PW.pt (Zk (zq yH (Y 0) zH (zC _)) (jg (zq Vo (zJ zU U T.q04 yA (za (Y 0) zc)) (yX U T.g_MOST_LETTERS {_,U}) (zC _))))) (ze (zx (ZG (b:=ah))))
   zF) (zb (zP (PW.pt (Zk (zq wO (Y 0) (yX U T.g_JOINING U) (by with_unfolding_all rfl)) (jg (zq wO (Y 0) (yX U T.g_ROW_WORDS U) (by with_unfolding_all rfl))))) (ze (zx (ZG (b:=ah))))
    zF) (ze (zx (zJ (zaQ U) U T.q2c zi5 (za (vQ U (osc:=zg WO) (N:=["text"]) (xs:=["sign"]) (ix:=[]) () (zi6 (Y 0)) (λ_ _ _ _=>(xh (i:=0) (fi (["sign"]:zO)|>()) U (iy U) (.inr U))) (λ_ _ _ _=>wY) (λ_ _ _ _=>(jA zaC (Y 0) (yX U T.g_LETTERS {_,U}) (by with_unfolding_all rfl)))) zc)))))),zek j T.q1b T.q32 q}}
def zeC:Fa P w K mg base 2 t.a2 t.d2 ["word"] (VR):=by
 show T.g2.f.okA zdS λm H Q E h=>?_;let #[w,rfl,k,q]:=h;show{U,λ_ _ _ _ j=>{Z6 K t,(zb (zP (Y4 (xP (pv (XE T) T.g1 j zj (za (Y 0) zc)))) (ze yG)
   zF) (ze (zx (Y 0)))),zcy k q}}
def zeD:Fa P w K mg base 1 t.a3 t.d3 ["thing"] (VQ K):=by
 show T.g3.f.okA zdT λj H Q E h=>?_;let #[i,rfl,h,q]:=h;show{U,λ_ _ _ _ k=>{VW K t,(zb (zP (PW.pt (Zk (Y4 (xP (zJ J9 U T.q0p xI (za (Y 0) (za (Js U T.b_int ze2 U) zc))))) (jg (xP (zJ J9 U T.q0p xI (za (Y 0) (za (Js U T.q2y zlv U) zc))))))) (ze (zx (ZG (b:=ah))))
   zF) (ze (zx (ziJ zmS zmS (zaB WC (zE ZK zi zi)) (Y 0) (zE ZK zi zi))))),zct (kf K).i_b h q}}
def zaq:Fa P w K mg base 1 t.a4 t.d4 ["text"] (YQ):=by show T.g4.f.okA Q5 λk H Q E h=>?_;let #[x,rfl,j,q]:=h;show{U,λ_ _ _ _ m=>{kP K t,(ze (zx (JM (jA kX (Y 0) zH (zC _)) (WA (zJ (zaQ U) U T.q2c zi5 (za (vQ U (osc:=zg qP) (N:=["text"]) (xs:=["sign"]) (ix:=[]) () (zi6 (Y 0)) (λ_ _ _ _=>(xh (i:=0) (fi (["sign"]:zO)|>()) U (iy U) (.inr U))) (λ_ _ _ _=>wY) (λ_ _ _ _=>(jA zaC (Y 0) (yX U T.g_FIGURES {_,U}) (by with_unfolding_all rfl)))) zc)))))),Qm j q}}
def vO:Fa P w K mg base 1 t.a5 t.d5 ["worth"] (jT):=by show T.g5.f.okA zfu λj H Q E h=>{?_,λ_ _ _ _ k=>{Xs K t,(ze (zx (yi jB U T.q10 J8 (za (Y 0) zc)))),zei h}};let #[w,rfl,_]:=h;rfl
def Y3:Fa P w K mg base 2 t.a6 t.d6 ["text"] (zad):=by
 show T.g6.f.okA q1e λm H Q E h=>?_;let #[x,rfl,h,k,q]:=h;show{U,λ_ _ _ _ j=>{YW K t,(zb (zt 1 q1e.nd (vU (xP (yQ cS PySem.F.slot_str_startswith PySem.F.type_str_startswith QP (Y 0) (za zH zc))) (zV zbN (Y 0) (yb zi) yp) (Y 0))) (zb (zP (PW.pt (Zk (zq Vo (zJ zU U T.q04 yA (za (Y 1) zc)) (yX U T.g_MOST_FIGURES {_,U}) (zC _)) (jg (Y4 (xP (pv (zaq T) T.g4 j zj (za (Y 1) zc))))))) (ze (zx (ZG (b:=ah))))
    zF) (zb (zt 2 q1e.nd (yi XO U T.b_int ze2 (za (Y 0) zc))) (ze (zx (JM (pv (zeD T) T.g3 j zj (za (Y 2) zc)) (WA (jA yH (pv (vO T) T.g5 j zj (za (Y 2) zc)) (Y 0) (zC _))))))))),Qn h k q}}
def V3:Fa P w K mg base 3 t.a7 t.d7 ["text"] (zd0):=by
 show T.g7.f.okA zdU λo H Q E h=>?_;let #[w,rfl,m,q]:=h;show{U,λ_ _ _ _ j=>{_,(zb (zP (Y4 (xP (pv (Y3 T) T.g6 j zj (za (Y 0) zc)))) (ze yG)
   zF) (ze (zx (yi XO U T.b_int ze2 (za (Y 0) zc))))),by
   let #[a,b,c]:=wJ m;show{_,U,z8 w,U,a,(),λH' s=>{_,U,yz U {_,U,z8 w,w,U,?_,(),q H' s}}};unfold jN at a;rw[bK,dP,ii,decide_eq_false_iff_not] at a;let u:=WL (z8 w);let k:k9 (wA (z8 w))=af:=<-a.1.2
   let z:=Ke k ();show z\congrArg Z b}}
def jF:Fa P w K mg base 4 t.a8 t.d8 ["word"] (xZ):=by show T.g8.f.okA zcf λm H Q E h=>?_;let #[w,rfl,k,q]:=h;show{U,λ_ _ _ _ j=>{_,(ze (Jz (zx (pv (V3 T) T.g7 j zj (za (Y 0) zc))))),({_,U,w,U,k,q})}}
def zfU:Fa P w K mg base 5 t.a9 t.d9 ["words"] (qU):=by
 show T.g9.f.okA q0q λm H Q E h=>{?_,λ_ _ _ _ k=>{K0 K t,(zb (zP (zq kX (zE xp (zJ zU U T.q04 yA (za (Y 0) zc)) zi) zi (zC _)) (ze yG)
   zF) (zb (zt 1 q0q.nd (zZ zc)) (zb (xM cN U (zhy U T.q2e (za zi (za (zJ zU U T.q04 yA (za (Y 0) zc)) (za zi zc)))) (yw 2 q0q.nd) (zb (zt 3 q0q.nd (yk (za (pv (zeC T) T.g2 k zj (za (zB zW (Y 0) (Y 2)) zc)) (za (pv (jF T) T.g8 k zj (za (zB zW (Y 0) (zE yK (Y 2) zi)) zc)) zc)))) (ze (zL (yQ bF ck cm yE (Y 1) (za (yk (za (Y 3) (za (pv (jF T) T.g8 k zj (za (zB zW (Y 0) (zE yK (Y 2) zi)) zc)) zc))) zc)))))) (zb (Y6 (j:=4) q0q.nd U U (iy U) (osc:=zg WP) (N:=["words","rows","at","place","places"]) (xs:=["place","worth"]) (ix:=[]) () (yR (Y 1)) (λ_ _ _ _=>(ZJ U (xa (xh (i:=0) (fi (["place","worth"]:zO)|>()) U (iy U)) (xa (xh (i:=1) (fi (["place","worth"]:zO)|>()) U (iy U)) j9)))) (λ_ _ _ _=>wY) (λ_ _ _ _=>(Y 0))) (zb (zP (zq (XT (WM k)) (Y 4) (zl6 U (hu8 k) U T.q1a U T.b_set (za (Y 4) zc)) (zC _)) (ze yG)
    zF) (ze (zx (Y 1)))))))),zer h}}
 let #[a,aF,rfl,_]:=h;rfl
def zar:Fa P w K mg base 5 t.a10 t.d10 ["words"] (YR):=by
 show T.g10.f.okA Q6 λk H Q E h=>{?_,λ_ _ _ _ j=>{YX K t,(zb (zP (zq (zjk (WM j)) (zV yu (Y 0) yp (yb zi)) (zZ (za zH zc)) (zC _)) (ze (zx (yk (za zH (za (yi YI U T.b_tuple zdc (za (vQ U (osc:=zg qQ) (N:=["words"]) (xs:=["word"]) (ix:=[]) () (yR (zV yu (Y 0) (yb zi) yp)) (λ_ _ _ _=>(xh (i:=0) (fi (["word"]:zO)|>()) U (iy U) (.inr U))) (λ_ _ _ _=>wY) (λ_ _ _ _=>(pv (jF T) T.g8 j zj (za (Y 0) zc)))) zc)) zc)))))
   zF) (zb (zP (PW.pt (ZI (zq yH (zJ zU U T.q04 yA (za (Y 0) zc)) zi (zC _)) (ZI (zq yH (zB zW (Y 0) zi) zH (zC _)) (qF (zq wO (zB zW (Y 0) zi) (yX U T.g_WHYS U) (by with_unfolding_all rfl)))))) (ze (zx (yk (za zH (za (zB zW (Y 0) zi) zc)))))
    zF) (ze yG))),Qt h}}
 let #[a,m,rfl,_]:=h;rfl
def QG:Fa P w K mg base 5 t.a11 t.d11 ["word"] (KQ):=by
 show T.g11.f.okA q1o λm H Q E h=>?_;let #[w,rfl,k,q]:=h;show{U,λ_ _ _ _ j=>{Xt K t,(zb (zt 1 q1o.nd (pv (jF T) T.g8 j zj (za (Y 0) zc))) (zb (zP (PW.pt (Zk (zq YG (Y 1) zi (zC _)) (jg (zq Vo (Y 1) (zE ZK zi zi) (zC _))))) (ze yG)
    zF) (ze (zx (Y 1))))),zeo k q}}
def zfV:Fa P w K mg base 6 t.a12 t.d12 ["words","rows"] (Xp):=by
 show T.g12.f.okA q1p λvs H Q E h=>{?_,λ_ _ _ _ j=>{_,(zb (zt 2 q1p.nd (pv (zar T) T.g10 j zj (za (zV yu (Y 0) (yb zi) yp) zc))) (zb (zP (PW.pt (ZI (zq yH (zB zR (Y 2) zi) zH (zC _)) (qF (zq (Kr (WM j)) (Y 1) (zZ zc) (zC _))))) (ze yG)
    zF) (ze (zx (yk (za zH (za (pv (QG T) T.g11 j zj (za (zB zW (Y 0) zi) zc)) (za (Y 2) (za (Y 1) zc))))))))),by
   let #[a,g,r,u,gs,rfl,I,h2,C,h4,h5,q]:=h;cases u with
   |off w=>show C.elim
   |done sa=>
    let c2:vV (((bb "deal")::z8 r::ocW (.done sa)).map V.str) (Z ((2:Nat):Int)) ae=(ocW (.done sa)).map V.str:=Qo V.str ((bb "deal")::z8 r::ocW (.done sa)) (iI (iI (bP _)));let m4:4<=Fb:=by rw[cp];decide
    show{_,U,((2:Nat):Int),U,a,_,U,aN.of I,λp hp=>?_};rw[c2];show{p,.done sa,U,zh,C,λv H1 O A=>?_};let J:=(hZ p hp).trans O;let #[o,y,rfl,k,_]:=id A;show{_,U,o,_,0,_,U,U,aV.of k,U,U,_,U,yz (Fk zen) (yz U {_,U,a,_,((1:Nat):Int),_,U,U,aN.of (J _ _ I),yL U,r,U,h2,λH3 m=>{_,U,_,U,m4,λb B=>q b _ _ ((J.trans m).trans (hZ b B)) (A.same (m.trans (hZ b B))) zh}})}}}
 let #[a,g,r,u,gs,rfl,_]:=h;rfl
def zfW:Fa P w K mg base 6 t.a13 t.d13 ["words","rows"] (qV):=by
 show T.g13.f.okA zfv λk H Q E h=>{?_,λ_ _ _ _ j=>{K3 K t,(zb (zP (zq kX (zJ zU U T.q04 yA (za (Y 0) zc)) zi (zC _)) (ze yG)
   zF) (zb (zP (xP (zJ (zhF U) U T.q2x znt (za (vQ U (osc:=zg WQ) (N:=["words","rows"]) (xs:=["place","worth"]) (ix:=[]) () (yR (Y 1)) (λ_ _ _ _=>(ZJ U (xa (xh (i:=0) (fi (["place","worth"]:zO)|>()) U (iy U)) (xa (xh (i:=1) (fi (["place","worth"]:zO)|>()) U (iy U)) j9)))) (λ_ _ _ _=>wY) (λ_ _ _ _=>(jA yH (Y 1) zi (zC _)))) zc))) (ze yG)
    zF) (ze (zx (yk (za zH (za (pv (QG T) T.g11 j zj (za (zB zW (Y 0) zi) zc)) (za (Y 1) zc)))))))),zep h}}
 let #[a,g,r,m,rfl,_]:=h;rfl
def V4:Fa P w K mg base 1 t.a14 t.d14 ["body"] (ku):=by show T.g14.f.okA q1q λm H Q E h=>?_;let #[z,rfl,k,j,q]:=h;show{U,λ_ _ _ _ o=>{VX K t,(zb (zt 1 q1q.nd (zJ (zhA U) U T.q31 znv (za (vQ U (osc:=zg Xi) (N:=["body","total"]) (xs:=["at","sign"]) (ix:=[]) () (zkh U T.q2d (za (Y 0) zc)) (λ_ _ _ _=>(ZJ U (xa (xh (i:=0) (fi (["at","sign"]:zO)|>()) U (iy U)) (xa (xh (i:=1) (fi (["at","sign"]:zO)|>()) U (iy U)) j9)))) (λ_ _ _ _=>wY) (λ_ _ _ _=>(zE zlw (zJ ziL U T.q2z znu (za (Y 1) zc)) (zE yK zi (zE xp (Y 0) (yX U T.g_MOST_FACTOR {_,U})))))) zc))) (ze (zx (yQ cS PySem.F.slot_str_zfill PySem.F.type_str_zfill zki (yi jB U T.q10 J8 (za (zE xp (Y 1) (yX U T.g_CHECK_BY {_,U})) zc)) (za (yX U T.g_CHECK_FIGURES {_,U}) zc))))),zcx k j q}}
def zfX:bv P w K mg base (CXN P w) 2 t.a15 t.d15 ["text"] (KR t):=by
 show T.g15.f.okN q1r (λk H Q E h=>?_) (λB A j s H k Q E m h=>?_)
 .let #[b,rfl,_]:=h;rfl
 let #[b,rfl,u,o,q]:=h;show{K4 K t E,(zb (zt 1 q1r.nd (yQ cS PySem.F.slot_str_rpartition PySem.F.type_str_rpartition QU (Y 0) (za zH zc))) (zb (zP (zq kX (zB zR (Y 1) zi) (pv (V4 T) T.g14 m zj (za (zB zR (Y 1) zi) zc)) (zC _)) (ze (k8 U T.q1c zcc U T.g_NoLine (za (zbQ (Y 0)) zc)))
    zF) (ze (zx (zB zR (Y 1) zi))))),zex u o q}
def zcI:bv P w K mg base (CXN P w) 7 t.a16 t.d16 ["text"] (zcn t):=by
 show T.g16.f.okN q11 (λm H Q E h=>?_) (λB A k s H m Q E j h=>?_)
 .let #[y,rfl,_]:=h;rfl
 let #[y,rfl,u,o,q]:=h;show{vg K t E,(zb (zt 1 q11.nd (yQ cS eM gO ZS (pv (zfX T) T.g15 j zoL (za (Y 0) zc)) (za zH zc))) (zb (zP (zq zbJ zH (Y 1) (by with_unfolding_all rfl)) (ze (k8 U T.q1c zcc U T.g_NoLine (za zH zc)))
    zF) (zb (zt 2 q11.nd (yQ bF PySem.F.slot_list_index PySem.F.type_list_index zkj (Y 1) (za zH zc))) (zb (zt 3 q11.nd (pv (zfU T) T.g9 j zj (za (zV yu (Y 1) (yb (zE yK (Y 2) zi)) yp) zc))) (zb (zP (zq yH (zB zW (Y 1) zi) zH (zC _)) (ze (zx (pv (zfV T) T.g12 j zj (za (zV yu (Y 1) yp (yb (Y 2))) (za (Y 3) zc)))))
    zF) (zb (zP (zq yH (zB zW (Y 1) zi) zH (zC _)) (ze (zx (pv (zfW T) T.g13 j zj (za (zV yu (Y 1) yp (yb (Y 2))) (za (Y 3) zc)))))
    zF) (ze (k8 U T.q1c zcc U T.g_NoLine (za (zbQ (Y 0)) zc))))))))),zap u o q}
def zeE:Fa P w K mg base 8 t.a17 t.d17 ["line"] (zd4 t):=by
 show T.g17.f.okB q1s λC H Q E h=>{?_,λ_ _ _ _ A=>{_,(ze (zkp (i:=1) (And.intro rfl rfl) rfl q1s.nd (zhX (bv.mono (zcI T) ()) A rfl T.g16.m T.g16.f.kp T.g16.b (za (Y 0) zc)) rfl T.g_NoLine T.q1c T.q41 rfl rfl T.q1d zdM (λ_=>PassesOwnAt.leaving) rfl T.g_NoLog (λ_=>(za (zbQ (Y 0)) zc)))),by
   let #[y,rfl,h,q,o]:=h;show{_,U,y,U,h,q,λx u I k=>{U,λe B=>{_,U,y.tx,U,?_,?_,λm=>{sz1,zh,o x u _ (k.trans (hZ e B))}}}}
   .let:=(Ln.lnok h).2;lia
   .show(Ln.lnok h).1.2.1}}
 let #[y,rfl,_]:=h;rfl
def V5:Fa P w K mg base 1 t.a18 t.d18 ["text"] (VV):=by
 show T.g18.f.okA zdV λJ H Q E h=>{?_,λ_ _ _ _ O=>{_,(ze (zx (zV yu (yQ cS eM gO ZS (Y 0) (za zH zc)) yp (yb (zaB WC zi))))),by
   let #[ls,rfl,A,q]:=h;let B:=A.all;let C:(ls.map Ln.tx).length<=30:=bd\A.1
   generalize ls.map Ln.tx=xs at *
   let k:gu (kO xs) (bb "\n")=xs++[bb ""]:=zbD λx j=>(B x j).1;show{_,U,U,_,_,U,U,(),zgS (λx j=>(B x j).2) C,[k,bj,bN]\(),λl I=>?_};rw[k];let m:=hZ (o:=HO.lst ((xs++[bb ""]).map V.str)) l I;show{1,U,-1,U,l,_,U,aN.of zh,λp u=>q p _ (m.trans (hZ p u)) (yy m u) ?_};rw[zh,bW];show congrArg (λz=>Z (HO.lst z)) ?_;show zes _ _}}
 let #[ls,rfl,_]:=h;rfl
def zas:Fa P w K mg base 9 t.a19 t.d19 ["text"] (YV t):=by
 show T.g19.f.okB q1t λO H Q E h=>{?_,λ_ _ _ _ hr=>{_,(zb (zdP (j:=1) q1t.nd U (And.intro rfl rfl) rfl zdM rfl (iy rfl) (osc:=zg qR) (N:=["text","entries"]) (xs:=["line"]) (ix:=[]) () (yR (pv (V5 T) T.g18 hr Ka (za (Y 0) zc))) (λ_ _ _ _=>(xh (i:=0) (fi (["line"]:zO)|>()) rfl (iy rfl) (.inr rfl))) (λ_ _ _ _=>wY) (λ_ _ _ _=>(pv (zeE T) T.g17 hr zoK (za (Y 0) zc)))) (zb (zP (PW.pt (Zk (zq (Kf (WM hr)) (Y 1) (zZ zc) (zC _)) (jg (zq kX (zB zR (zB zW (Y 1) zi) zi) zH (zC _))))) (ze (k8 U T.q1d zbO U T.g_NoLog (za zH zc)))
    zF) (ze (zx (Y 1))))),by
   let #[ls,rfl,h1,q,qe]:=h;let ll:=h1.1;show{_,U,ls,U,h1,λl H1 s1 hl e1=>{l,U,{_,aN.of e1},λD hD=>?_}};show zh4 (J:=Itl K l) ls.length () (λτ=>∃o,τ=[o]) (enR ls D) (λi ys H H' k ⟨es,h,p⟩=>{es,h,Paired.mapP p λ_ _ z=>z.same (zkX k)}) {_,U} {[],U,.nil} (λi H s h=>{_,_,aN.of (s _ _ e1),bc ([bd,bd]\h)}) (λH s=>{_,aN.of (s _ _ e1),[bd,bd]\bh _}) hD ?_ ?_
   .rintro i v τ ys H4 H5 ⟨o,rfl⟩ s4 hi ⟨es,C,B⟩ hy ⟨rfl,hv⟩;let hv:=hv _ (aN.of (s4 _ _ e1));rw[bn,bn] at hv;let #[x,hx,rfl]:=cj.mp hv;let #[y,u,rfl]:=cj.mp hx;show yN (R:=False) U {_,U,y,U,h1.2 y (b7 u),λz hz v H6 I en=>{{_,U},{es++[z],[du,u,C,bW,hz]\U,?_},I},λx hx H6 I=>qe (λr0 tb es z=>?_) H6 (s1.trans (s4.trans I))}
    .let aa:=I _ _ hy;show Paired.snocP (Paired.mapP B λ_ _ z=>z.same (zkX λb o _ z=>I _ _ z)) (en.up (λb zs z=>zfJ (zN z aa ()) z) (λb o p z=>zfJ (λy=>by rw[y,hy] at p;cases p) z) λ_ _=>trivial)
    .rw[z,hx,bn] at u;let #[w,_,hw]:=cj.mp u;cases hw
   .rintro ys H4 _ ⟨es,C,B⟩ s4 hq;rw[eV] at C;let B:B0 (EnA H4 λ_=>True) ys es:=Paired.mapP B λ_ _ z=>z.same zkW;show{_,U,bP _,λp hp=>{D,p,ys,U,U,aN.of (hZ p hp _ _ hq),aN.of zh,_,U,?_}};let A:=hZ (o:=HO.lst []) p hp;let S5:=s1.trans (s4.trans A);cases es with
    |nil=>
     cases B;show yN U (yN U {sz1,qe (λr0 tb es z=>by rw[C] at z;cases z) _ S5})
    |cons z0 es'=>
     obtain⟨v0,O,rfl,e0,pt⟩:∃v0 O,ys=v0::O/\EnA H4 (λ_=>True) v0 z0/\B0 (EnA H4 λ_=>True) O es':=by
      cases B with
      |cons a b=>show{_,_,U,a,b}
     show yz (Fk nofun) ?_;cases z0 with
     |mark r tb=>
      let #[m,gl,rfl,em,lg,_]:=id e0;show{_,U,D,_,((0:Nat):Int),_,U,U,aN.of (A _ _ hq),yL U,m,_,0,_,U,U,aV.of (A _ _ em),U,U,_,U,yz U {_,U,q r tb es' C D _ _ S5 (A _ _ hq) (.cons (e0.same A) (Paired.mapP pt λ_ _ z=>z.same A))}}
     |deal r e=>
      let #[m,o,gl,rfl,em,_]:=id e0;show{_,U,D,_,((0:Nat):Int),_,U,U,aN.of (A _ _ hq),yL U,m,_,0,_,U,U,aV.of (A _ _ em),U,U,_,U,yN () {sz1,qe (λr0 tb es z=>by rw[C] at z;cases z) _ S5}}}}
 let #[ls,rfl,_]:=h;rfl
def Yo:Fa P w K mg base 1 t.a20 t.d20 ["rows"] (v7):=by
 show T.g20.f.okA q1u λvs H Q E h=>{?_,λ_ _ _ _ k=>{_,(zb (zeO (i:=1) q1u.nd U (Bo U) (yi (wG U (hu3 k)) U T.q19 Jw (za (Y 0) zc))) (ze (zx (vQ U (osc:=zg Xj) (N:=["rows","worths"]) (xs:=["place"]) (ix:=[1]) () (yR (zJ (zbY U) U T.q1a Yu (za (Y 1) zc))) (λ_ _ _ _=>(xh (i:=0) (fi (["place","worths"]:zO)|>()) U (iy U) (.inr U))) (λ_ _ _ _=>(zbM (zq kX (kc (xt k) (Y 1) (Y 0) (λ_ _=>rfl)) zi (zC _)))) (λ_ _ _ _=>(yk (za (Y 0) (za (kc (xt k) (Y 1) (Y 0) (λ_ _=>rfl)) zc)))))))),by
   let #[a,aF,rfl,h1,h2,O,q]:=h;let #[xs,u,o]:=h1;show{_,U,a,xs,aF,U,u,o,O,λd J=>?_};generalize c_:upd H d _=H0;let #[m,d0]:=jp c_ J;show zoO (aF:=aF) U U d0 h2 (λp q0 w H' A B _ g a b=>{_,U,_,U,d,_,U,g,U,_,U,?_}) λl j H' s I C T _=>q l j H' (m.trans s) (yy m I) C T;by_cases w0:w=0
   .show yz (w0\U) (b w0)
   .show yN (Fk (λz=>w0 (V.int.inj z))\U) (a w0)}}
 let #[a,aF,rfl,_]:=h;rfl
def zfY:Fa P w K mg base 10 t.a21 t.d21 ["text"] (Xr t):=by
 show T.g21.f.okB q0j λk H Q E h=>{?_,λ_ _ _ _ j=>{K6 K t E,(zb (zt 1 q0j.nd (pv (zas T) T.g19 j Ka (za (Y 0) zc))) (zb (zt 2 q0j.nd (zB zR (zB zW (Y 1) zi) zi)) (zb (zt 3 q0j.nd (yi wX U T.b_list jC (za (zB zR (zB zW (Y 1) zi) zi) zc))) (zb (zt 4 q0j.nd (zZ zc)) (zb (xM zpa U (yR (zV yu (Y 1) (yb zi) yp)) (yw 5 q0j.nd) (zb (zP (zq kX (zB zR (Y 5) zi) (Y 2) (zC _)) (ze (k8 U T.q1d zbO U T.g_NoLog (za (zlV (Y 2)) zc)))
    zF) (ze (zP (zq yH (zB zR (Y 5) zi) zH (zC _)) (zb (zL (yQ bF mx my WF (Y 3) (za (zB zR (Y 5) zi) zc))) (zb (zL (yQ bF ck cm yE (Y 4) (za (yk (za (Y 2) (za (zB zR (Y 5) zi) zc))) zc))) (ze (ziB (i:=2) q0j.nd U (iy U) zi ziC)))) (ze (zP (zq (XT (WM j)) (zB zR (Y 5) zi) (pv (Yo T) T.g20 j Ka (za (Y 3) zc)) (zC _)) (ze (k8 U T.q1d zbO U T.g_NoLog (za (zlW (Y 2)) zc)))
   zF)))))) (ze (zx (yk (za (Y 2) (za (pv (Yo T) T.g20 j Ka (za (Y 3) zc)) (za (Y 4) zc))))))))))),zez h}}
 let #[ls,rfl,_]:=h;rfl
def zat:Fa P w K mg base 1 t.a22 t.d22 ["self","table"] (vR t):=by
 show T.q2g.ok0 Q7 (λk H Q E h=>?_) (λo A j s H k Q E m h=>?_)
 .let #[x,h,dx,aF,rfl,_]:=h;rfl
 show{kQ K t,(zb (yj (f:="ground") (Y 0) (yi (wG U (hu3 m)) U T.q19 Jw (za (Y 1) zc)) U) (zb (yj (f:="folded") (Y 0) zi U) (zb (yj (f:="worths") (Y 0) ZN U) (ze (yj (f:="ranks") (Y 0) ZO U))))),Ql (mkF T) h}
def zcJ:Fa P w K mg base 1 t.a23 t.d23 ["self","makes"] (q9 t):=by
 show T.q2i.ok0 zcg (λk H Q E h=>?_) (λo A j s H k Q E u h=>?_)
 .let #[x,m,dx,rfl,_]:=h;rfl
 show{Zd K t,(zb (yj (f:="makes") (Y 0) (Y 1) U) (zb (yj (f:="laid") (Y 0) ZN U) (zb (yj (f:="readers") (Y 0) ZO U) (ze (yj (f:="doubted") (Y 0) ZN U))))),zai (dkF T) h}
def zcK:Fa P w K mg base 3 t.a24 t.d24 ["self","table","hands","way","first"] (jD t):=by
 show T.q2k.ok0 zch (λm H Q E h=>?_) (λo A j s H m Q E k h=>?_)
 .let #[x,l,w,dx,dw,n,f,g,rfl,_]:=h;rfl
 show{Ze K t,(zb (yj (f:="hands") (Y 0) (Y 2) U) (zb (yj (f:="way") (Y 0) (Y 3) U) (zb (yj (f:="first") (Y 0) (Y 4) U) (zb (yj (f:="codes") (Y 0) (zZ zc) U) (zb (yj (f:="waiting") (Y 0) (zZ zc) U) (zb (yj (f:="held") (Y 0) ZN U) (zb (yj (f:="makes") (Y 0) (qG T.mk_Makes (bv.mono (zat T) ()) k U T.g_Makes T.q2h .nil zj (za (Y 1) zc)) U) (zb (yj (f:="jobs") (Y 0) (qG T.mk_Jobs (bv.mono (zcJ T) ()) k U T.g_Jobs T.q2j .nil zj (za (zu (Y 0) U) zc)) U) (ze (yj (f:="ended") (Y 0) (zZ zc) U)))))))))),zao (dkF T) (mkF T) h}
def kT:Fa P w K mg base 11 t.a25 t.d25 ["self","log","hands","way"] (xK t):=by
 show T.q2m.ok1 q1v (λm H Q E h=>?_) (λo A j s H m Q E k h=>?_)
 .let #[x,w,dx,dw,n,ls,rfl,_]:=h;rfl
 show{YY K t E,(zb (zt 4 q1v.nd (pv (zfY T) T.g21 k Ka (za (Y 1) zc))) (zb (yj (f:="due") (Y 0) (zB zR (Y 4) zi) U) (zb (yj (f:="told") (Y 0) (zB zR (Y 4) zi) U) (zb (yj (f:="lines") (Y 0) (pv (V5 T) T.g18 k Ka (za (Y 1) zc)) U) (ze (yj (f:="desk") (Y 0) (qG T.mk_Desk (bv.mono (zcK T) ()) k U T.g_Desk T.q2l .nil Ka (za (zB zR (Y 4) zi) (za (Y 2) (za (Y 3) (za (zu (Y 0) U) zc))))) U)))))),Qz (hsF T) h}
def QH:Fa P w K mg base 2 t.a26 t.d26 ["words"] (Xo):=by
 show T.g26.f.okA q1w λm H Q E h=>{?_,λ_ _ _ _ j=>{Xu K t,(zb (zt 1 q1w.nd (yQ cS nU nV zbS zH (za (Y 0) zc))) (ze (zx (zE yY (zE yY (Y 1) zH) (pv (V4 T) T.g14 j zj (za (Y 1) zc)))))),zem h}}
 let #[a,k,rfl,_]:=h;rfl
def Wv:Fa P w K mg base 2 t.a27 t.d27 ["rows"] (Wc):=by
 show T.g27.f.okA q12 λk H Q E h=>{?_,λ_ _ _ _ j=>{Wj K t,(zb (zt 1 q12.nd (zZ zc)) (zb (xM cN U (yR (Y 0)) (ZJ U (xa (yw 2 q12.nd) (xa (yw 3 q12.nd) j9))) (ze (zL (yQ bF mx my WF (Y 1) (za (zZ (za (zB zR (Y 2) zi) (za (pv (vO T) T.g5 j zj (za (zB zR (Y 2) zi) zc)) (za (pv (vO T) T.g5 j zj (za (Y 3) zc)) zc)))) zc))))) (ze (zx (Y 1))))),zak h}}
 let #[a,aF,rfl,_]:=h;rfl
def Zh:Fa P w K mg base 3 t.a28 t.d28 ["rank","table"] (vc):=by
 show T.g28.f.okA zci λvs H Q E h=>{?_,λ_ _ _ _ k=>{_,(ze (zx (pv (QH T) T.g26 k zj (za (zE xq (zZ (za zH (za (pv (vO T) T.g5 k zj (za (Y 0) zc)) (za zH zc)))) (pv (Wv T) T.g27 k zj (za (Y 1) zc))) zc)))),by
   let #[r,g,j,rfl,A,h5,o,q]:=h;let hl:=o.le;let hw:(AA j).length<=200:=jE\()
   let O:3<=Fb:=by rw[cp];decide
   show{_,U,r,U,vF (zkL A),λH1 J=>{O,λb hb=>?_}};generalize c2:upd H1 b _=H2;let #[I,g2]:=jp c2 hb;let S2:=J.trans I;show{_,U,g,j,U,h5.same S2,o,λl7 H7 u _ g7=>{b,l7,_,_,U,U,u _ _ g2,g7,zM (by rw[bd];change 3+_<=_;lia),λB m=>{B,Zv r j,U,zh,JE A o,?_,λH9 C=>q H9 ((S2.trans u).trans ((hZ B m).trans C))}}};rw[Zv,bJ,bJ,bJ];lia}}
 let #[r,g,j,rfl,_]:=h;rfl
def Ww:Fa P w K mg base 1 t.a29 t.d29 ["line","cell"] (kC):=by show T.g29.f.okA q0r λk H Q E h=>?_;let #[z,c,rfl,j,o,q]:=h;show{U,λ_ _ _ _ m=>{kD K t,(zb (zt 2 q0r.nd (zH (x:=" !\"#$&'()*+,-./0123456789:;<=>?@ABCDEFGHIJKLMNOPQRSTUVWXYZ[\\]^_`"))) (zb (zt 2 q0r.nd (zE yY (Y 2) zH)) (zb (zt 3 q0r.nd (zE xp (Y 1) (zJ zU U T.q04 yA (za (Y 0) zc)))) (zb (zt 4 q0r.nd (zE yK (zE yK (yQ cS PySem.F.slot_str_find PySem.F.type_str_find zlB (Y 2) (za (zB ziR (Y 0) (Y 3)) zc)) zi) (zE xp (zE wZ (Y 1) zi) (zE kH (zJ zU U T.q04 yA (za (Y 2) zc)) zi)))) (ze (zx (zE yY (zE yY (zV zbN (Y 0) yp (yb (Y 3))) (zB ziR (Y 2) (zE xp (Y 4) (zJ zU U T.q04 yA (za (Y 2) zc))))) (zV zbN (Y 0) (yb (zE yK (Y 3) zi)) yp)))))))),XD j q}}
def QI:Fa P w K mg base 2 t.a30 t.d30 ["lines","deals","kind","cell","last"] (jV):=by
 show T.g30.f.okA q0i λJ H Q E h=>?_;let #[l,O,k,c,r,L,ds,R,tb,rfl,I,C,B,A,u,o,m,q]:=h;show{U,λ_ _ _ _ j=>{Z8 K t,(zb (zt 5 q0i.nd (zE xp (Y 3) (zJ zU U T.q04 yA (za (Y 0) zc)))) (zb (zP (zq yH (Y 2) zi (zC _)) (ze (zx (zV yu (Y 0) (yb zi) yp)))
    zF) (zb (zP (PW.pt (ZI (zq yH (Y 2) zi (zC _)) (qF (zq Vo (zJ zU U T.q04 yA (za (Y 1) zc)) zi (zC _))))) (zb (zt 5 q0i.nd (zB zW (Y 1) (zE xp (Y 3) (zE kH (zJ zU U T.q04 yA (za (Y 1) zc)) zi)))) (ze (zx (zE xq (zV yu (Y 0) yp (yb (Y 5))) (zV yu (Y 0) (yb (zE yK (Y 5) zi)) yp)))))
   zF) (zb (zP (PW.pt (ZI (zq yH (Y 2) zi (zC _)) (qF (zq Vo (zJ zU U T.q04 yA (za (Y 1) zc)) zi (zC _))))) (zb (zt 5 q0i.nd (zB zW (Y 1) (zE xp (Y 3) (zJ zU U T.q04 yA (za (Y 1) zc))))) (ze (zx (zE xq (zV yu (Y 0) yp (yb (zE yK (Y 5) zi))) (zV yu (Y 0) (yb (Y 5)) yp)))))
   zF) (zb (zP (zq yH (Y 2) zi (zC _)) (ze (zx (zE xq (zE xq (zV yu (Y 0) yp (yb (Y 5))) (zZ (za (pv (Ww T) T.g29 j zj (za (zB zW (Y 0) (Y 5)) (za (zE wZ (Y 3) zi) zc))) zc))) (zV yu (Y 0) (yb (zE yK (Y 5) zi)) yp))))
    zF) (zb (zP (PW.pt (ZI (zq yH (Y 2) zi (zC _)) (qF (zq Vo (zJ zU U T.q04 yA (za (Y 1) zc)) zi (zC _))))) (zb (zt 5 q0i.nd (zE xp (Y 3) (zE kH (zJ zU U T.q04 yA (za (Y 1) zc)) zi))) (zb (zt 6 q0i.nd (zB zW (Y 1) (Y 5))) (zb (zt 7 q0i.nd (zB zW (Y 1) (zE yK (Y 5) zi))) (zb (zt 8 q0i.nd (zE xq (zE xq (zV yu (Y 0) yp (yb (Y 6))) (zZ (za (zB zW (Y 0) (Y 7)) zc))) (zV yu (Y 0) (yb (zE yK (Y 6) zi)) (yb (Y 7))))) (ze (zx (zE xq (zE xq (Y 8) (zZ (za (zB zW (Y 0) (Y 6)) zc))) (zV yu (Y 0) (yb (zE yK (Y 7) zi)) yp))))))))
   zF) (zb (zP (zq yH (Y 2) zi (zC _)) (ze (zx (zE xq (Y 0) (zZ (za (Y 4) zc)))))
    zF) (zb (zP (zq yH (Y 2) zi (zC _)) (ze (zx (zE xq (zE xq (zV yu (Y 0) yp (yb (Y 5))) (zZ (za (zE yY (zB zW (Y 0) (Y 5)) (zB zW (zZ (za zH (za zH zc))) (zE xp (zE wZ (Y 3) zi) zi))) zc))) (zV yu (Y 0) (yb (zE yK (Y 5) zi)) yp))))
    zF) (zb (zt 5 q0i.nd (zE xp (Y 3) (zE yK (zJ zU U T.q04 yA (za (Y 0) zc)) zi))) (zb (zt 9 q0i.nd (zZ (za zH (za zH (za zH zc))))) (ze (zx (zE xq (zE xq (zV yu (Y 0) yp (yb (Y 5))) (zZ (za (zB zW (Y 9) (zE xp (zE wZ (Y 3) zi) zi)) zc))) (zV yu (Y 0) (yb (Y 5)) yp)))))))))))))),Jm {I,C,B,A,u,o} m q}}
def kF:Fa P w K mg base 1 t.a31 t.d31 ["self"] (kB t):=by
 show T.g31.f.okA Wb λm H Q E h=>?_;let #[d,dx,a,n,f,cs,rfl,k,j,q]:=h;show{U,λ_ _ _ _ o=>{_,(ze (zx (zE yK (zu (Y 0) U) (zJ zU U T.q04 yA (za (zu (Y 0) U) zc))))),by let F:=(dkF T);let h:=k;show ya h F.cD F.d3 U U (ya h F.cD F.d4 U U {.ref a.cl,cs.length,U,.inl {_,aN.of j,U},_,_,U,U,q})}}
def zeF:Fa P w K mg base 2 t.a32 t.d32 ["self","code"] (VU t):=by
 show T.g32.f.okA q1x λvs H Q E h=>{?_,λ_ _ _ _ hr=>{_,(zb (zt 2 q1x.nd (xn (Y 0) T.q0e (kF T) T.g31 hr zj)) (zb (zL (yQ bF ck cm yE (zu (Y 0) U) (za (yi wX U T.b_list jC (za (Y 1) zc)) zc))) (zb (zL (yQ bF ck cm yE (zu (Y 0) U) (za (Y 2) zc))) (ze (zx (Y 2)))))),by
   let F:=(dkF T);let #[d,c,y,e,a,lb,n,f,S,rfl,h1,h2,h,h3,q]:=h;let #[D,J]:=h.ex;let #[#[o,le],B,ek,ea,eb]:=J.ph;show yW J.d0 U U {d,_,a,n,f,D.cs,U,J.d0,J.o.at (i:=3) U,?_};rw[o];show ya J.d0 F.cD F.d4 U U {.inl {U,_,aN.of (J.o.at (i:=3) U)},_,U,c,[y],U,.inl (aN.of h1),λj A=>?_};generalize c_:upd H j _=H2;let #[s2,C]:=AE c_ A;let #[u,G2,D2,m]:=J.dk.relab (M:=M1) (N:=λb=>b=j) 14 () s2 λb z=>z\{A,_,C}
   let #[k,O]:=D2.set (i:=3) (D':={ D with cs:=D.cs++[.ref j] }) rfl () () (.lst (D.cs++[.ref j])) rfl rfl rfl;show{a.cl,_,_,U,U,D2.o.at (i:=3) U,xg (by change D.cs.length<1000000;lia),?_};let e3:=O.kp _ _ (m j rfl\V1) C;generalize upd H2 a.cl (.lst (D.cs++[.ref j]))=H3 at *
   let #[D4,I]:=k.set (i:=4) (D':={ D with cs:=D.cs++[.ref j],ws:=[f+S.m] }) rfl () () (.lst (D.ws.map V.int++[.int (f+S.m)])) (B\U) U rfl;let G:=G2.trans (O.trans I);show ya (k.o.at (i:=0) U) F.cD F.d5 U U {.inl {U,_,aN.of (k.o.at (i:=4) U)},_,U,a.wl,_,_,U,U,k.o.at (i:=4) U,by change (D.ws.map V.int).length<_;show B\xg (),_,U,?_};show q _ u G.m0 (DkJ.g_ {D4,J.eq,{by change (D.cs++_).length=_;rw[bj,o];rfl,le},U,ek,ea,eb,.ref j,?_,j,y,U,I.kp _ _ (m j rfl\V1) e3,h2.up G.ts,m j U});change (D.cs++[V.ref j])[S.m]?=_;show [<-o]\oQ}}
 let #[d,c,x,e,a,lb,n,f,S,rfl,_]:=h;rfl
def QJ:Fa P w K mg base 1 t.a33 t.d33 ["row","at"] (KS):={λm H Q E h=>h.elim,λA j s H k o m Q E B C I u h=>h.elim}
def zeG:Fa P w K mg base 2 t.a34 t.d34 ["rows","first"] (zd3):=by
 show T.g34.f.okA q1f λvs H Q E h=>{?_,λ_ _ _ _ O=>{_,(zb (zt 2 q1f.nd (zZ zc)) (zb (xM cN U (yR (Y 0)) (yw 3 q1f.nd) (ze (zP (zq yH (zB zR (Y 3) zi) zH (zC _)) (ze (zL (yQ bF mx my WF (Y 2) (za (pv (QJ T) T.g33 O zj (za (Y 3) (za (zE yK (Y 1) (zJ zU U T.q04 yA (za (Y 2) zc))) zc))) zc)))) (ze (zL (yQ bF ck cm yE (Y 2) (za (Y 3) zc))))))) (ze (zx (Y 2))))),by
   let #[l,v,e,rfl,I,h2,q]:=h;obtain⟨r,m,f,rfl,er,ef,J⟩:∃(r:ac)(m:LV)(f:Str),v=.ref r/\H r=Z (.tup m)/\atI m 0=Z (.str f)/\f≠bb "if":=by
    cases e with
    |give p n=>let #[r,tp,te,a,b,c,d]:=h2;show{r,_,_,a,b,U,()}
   show{bP _,λw A=>?_};let B:=hZ (o:=HO.lst []) w A;show{_,U,l,U,{_,aN.of (B _ _ I)},xY [V.ref r] (λi k H'=>aH H H'/\(∃a,k=[Z (.ref l),Z (.int 0),Z (.ref w),a])/\H' w=Z (.lst ([V.ref r].take i))) {B,{_,U},zh} (λi k H' z=>aN.of (z.1 _ _ I)) ?_ ?_}
   .rintro i u k H' C ⟨S,⟨a,rfl⟩,j⟩;obtain rfl:i=0:=Nat.lt_one_iff.mp (bi.mp C).1;cases C;show zb9 U (S _ _ er) ef (λz=>absurd z J) λ_=>{_,U,.inl {U,_,aN.of j},_,U,w,[],_,U,U,j,(),j5 S A,{_,U},zh}
   .rintro k H' ⟨S,⟨a,rfl⟩,j⟩;show{_,U,q w H' S A j}}}
 let #[l,v,e,rfl,_]:=h;rfl
def zfZ:Fa P w K mg base 3 t.a35 t.d35 ["rows"] (KW):=by show T.g35.f.okA zfw λo H Q E h=>?_;let #[l,v,e,rfl,m,k,q]:=h;show{U,λ_ _ _ _ j=>{_,(ze (zx (pv (zeG T) T.g34 j zj (za (Y 0) (za zi zc))))),({_,U,l,v,e,U,m,k,q})}}
def Jo:Fa P w K mg base 1 t.a36 t.d36 ["self"] (jk t):=by
 show T.q2n.ok0 Jf (λk H Q E h=>?_) (λm A j s H k Q E o h=>?_)
 .let #[x,dx,rfl,_]:=h;rfl
 show{Zy K t,(zb (yj (f:="rows") (Y 0) (zZ zc) U) (zb (yj (f:="blocks") (Y 0) (zZ zc) U) (ze (yj (f:="turned") (Y 0) (zZ zc) U)))),W8 (rgF T) h}
def Vc:Fa P w K mg base 1 t.a37 t.d37 ["self","number"] (W1):={λm H Q E h=>h.elim,λA j s H k o m Q E B C I u h=>h.elim}
def Vd:Fa P w K mg base 1 t.a38 t.d38 ["self","number"] (W2):={λm H Q E h=>h.elim,λA j s H k o m Q E B C I u h=>h.elim}
def Wx:Fa P w K mg base 1 t.a39 t.d39 ["self","row","number"] (Wf):={λm H Q E h=>h.elim,λA j s H k o m Q E B C I u h=>h.elim}
def Yp:Fa P w K mg base 1 t.a40 t.d40 ["self"] (jc t):=by
 show T.g40.f.okA Z0 λI H Q E h=>{?_,λ_ _ _ _ B=>{_,(zb (zP (zq (Kf (WM B)) (zu (Y 0) U) (zZ zc) (zC _)) (ze (zx (zu (Y 0) U)))
   zF) (ze (zx (vU (xP (zB zW (zu (Y 0) U) (zaB WC zi))) (zB zR (zB zW (zu (Y 0) U) (zaB WC zi)) zi) (zB zR (zB zW (zu (Y 0) U) (zaB WC zi)) zi))))),by let F:=(rgF T);let #[x,dx,A,m,u,rfl,k,C,q]:=h;unfold zA yF;show ya k F.cl F.n2 U U {bP _,λp j=>{m,p,[],U,U,aN.of (hZ p j _ _ C),aN.of zh,_,U,yN U ?_}};let s:=hZ (o:=HO.lst []) p j;show ya (s _ _ k) F.cl F.n1 U U (q _ s)}}
 let #[x,dx,A,m,u,rfl,_]:=h;rfl
def Ve:Fa P w K mg base 2 t.a41 t.d41 ["self","row","number"] (vL t):=by
 show T.g41.f.okA WT λvs H Q E h=>{?_,λ_ _ _ _ j=>{_,(ze (zP (zq yH (zB zR (Y 1) zi) zH (zC _)) (ze (zL (Al (Y 0) T.q0o (Vc T) T.g37 j zj (za (Y 2) zc)))) (ze (zP (zq yH (zB zR (Y 1) zi) zH (zC _)) (ze (zL (Al (Y 0) T.q0o (Vd T) T.g38 j zj (za (Y 2) zc)))) (ze (zP (zq yH (zB zR (Y 1) zi) zH (zC _)) (ze (zL (Al (Y 0) T.q0o (Wx T) T.g39 j zj (za (Y 1) (za (Y 2) zc))))) (ze (zL (yQ bF ck cm yE (xn (Y 0) T.q0o (Yp T) T.g40 j zj) (za (Y 1) zc)))))))))),by
   let F:=(rgF T);let #[x,dx,o,J,B,v,e,rfl,I,h2,C,h4,q]:=h;obtain⟨r,k,f,rfl,u,A,n1,n2,O⟩:∃(r:ac)(k:LV)(f:Str),v=.ref r/\H r=Z (.tup k)/\atI k 0=Z (.str f)/\f≠bb "else"/\f≠bb "end"/\f≠bb "if":=by
    cases e with
    |give p n=>let #[r,tp,te,a,b,c,d]:=h4;show{r,_,_,a,b,U,(),(),()}
   show zb9 U u A (λz=>absurd z n1) λ_=>zb9 U u A (λz=>absurd z n2) λ_=>zb9 U u A (λz=>absurd z O) λ_=>?_;show yW I U U {x,dx,o,J,B,U,I,h2,λH1 m=>{.inl {U,_,aN.of (m _ _ C)},_,U,o,[],_,U,U,m _ _ C,(),?_}};show q _ ((UpR.same m).trans (UpR.up _)) zh}}
 let #[x,dx,o,J,B,v,e,rfl,_]:=h;rfl
def Vf:Fa P w K mg base 1 t.a42 t.d42 ["self","words","number"] (vK t):=by
 show T.q2p.ok0 WU (λk H Q E h=>?_) (λm A j s H k Q E o h=>?_)
 .let #[x,l,dx,rfl,_]:=h;rfl
 show{qt K t,(zb (yj (f:="words") (Y 0) (Y 1) U) (zb (yj (f:="number") (Y 0) (Y 2) U) (ze (yj (f:="at") (Y 0) zi U)))),Wq (rwF T) h}
def vG:Fa P w K mg base 1 t.a43 t.d43 ["self"] (vC t):=by
 show T.g43.f.okA q1y λo H Q E h=>{?_,λ_ _ _ _ A=>{_,(zb (zP (zq yH (zu (Y 0) U) (zJ zU U T.q04 yA (za (zu (Y 0) U) zc)) (zC _)) (ze yG)
   zF) (zb (zt 1 q1y.nd (zB zW (zu (Y 0) U) (zu (Y 0) U))) (zb (zaD (f:="at") (Y 0) zi ziO) (ze (zx (Y 1)))))),by let F:=(rwF T);let #[x,dx,l,j,k,w,rfl,R,m,q]:=h;let u:=(bi.mp m).1;unfold zA yF;show ya R.ix F.cl F.n3 U U (ya R.ix F.cl F.n1 U U {.ref l,j.length,U,.inl {_,aN.of R.hw,(bd ..).symm},U,_,U,yz (Fk λz=>by let:=V.int.inj z;lia) ?_});show ya R.ix F.cl F.n1 U U (ya R.ix F.cl F.n3 U U {l,_,k,_,U,U,aN.of R.hw,yL ([bn,m]\U),?_});show{_,U,x,_,_,_,_,U,R.ix,F.cl,F.n3,U,_,_,U,U,_,_,R.ix,(),_,U,q _ (UpR.up _) (R.at_ (k+1))}}}
 let #[x,dx,l,j,k,w,rfl,_]:=h;rfl
def zau:Fa P w K mg base 1 t.a44 t.d44 ["words"] (zae):={λm H Q E h=>h.elim,λA j s H k o m Q E B C I u h=>h.elim}
def vH:Fa P w K mg base 2 t.a45 t.d45 ["self"] (vD t):=by
 show T.g45.f.okA q1z λC H Q E h=>{?_,λ_ _ _ _ o=>{_,(zb (zt 1 q1z.nd (xn (Y 0) T.q0h (vG T) T.g43 o zj)) (zb (zP (Y4 (xP (pv (XE T) T.g1 o zj (za (Y 1) zc)))) (ze yG)
    zF) (ze (zx (Y 1))))),by let F:=(rwF T);let #[x,dx,l,j,k,w,rfl,R,B,A,I,q]:=h;unfold zA yc;show yW R.ix U U {x,dx,l,j,k,w,U,R,B,λJ u R1=>{_,U,_,U,(),λH2 m=>{_,U,yz (A\U) {_,U,q H2 (u.trans (.same m)) (R1.same m)}}}}}}
 let #[x,dx,l,j,k,w,rfl,_]:=h;rfl
def QK:Fa P w K mg base 1 t.a46 t.d46 ["words","at"] (ve):=by
 show T.g46.f.okA q0s λm H Q E h=>{?_,λ_ _ _ _ o=>{Z9 K t,(zb (zt 2 q0s.nd zi) (zb (zt 3 q0s.nd (Y 1)) (zb (JN cN (zq Vo (Y 2) zi (zC _)) (zb (zP (zq zf5 (Y 3) (zJ zU U T.q04 yA (za (Y 0) zc)) (zC _)) (ze yG)
    zF) (zb (zP (zq yH (zE kH (Y 3) (Y 1)) (yX U T.g_MOST_WORDS_terms {_,U}) (zC _)) (ze yG)
    zF) (zb (zt 2 q0s.nd (vU (zq wO (zB zW (Y 0) (Y 3)) (yX U T.g_JOINING U) (by with_unfolding_all rfl)) (zE yK (Y 2) zi) (zE kH (Y 2) zi))) (ze (ziB (i:=3) q0s.nd U (iy U) zi ziC)))))) (ze (zx (Y 3)))))),Jl (λH=>T.q1b H) h}}
 let #[l,j,k,n,w,rfl,_]:=h;rfl
def zf0:Fa P w K mg base 4 t.a47 t.d47 ["word"] (KU):=by
 show T.g47.f.okA zfx λB H Q E h=>{?_,λ_ _ _ _ j=>{_,(zb (zP (xP (pv (XE T) T.g1 j zj (za (Y 0) zc))) (ze (zx (Y 0)))
   zF) (zb (zP (xP (pv (Y3 T) T.g6 j zj (za (Y 0) zc))) (ze (zx (pv (V3 T) T.g7 j zj (za (Y 0) zc))))
    zF) (ze yG))),by let #[w,n,rfl,k,q]:=h;let #[a,b,c,d]:=zkP k;let #[rfl,h]:=k;show{_,U,_,U,(),λC u=>{_,U,yz c {_,U,_,U,a,(),λH2 o=>{_,U,yN U {_,U,n,U,h,λA m=>q A (u.trans (o.trans m))}}}}}}}
 let #[w,n,rfl,_]:=h;rfl
def zcL:Fa P w K mg base 5 t.a48 t.d48 ["words","at"] (qY):=by
 show T.g48.f.okA q0l λo H Q E h=>{?_,λ_ _ _ _ j=>{Wk K t,(zb (zt 2 q0l.nd (pv (QK T) T.g46 j zj (za (Y 0) (za (Y 1) zc)))) (zb (zt 3 q0l.nd (zZ zc)) (zb (xM cN U (znE U T.q30 (za (zV yu (Y 0) (yb (Y 1)) (yb (Y 2))) zc)) (yw 4 q0l.nd) (ze (zP (zq wO (Y 4) (yX U T.g_JOINING U) (by with_unfolding_all rfl)) (zb (zt 5 q0l.nd (WE bF gb gc WG (Y 3))) (zb (zt 6 q0l.nd (WE bF gb gc WG (Y 3))) (ze (zL (yQ bF ck cm yE (Y 3) (za (zE Jv (zE Jv (Y 5) (Y 6)) (yk (za (Y 4) zc))) zc)))))) (ze (zL (yQ bF ck cm yE (Y 3) (za (yk (za (pv (zf0 T) T.g47 j zj (za (Y 4) zc)) zc)) zc))))))) (ze (zx (yk (za (WE bF gb gc WG (Y 3)) (za (Y 2) zc)))))))),zal (λH=>T.q1b H) h}}
 let #[l,m,k,n,w,rfl,_]:=h;rfl
def yO:Fa P w K mg base 6 t.a49 t.d49 ["self"] (vE t):=by
 show T.g49.f.okA q20 λvs H Q E h=>{?_,λ_ _ _ _ J=>{_,(zb (Jz (zt 1 q20.nd (pv (zcL T) T.g48 J zj (za (zu (Y 0) U) (za (zu (Y 0) U) zc))))) (zb (yj (f:="at") (Y 0) (zB zR (Y 1) zi) U) (ze (zx (zB zR (Y 1) zi))))),by let F:=(rwF T);let #[x,dx,l,o,k,n,w,rfl,R,h2,h3,O,q]:=h;unfold zA yc;show ya R.ix F.cl F.n1 U U (ya R.ix F.cl F.n3 U U {l,o,k,n,w,U,R.hw,h2,h3,O,λp u H1 A m B=>?_});let R1:=R.same A;let C:u≠x:=zN B R1.ix ();let I:p≠x:=zN m R1.ix ();show{_,U,p,_,1,_,U,U,aV.of m,U,_,U,x,_,_,_,U,R1.ix,F.cl,F.n3,(),?_};let R2:=R1.at_ (k+1);let j:upd H1 x (.ins t.q08 dx (zmd l (k+1))) p=_:=(zm I).trans m;show{_,U,p,_,0,_,U,U,aV.of j,U,q u _ ((UpR.same A).trans (UpR.up _)) R2 ((zm C).trans B)}}}
 let #[x,dx,l,o,k,n,w,rfl,_]:=h;rfl
def zcM:Fa P w K mg base 7 t.a50 t.d50 ["words"] (qZ t):=by
 show T.g50.f.okA q21 λvs H Q E h=>{?_,λ_ _ _ _ j=>{_,(zb (zt 1 q21.nd (xn (Y 0) T.q0h (vG T) T.g43 j zj)) (zb (zP (zq yH (Y 1) zH (zC _)) (ze (zx (pv (zau T) T.g44 j zj (za (Y 0) zc))))
    zF) (zb (zP (zq yH (Y 1) zH (zC _)) (ze (zx (yk (za zH (za (xn (Y 0) T.q0h (vH T) T.g45 j zj) (za (xn (Y 0) T.q0h (yO T) T.g49 j zj) (za (xn (Y 0) T.q0h (yO T) T.g49 j zj) zc)))))))
    zF) (zb (zP (zq yH (Y 1) zH (zC _)) (ze (zx (yk (za zH (za (xn (Y 0) T.q0h (vH T) T.g45 j zj) (za (xn (Y 0) T.q0h (yO T) T.g49 j zj) zc))))))
    zF) (zb (zP (zq wO (Y 1) (yk (za zH (za zH zc))) (by with_unfolding_all rfl)) (ze (zx (yk (za (Y 1) (za (xn (Y 0) T.q0h (yO T) T.g49 j zj) zc)))))
    zF) (zb (zP (zq yH (Y 1) zH (zC _)) (ze (zx (yk (za zH (za (xn (Y 0) T.q0h (yO T) T.g49 j zj) (za (zZ zc) (za (zZ zc) zc)))))))
    zF) (zb (zP (zq wO (Y 1) (yk (za zH (za zH zc))) (by with_unfolding_all rfl)) (ze (zx (yk (za (Y 1) zc))))
    zF) (ze yG)))))))),by
   let F:=(rwF T);let #[x,dx,l,e,rfl,R,C,q]:=h;unfold zA yc;cases e with
   |give p n=>
    show yW R.ix U U {x,dx,l,_,0,_,U,R,U,λH1 u1 R1=>?_};show zoT U (λz=>absurd z ()) λ_=>zoT U (λ_=>?_) (λz=>absurd U z);show yW R1.ix U U {x,dx,l,_,1,_,U,R1,U,(),(),λH2 O R2=>?_};show yW R2.ix U U {x,dx,l,_,2,p,_,U,R2,U,zkQ C.1,by change 4<=10;decide,λA H3 J m I=>?_};show yW m.ix U U {x,dx,l,_,3,n,_,U,m,U,zn3 C.2,by change 4<=10;decide,λB H4 u R4 et=>{sz4,λr j=>?_}};let k:=hZ (o:=HO.tup [V.str (bb "give"),V.str (bb "a"),V.ref A,V.ref B]) r j;show q _ _ (u1.trans (O.trans (J.trans (u.trans (.same k))))) (R4.same k) {r,A,B,U,zh,k _ _ (u _ _ (zN I m.ix ()) I),k _ _ et}}}
 let #[x,dx,l,e,rfl,_]:=h;rfl
def Yq:Fa P w K mg base 1 t.a51 t.d51 ["self"] (xT t):=by
 show T.g51.f.okA Z1 λk H Q E h=>{?_,λ_ _ _ _ m=>{_,(ze (zP (zq YG (zu (Y 0) U) (zJ zU U T.q04 yA (za (zu (Y 0) U) zc)) (zC _)) (ze yG)
   zF)),by let F:=(rwF T);let #[x,dx,l,j,rfl,R,q]:=h;unfold yF;show ya R.ix F.cl F.n3 U U (ya R.ix F.cl F.n1 U U {.ref l,j.length,U,.inl {_,aN.of R.hw,(bd ..).symm},_,_,U,U,_,U,yz (Fk ()) (q _ (aH.refl _))})}}
 let #[x,dx,l,j,rfl,_]:=h;rfl
def ziu:Fa P w K mg base 8 t.a52 t.d52 ["text","number"] (W3):=by
 show T.g52.f.okA q13 λk H Q E h=>{?_,λ_ _ _ _ j=>{zbr K t,(zb (zt 2 q13.nd (yQ cS eM gO ZS (Y 0) (za zH zc))) (zb (zP (PW.pt (Zk (zq zf5 (Y 1) (yX U T.g_MOST_ROWS {_,U}) (zC _)) (jg (zq Vo (zJ zU U T.q04 yA (za (Y 2) zc)) (yX U T.g_MOST_WORDS_reader {_,U}) (zC _))))) (ze yG)
    zF) (zb (zt 3 q13.nd (qG T.mk_RowWords (bv.mono (Vf T) ()) j U T.g_RowWords T.q2q .nil zj (za (Y 2) (za (Y 1) zc)))) (zb (zt 4 q13.nd (pv (zcM T) T.g50 j zj (za (Y 3) zc))) (zb (zL (xn (Y 3) T.q0h (Yq T) T.g51 j zj)) (ze (zx (Y 4)))))))),zfH T h}}
 let #[e,rfl,_]:=h;rfl
def zmO:Fa P w K mg base 9 t.a53 t.d53 ["text"] (zgy):=by
 show T.g53.f.okA q0t λk H Q E h=>{?_,λ_ _ _ _ j=>{zgz K t,(zb (zt 1 q0t.nd (vU (zq kX (Y 0) zH (zC _)) (yQ cS eM gO ZS (Y 0) (za zH zc)) (zZ zc))) (zb (zt 2 q0t.nd (ziP T.mk_Reading (bv.mono (Jo T) ()) j U T.g_Reading T.q2o .nil zj)) (zb (xM cN U (zlT U T.q2d (za (Y 1) zc)) (ZJ U (xa (yw 3 q0t.nd) (xa (yw 4 q0t.nd) j9))) (ze (zL (Al (Y 2) T.q0o (Ve T) T.g41 j zj (za (pv (ziu T) T.g52 j zj (za (Y 4) (za (Y 3) zc))) (za (Y 3) zc)))))) (zb (zP (zq (Kr (WM j)) (zu (Y 2) U) (zZ zc) (zC _)) (ze yG)
    zF) (ze (zx (zu (Y 2) U))))))),zkS T (rgF T) h}}
 let #[e,rfl,_]:=h;rfl
def Vg:Fa P w K mg base 10 t.a54 t.d54 ["self","text"] (vM t):=by
 show T.g54.f.okA WV λvs H Q E h=>{?_,λ_ _ _ _ k=>{_,(ze (zx (Al (zu (Y 0) U) T.q0e (zeF T) T.g32 k zj (za (pv (zfZ T) T.g35 k zj (za (pv (zmO T) T.g53 k zj (za (Y 1) zc)) zc)) zc)))),by let F:=(hsF T);let #[x,e,P,N,rfl,h1,h2,q]:=h;let #[b,a,lb,S,B,G,em,C,z]:=h1;obtain rfl:=zfM z;let #[D,J]:=G.d.ex;show ya G.h.ix F.cl F.n4 U U {b.d,_,_,U,J.d0,U,_,U,e,U,h2,λv l H1 I _ hl j=>{l,v,e,U,hl,j,λO H2 u _ m=>?_}};let S2:=I.trans u;show{b.d,O,v,e,a,lb,P.n,P.f,S,U,m,j.same u,G.d.same S2,G.o.lm,λA lb3 F3 G3=>?_};let o:Fr M0 H A lb lb3:=(Fr.same S2).trans F3;show q _ A _ (FrN.of o) {b,a,lb3,S,B,{G.h.fr o,jr G.an o.ts,G3,G.o,G.w},em,C,λ_=>tq}}}
 let #[x,e,P,N,rfl,_]:=h;rfl
def xH:Fa P w K mg base 1 t.a55 t.d55 ["self"] (jm t):=by
 show T.g55.f.okA Jg λm H Q E h=>?_;let #[d,dx,a,n,f,en,rfl,k,j,q]:=h;show{U,λ_ _ _ _ o=>{_,(ze (zx (zE yK (zu (Y 0) U) (zJ zU U T.q04 yA (za (zu (Y 0) U) zc))))),by let F:=(dkF T);let h:=k;show ya h F.cD F.d3 U U (ya h F.cD F.d9 U U {.ref a.en,en.length,U,.inl {_,aN.of j,U},_,_,U,U,q})}}
def kG:Fa P w K mg base 1 t.a56 t.d56 ["self"] (wQ t):=by show T.g56.f.okA zdW λj H Q E h=>{?_,λ_ _ _ _ o=>{Ya K t,(ze (zx (zoi (jA Jt (zu (Y 0) U) wq (zC _)) (WA (jA zf5 (zu (Y 0) U) (zJ zU U T.q04 yA (za (zu (Y 0) U) zc)) (zC _)))))),zcC (rnF T) h}};let #[x,a,e,k,m,rfl,_]:=h;rfl
def ziv:Fa P w K mg base 1 t.a57 t.d57 ["word","first","second"] (zbq):={λm H Q E h=>h.elim,λA j s H k o m Q E B C I u h=>h.elim}
def zeH:Fa P w K mg base 2 t.a58 t.d58 ["term","slots"] (VS):=by show T.g58.f.okA q0u λo H Q E h=>?_;let #[u,A,n,rfl,m,k,q]:=h;show{U,λ_ _ _ _ j=>{VY K t,(zb (zt 2 q0u.nd (zZ zc)) (zb (xM cN U (ziF (Y 0)) (yw 3 q0u.nd) (ze (zP (zq wO (Y 3) (yX U T.g_JOINING U) (by with_unfolding_all rfl)) (zb (zt 4 q0u.nd (WE bF gb gc WG (Y 2))) (zb (zt 5 q0u.nd (WE bF gb gc WG (Y 2))) (ze (zL (yQ bF ck cm yE (Y 2) (za (pv (ziv T) T.g57 j zj (za (Y 3) (za (Y 5) (za (Y 4) zc)))) zc)))))) (ze (zL (yQ bF ck cm yE (Y 2) (za (vU (xP (zJ J9 U T.q0p xI (za (Y 3) (za (Js U T.q10 J8 U) zc)))) (kY (xt j) (Y 1) (Y 3) zi {U,U,U,U}) (Y 3)) zc))))))) (ze (zx (WE bF gb gc WG (Y 2)))))),zcE (kf K).i_s (λH=>T.q1b H) m k q}}
def xk:Fa P w K mg base 3 t.a59 t.d59 ["self","term"] (y0 t):=by
 show T.g59.f.okA Jh λC H Q E h=>?_;let #[x,j,a,e,k,m,n,rfl,B,A,q]:=h;show{U,λ_ _ _ _ o=>{_,(ze (zx (pv (zeH T) T.g58 o zj (za (Y 1) (za (zu (Y 0) U) zc))))),by let F:=(rnF T);let R:=B;let u:=A;show{_,U,ya R.ix F.cl F.n4 U U {j,a.sl,n,U,u,R.hs,q}}}}
def jt:Fa P w K mg base 4 t.a60 t.d60 ["self","due"] (wH t):=by
 show T.g60.f.okA Ji λJ H Q E h=>{?_,λ_ _ _ _ B=>{_,(ze (zx (yk (za (zB zR (Y 1) zi) (za (Al (Y 0) T.q0a (xk T) T.g59 B zj (za (zB zR (Y 1) zi) zc)) zc))))),by let F:=(rnF T);let #[x,r,j,u,a,e,k,m,p,rfl,R,o,I,q]:=h;show{_,U,r,_,1,_,U,U,aV.of o,U,yW R.ix U U {_,U,r,_,2,_,U,U,aV.of o,U,x,j,a,e,k,m,p,U,R,I,λO A=>{sz2,λb C=>?_}}};show q b _ (A.trans (hZ b C)) zh}}
 let #[x,r,j,u,a,e,k,m,p,rfl,_]:=h;rfl
def zeI:Fa P w K mg base 5 t.a61 t.d61 ["self"] (VT t):=by
 show T.g61.f.okA q22 λC H Q E h=>{?_,λ_ _ _ _ j=>{_,(zb (zP (PW.pt (Zk (xP (xn (Y 0) T.q0a (kG T) T.g56 j zj)) (jg (zq kX (zB zR (zB zW (zu (Y 0) U) (zu (Y 0) U)) zi) zH (zC _))))) (ze (zx wq))
   zF) (zb (Jz (zt 1 q22.nd (Al (Y 0) T.q0a (jt T) T.g60 j zj (za (zB zW (zu (Y 0) U) (zu (Y 0) U)) zc)))) (zb (zP (PW.pt (Zk (zq (zb0 (xt j)) (Y 1) (zu (Y 0) U) (by with_unfolding_all rfl)) (jg (zq (zb0 (xt j)) (Y 1) (zu (Y 0) U) (by with_unfolding_all rfl))))) (ze (zx wq))
    zF) (ze (zx (Y 1)))))),by let F:=(rnF T);let #[x,a,e,rfl,R,q]:=h;let #[v,o,k]:=R.hc;let #[r,B,f,rfl,u,A,m,_]:=k.hd;show yW R.ix U U {x,a,e,0,0,U,R,_,U,yz U (ya R.ix F.cl F.n1 U U (ya R.ix F.cl F.n2 U U {a.co,_,_,_,U,U,aN.of o,U,r,_,0,_,U,U,aV.of u,A,U,_,U,yN ([Fk λz=>m (V.str.inj z)]\U) q}))}}}
 let #[x,a,e,rfl,_]:=h;rfl
def wM:Fa P w K mg base 1 t.a62 t.d62 ["self","rank"] (xc t):=by
 show T.g62.f.okA Xk λu H Q E h=>?_;let #[m,dx,C,low,aE,rfl,o,k,B,q]:=h;show{U,λ_ _ _ _ A=>{_,(ze (zP (zq YG (Y 1) (zu (Y 0) U) (zC _)) (ze yG)
   zF)),by let j:=(mkF T);show{_,U,ya o j.cl j.f U k {_,_,U,U,_,U,yz (Fk ()) (q H (aH.refl H))}}}}
def xL:Fa P w K mg base 1 t.a63 t.d63 ["ranks","rank"] (wD):=by
 show T.g63.f.okA q0m λvs H Q E h=>{?_,λ_ _ _ _ A=>{_,(zb (zt 2 q0m.nd zi) (zb (zt 3 q0m.nd (zJ zU U T.q04 yA (za (Y 0) zc))) (zb (JN cN (zq YG (Y 2) (Y 3) (zC _)) (zb (zt 4 q0m.nd (zE wZ (zE yK (Y 2) (Y 3)) zi)) (ze (zP (zq YG (zB zW (Y 0) (Y 4)) (Y 1) (zC _)) (ze (zt 2 q0m.nd (zE yK (Y 4) zi))) (ze (zt 3 q0m.nd (Y 4))))))) (ze (zx (Y 2)))))),by
   let #[a,rs,aE,rfl,h1,h2,q]:=h;show{_,U,.ref a,rs.length,U,.inl {_,aN.of h1,(bd ..).symm},mbW a aE rs H,{_,0,rs.length,ae,U,aH.refl H,bP _,bh _,U,?s,?s},?_};rintro m σ H' ⟨k,hi,o,rfl,s,h4,h5,rfl,h6,O⟩;show{_,U,_,U,_,_,U,U,_,U,?_};by_cases hl:k<hi
   .show yN (Fj ()) {λB H'=>∃J,J<hi-k/\mbW a aE rs H J B H',λ_ _ z=>z,_,U,_,U,_,_,U,U,_,_,U,U,dB,?_};obtain⟨md,I⟩:∃md:Nat,((k:Int)+hi)/2=md:={(k+hi)/2,()};dsimp only;rw[I];let l1:k<=md:=()
    let l2:md<hi:=()
    obtain⟨x,C⟩:∃x,rs[md]?=Z x:={_,bc ()};show{_,U,_,U,a,_,md,_,U,U,aN.of (s _ _ h1),yL (j:=md) ([bn,C]\U),_,U,_,_,U,U,_,U,?_};by_cases A:x<aE
    .show yN (Fj A) {_,U,_,_,U,U,_,(():hi-(md+1)<hi-k),md+1,hi,_,U,s,(),h5,U,λr u=>Int.lt_of_le_of_lt (zgC h2 C r u) A,O}
    .show yz (Fk A) {_,U,_,(():md-k<hi-k),k,md,_,U,s,(),(),U,h6,λr u=>Int.le_trans () (zmi h2 C r u)}
   .show yz (Fk ()) {_,U,?_};obtain rfl:k=hi:=by lia
    show q k H' s h5 h6 O}}
 let #[a,rs,aE,rfl,_]:=h;rfl
def kU:Fa P w K mg base 2 t.a64 t.d64 ["self","place","rank"] (wE t):=by
 show T.g64.f.okA q1g λk H Q E h=>{?_,λ_ _ _ _ j=>{Y0 K t,(zb (zL (Al (Y 0) T.q0d (wM T) T.g62 j zj (za (Y 2) zc))) (zb (zt 3 q1g.nd (kY (xt j) (zu (Y 0) U) (Y 1) (zZ zc) {U,U,U,U})) (zb (zt 4 q1g.nd (pv (xL T) T.g63 j zj (za (Y 3) (za (Y 2) zc)))) (zb (zP (zq yH (Y 4) zi (zC _)) (ze (zx (kY (xt j) (zu (Y 0) U) (Y 1) zi {U,U,U,U})))
    zF) (ze (zx (kc (xt j) (kc (xt j) (zu (Y 0) U) (zB zW (Y 3) (zE kH (Y 4) zi)) (λ_ _=>rfl)) (Y 1) (λ_ _=>rfl)))))))),Qk (mkF T) h}}
 let #[m,p,aE,F,g,aM,low,o,rfl,_]:=h;rfl
def zcN:Fa P w K mg base 1 t.a65 t.d65 ["self","place","worth"] (We):={λm H Q E h=>h.elim,λA j s H k o m Q E B C I u h=>h.elim}
def zeJ:Fa P w K mg base 5 t.a66 t.d66 ["self","due","worth"] (Z3 t):=by
 show T.g66.f.okA q23 λvs H Q E h=>{?_,λ_ _ _ _ j=>{_,(ze (zP (zq yH (zB zR (Y 1) zi) zH (zC _)) (ze (kg (xt j) (zu (Y 0) U) (zB zR (Y 1) zi) (Al (Y 0) T.q0a (zcN T) T.g65 j zj (za (Al (Y 0) T.q0a (jt T) T.g60 j zj (za (Y 1) zc)) (za (Y 2) zc))) U)) (ze (zP (zq yH (zB zR (Y 1) zi) zH (zC _)) (zb (zt 3 q23.nd (Al (Y 0) T.q0a (jt T) T.g60 j zj (za (Y 1) zc))) (ze (kg (xt j) (zu (Y 0) U) (Y 3) (Al (Y 0) T.q0a (xk T) T.g59 j zj (za (zB zR (Y 1) zi) zc)) U))) (ze (zP (zq yH (zB zR (Y 1) zi) zH (zC _)) (ze (kg (xt j) (zu (Y 0) U) (zB zR (Y 1) zi) (Al (Y 0) T.q0a (xk T) T.g59 j zj (za (zB zR (Y 1) zi) zc)) U)) (ze (zL (yQ bF ck cm yE (zu (Y 0) U) (za (Al (Y 0) T.q0a (xk T) T.g59 j zj (za (zB zR (Y 1) zi) zc)) zc)))))))))),by
   let F:=(rnF T);let #[x,v,a,e,rfl,R,J,q]:=h;cases e with
   |give p n=>
    let #[r,C,B,rfl,u,e2,e3]:=J;show zb9 U u U (λz=>absurd z ()) λ_=>zb9 U u U (λ_=>?_) λz=>absurd U z;show yW R.ix U U {_,U,x,r,C,B,a,_,0,0,p,U,R,u,e2,λb H1 m O=>?_};let R1:=R.same m;show yW R1.ix U U {_,U,r,_,3,_,U,U,aV.of (m _ _ u),U,x,B,a,_,0,0,n,U,R1,m _ _ e3,λH2 A=>?_};let R2:=R1.same A;show ya R2.ix F.cl F.n5 U U {_,U,a.gi,_,U,DPut.t (k:=zI (bb "a",(p:Int))) R2.hg (A _ _ O) (xg ()),?_};show q _ (λc o _ _ I z=>zm I\A _ _ (m _ _ z)) (R2.gave U _ ([Ac (Dl.give p n).gi=_|>zn6]\U))}}
 let #[x,v,a,e,rfl,_]:=h;rfl
def zav:Fa P w K mg base 6 t.a67 t.d67 ["self","due","worth"] (kM t):=by
 show T.g67.f.okA Q8 λO H Q E h=>{?_,λ_ _ _ _ j=>{_,(zb (zP (zq yH (zB zR (Y 1) zi) zH (zC _)) (ze (zx (zB zR (Y 1) zi)))
   zF) (zb (zP (zq yH (zB zR (Y 1) zi) zH (zC _)) (ze (zx (vU (zq yH (Al (Y 0) T.q0a (xk T) T.g59 j zj (za (zB zR (Y 1) zi) zc)) zi (zC _)) (zB zR (Y 1) zi) (zE yK (zu (Y 0) U) zi))))
    zF) (zb (zP (zq yH (zB zR (Y 1) zi) zH (zC _)) (ze (zP (zq kX (Al (Y 0) T.q0a (xk T) T.g59 j zj (za (zB zR (Y 1) zi) zc)) zi (zC _)) (ze (yj (f:="why") (Y 0) zH U))
    zF)) (ze (zL (Al (Y 0) T.q0a (zeJ T) T.g66 j zj (za (Y 1) (za (Y 2) zc)))))) (ze (zx (zE yK (zu (Y 0) U) zi)))))),by let F:=(rnF T);let #[x,v,a,e,rfl,R,o,q]:=h;let #[r,J,f,rfl,k,m,_,B,A,u]:=o.hd;show zb9 U k m (λz=>absurd z B) λ_=>zb9 U k m (λz=>absurd z A) λ_=>zb9 U k m (λz=>absurd z u) λ_=>yW R.ix U U {_,U,_,U,x,_,a,e,U,R,o,λI C R1=>ya R1.ix F.cl F.n2 U U {_,_,U,U,q I C R1}}}}
 let #[x,v,a,e,rfl,_]:=h;rfl
def V6:Fa P w K mg base 7 t.a68 t.d68 ["self","worth"] (kA t):=by
 show T.q2r.ok0 zdX (λm H Q E h=>?_) (λo A j s H m Q E k h=>?_)
 .let #[x,a,e,rfl,_]:=h;rfl
 show{VZ K t,(zb (zP (xP (xn (Y 0) T.q0a (kG T) T.g56 k zj)) (ze zlh)
   zF) (ze (Jz (yj (f:="at") (Y 0) (Al (Y 0) T.q0a (zav T) T.g67 k zj (za (zB zW (zu (Y 0) U) (zu (Y 0) U)) (za (Y 1) zc))) U)))),zcF (rnF T) h}
def Yr:Fa P w K mg base 3 t.a69 t.d69 ["self","rank"] (xU t):=by
 show T.g69.f.okA q14 λI H Q E h=>{?_,λ_ _ _ _ k=>{_,(zb (xM cN U (yR (zB zR (kc (xt k) (zu (Y 0) U) (Y 1) (λ_ _=>rfl)) zi)) (ZJ U (xa (yw 2 q14.nd) (xa (yw 3 q14.nd) j9))) (zb (zt 4 q14.nd (Al (zu (Y 0) U) T.q0d (kU T) T.g64 k zj (za (Y 2) (za (Y 1) zc)))) (ze (zP (zq kX (Y 4) (Y 3) (zC _)) (ze (zx (yk (za (Y 2) (za (Y 3) (za (Y 4) zc))))))
    zF)))) (ze (zx wq))),by let F:=(dkF T);let #[d,j,B,v,e,a,lb,n,f,aE,D,rfl,h,A,u,q]:=h;let #[r,o,rfl,C,O,m,J]:=u;show ya h.jb F.cJ F.j2 U U {_,U,a.la,_,U,.inl {_,.inl aE,.inl (h.o.at (i:=6) U),U,[A,zh9]\_},r,_,1,_,U,U,aV.of C,U,j,U,{_,aN.of m},zeu m (q _ (aH.refl _))}}}
 let #[d,j,B,v,e,a,lb,n,f,aE,D,rfl,_]:=h;rfl
def Zi:Fa P w K mg base 4 t.a70 t.d70 ["self"] (xb t):=by
 show T.g70.f.okA q15 λk H Q E h=>{?_,λ_ _ _ _ j=>{vi K t,(zb (zt 1 q15.nd (zJ (zca U) U T.q1a Yu (za (zu (Y 0) U) zc))) (zb (xM cN U (yR (Y 1)) (yw 2 q15.nd) (zb (zt 3 q15.nd (Al (Y 0) T.q0k (Yr T) T.g69 j zj (za (Y 2) zc))) (zb (zP (zq Jt (Y 3) wq (zC _)) (ze (zx (zE Jv (yk (za (Y 2) zc)) (Y 3))))
    zF) (ze (zL (JX (zu (Y 0) U) (Y 2) {U,U,U,U})))))) (ze (zx wq)))),qx (dkF T) h}}
 let #[d,a,lb,n,f,D,rfl,_]:=h;rfl
def Wy:Fa P w K mg base 1 t.a71 t.d71 ["ranks_at","place","rank"] (qW):=by
 show T.g71.f.okA q24 λvs H Q E h=>{?_,λ_ _ _ _ k=>{_,(zb (zt 3 q24.nd (kc (xt k) (Y 0) (Y 1) (λ_ _=>rfl))) (zb (zL (yQ bF pZ p0 za7 (Y 3) (za (Y 2) zc))) (ze (zP (zq (Kf (WM k)) (Y 3) (zZ zc) (zC _)) (ze (zL (zjX (xt k) (Y 0) (Y 1) {U,U,U,U})))
    zF)))),by
    let #[rk,C,aE,G,P,A,u,rfl,k,fk,J,hP,q]:=h;obtain ⟨a,rs,hk,hv,fa,ha,hs,hne,hi⟩|⟨_,_,hn⟩:=k.get u
    .let O:aE∈rs:=(hi aE).mpr hP;let ar:=zee k ha;show{_,U,_,U,rk,.ref a,U,([<-hv]\.t k.at_ J),_,U,.inl {U,_,aN.of ha},_,U,a,rs,aE,U,U,ha,O,_,U,(),λz hz=>?_};let k2:=(aU.refl (G:=G) (rk:=rk) (H:=H)).lst (ys:=(rs.erase aE).map V.int) ha fa;let d2:Dm H (upd H a (.lst ((rs.erase aE).map V.int))):=Dm.upd nofun
     let pa:C≠a:=zN J ha ();let I:upd H a (.lst ((rs.erase aE).map V.int)) C=Z (.tup ((zI u).map kV)):=zm pa\J
     let B:upd H a (.lst ((rs.erase aE).map V.int)) rk=Z (.dT A):=zm ar\k.at_
     generalize c_:upd _ z _=H3;let #[j,q3]:=jp c_ hz;show{a,z,_,U,U,aN.of (j _ _ zh),aN.of q3,_,U,?_};by_cases e:rs.erase aE=[]
     .show yN (Fj (e\U)) {_,U,rk,U,.inr {_,.inl (j _ _ B)},_,U,A,zI u,C,_,j _ _ B,U,j _ _ I,hv,q _ (yU A (zI u)) ((k2.same j).dct _) (d2.trans ((Dm.of_same j).trans (Dm.upd nofun))) ?_};show(k.out2 (us:=(rs.erase aE).map V.int) hk ha hs hi e λp r=>tq).keep fk (λb o fb m=>?_) (λ_ z=>z);by_cases hb:b=rk
      .subst hb;rw[zh] at m ⊢;show m
      .rw[zm hb] at m ⊢;show j _ _ m
     .show yz (Fk λz=>e (List.map_eq_nil_iff.mp z)) ?_;show q _ A (k2.same j) (d2.trans (Dm.of_same j)) ((k.out1 hk ha hs hi e λp r=>tq).keep fk (λb o _ m=>j _ _ m) (λ_ z=>z))
    .show absurd hP (hn aE)}}
 let #[rk,C,aE,G,P,A,u,rfl,_]:=h;rfl
def qC:Fa P w K mg base 2 t.a72 t.d72 ["self","rank"] (wc t):=by
 show T.g72.f.okA q16 λvs H Q E h=>{?_,λ_ _ _ _ I=>{_,(zb (zt 2 q16.nd (JX (zu (Y 0) U) (Y 1) {U,U,U,U})) (zb (zL (zc6 (zu (Y 0) U) (Y 1) wq {U,U,U,U})) (zb (xM cN U (yR (zB zR (Y 2) zi)) (ZJ U (xa (yw 3 q16.nd) (xa (yw 4 q16.nd) j9))) (ze (zL (pv (Wy T) T.g71 I zj (za (zu (Y 0) U) (za (Y 3) (za (Y 1) zc))))))) (ze (zx (Y 2)))))),by
   let F:=(dkF T);let #[d,v,e,a,lb,n,f,aE,D,rfl,h,m,J,q]:=h;let #[B,gl,#[r,o,rfl,e1,e2,O,e4],C,l2]:=J;let #[k,u]:=h.set (i:=6) (D':={ D with la:=[] }) rfl () () (.dK (yU D.la (.inl aE))) ([m.1,zkT]\U) U rfl;show ya h.jb F.cJ F.j2 U U {a.la,U,.inl {_,.inl (h.o.at (i:=6) U)},_,U,_,.inl aE,_,h.o.at (i:=6) U,U,[m.1,zh9]\_,?_};generalize upd H a.la (.dK (yU D.la (.inl aE)))=H2 at *
   show ya k.jb F.cJ F.j4 U U {a.db,U,.inl {_,.inl (k.o.at (i:=7) U)},_,U,_,.inl aE,k.o.at (i:=7) U,U,λv j=>?_,λ_=>?_}
   .let j:yD (dbL D.db) (.inl aE)=Z v:=j;rw[m.2] at j;cases j
   let A:=u.kp _ _ (C\.inr ()) O;show{_,U,r,_,1,_,U,U,aV.of (u.ts _ _ e1),U,B,U,{_,aN.of A},zeu A {_,U,q H2 u k}}}}
 let #[d,v,e,a,lb,n,f,aE,D,rfl,_]:=h;rfl
def zaw:Fa P w K mg base 1 t.a73 t.d73 ["self","ranks"] (YS):=by show T.g73.f.okA Q9 λk H Q E h=>?_;let #[x,l,w,rfl,j,q]:=h;show{U,λ_ _ _ _ m=>{_,(ze (zx (zB zW (Y 1) zi))),({_,U,l,_,((0:Nat):Int),_,U,U,aN.of j,yL U,q})}}
def zeK:Fa P w K mg base 1 t.a74 t.d74 ["self","code"] (kz t):=by
 show T.q2t.ok0 zdY (λk H Q E h=>?_) (λm A j s H k Q E o h=>?_)
 .let #[x,l,dx,v,e,rfl,_]:=h;rfl
 show{Yb K t,(zb (yj (f:="code") (Y 0) (yi wX U T.b_list jC (za (Y 1) zc)) U) (zb (yj (f:="at") (Y 0) zi U) (zb (yj (f:="why") (Y 0) wq U) (zb (yj (f:="slots") (Y 0) ZN U) (zb (yj (f:="gifts") (Y 0) ZO U) (zb (yj (f:="notes") (Y 0) ZO U) (ze (yj (f:="sayings") (Y 0) (zZ zc) U)))))))),zcD (rnF T) h}
def Vh:Fa P w K mg base 3 t.a75 t.d75 ["self","hand"] (we t):=by
 show T.g75.f.okA q25 λk H Q E h=>{?_,λ_ _ _ _ j=>{qu K t,(zb (zt 2 q25.nd (Al (zu (Y 0) U) T.q2f (zaw T) T.g73 j zj (za (yi wX U T.b_list jC (za (zu (Y 0) U) zc)) zc))) (zb (zL (yQ bF pZ p0 za7 (zu (Y 0) U) (za (Y 2) zc))) (zb (kg (xt j) (zu (Y 0) U) (Y 1) (yk (za (Y 2) (za (qG T.mk_Run (bv.mono (zeK T) ()) j U T.g_Run T.q2u .nil zj (za (zB zW (zu (Y 0) U) (zE kH (Y 2) (zu (Y 0) U))) zc)) zc))) U) (ze (zx (yk (za zH (za (Y 1) (za (Y 2) zc))))))))),Ws (dkF T) h}}
 let #[d,a,lb,n,f,S,e,rfl,_]:=h;rfl
def XG:Fa P w K mg base 5 t.a76 t.d76 ["self","hand"] (xA t):=by
 show T.g76.f.okA q1h λk H Q E h=>{?_,λ_ _ _ _ j=>{jY K t,(zb (zt 2 q1h.nd (xn (Y 0) T.q0e (xH T) T.g55 j zj)) (zb (zt 3 q1h.nd (xn (zu (Y 0) U) T.q0k (Zi T) T.g70 j zj)) (zb (zP (PW.pt (ZI (zq (zb0 (xt j)) (Y 2) (zu (zu (Y 0) U) U) (by with_unfolding_all rfl)) (qF (PW.pt (Zk (zq zeR (Y 3) wq (zC _)) (jg (zq kX (zB zR (Y 3) zi) (Y 2) (zC _)))))))) (zb (zL (yQ bF ck cm yE (zu (Y 0) U) (za (Al (zu (Y 0) U) T.q0k (qC T) T.g72 j zj (za (Y 2) zc)) zc))) (ze (zx (yk (za zH (za (Y 1) (za (Y 2) zc)))))))
   zF) (zb (zP (zq Jt (Y 3) wq (zC _)) (zb (zL (Al (zu (Y 0) U) T.q0k (qC T) T.g72 j zj (za (zB zR (Y 3) zi) zc))) (zb (zL (yQ bF rc rf za6 (zu (Y 0) U) (za (pv (xL T) T.g63 j zj (za (zu (Y 0) U) (za (zB zR (Y 3) zi) zc))) (za (zB zR (Y 3) zi) zc)))) (ze (zx (zE Jv (yk (za zH (za (Y 1) zc))) (Y 3))))))
   zF) (zb (zP (zq (Kr (WM j)) (zu (Y 0) U) (zZ zc) (zC _)) (ze (zx (Al (Y 0) T.q0e (Vh T) T.g75 j zj (za (Y 1) zc))))
    zF) (ze (zx (yk (za zH (za (Y 1) zc)))))))))),YE (dkF T) h}}
 let #[d,a,lb,n,f,h,S,ph,rfl,_]:=h;rfl
def wN:Fa P w K mg base 1 t.a77 t.d77 ["self","rank"] (xx t):=by
 show T.g77.f.okA Xl λvs H Q E h=>{?_,λ_ _ _ _ hr=>{_,(ze (zx (yi (jQ U) U T.b_list jC (za (kY (xt hr) (zu (Y 0) U) (Y 1) ZO {U,U,U,U}) zc)))),by
   let MF:=(mkF T);let #[m,aE,F,g,aM,low,rfl,I,q]:=h;let #[dx,gr,wo,rk,wk,kk,M]:=I.ex;show ya M.im MF.cl MF.w U zkB {wo,U,.inl {_,.inl M.hw},_,U,λp hp=>?_};generalize c_:upd _ p _=H1;let #[u,q1]:=jp c_ hp;let M1:=M.keep I.me λb o _ e=>u _ _ e;by_cases hin:aE∈aM.map (·.1)
   .let #[y,O,J]:=bM.mp hin;let #[r',gs]:=y;let J:r'=aE:=J;subst J;let #[d,v1,fd,nd,hd]:=zco M1.wp I.nd O;let B:=Ay.k (k:=.inl r') M1.hw;rw[v1] at B;show{_,B,d,Ac gs,U,hd,λl ys A C=>?_};let j:=hZ (o:=HO.lst ys) l A;show q l ys gs _ (u.trans j) (yy u A) zh (Paired.mapP C λ_ _ ⟨p,e,h⟩=>{p,e,j _ _ h}) (.inl O)
   .let B:=Ay.k (k:=.inl aE) M1.hw;rw[zcp M1.wp hin] at B;show{_,B,p,[],U,q1,λl ys A C=>?_};let j:=hZ (o:=HO.lst ys) l A;show q l ys [] _ (u.trans j) (yy u A) zh (Paired.mapP C λ_ _ ⟨p,e,h⟩=>{p,e,j _ _ h}) (.inr {hin,U})}}
 let #[m,aE,F,g,aM,low,rfl,_]:=h;rfl
def j7:Fa P w K mg base 2 t.a78 t.d78 ["self","rank"] (xz t):=by
 show T.g78.f.okA q1i λvs H Q E h=>{?_,λ_ _ _ _ hr=>{_,(zb (zt 2 q1i.nd (Al (Y 0) T.q0d (wN T) T.g77 hr zj (za (Y 1) zc))) (zb (zL (zc6 (zu (Y 0) U) (Y 1) wq {U,U,U,U})) (ze (xM cN U (yR (Y 2)) (yw 3 q1i.nd) (ze (zL (pv (Wy T) T.g71 hr zj (za (zu (Y 0) U) (za (Y 3) (za (Y 1) zc)))))))))),by
   let MF:=(mkF T);let #[m,aE,F,g,aM,low,rfl,j,q]:=h;let #[dx,gr,wo,rk,I,kk,M]:=j.ex;show yW M.im U (vB ()) {_,U,m,aE,F,g,aM,low,U,j,λL ys gs H1 A fL hL hy ho=>?_};let M1:=M.keep j.me λb o _ e=>A _ _ e;let O:∀y∈Jj aM aE,0<=y.1/\zaf y.2:=λy hy=>j.ok y (eN.mp hy).1;let aa:((Jj aM aE).map (·.1)).Nodup:=mF (n0 _ mh) j.nd;let nL:¬ F L:=λz=>by let #[o,e]:=j.own L z;rw[fL] at e;cases e
   let C:∀ {H2:Hp},Dm H1 H2->∀b,F b->∃o,H2 b=Z o:=λdm b hb=>by let #[o,e]:=j.own b hb;let #[o',e',_]:=dm b o (A _ _ e);show{o',e'}
   show ya M1.im MF.cl MF.w U zkB {wo,U,.inl {_,.inl M1.hw},_,U,I,.inl aE,M1.hw,U,λv hv=>?_,λhv=>?_}
   .let B:aE∈aM.map (·.1):=eU λz=>by rw[zcp M1.wp z] at hv;cases hv
    let al:(aE,gs)∈aM:=ho.resolve_right λz=>z.1 B;let aI:=(j.ok _ al).2;let wm:m≠wo:=zN M1.im M1.hw ();let wg:gr≠wo:=zN M1.hg M1.hw ();let wr:rk≠wo:=zN M1.rr.at_ M1.hw ();let u:∀b o,b≠wo->H1 b=Z o->upd H1 wo (HO.dK (yU I (.inl aE))) b=Z o:=λb o n e=>zm n\e
    let w2:upd H1 wo (HO.dK (yU I (.inl aE))) wo=Z (HO.dK (yU I (.inl aE))):=zh;let d2:Dm H1 (upd H1 wo (HO.dK (yU I (.inl aE)))):=Dm.upd nofun
    generalize upd H1 wo (HO.dK (yU I (.inl aE)))=H2 at *
    let an:aZ H2 rk F (qi aM) kk:=M1.rr.keep2 ([u _ _ wr M1.rr.at_,M1.rr.at_]\_) (λb xs _ e=>u _ _ (zN e M1.hw ()) e) (λ_ z _=>z);show zgE MF (u _ _ wm M1.im) (u _ _ (zN hL M1.hw ()) hL) nL (Paired.mapP hy λ_ _ ⟨p,e,h⟩=>{p,e,u _ _ (zN h M1.hw ()) h}) aI.nd (λr hr=>{gs,al,bX hr}) an M.fk λH' aS k dm J=>?_;let ar:B0 (zd2 H2 rk F) (yU I (.inl aE)) (Jj aM aE):=Paired.mapP (zcq M1.wp) λ_ _ ⟨e,d,e2,fd,nd,hd⟩=>{e,d,e2,fd,nd,u _ _ (zN hd M1.hw ()) hd};show q H' F (λb o nf e=>zbz M.fk k b o nf (u _ _ (λz=>nf (z\M.fw)) (A _ _ e))) (λb zs e=>k _ _ (u _ _ (zN (A _ _ e) M1.hw ()) (A _ _ e)) (zN (A _ _ e) M1.rr.at_ ()) (.inl nofun)) ?_ (λ_ z=>.inl z) λ_ z=>z;show zkD j.me M.fg M.fw M.fk M.nr (u _ _ wm M1.im) (u _ _ wg M1.hg) w2 {_,an.at_} ar k (C (d2.trans dm)) (J.eqv (zkE j.nd al)) aa O
   .let B:aE ∉ aM.map (·.1):=λz=>by let #[y,hy,ey]:=bM.mp z;let #[r',gs]:=y;let ey:r'=aE:=ey;subst ey;let #[d,v1,_]:=zco M1.wp j.nd hy;rw[v1] at hv;cases hv
    let eg:gs=[]:=(ho.resolve_left λz=>B (bM.mpr {_,z,U})).2;subst eg;rw[zmj B] at O aa q;show zgE (gs:=[]) MF M1.im hL nL hy gZ (λr hr=>nomatch hr) M1.rr M.fk λH' aS k dm J=>?_;show q H' F (λb o nf e=>zbz M.fk k b o nf (A _ _ e)) (λb zs e=>k _ _ (A _ _ e) (zN (A _ _ e) M1.rr.at_ ()) (.inl nofun)) ?_ (λ_ z=>.inl z) λ_ z=>z;show zkD j.me M.fg M.fw M.fk M.nr M1.im M1.hg M1.hw {_,M1.rr.at_} M1.wp k (C dm) (J.eqv λp r=>?s) aa O}}
 let #[m,aE,F,g,aM,low,rfl,_]:=h;rfl
def V7:Fa P w K mg base 2 t.a79 t.d79 ["ranks_at","place","rank"] (ky):=by
 show T.g79.f.okA q26 λvs H Q E h=>{?_,λ_ _ _ _ A=>{_,(zb (zt 3 q26.nd (zjY (xt A) (Y 0) (Y 1) (zZ zc) {U,U,U,U})) (ze (zL (yQ bF rc rf za6 (Y 3) (za (pv (xL T) T.g63 A zj (za (Y 3) (za (Y 2) zc))) (za (Y 2) zc)))))),by
   let #[rk,pl,aE,G,P,C,B,rfl,A,gk,gn,hp,aS,kl,ar,q]:=h;show{_,U,rk,U,.inr {_,.inl A.at_},_,U,(),λz hz=>?_};generalize c_:upd H z _=H2;let #[s2,q2]:=jp c_ hz;let j:=A.keep (F':=G) gk (λb o _ e=>s2 _ _ e) (λ_ z=>z);let J:aU G rk H H2:=aU.refl.same s2;let an:Dm H H2:=Dm.of_same s2;let gz:G z:=gn z hz;show{C,zI B,pl,j.at_,U,s2 _ _ hp,cp\(),λv u=>?_,λu=>?_}
   .obtain ⟨a,rs,hk,hv2,fa,ha,hs,hne,hi⟩|⟨hv2,_,_⟩:=j.get B
    .rw[hv2] at u;cases u;let rl:=ar rs hs λr A=>(hi r).mp A;show{_,U,.inl {U,_,aN.of ha},_,U,_,U,a,rs,aE,U,ha,hs,λk H3 m I O aa=>{_,U,a,_,k,_,U,U,m _ _ ha,bd\I,bd\(),?_}};rw[<-oB,<-rM,<-bB (f:=V.int),<-bW];let aI:=j.keep (F':=G) gk (λb o _ e=>m _ _ e) (λ_ z=>z);show q _ C ((J.same m).lst (m _ _ ha) fa) ((an.trans (Dm.of_same m)).trans (Dm.upd nofun)) (aI.in1 hk (m _ _ ha) hs hi O aa aS λp r=>tq)
    .rw[hv2] at u;cases u
   .let zr:z≠rk:=zN q2 j.at_ ();rw[ZM _ u];let qz:upd H2 rk (HO.dT (C++[(zI B,V.ref z)])) z=Z (.lst (([]:yI).map V.int)):=zm zr\q2
    let hf:∀kv∈C,kv.2≠.ref z:=λkv hk e=>by let #[p',a',aW,rfl,_,al,_]:=A.ls kv hk;cases e;rw[hz] at al;cases al
    obtain ⟨a,rs,hk,hv2,_⟩|⟨_,hkn,hn⟩:=j.get B
    .rw[hv2] at u;cases u
    show{_,U,.inl {U,_,aN.of qz},_,U,_,U,z,[],aE,U,qz,lF,λk H3 m I O aa=>?_};let k0:k=0:=Nat.le_zero.mp I;subst k0;let d3:Dm H (upd H2 rk (HO.dT (C++[(zI B,V.ref z)]))):=an.trans (Dm.upd nofun);show{_,U,z,[],0,_,U,U,m _ _ qz,bh _,(),q _ (C++[(zI B,V.ref z)]) (((J.dct _).same m).lst (m _ _ qz) gz) ((d3.trans (Dm.of_same m)).trans (Dm.upd nofun)) ?_};show(j.in2 (a:=z) (aE:=aE) hkn hn gz hf zr λp r=>tq).keep gk (λb o fb eb=>?_) (λ_ z=>z);change upd H3 z (HO.lst [V.int aE]) b=Z o;by_cases hb:b=z
    .subst hb;rw[zh] at eb ⊢;show eb
    .rw[zm hb] at eb ⊢;show m _ _ eb}}
 let #[rk,pl,aE,G,P,C,B,rfl,_]:=h;rfl
def zcO:Fa P w K mg base 3 t.a80 t.d80 ["self","rank","gifts"] (qX t):=by show T.g80.f.okA q1j λJ H Q E h=>?_;let #[m,aE,O,F,g,aM,low,gs,rfl,I,C,B,A,u,o,k,q]:=h;show{U,λ_ _ _ _ j=>{Wl K t,(zb (zL (Al (Y 0) T.q0d (wM T) T.g62 j zj (za (Y 1) zc))) (zb (zL (Al (Y 0) T.q0d (j7 T) T.g78 j zj (za (Y 1) zc))) (zb (zt 3 q1j.nd (yi (wG U (hu3 j)) U T.q19 Jw (za (Y 2) zc))) (zb (znG (xM cN U (zjz (Y 3)) (yw 4 q1j.nd) (ze (zL (pv (V7 T) T.g79 j zj (za (zu (Y 0) U) (za (Y 4) (za (Y 1) zc)))))))) (ze (kg (xt j) (zu (Y 0) U) (Y 1) (Y 3) U)))))),zaj (mkF T) I C B A u o k q}}
def YF:Fa P w K mg base 2 t.a81 t.d81 ["self","place","rank"] (jz t):=by
 show T.g81.f.okA q1k λvs H Q E h=>{?_,λ_ _ _ _ j=>{_,(zb (zt 3 q1k.nd (kY (xt j) (zu (Y 0) U) (Y 1) (zZ zc) {U,U,U,U})) (zb (zt 4 q1k.nd (pv (xL T) T.g63 j zj (za (Y 3) (za (zE yK (Y 2) zi) zc)))) (ze (zx (vU (zq yH (Y 4) (zJ zU U T.q04 yA (za (Y 3) zc)) (zC _)) wq (zB zW (Y 3) (Y 4))))))),by
   let MF:=(mkF T);let #[m,p,aE,F,g,aM,low,C,rfl,h1,h2,q]:=h;let #[dx,gr,wo,rk,wk,kk,M]:=hV.ex h1;show(ya M.im MF.cl MF.r U zkC {rk,U,.inr {_,.inl M.rr.at_},_,U,(),λl hl=>?_});generalize c_:upd H l _=H2;let #[B,q2]:=jp c_ hl;let M2:=M.keep h1.me λb o _ e=>B _ _ e;show{_,.t M2.rr.at_ (B _ _ h2),?_};let go:∃(c:ac)(rs:yI),((yD kk (zI C)).getD (.ref l))=.ref c/\H2 c=Z (.lst (rs.map V.int))/\rs.Pairwise (· < ·)/\∀r,r∈rs↔qi aM C r:=by
    obtain ⟨c,rs,hk,hv,fa,I,u,hne,A⟩|⟨hv,_,no⟩:=M2.rr.get C
    .show{c,rs,hv\U,I,u,A}
    .show{l,[],hv\U,q2,lF,λr=>{(),λz=>absurd z (no r)}}
   let #[c,rs,ev,I,u,A]:=go;rw[ev];show{_,U,_,U,_,_,U,U,c,rs,_,U,I,u,λk H3 J hk k1 k2=>?_};let e3:=J _ _ I;show{_,U,_,U,.ref c,rs.length,U,.inl {_,aN.of e3,(bd ..).symm},U,_,U,?_};by_cases z:k=rs.length
   .show yN (Fj (z\_)) (q _ H3 (B.trans J) (.inl {U,λr j=>by let:=k1 r ([z,eV]\(A r).mpr j);lia}))
   .show yz (Fk (λy=>z (by injection y with y;lia))) ?_;let O:k<rs.length:=()
    let dk:rs.drop k=rs[k]::rs.drop (k+1):=dA O;show{_,U,_,U,c,_,k,_,U,U,aN.of e3,yL ([bn,bc O]\U),q _ H3 (B.trans J) (.inr {rs[k],U,(A _).mp (cL O),?_,λr j h=>?_})}
    .let:=k2 rs[k] (dk\bp);lia
    .let m:=(A r).mpr j;rw[<-fZ k rs] at m;obtain m|m:=bw.mp m
     .let:=k1 r m;lia
     .rw[dk] at m;obtain m|m:=bo.mp m
      .lia
      .rw[<-fZ k rs,dk] at u;show Int.le_of_lt (List.rel_of_pairwise_cons (List.pairwise_append.mp u).2.1 m)}}
 let #[m,p,aE,F,g,aM,low,C,rfl,_]:=h;rfl
def zax:Fa P w K mg base 3 t.a82 t.d82 ["self","place","rank"] (kN t):=by
 show T.g82.f.okA q0v λvs H Q E h=>{?_,λ_ _ _ _ m=>{_,(zb (zt 3 q0v.nd (kY (xt m) (zu (Y 0) U) (Y 1) (zZ zc) {U,U,U,U})) (zb (zt 4 q0v.nd (Al (zu (Y 0) U) T.q0d (YF T) T.g81 m zj (za (Y 1) (za (Y 2) zc)))) (zb (zt 5 q0v.nd (vU (zq zeR (Y 4) wq (zC _)) (zJ zU U T.q04 yA (za (Y 3) zc)) (pv (xL T) T.g63 m zj (za (Y 3) (za (zE yK (Y 4) zi) zc))))) (ze (xM cN U (yR (zV yu (Y 3) (yb (pv (xL T) T.g63 m zj (za (Y 3) (za (zE yK (Y 2) zi) zc)))) (yb (Y 5)))) (yw 6 q0v.nd) (ze (kg (xt m) (zu (Y 0) U) (Y 6) (ZG (b:=af)) U))))))),by
   let F:=(dkF T);let #[d,p,a,lb,n,f,aE,D,B,rfl,h,I,q]:=h;show ya h.jb F.cJ F.j3 U U {a.re,U,.inr {_,.inl h.r.1},_,U,(),λl hl=>?_};generalize c_:upd H l _=H2;let #[o,u]:=AE c_ hl;let A:=h.same o;let #[dx,gr,O,rk,wk,kx,M]:=hV.ex A.m;show{_,.t A.r.1 (o _ _ I),?_};rw[((yD ([]:yd) (zI B)).getD (.ref l))=.ref l|>rfl];show ya A.jb F.cJ F.j1 U U {a.mks,_,_,U,M.im,vB (),_,U,_,U,a.mks,p,aE,_,D.g,D.ls,D.fo,B,U,A.m,o _ _ I,λv H3 j hv=>?_};let J:=o.trans j;obtain ⟨rfl,_⟩|⟨i,rfl,_⟩:=hv
   .show{_,U,U,_,U,yN U {_,U,.ref l,0,U,.inl {_,aN.of (j _ _ u),U},Qw (K:=K) (Q:=Q) (a:=a) (k:=0) (j _ _ u) λ_ H' s=>q H' (J.trans s)}}
   .show{_,U,U,_,U,yz U {_,U,_,U,_,_,U,U,l,[],_,U,j _ _ u,.nil,λk H4 C _ _ _=>Qw (K:=K) (Q:=Q) (a:=a) (C _ _ (j _ _ u)) λ_ H' s=>q H' (J.trans (C.trans s))}}}}
 let #[d,p,a,lb,n,f,aE,D,B,rfl,_]:=h;rfl
def Vi:Fa P w K mg base 4 t.a83 t.d83 ["self","rank","paper"] (wa t):=by
 show T.g83.f.okA q0w λk H Q E h=>{?_,λ_ _ _ _ j=>{qv K t,(zb (zt 3 q0w.nd (Al (zu (Y 0) U) T.q0d (wN T) T.g77 j zj (za (Y 1) zc))) (zb (zL (Al (zu (Y 0) U) T.q0d (zcO T) T.g80 j zj (za (Y 1) (za (zB zR (Y 2) zi) zc)))) (zb (xM cN U (yR (zE xq (Y 3) (Al (zu (Y 0) U) T.q0d (wN T) T.g77 j zj (za (Y 1) zc)))) (yw 4 q0w.nd) (ze (zL (Al (Y 0) T.q0k (zax T) T.g82 j zj (za (Y 4) (za (Y 1) zc)))))) (zb (kg (xt j) (zu (Y 0) U) (Y 1) (Y 2) U) (zb (kg (xt j) (zu (Y 0) U) (Y 1) (ZG (b:=af)) U) (ze (xM cN U (yR (zB zR (Y 2) zi)) (ZJ U (xa (yw 4 q0w.nd) (xa (yw 5 q0w.nd) j9))) (ze (zL (pv (V7 T) T.g79 j zj (za (zu (Y 0) U) (za (Y 4) (za (Y 1) zc))))))))))))),Wr (dkF T) h}}
 let #[d,m,o,v,e,a,lb,n,f,aE,D,rfl,_]:=h;rfl
def zcP:Fa P w K mg base 2 t.a84 t.d84 ["self"] (q8 t):=by
 show T.g84.f.okA q27 λk H Q E h=>{?_,λ_ _ _ _ j=>{Wm K t,(zb (zP (Y4 (xP (xn (Y 0) T.q0a (kG T) T.g56 j zj))) (ze (zx wq))
   zF) (zb (zt 1 q27.nd (yi (V9 U) U T.b_list jC (za (zdq (zu (Y 0) U)) zc))) (zb (zP (zq Jt (zu (Y 0) U) wq (zC _)) (ze (zx (yk (za (yk (za zH (za (zu (Y 0) U) zc))) (za (Y 1) (za (zZ zc) zc))))))
    zF) (ze (zx (yk (za (yk (za zH (za (yi YI U T.b_tuple zdc (za (zu (Y 0) U) zc)) zc))) (za (Y 1) (za (zJ (XX U (hu3 j)) U T.q1a Yu (za (zdq (zu (Y 0) U)) zc)) zc))))))))),zam (rnF T) h}}
 let #[x,a,e,rfl,_]:=h;rfl
def zcQ:Fa P w K mg base 8 t.a85 t.d85 ["self","hand"] (Za t):=by
 show T.g85.f.okA q0x λk H Q E h=>{?_,λ_ _ _ _ j=>{Wn K t,(zb (zP (PW.pt (Zk (zq YG (Y 1) zi (zC _)) (jg (zq zf5 (Y 1) (zu (Y 0) U) (zC _))))) (ze yG)
   zF) (zb (zP (zq (zfb (xt j)) (Y 1) (zu (Y 0) U) (by with_unfolding_all rfl)) (ze (zx (Al (Y 0) T.q0e (XG T) T.g76 j zj (za (Y 1) zc))))
    zF) (zb (zt 2 q0x.nd (zB zR (kc (xt j) (zu (Y 0) U) (Y 1) (λ_ _=>rfl)) zi)) (zb (zt 3 q0x.nd (zB zR (kc (xt j) (zu (Y 0) U) (Y 1) (λ_ _=>rfl)) zi)) (zb (zP (xP (xn (Y 3) T.q0a (kG T) T.g56 j zj)) (zb (zL (JX (zu (Y 0) U) (Y 1) {U,U,U,U})) (zb (zL (Al (zu (Y 0) U) T.q0k (Vi T) T.g83 j zj (za (Y 2) (za (xn (Y 3) T.q0a (zcP T) T.g84 j zj) zc)))) (ze (zx (yk (za zH (za (Y 1) (za (Y 2) zc))))))))
   zF) (zb (zt 4 q0x.nd (xn (Y 3) T.q0a (zeI T) T.g61 j zj)) (zb (zP (zq zeR (Y 4) wq (zC _)) (zb (zL (zhD (Y 3) T.q0a T.me_Run_step (bv.mono (V6 T) ()) j T.bd_Run_step zj)) (ze (zx (yk (za zH (za (Y 1) (za (Y 2) zc)))))))
   zF) (zb (zt 5 q0x.nd (Al (zu (Y 0) U) T.q0d (kU T) T.g64 j zj (za (Y 4) (za (Y 2) zc)))) (zb (zL (zf8 (Y 3) T.q0a T.me_Run_step (bv.mono (V6 T) ()) j T.q2s .nil zj (za (Y 5) zc))) (ze (zx (yk (za zH (za (Y 1) (za (Y 2) (za (Y 4) (za (Y 5) zc))))))))))))))))),zan (dkF T) h}}
 let #[d,a,lb,n,h,g,CC,S,rfl,_]:=h;rfl
def QL:Fa P w K mg base 9 t.a86 t.d86 ["self"] (Z4 t):=by
 show T.g86.f.okA q28 λvs H Q E h=>{?_,λ_ _ _ _ hr=>{_,(zb (zt 1 q28.nd (zZ zc)) (zb (JN cN (zq YG (xn (Y 0) T.q0e (xH T) T.g55 hr zj) (xn (Y 0) T.q0e (kF T) T.g31 hr zj) (zC _)) (ze (zL (yQ bF ck cm yE (Y 1) (za (Al (Y 0) T.q0e (zcQ T) T.g85 hr zj (za (zE xp (zJ zU U T.q04 yA (za (Y 1) zc)) (zu (Y 0) U)) zc)) zc))))) (ze (zx (Y 1))))),by
   let D:=(dkF T);let #[d,a,lb,n,f,S,e,rfl,h,ok,hn,q]:=h;let #[h1,h8]:=hn;show{(),λl hl=>?_};let s0:=hZ (o:=HO.lst []) l hl;let lm:=ok.lm;show{FnE t H d l a lb n f S e,{50,U,lb,[],S,_,.w,bh _,Fr.same s0,zh,h.l0 hl,h.same s0},?_};rintro m σ H1 ⟨rfl,I,xs,S1,ph,P,lx,F1,j,l0,G1⟩;let #[D1,J]:=G1.ex;show yW J.d0 U U {d,_,a,n,f,D1.en,U,J.d0,J.o.at (i:=8) U,yW J.d0 U U {d,_,a,n,f,D1.cs,U,J.d0,J.o.at (i:=3) U,_,_,U,U,_,U,?_}};obtain⟨em,⟨rfl,rfl⟩|⟨nd,u,aa⟩⟩:=P.is
   .let:=J.ph.1.1;let:=J.ph.1.2;show yz (Fk ()) {_,U,q _ H1 I F1 G1}
   let #[lc,le]:=J.ph.lens nd λz=>by rw[z] at u;show u
   show yN (Fj ()) {λO H'=>∃B,B<m/\FnE t H d l a lb n f S e B O H',λ_ _ z=>z,?_};let b1:=dL (xs.length:Int) (n≠0|>());let b2:=dc (xs.length:Int) (0<n|>());show{_,U,.inl {U,_,aN.of j},yW J.d0 U U {_,U,.ref l,xs.length,U,.inl {_,aN.of j,U},ya J.d0 D.cD D.d1 U U {_,_,U,U,by change (0:Int)<n;lia,d,a,I,n,f,(xs.length:Int)%n,S1,ph,U,G1,{(),λk e z=>aa k e z\ok},u,{b1,b2},λv H2 C F2 G2=>?_}}};let #[B,lt,P']:=P.next h1 h8 nd;let A:=F2.kp _ _ (l0\.inl U) j;let l2:C l=0:=(F2.ex _ _ j).trans l0;show{l,xs,v,U,U,A,xg (),B,lt,U,C,xs++[v],_,_,bj\P',by rw[bj];change xs.length+1+B<=50;lia,(F1.trans F2).up A hl,zh,l2,G2.put A () l2}}}
 let #[d,a,lb,n,f,S,e,rfl,_]:=h;rfl
def Vj:Fa P w K mg base 2 t.a87 t.d87 ["outcome"] (W0):=by
 show T.g87.f.okA WW λvs H Q E h=>{?_,λ_ _ _ _ hr=>{_,(zb (zP (zq yH (zB zR (Y 0) zi) zH (zC _)) (ze (zx (zZ (za zH (za (zB zR (Y 0) zi) zc)))))
   zF) (ze (zx (zE xq (zZ (za zH zc)) (vQ U (osc:=zg jj) (N:=["outcome"]) (xs:=["worth"]) (ix:=[]) () (ziF (zB zR (Y 0) zi)) (λ_ _ _ _=>(xh (i:=0) (fi (["worth"]:zO)|>()) U (iy U) (.inr U))) (λ_ _ _ _=>wY) (λ_ _ _ _=>(pv (vO T) T.g5 hr zj (za (Y 0) zc)))))))),by
   let #[v,C,rfl,h1,h2,q]:=h;cases C with
   |off w=>show h2.elim
   |done sa=>
    let #[o,y,rfl,O,u]:=h1;let #[l1,l2]:=h2;let m1:1<=Fb:=by rw[cp];decide
    show{_,U,o,_,0,_,U,U,aV.of O,U,U,_,U,yz (Fk zen) {m1,λp hp=>?_}};generalize e1:upd H p _=H1;let #[j,g1]:=jp e1 hp;let I:(sa.map V.int).length=sa.length:=bd ..;show{_,U,o,_,1,_,U,U,aV.of (j _ _ O),U,y,U,{_,aV.of (j _ _ u)},λD hD=>?_};show jL (J:=Itt K y) sa.length () (λB=>∃o,B=[o]) (λi v=>∃w,(sa.map z8)[i]?=Z w/\v=.str w) {_,U} (λi H s h=>{_,_,aV.of (s _ _ (j _ _ u)),bc (I\h)}) (λH s=>{_,aV.of (s _ _ (j _ _ u)),gC I}) hD ?_ ?_
    .rintro i x B H2 H3 ⟨o',rfl⟩ m A ⟨rfl,k⟩;let k:=k _ (aV.of (m _ _ (j _ _ u)));rw[bn,bc A] at k;cases k;show yN (R:=False) U {_,U,_,U,vF (l2 _ (cL A)),λH4 s4=>{{_,U},{_,[bn,bc A]\U,U},s4}}
    .intro ys H2 hl k m hq;obtain rfl:=zmr (ws:=sa.map z8) (bd\hl) k;show{p,D,_,_,U,U,m _ _ g1,hq,zM (by rw[bd,bd];change 1+_<=_;lia),λb hb=>q b _ ((j.trans m).trans (hZ b hb)) (yy (j.trans m) hb) zh}}}
 let #[v,C,rfl,_]:=h;rfl
def zcR:Fa P w K mg base 3 t.a88 t.d88 ["rank","paper"] (qT):=by
 show T.g88.f.okA zcj λvs H Q E h=>{?_,λ_ _ _ _ k=>{_,(ze (zx (pv (QH T) T.g26 k zj (za (zE xq (zE xq (zE xq (zZ (za zH (za (pv (vO T) T.g5 k zj (za (Y 0) zc)) zc))) (pv (Vj T) T.g87 k zj (za (zB zR (Y 1) zi) zc))) (zZ (za zH zc))) (pv (Wv T) T.g27 k zj (za (zB zR (Y 1) zi) zc))) zc)))),by
   let #[r,p,o,tl,g,u,m,rfl,h1,h2,h3,J,h5,I,q]:=h;let #[w1,w2,_]:=zel J;let hl:=I.le;let hw:(AA m).length<=200:=jE\()
   let m1:1<=Fb:=by rw[cp];decide
   let m2:2<=Fb:=by rw[cp];decide
   show{_,U,r,U,vF (zkL h2),λH1 s1=>{m2,λb hb=>?_}};generalize c2:upd H1 b _=H2;let #[s2,g2]:=jp c2 hb;let S2:=s1.trans s2;show{_,U,p,_,0,_,U,U,aV.of (S2 _ _ h1),U,_,u,U,h3.same S2,J,λl H3 s3 _ g3=>{b,l,_,_,U,U,s3 _ _ g2,g3,zM (by rw[bd];change 2+_<=_;lia),λb4 C=>{m1,λb5 j=>?_}}};generalize c4:upd H3 b4 _=H4 at j;let #[s4,g4]:=jp c4 C;generalize c5:upd H4 b5 _=H5;let #[s5,g5]:=jp c5 j;show{b4,b5,_,_,U,U,s5 _ _ g4,g5,zM (by rw[bj,bd];change 2+_+1<=_;lia),λb6 B=>?_};generalize c6:upd H5 b6 _=H6;let #[s6,g6]:=jp c6 B;let O:=(((S2.trans s3).trans s4).trans s5).trans s6;show{_,U,p,_,2,_,U,U,aV.of (O _ _ h1),U,g,m,U,h5.same O,I,λl7 H7 s7 _ g7=>{b6,l7,_,_,U,U,s7 _ _ g6,g7,zM (by rw[bj,bj,bd,bd];change 2+_+1+_<=_;lia),λb8 A=>{b8,jS r u m,U,?_,JD h2 J I,?_,λH9 s9=>q H9 ((O.trans s7).trans ((hZ b8 A).trans s9))}}}
   .rw[zh,jS,bB,bB,bW,bB,cX,cX];rfl
   .rw[jS,bJ,bJ,bj,bJ];lia}}
 let #[r,p,o,tl,g,u,m,rfl,_]:=h;rfl
def Zj:Fa P w K mg base 4 t.a89 t.d89 ["self"] (xB t):=by
 show T.g89.f.okA q29 λm H Q E h=>{?_,λ_ _ _ _ j=>{vj K t,(ze (xM cN U (yR (zV yu (zu (zu (Y 0) U) U) (yb (zE kH (zu (Y 0) U) (zu (zu (Y 0) U) U))) yp)) (yw 1 q29.nd) (zb (zL (yQ bF ck cm yE (zu (Y 0) U) (za (pv (zcR T) T.g88 j zj (za (zu (Y 0) U) (za (Y 1) zc))) zc))) (zb (zL (yQ bF ck cm yE (zu (Y 0) U) (za (yk (za (zu (Y 0) U) (za (zB zR (Y 1) zi) zc))) zc))) (ze (zaD (f:="due") (Y 0) zi ziO)))))),qB (hsF T) (dkF T) h}}
 let #[x,b,a,lb,n,g,CC,S,k,o,rfl,_]:=h;rfl
def Jp:Fa P w K mg base 10 t.a90 t.d90 ["self"] (jn t):=by
 show T.g90.f.okA q2a λvs H Q E h=>{?_,λ_ _ _ _ hr=>{_,(zb (zt 1 q2a.nd (xn (zu (Y 0) U) T.q0e (QL T) T.g86 hr zj)) (zb (zL (xn (Y 0) T.q0c (Zj T) T.g89 hr zj)) (ze (zx (Y 1))))),by
   let F:=(hsF T);let D:=(dkF T);let #[x,e,P,N,rfl,h1,ok,lm,hn,ll,rb,q]:=h;let #[b,a,lb,S,O,G,em,C,z]:=h1;obtain rfl:=zfM z;let #[DV,J]:=G.d.ex;let cl:=C.ll;let la:=bZ G.an;show ya G.h.ix F.cl F.n4 U U {b.d,_,_,U,J.d0,U,b.d,a,lb,P.n,P.f,S,e,U,G.d,G.o,hn,λv H1 j F1 G1=>?_};let A:=G.h.fr F1;show{_,U,_,_,_,U,A.ix,U,x,b,a,j,P.n,P.f,{ S with ls:=S.ls++[(P.f+S.m,e.gi)] },e,O,Aw P.L,rfl,A,G1,by change rB (P.f+S.m);show em\rb,ok,{by let:=C.rl;lia,by unfold Aw;rw[bd,bd];lia},λH2 I k2 m u=>{_,U,?_}};let m:HsA t H2 x b j (P.f+S.m+1) (O++[I]) (Aw P.L++[.str (En.deal (P.f+S.m) e).ln]):=m;let u:AnA H2 I (P.f+S.m):=u;let k:TSm H1 H2:=λc zs e=>k2 c _ (zN e A.ix ()) (zN e A.ht ()) (zN e A.hl ()) e;let B:∀c o,H1 c=Z o->∃o',H2 c=Z o':=λc o e=>by
    by_cases c1:c=x
    .show c1\{_,m.ix}
    by_cases c2:c=b.td
    .show c2\{_,m.ht}
    by_cases c3:c=b.ln
    .show c3\{_,m.hl}
    show{o,k2 c o c1 c2 c3 e}
   let l0:=A.l0;let f0:=G.o.f0;let G2:=G1.of (λc o y e=>k2 c o (λw=>y (w\l0.1)) (λw=>y (w\l0.2.1)) (λw=>y (w\l0.2.2)) e) k B;let #[D2,J2]:=G2.ex;let #[p1,p2,p3,p4,p5,_]:=J2.ph;let gl:=(Y2 e).2.2;let ge:e.gi.length=1:=by cases e;rfl
   show q v H2 _ ((FrN.of F1).trans {λc o y e=>k2 c o (λw=>y (.inr (.inl w))) (λw=>y (.inr (.inr (.inl w)))) (λw=>y (.inr (.inr (.inr w)))) e,k,B,λ_ y=>.inl y}) {b,a,j,{S.g,S.ls++[(P.f+S.m,e.gi)],S.fo,S.m+1},O++[I],{?_,?_,{D2,J2.dk,J2.eq,p1,p2,p3,p4,p5},?_,λp=>?_},by change S.m+1=P.m+1;rw[em],{?_,λz hz=>?_,?_},λ_=>tq}
   .change HsA t H2 x b j (P.f+(S.m+1:Nat)) _ (Aw (P.L++[.deal (P.f+P.m) e]));rw[P.f+((S.m+1:Nat):Int)=P.f+S.m+1|>(),<-em];unfold Aw at m ⊢;show [bW,bW]\m
   .change B0 (AnA H2) (O++[I]) (P.rs++[P.f+P.m]);show [<-em]\Paired.snocP (jr (jr G.an F1.ts) k) u
   .let #[o1,o2,o3,o4,o5,o6,o7]:=G.o;show{o1,by change S.fo<=P.f+(S.m+1:Nat);lia,λy hy=>?_,by change S.m+1<=14;lia,by change (S.ls++_).length<=S.m+1;show bj\iI o5,λy hy=>?_,by change S.g.length+(S.ls++[(P.f+(S.m:Int),e.gi)]).length<=49+(S.m+1);rw[bj,bN];lia}
    .change y.1<P.f+(S.m+1:Nat);obtain z|z:=bw.mp hy
     .let:=o3 y z;lia
     .rw[bu.mp z];change P.f+(S.m:Int)<_;lia
    .obtain z|z:=bw.mp hy
     .show o6 y z
     .show bu.mp z\ge
   .change xo S.g (S.ls++[(P.f+S.m,e.gi)]) p (P.f+(S.m+1:Nat))=(zS (P.R++e.gi) p).getD 0;rw[P.f+((S.m+1:Nat):Int)=P.f+S.m+1|>(),zk0 G.o.lr (),zk1,G.w]
   .change (P.L++_).length<=30;rw[bj,bN];lia
   .obtain y|y:=bw.mp hz
    .show C.ok z y
    .show bu.mp y\({rb,ok})
   .change (P.rs++_).length<=(P.L++_).length;let:=C.rl;rw[bj,bj,bN,bN];lia}}
 let #[x,e,P,N,rfl,_]:=h;rfl
def vP:Fa P w K mg base 2 t.a91 t.d91 ["self"] (wj t):=by
 show T.g91.f.okA WX λo H Q E h=>{?_,λ_ _ _ _ j=>{_,(ze (zx (xn (zu (Y 0) U) T.q0e (xH T) T.g55 j zj))),by let F:=(hsF T);let #[x,P,N,rfl,k,q]:=h;let #[b,a,lb,S,u,G,m,_]:=k;let #[D,J]:=G.d.ex;show ya G.h.ix F.cl F.n4 U U {b.d,_,_,U,J.d0,U,b.d,_,a,P.n,P.f,D.en,U,J.d0,J.o.at (i:=8) U,?_};show [J.ph.1.2,m]\q H (aH.refl _)}}
 let #[x,P,N,rfl,_]:=h;rfl
def zf1:Fa P w K mg base 1 t.a92 t.d92 ["lines"] (Xq):=by show T.g92.f.okA zfy λj H Q E h=>{?_,λ_ _ _ _ k=>{Qc K t,(ze (zx (yQ cS nU nV zbS zH (za (vQ U (osc:=zg WS) (N:=["lines"]) (xs:=["line"]) (ix:=[]) () (yR (Y 0)) (λ_ _ _ _=>(xh (i:=0) (fi (["line"]:zO)|>()) U (iy U) (.inr U))) (λ_ _ _ _=>wY) (λ_ _ _ _=>(zE yY (Y 0) zH))) zc)))),V2 h}};let #[l,ls,rfl,_]:=h;rfl
def jG:Fa P w K mg base 2 t.a93 t.d93 ["self"] (vf t):=by
 show T.g93.f.okA zck λu H Q E h=>{?_,λ_ _ _ _ m=>{_,(ze (zx (pv (zf1 T) T.g92 m zj (za (zu (Y 0) U) zc)))),by
   let F:=(hsF T);let #[x,P,N,rfl,o,q]:=h;let #[b,a,lb,S,A,G,B,C,_]:=o;let:=C.ll;show ya G.h.ix F.cl F.n3 U U {b.ln,_,U,G.h.hl,bd\(),λx k=>by let #[z,j,rfl]:=bM.mp k;let:=En.lnok (C.ok z j);show{this.1.1,this.1.2.1},q}}}
 let #[x,P,N,rfl,_]:=h;rfl
def j8:Fa P w K mg base 3 t.a94 t.d94 ["self","rank"] (wK t):=by
 show T.g94.f.okA q2b λk H Q E h=>{?_,λ_ _ _ _ j=>{j0 K t,(zb (zL (Al (Y 0) T.q0d (wM T) T.g62 j zj (za (Y 1) zc))) (zb (zt 2 q2b.nd (zE xq (yi (jQ U) U T.b_list jC (za (zu (Y 0) U) zc)) (yi (jQ U) U T.b_list jC (za (zu (Y 0) U) zc)))) (ze (zx (pv (Yo T) T.g20 j zj (za (vQ U (osc:=zg vb) (N:=["self","rank","places"]) (xs:=["place"]) (ix:=[0,1]) () (yR (Y 2)) (λ_ _ _ _=>(xh (i:=0) (fi (["place","self","rank"]:zO)|>()) U (iy U) (.inr U))) (λ_ _ _ _=>wY) (λ_ _ _ _=>(yk (za (Y 0) (za (Al (Y 1) T.q0d (kU T) T.g64 j zj (za (Y 0) (za (Y 2) zc))) zc))))) zc)))))),YD (mkF T) h}}
 let #[m,aE,F,g,aM,low,rfl,_]:=h;rfl
def zay:Fa P w K mg base 4 t.a95 t.d95 ["self","rank"] (YT t):=by
 show T.g95.f.okA q1l λvs H Q E h=>{?_,λ_ _ _ _ I=>{_,(zb (yj (f:="ground") (Y 0) (yi (wG U (hu3 I)) U T.q19 Jw (za (Al (Y 0) T.q0d (j8 T) T.g94 I zj (za (Y 1) zc)) zc)) U) (zb (zlU (Y6 (j:=2) q1l.nd U U (iy U) (osc:=zg qS) (N:=["self","rank","lower","laid"]) (xs:=["laid"]) (ix:=[1]) () (zjV (zu (Y 0) U)) (λ_ _ _ _=>(xh (i:=0) (fi (["laid","rank"]:zO)|>()) U (iy U) (.inr U))) (λ_ _ _ _=>(zbM (zq YG (Y 0) (Y 1) (zC _)))) (λ_ _ _ _=>(Y 0)))) (zb (xM cN U (yR (Y 2)) (yw 3 q1l.nd) (ze (zL (Al (Y 0) T.q0d (j7 T) T.g78 I zj (za (Y 3) zc))))) (ze (yj (f:="folded") (Y 0) (Y 1) U))))),by
   let MF:=(mkF T);let #[m,aE,F,g,aM,low,rfl,A,h2,h3,h4,q]:=h;let #[dx,gr,wo,rk,wk,kk,M]:=A.ex;show{_,U,m,_,_,U,M.im,vB (),_,U,m,aE,F,g,aM,low,U,A,h2,h3,λl aF H1 O hl I C=>?_};let #[xs,hx,px]:=I;show{l,xs,aF,U,hx,px,?_,λu B=>?_}
   .let:=zmy C h3;lia
   generalize c_:upd H1 u _=H2;let #[s2,e2]:=AE c_ B;let S:=O.trans s2;let M2:=M.keep A.me λb o _ e=>S _ _ e;show{_,U,m,_,_,_,U,M2.im,MF.cl,MF.g,(),?_};rw[zpn];let J:H u=ae:=yy O B;let n3:∀b o,b≠m->H2 b=Z o->upd H2 m (.ins t.q01 dx (vq u low wo rk)) b=Z o:=λb o n e=>zm n\e
   let M3:hV t _ m (λb=>F b\/b=u) aF aM low:={λb z=>z.elim (λy=>let ⟨o,e⟩:=A.own b y;kS b o (S _ _ e)) λy=>y\kS u _ e2,.inl A.me,A.nd,A.ok,dx,u,wo,rk,wk,kk,M2.setm (λ_ z=>.inl z) e2 (.inr U) (zy ((λ_=>O _ _ M.rr.at_) (S _ _ M.rr.at_)) B).symm};let aa:∀b o,H2 b=Z o->∃o',upd H2 m (.ins t.q01 dx (vq u low wo rk)) b=Z o':=λb o e=>kS b o e;generalize upd H2 m (.ins t.q01 dx (vq u low wo rk))=H3 at *
   show zib MF M3 h4.1 λH' F' k ts m' ff fg=>q aF H' F' (λb o n e=>?_) (λb zs e=>?_) C ([<-zmw h4.2]\m') (λb z=>?_) λb z=>fg b (.inl z)
   .show k b o (λz=>z.elim n λy=>by rw[y,J] at e;cases e) (n3 b o (λy=>n (y\A.me)) (S _ _ e))
   .show ts _ _ (n3 b _ (zN e M.im ()) (S _ _ e))
   .obtain (y|y)|y:=ff b z
    .show .inl y
    .show y\.inr J
    .show .inr ?_;cases e:H b with
     |none=>rfl
     |some o=>let #[o',z]:=aa b o (S _ _ e);rw[y] at z;cases z}}
 let #[m,aE,F,g,aM,low,rfl,_]:=h;rfl
def zcS:Fa P w K mg base 5 t.a96 t.d96 ["self"] (Zb t):=by
 show T.g96.f.okA zcl λvs H Q E h=>{?_,λ_ _ _ _ o=>{_,(ze (zL (Al (zu (Y 0) U) T.q0d (zay T) T.g95 o zj (za (xn (Y 0) T.q0e (xH T) T.g55 o zj) zc)))),by let F:=(dkF T);let #[d,a,lb,n,f,S,rfl,h,j,q]:=h;let #[D,J]:=h.ex;let #[dx,gr,u,rk,wk,kx,MI]:=hV.ex J.dk.m;let #[e1,e2,I]:=J.eq;let lm:=j.lm;let ll:=j.ll;show ya J.d0 F.cD F.d7 U U {a.mks,_,_,U,MI.im,vB (),yW J.d0 U U {d,_,a,n,f,D.en,U,J.d0,J.o.at (i:=8) U,?_}};rw[J.ph.1.2];show{a.mks,_,_,S.g,S.ls,S.fo,U,[<-e1,<-e2,<-I]\J.dk.m,j.fo,j.few,{(),j.lr},λaF H' F' k A m M C B=>?_};let #[lb',G,O]:=J.dk.relay (g':=aF) (ls':=[]) (fo':=f+S.m) k A M C B;show q aF H' lb' G.m0 m {_,O,{U,U,U},J.ph}}}
 let #[d,a,lb,n,f,S,rfl,_]:=h;rfl
def zaz:Fa P w K mg base 4 t.a97 t.d97 ["self"] (YU t):=by
 show T.g97.f.okA zaa λI H Q E h=>{?_,λ_ _ _ _ k=>{_,(ze (zx (Al (zu (Y 0) U) T.q0d (j8 T) T.g94 k zj (za (xn (Y 0) T.q0e (xH T) T.g55 k zj) zc)))),by let F:=(dkF T);let #[d,a,lb,n,f,S,rfl,h,j,q]:=h;let #[D,J]:=h.ex;let #[dx,gr,m,rk,C,O,B]:=hV.ex J.dk.m;let #[A,u,o]:=J.eq;show ya J.d0 F.cD F.d7 U U {a.mks,_,_,U,B.im,vB (),yW J.d0 U U {d,_,a,n,f,D.en,U,J.d0,J.o.at (i:=8) U,?_}};show J.ph.1.2\{a.mks,_,_,S.g,S.ls,S.fo,U,[<-A,<-u,<-o]\J.dk.m,j.fo,j.few,q}}}
 let #[d,a,lb,n,f,S,rfl,_]:=h;rfl
def vn:Fa P w K mg base 5 t.a98 t.d98 ["self"] (xV t):=by
 show T.g98.f.okA KO λu H Q E h=>{?_,λ_ _ _ _ k=>{_,(ze (zx (xn (zu (Y 0) U) T.q0e (zaz T) T.g97 k zj))),by let F:=(hsF T);let #[x,P,N,rfl,o,q]:=h;let #[b,a,lb,S,A,G,B,_]:=o;let #[D,J]:=G.d.ex;show ya G.h.ix F.cl F.n4 U U {b.d,_,_,U,J.d0,U,b.d,a,lb,P.n,P.f,S,U,G.d,G.o,λl aF H' s m k j=>q l aF H' s m k (zkZ j G.w)}}}
 let #[x,P,N,rfl,_]:=h;rfl
def zaA:Fa P w K mg base 6 t.a99 t.d99 ["self"] (vS t):=by
 show T.g99.f.okA zab λk H Q E h=>{?_,λ_ _ _ _ j=>{Y1 K t,(zb (zL (yQ bF ck cm yE (zu (Y 0) U) (za (pv (Zh T) T.g28 j zj (za (xn (Y 0) T.q0c (vP T) T.g91 j zj) (za (xn (Y 0) T.q0c (vn T) T.g98 j zj) zc))) zc))) (ze (zL (xn (zu (Y 0) U) T.q0e (zcS T) T.g96 j zj)))),QB (hsF T) (dkF T) h}}
 let #[x,P,N,rfl,_]:=h;rfl
def Jq:Fa P w K mg base 13 t.a100 t.d100 ["text"] (jo t):=by
 show T.g100.f.okA q0n λk H Q E h=>{?_,λ_ _ _ _ j=>{ZA K t,(zb (zt 1 q0n.nd (ZG (b:=ah))) (zb (zt 2 q0n.nd (ZG (b:=ah))) (zb (zny (i:=3) (And.intro rfl rfl) rfl q0n.nd (zjc (zkr T.mk_House (bv.mono (kT T) ()) j rfl T.g_House T.q1n (za (Y 0) (za zi (za (Kt T.mo_Way rfl T.g_Way) zc))))) rfl T.g_NoLog rfl rfl (λ_=>(zb (zt 1 q0n.nd (JM (zJ zdg rfl T.q0p xI (za (Y 3) (za (yX rfl T.g_ForerunError rfl) zc))) (WA (zJ zdg rfl T.q0p xI (za (Y 3) (za (Js rfl T.q2w QO rfl) zc)))))) (ze (zt 2 q0n.nd (zJ zht U T.q0p xI (za (Y 3) (za (yk (za (yX U T.g_NoLine U) (za (yX U T.g_NoDealing U) (za (yX U T.g_NoHand U) zc)))) zc)))))))) (ze (zx (JM (Y 1) (WA (znj (Y 2))))))))),Vb T h}}
 let #[ls,rfl,_]:=h;rfl
def qD:Fa P w K mg base 1 t.a101 t.d101 ["self"] (vN t):=by
 show T.g101.f.okA WY λu H Q E h=>{?_,λ_ _ _ _ A=>{_,(ze (zx (yi wX U T.b_list jC (za (zu (Y 0) U) zc)))),by let F:=(hsF T);let #[x,P,N,rfl,o,q]:=h;let #[b,a,lb,S,m,G,B,_]:=o;show ya G.h.ix F.cl F.n2 U U {b.td,m,U,.inl (aN.of G.h.ht),λj k=>q j m _ (hZ j k) k zh (jr G.an (.of (hZ j k)))}}}
 let #[x,P,N,rfl,_]:=h;rfl
def QM:Fa P w K mg base 1 t.a102 t.d102 ["lines"] (jU):=by show T.g102.f.okA KP λo H Q E h=>?_;let #[l,ls,rfl,m,k,j,q]:=h;show{U,λ_ _ _ _ u=>{Yk K t,(ze (zx (yQ cS nU nV zbS zH (za (vQ U (osc:=zg kL) (N:=["lines"]) (xs:=["line"]) (ix:=[]) () (yR (Y 0)) (λ_ _ _ _=>(xh (i:=0) (fi (["line"]:zO)|>()) U (iy U) (.inr U))) (λ_ _ _ _=>wY) (λ_ _ _ _=>(zE yY (Y 0) zH))) zc)))),Jn m k j q}}
def ok_law:Fa P w K mg base 14 t.a103 t.d103 ["script"] (sp_law K):=by
 show T.q2v.ok0 q0g (λo H Q E h=>?_) (λu A m s H o Q E k h=>?_)
 .let #[a,ns,rfl,_]:=h;rfl
 show{zky K t,(zb (zt 1 q0g.nd (pv (js T) T.g0 k zj (za (Y 0) (za zi zc)))) (zb (zt 2 q0g.nd (zE xp (zE JA (zE xp (zE wZ (Y 1) zi) zi) (zE JA (zE wZ (Y 1) zi) (zE ZK zi zi))) (zE kH (zE ZK zi zi) zi))) (zb (zt 3 q0g.nd (qG T.mk_House (bv.mono (kT T) ()) k U T.g_House T.q1n .nil zj (za (zE yY (pv (Zh T) T.g28 k zj (za (Y 2) (za (zZ zc) zc))) zH) (za (zE yK zi (zE xp (Y 1) zi)) (za (Kt T.mo_Way U T.g_Way) zc))))) (zb (xM cN U (yR (zV yu (Y 0) yp (yb zi))) (yw 4 q0g.nd) (zb (zt 5 q0g.nd (zE kH (zE xp (zE JA (zE wZ (Y 4) zi) (zE ZK zi zi)) (zE yK (zE JA zi (zE ZK zi zi)) zi)) (zE ZK zi zi))) (zb (zL (Al (Y 3) T.q0c (Vg T) T.g54 k zj (za (zE yY (zE yY (zE yY zH (yi jB U T.q10 J8 (za (zE xp (zE wZ (Y 4) zi) zi) zc))) zH) (yi jB U T.q10 J8 (za (Y 5) zc))) zc))) (zb (zL (xn (Y 3) T.q0c (Jp T) T.g90 k zj)) (ze (zP (zq yH (zE xp (Y 4) zi) zi (zC _)) (ze (zL (xn (Y 3) T.q0c (zaA T) T.g99 k zj)))
    zF)))))) (zb (zeO (i:=6) q0g.nd U (Bo U) (zV yu (yQ cS eM gO ZS (xn (Y 3) T.q0c (jG T) T.g93 k zj) (za zH zc)) yp (yb (zaB WC zi)))) (zb (Y6 (j:=7) q0g.nd U U (iy U) (osc:=zg zku) (N:=["script","cell","first","house","number","worth","lines","deals","last","kind","spoilt","again"]) (xs:=["k"]) (ix:=[6]) () (zhd U T.q2e (za (zJ zU U T.q04 yA (za (Y 6) zc)) zc)) (λ_ _ _ _=>(xh (i:=0) (fi (["k","lines"]:zO)|>()) U (iy U) (.inr U))) (λ_ _ _ _=>(zbM (zq yH (zV zbN (zB zW (Y 1) (Y 0)) yp (yb zi)) zH (zC _)))) (λ_ _ _ _=>(Y 0))) (zb (zP (zq kX (zJ zU U T.q04 yA (za (Y 7) zc)) (zJ zU U T.q04 yA (za (zV yu (Y 0) yp (yb zi)) zc)) (zC _)) (ze (zx (ZG (b:=ah))))
    zF) (zb (zt 8 q0g.nd (pv (Zh T) T.g28 k zj (za (xn (Y 3) T.q0c (vP T) T.g91 k zj) (za (zE xq (xn (Y 3) T.q0c (vn T) T.g98 k zj) (zZ (za (yk (za (yk (za zH (za zi zc))) (za zi zc))) zc))) zc)))) (zb (zt 9 q0g.nd (zE xp (pv (js T) T.g0 k zj (za (Y 0) (za zi zc))) zi)) (zb (zt 10 q0g.nd (pv (QI T) T.g30 k zj (za (Y 6) (za (Y 7) (za (Y 9) (za (pv (js T) T.g0 k zj (za (Y 0) (za zi zc))) (za (Y 8) zc))))))) (zb (zP (PW.pt (ZI (zq YG (Y 9) zi (zC _)) (qF (Y4 (xP (pv (Jq T) T.g100 k zj (za (pv (QM T) T.g102 k zj (za (Y 10) zc)) zc))))))) (ze (zx (ZG (b:=ah))))
    zF) (zb (zt 11 q0g.nd (qG T.mk_House (bv.mono (kT T) ()) k U T.g_House T.q1n .nil zj (za (xn (Y 3) T.q0c (jG T) T.g93 k zj) (za zi (za (Kt T.mo_Way U T.g_Way) zc))))) (zb (zP (PW.pt (Zk (zq (XT (WM k)) (xn (Y 11) T.q0c (qD T) T.g101 k zj) (xn (Y 3) T.q0c (qD T) T.g101 k zj) (zC _)) (jg (zq (XT (WM k)) (xn (Y 11) T.q0c (vn T) T.g98 k zj) (xn (Y 3) T.q0c (vn T) T.g98 k zj) (zC _))))) (ze (zx (ZG (b:=ah))))
    zF) (ze (zx (JM (jA yH (xn (Y 11) T.q0c (vP T) T.g91 k zj) (zE yK (Y 2) (zJ zU U T.q04 yA (za (Y 7) zc))) (zC _)) (WA (jA yH (xn (Y 11) T.q0c (jG T) T.g93 k zj) (xn (Y 3) T.q0c (jG T) T.g93 k zj) (zC _))))))))))))))))))),zmN T (hsF T) (dkF T) h}
end
end K76
open PySem PySem.W PyProof.Rows
set_option maxRecDepth 100000 in
set_option maxHeartbeats 0 in
theorem PySem.Challenge.cw_forerun_k76_no_house_of_such_a_log_holds : PySem.Challenge.rw_forerun_k76_no_house_of_such_a_log.Holds := by
 refine hdT ?_
 k_fill
 refine L2.walk_ofXB (l := PySem.Challenge.rw_forerun_k76_no_house_of_such_a_log) (n := 63) (k := 14) (x := "script") (sp := K76.sp_law) U (by decide) U {U,by decide,by decide} (fun w h BE => PySem.W.kIn_of BE) ?F ?S
 case F =>
  intro w mg fa h KX G hmg;have T : ∃ t,K76.Txt (L2.KOf KX) mg t := by
   dsimp only [L2.KOf];exact {.mk ..,by
    constructor
    all_goals try dsimp only
    all_goals first
     | exact PySem.W.mg_of KX G (by k_is)
     | exact {by k_is,by k_is,by k_is,by k_is}
     | exact {by k_is,by k_is,by k_is}
     | exact ⟨PySem.W.mg_of KX G (by k_is),L2.fun_mk (by k_is) (by k_is) (by k_is),.all (by (repeat refine L2.arS fun _ => ?_); exact L2.ar0 rfl)⟩
     | exact ⟨⟨by k_is,by k_is,by k_is⟩,L2.fun_mk (by k_is) (by k_is) (by k_is),.all (by (repeat refine L2.arS fun _ => ?_); exact L2.ar0 rfl)⟩
     | exact L2.fun_mk (by k_is) (by k_is) (by k_is)
     | exact L2.fun_mkD (by k_is) (by k_is) (by k_is)
     | exact .all (by (repeat refine L2.arS fun _ => ?_); exact L2.ar0 rfl)
     | exact .df rfl (by k_is) (by (repeat refine L2.arS fun _ => ?_); exact L2.ar0 fun _ e => .of_defaults rfl e rfl rfl rfl)
     | exact ⟨_,.cons ⟨_,rfl⟩ .nil,.df rfl (by k_is) (by (repeat refine L2.arS fun _ => ?_); exact L2.ar0 fun _ e => .of_defaults rfl e rfl rfl rfl)⟩
     | exact fun _ _ => .of_eq rfl
     | exact PySem.W.mg_none_of KX G (by k_is)
     | exact fun _ => .inr {_,_,_,by k_is,U,U,by decide,by repeat (first | exact .nil | refine .cons {_,U} ?_)}
     | exact L2.QX.to {_,by k_is,by k_is,by k_is,by k_is,by k_is,by k_is,by k_is,by k_is}
     | (show _ = _; first | k_is | k_exc | kernel_rfl | kit_is)}
  obtain ⟨t,T⟩ := T;have e0 := hmg.symm.trans T.m_law;cases e0;exact {_,T.w_law,fun base _ _ => K76.ok_law T}
 case S => exact fun K H a ns hl hb _ hS => {a,ns,rfl,hS,hl,hb,fun _ => rfl}
